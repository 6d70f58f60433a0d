/- The library's search by halves lies in this program as it lies where its contract was proved: told number by number. -/
import Derived.Shelf.Slices.SearchI
import Derived.Test.YtcheclhiekdjmaaProg
namespace Go.Proofs.Ytcheclhiekdjmaa
open Go.Shelf
def Try.searchRow_ren : Go.Shelf.Ren := ⟨fun | 25 => 35 | 31 => 51 | 32 => 52 | 37 => 50 | n => n, fun | 22 => 26 | 3 => 3 | 4 => 4 | 40 => 57 | 0 => 0 | n => n, fun | n => n⟩
theorem Try.searchRow : Go.Proofs.Lays2.n25 Try.prog Try.searchRow_ren := {
  mixed := by kernel_rfl
  f25 := Try.func35.trans (congrArg some (by kernel_rfl))
  f31 := Try.func51.trans (congrArg some (by kernel_rfl))
  f32 := Try.func52.trans (congrArg some (by kernel_rfl))
  f37 := Try.func50.trans (congrArg some (by kernel_rfl))
  t0 := Try.underlying0
  a0 := Try.isAgg0
  z0 := Try.sizeOf0
  v0 := Try.zeroValue0
  t3 := Try.underlying3
  a3 := Try.isAgg3
  z3 := Try.sizeOf3
  v3 := Try.zeroValue3
  t4 := Try.underlying4
  a4 := Try.isAgg4
  z4 := Try.sizeOf4
  v4 := Try.zeroValue4
  t22 := Try.underlying26
  a22 := Try.isAgg26
  z22 := Try.sizeOf26
  v22 := Try.zeroValue26
  t40 := Try.underlying57
  a40 := Try.isAgg57
  z40 := Try.sizeOf57
  v40 := Try.zeroValue57 }
end Go.Proofs.Ytcheclhiekdjmaa
