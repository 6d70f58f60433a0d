/- The library's search by halves lies in this program as it lies where its contract was proved: told number by number. -/
import Derived.Shelf.Slices.SearchI
import Derived.Test.YtcheclhiekdjmabProg
namespace Go.Proofs.Ytcheclhiekdjmab
open Go.Shelf
def Try.searchRow_ren : Go.Shelf.Ren := ⟨fun | 25 => 26 | 31 => 31 | 32 => 32 | 37 => 43 | n => n, fun | 22 => 32 | 3 => 3 | 4 => 4 | 40 => 60 | 0 => 0 | n => n, fun | n => n⟩
theorem Try.searchRow : Go.Proofs.Lays2.n25 Try.prog Try.searchRow_ren := {
  mixed := by kernel_rfl
  f25 := Try.func26.trans (congrArg some (by kernel_rfl))
  f31 := Try.func31.trans (congrArg some (by kernel_rfl))
  f32 := Try.func32.trans (congrArg some (by kernel_rfl))
  f37 := Try.func43.trans (congrArg some (by kernel_rfl))
  t0 := Try.underlying0
  a0 := Try.isAgg0
  z0 := Try.sizeOf0
  v0 := Try.zeroValue0
  t3 := Try.underlying3
  a3 := Try.isAgg3
  z3 := Try.sizeOf3
  v3 := Try.zeroValue3
  t4 := Try.underlying4
  a4 := Try.isAgg4
  z4 := Try.sizeOf4
  v4 := Try.zeroValue4
  t22 := Try.underlying32
  a22 := Try.isAgg32
  z22 := Try.sizeOf32
  v22 := Try.zeroValue32
  t40 := Try.underlying60
  a40 := Try.isAgg60
  z40 := Try.sizeOf60
  v40 := Try.zeroValue60 }
end Go.Proofs.Ytcheclhiekdjmab
