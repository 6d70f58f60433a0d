/- The library's Reverse lies in this program as it lies where its contract was proved: told number by number. -/
import Derived.Shelf.SlicesE.Reverse
import Derived.Test.YtimofcbfkblmkaaProg
namespace Go.Proofs.Ytimofcbfkblmkaa
open Go.Shelf
def Try.revRow_ren : Go.Shelf.Ren := ⟨fun | 35 => 101 | n => n, fun | 22 => 126 | 23 => 5 | 3 => 3 | 4 => 4 | 0 => 0 | n => n, fun | n => n⟩
theorem Try.revRow : Go.Proofs.SlLaysE.n35 Try.prog Try.revRow_ren := {
  mixed := by kernel_rfl
  f35 := ⟨Try.f101.name, by decide, Try.func101.trans (congrArg some (by kernel_rfl))⟩
  t0 := Try.underlying0
  a0 := Try.isAgg0
  z0 := Try.sizeOf0
  v0 := Try.zeroValue0
  t3 := Try.underlying3
  a3 := Try.isAgg3
  z3 := Try.sizeOf3
  v3 := Try.zeroValue3
  t4 := Try.underlying4
  a4 := Try.isAgg4
  z4 := Try.sizeOf4
  v4 := Try.zeroValue4
  t22 := Try.underlying126
  a22 := Try.isAgg126
  z22 := Try.sizeOf126
  v22 := Try.zeroValue126
  a23 := Try.isAgg5
  z23 := Try.sizeOf5 }
end Go.Proofs.Ytimofcbfkblmkaa
