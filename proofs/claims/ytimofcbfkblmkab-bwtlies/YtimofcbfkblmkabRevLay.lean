/- The library's Reverse lies in this program as it lies where its contract was proved: told number by number. -/
import Derived.Shelf.SlicesE.Reverse
import Derived.Test.YtimofcbfkblmkabProg
namespace Go.Proofs.Ytimofcbfkblmkab
open Go.Shelf
def Try.revRow_ren : Go.Shelf.Ren := ⟨fun | 35 => 36 | n => n, fun | 22 => 60 | 23 => 5 | 3 => 3 | 4 => 4 | 0 => 0 | n => n, fun | n => n⟩
theorem Try.revRow : Go.Proofs.SlLaysE.n35 Try.prog Try.revRow_ren := {
  mixed := by kernel_rfl
  f35 := ⟨Try.f36.name, by decide, Try.func36.trans (congrArg some (by kernel_rfl))⟩
  t0 := Try.underlying0
  a0 := Try.isAgg0
  z0 := Try.sizeOf0
  v0 := Try.zeroValue0
  t3 := Try.underlying3
  a3 := Try.isAgg3
  z3 := Try.sizeOf3
  v3 := Try.zeroValue3
  t4 := Try.underlying4
  a4 := Try.isAgg4
  z4 := Try.sizeOf4
  v4 := Try.zeroValue4
  t22 := Try.underlying60
  a22 := Try.isAgg60
  z22 := Try.sizeOf60
  v22 := Try.zeroValue60
  a23 := Try.isAgg5
  z23 := Try.sizeOf5 }
end Go.Proofs.Ytimofcbfkblmkab
