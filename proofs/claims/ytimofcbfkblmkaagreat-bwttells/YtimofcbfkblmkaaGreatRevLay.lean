/- The library's Reverse lies in this program as it lies where its contract was proved: told number by number. -/
import Derived.Shelf.SlicesE.Reverse
import Derived.Test.YtimofcbfkblmkaaGreatProg
namespace Go.Proofs.YtimofcbfkblmkaaGreat
open Go.Shelf
def Tryz.revRow_ren : Go.Shelf.Ren := ⟨fun | 35 => 69 | n => n, fun | 22 => 62 | 23 => 5 | 3 => 3 | 4 => 4 | 0 => 0 | n => n, fun | n => n⟩
theorem Tryz.revRow : Go.Proofs.SlLaysE.n35 Tryz.prog Tryz.revRow_ren := {
  mixed := by kernel_rfl
  f35 := ⟨Tryz.f69.name, by decide, Tryz.func69.trans (congrArg some (by kernel_rfl))⟩
  t0 := Tryz.underlying0
  a0 := Tryz.isAgg0
  z0 := Tryz.sizeOf0
  v0 := Tryz.zeroValue0
  t3 := Tryz.underlying3
  a3 := Tryz.isAgg3
  z3 := Tryz.sizeOf3
  v3 := Tryz.zeroValue3
  t4 := Tryz.underlying4
  a4 := Tryz.isAgg4
  z4 := Tryz.sizeOf4
  v4 := Tryz.zeroValue4
  t22 := Tryz.underlying62
  a22 := Tryz.isAgg62
  z22 := Tryz.sizeOf62
  v22 := Tryz.zeroValue62
  a23 := Tryz.isAgg5
  z23 := Tryz.sizeOf5 }
end Go.Proofs.YtimofcbfkblmkaaGreat
