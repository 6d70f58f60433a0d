/- The library's count of trailing zeros lies in this program as it lies where its contract was proved: told number by number. -/
import Derived.Shelf.Spec.TrailingZeros
import Derived.Test.YtbkonijpdiangaaDoorProg
namespace Go.Proofs.YtbkonijpdiangaaDoor
open Go.Shelf
def Tryd.tzRow_ren : Go.Shelf.Ren := ⟨fun | 29 => 92 | n => n, fun | 22 => 32 | 3 => 3 | 4 => 4 | 25 => 80 | 54 => 150 | 0 => 0 | 5 => 5 | n => n, fun | 1 => 0 | n => n⟩
theorem Tryd.tzRow : Go.Proofs.Lays7.n29 Tryd.prog Tryd.tzRow_ren := {
  mixed := by kernel_rfl
  f29 := Tryd.func92.trans (congrArg some (by kernel_rfl))
  t0 := Tryd.underlying0
  a0 := Tryd.isAgg0
  z0 := Tryd.sizeOf0
  v0 := Tryd.zeroValue0
  i0 := by kernel_rfl
  t3 := Tryd.underlying3
  a3 := Tryd.isAgg3
  z3 := Tryd.sizeOf3
  v3 := Tryd.zeroValue3
  i3 := by kernel_rfl
  t4 := Tryd.underlying4
  a4 := Tryd.isAgg4
  z4 := Tryd.sizeOf4
  v4 := Tryd.zeroValue4
  i4 := by kernel_rfl
  t5 := Tryd.underlying5
  a5 := Tryd.isAgg5
  z5 := Tryd.sizeOf5
  v5 := Tryd.zeroValue5
  i5 := by kernel_rfl
  t22 := Tryd.underlying32
  a22 := Tryd.isAgg32
  z22 := Tryd.sizeOf32
  v22 := Tryd.zeroValue32
  i22 := by kernel_rfl
  t25 := Tryd.underlying80
  a25 := Tryd.isAgg80
  z25 := Tryd.sizeOf80
  v25 := Tryd.zeroValue80
  i25 := by kernel_rfl
  t54 := Tryd.underlying150
  a54 := Tryd.isAgg150
  z54 := Tryd.sizeOf150
  g1 := by kernel_rfl }
end Go.Proofs.YtbkonijpdiangaaDoor
