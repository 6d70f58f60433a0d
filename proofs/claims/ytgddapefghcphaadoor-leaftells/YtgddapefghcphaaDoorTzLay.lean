/- The library's count of trailing zeros lies in this program as it lies where its contract was proved: told number by number. -/
import Derived.Shelf.Spec.TrailingZeros
import Derived.Test.YtgddapefghcphaaDoorProg
namespace Go.Proofs.YtgddapefghcphaaDoor
open Go.Shelf
def Tryd.tzRow_ren : Go.Shelf.Ren := ⟨fun | 29 => 18 | n => n, fun | 22 => 22 | 3 => 3 | 4 => 4 | 25 => 41 | 54 => 45 | 0 => 0 | 5 => 5 | n => n, fun | 1 => 0 | n => n⟩
theorem Tryd.tzRow : Go.Proofs.Lays7.n29 Tryd.prog Tryd.tzRow_ren := {
  mixed := by kernel_rfl
  f29 := Tryd.func18.trans (congrArg some (by kernel_rfl))
  t0 := Tryd.underlying0
  a0 := Tryd.isAgg0
  z0 := Tryd.sizeOf0
  v0 := Tryd.zeroValue0
  i0 := by kernel_rfl
  t3 := Tryd.underlying3
  a3 := Tryd.isAgg3
  z3 := Tryd.sizeOf3
  v3 := Tryd.zeroValue3
  i3 := by kernel_rfl
  t4 := Tryd.underlying4
  a4 := Tryd.isAgg4
  z4 := Tryd.sizeOf4
  v4 := Tryd.zeroValue4
  i4 := by kernel_rfl
  t5 := Tryd.underlying5
  a5 := Tryd.isAgg5
  z5 := Tryd.sizeOf5
  v5 := Tryd.zeroValue5
  i5 := by kernel_rfl
  t22 := Tryd.underlying22
  a22 := Tryd.isAgg22
  z22 := Tryd.sizeOf22
  v22 := Tryd.zeroValue22
  i22 := by kernel_rfl
  t25 := Tryd.underlying41
  a25 := Tryd.isAgg41
  z25 := Tryd.sizeOf41
  v25 := Tryd.zeroValue41
  i25 := by kernel_rfl
  t54 := Tryd.underlying45
  a54 := Tryd.isAgg45
  z54 := Tryd.sizeOf45
  g1 := by kernel_rfl }
end Go.Proofs.YtgddapefghcphaaDoor
