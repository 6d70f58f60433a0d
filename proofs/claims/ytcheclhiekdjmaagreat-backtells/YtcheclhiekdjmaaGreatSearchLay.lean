/- The library's search by halves lies in this program as it lies where its contract was proved: told number by number. -/
import Derived.Shelf.Slices.SearchI
import Derived.Test.YtcheclhiekdjmaaGreatProg
namespace Go.Proofs.YtcheclhiekdjmaaGreat
open Go.Shelf
def Tryz.searchRow_ren : Go.Shelf.Ren := ⟨fun | 25 => 67 | 31 => 91 | 32 => 92 | 37 => 100 | n => n, fun | 22 => 22 | 3 => 3 | 4 => 4 | 40 => 128 | 0 => 0 | n => n, fun | n => n⟩
theorem Tryz.searchRow : Go.Proofs.Lays2.n25 Tryz.prog Tryz.searchRow_ren := {
  mixed := by kernel_rfl
  f25 := Tryz.func67.trans (congrArg some (by kernel_rfl))
  f31 := Tryz.func91.trans (congrArg some (by kernel_rfl))
  f32 := Tryz.func92.trans (congrArg some (by kernel_rfl))
  f37 := Tryz.func100.trans (congrArg some (by kernel_rfl))
  t0 := Tryz.underlying0
  a0 := Tryz.isAgg0
  z0 := Tryz.sizeOf0
  v0 := Tryz.zeroValue0
  t3 := Tryz.underlying3
  a3 := Tryz.isAgg3
  z3 := Tryz.sizeOf3
  v3 := Tryz.zeroValue3
  t4 := Tryz.underlying4
  a4 := Tryz.isAgg4
  z4 := Tryz.sizeOf4
  v4 := Tryz.zeroValue4
  t22 := Tryz.underlying22
  a22 := Tryz.isAgg22
  z22 := Tryz.sizeOf22
  v22 := Tryz.zeroValue22
  t40 := Tryz.underlying128
  a40 := Tryz.isAgg128
  z40 := Tryz.sizeOf128
  v40 := Tryz.zeroValue128 }
end Go.Proofs.YtcheclhiekdjmaaGreat
