/- The book's lists of rows: their kind, and what its small functions do. -/
import Derived.Test.YtcheclhiekdjmaaGreatBkBase
import Derived.Test.YtcheclhiekdjmaaGreatRwMarks
namespace Go.Proofs.YtcheclhiekdjmaaGreat.KRows
open Go.RowKit Go.Sort

abbrev A : Type := Int × Int

def K : Kind A := ⟨64, 32, 4, 2, fun r => [.int .i64 r.1, .int .i64 r.2], fun i k => (0, -1000 * (i : Int) - (k : Int) - 1)⟩

theorem good : K.Good := ⟨fun _ => rfl, fun x u hu => row_one _ _ u hu, by decide, by decide, by decide⟩

theorem cells_eq (xs : List (Int × Int)) : K.cells xs = cellsI xs := rfl

theorem Tryz.elem1 : Elem Tryz.prog 32 64 (.agg #[.int .i64 0, .int .i64 0]) 2 16 := Go.Proofs.YtcheclhiekdjmaaGreat.Tryz.elemRow

theorem Tryz.info2 : (Tryz.prog.info? 32).map (fun i => (i.zero, i.size, i.bytes)) = some (some (.slice none 0 0), 1, 24) := by kernel_rfl

theorem Tryz.elem2 : Elem Tryz.prog 37 32 (.slice none 0 0) 1 24 := by
  obtain ⟨i0, hi, hz0, hz1, hz2⟩ := info_parts Tryz.info2
  exact ⟨Tryz.underlying37, i0, hi, hz0, hz1, hz2, rfl, by decide⟩

theorem same : SameC Tryz.prog 14 K := by
  intro xs ao bo ca cb w hx ha hb
  refine (sameRows_any xs xs ao bo ca cb w hx ha hb).mono ?_
  rintro e w' ⟨rfl, h⟩
  exact ⟨by rw [decide_eq_true (rfl : xs = xs)], h⟩

theorem marks_eq (i f n : Nat) : marksR (i : Int) (f : Int) n = marksK K i f n := by
  unfold marksR marksK
  apply List.map_congr_left
  intro k _
  show _ = ((0 : Int), -1000 * (i : Int) - ((f + k : Nat) : Int) - 1)
  rw [Int.natCast_add]

theorem mark : MarkC Tryz.prog 81 K := by
  intro i f n f' n' w hf' hn' hi hf hn
  subst hf' hn'
  refine (marksR_any i f n w (by omega) (by omega) (by omega) (by omega) hn).mono ?_
  rintro e w' ⟨v, rfl, hm, hb⟩
  rw [marks_eq] at hm
  obtain ⟨am, cap, rfl, -, -, -, -⟩ := owns_cells hm
  exact ⟨am, cap, rfl, hm, hb⟩

theorem copy : CopyC Tryz.prog 30 K := by
  intro v xs w hx h
  obtain ⟨ao, cap, rfl, hc, hnil⟩ := h
  exact copyRows_any xs ao cap w hx hc hnil

end Go.Proofs.YtcheclhiekdjmaaGreat.KRows
