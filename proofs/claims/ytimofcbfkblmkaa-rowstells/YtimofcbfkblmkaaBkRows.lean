/- The book's lists of rows: their kind, and what its small functions do. -/
import Derived.Test.YtimofcbfkblmkaaBkBase
import Derived.Test.YtimofcbfkblmkaaRwMarks
namespace Go.Proofs.Ytimofcbfkblmkaa.KRows
open Go.RowKit Go.Sort

abbrev A : Type := Int × Int

def K : Kind A := ⟨24, 28, 4, 2, fun r => [.int .i64 r.1, .int .i64 r.2], fun i k => (0, -1000 * (i : Int) - (k : Int) - 1)⟩

theorem good : K.Good := ⟨fun _ => rfl, fun x u hu => row_one _ _ u hu, by decide, by decide, by decide⟩

theorem cells_eq (xs : List (Int × Int)) : K.cells xs = cellsI xs := rfl

theorem Try.elem1 : Elem Try.prog 28 24 (.agg #[.int .i64 0, .int .i64 0]) 2 16 := Go.Proofs.Ytimofcbfkblmkaa.Try.elemRow

theorem Try.info2 : (Try.prog.info? 28).map (fun i => (i.zero, i.size, i.bytes)) = some (some (.slice none 0 0), 1, 24) := by kernel_rfl

theorem Try.elem2 : Elem Try.prog 35 28 (.slice none 0 0) 1 24 := by
  obtain ⟨i0, hi, hz0, hz1, hz2⟩ := info_parts Try.info2
  exact ⟨Try.underlying35, i0, hi, hz0, hz1, hz2, rfl, by decide⟩

theorem same : SameC Try.prog 15 K := by
  intro xs ao bo ca cb w hx ha hb
  refine (sameRows_any xs xs ao bo ca cb w hx ha hb).mono ?_
  rintro e w' ⟨rfl, h⟩
  exact ⟨by rw [decide_eq_true (rfl : xs = xs)], h⟩

theorem marks_eq (i f n : Nat) : marksR (i : Int) (f : Int) n = marksK K i f n := by
  unfold marksR marksK
  apply List.map_congr_left
  intro k _
  show _ = ((0 : Int), -1000 * (i : Int) - ((f + k : Nat) : Int) - 1)
  rw [Int.natCast_add]

theorem mark : MarkC Try.prog 95 K := by
  intro i f n f' n' w hf' hn' hi hf hn
  subst hf' hn'
  refine (marksR_any i f n w (by omega) (by omega) (by omega) (by omega) hn).mono ?_
  rintro e w' ⟨v, rfl, hm, hb⟩
  rw [marks_eq] at hm
  obtain ⟨am, cap, rfl, -, -, -, -⟩ := owns_cells hm
  exact ⟨am, cap, rfl, hm, hb⟩

theorem copy : CopyC Try.prog 39 K := by
  intro v xs w hx h
  obtain ⟨ao, cap, rfl, hc, hnil⟩ := h
  exact copyRows_any xs ao cap w hx hc hnil

end Go.Proofs.Ytimofcbfkblmkaa.KRows
