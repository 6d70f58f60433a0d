/- Lists of pairs: what was handed in, opened; the words of the statements; their first call. -/
import Derived.Test.YtidpkflgibpldaaDoorLsV
import Derived.Test.YtidpkflgibpldaaDoorSh
import Derived.Deep.Slices
import Derived.ChangeSame
import Derived.Lib.SmallJoins
namespace Go.Proofs.YtidpkflgibpldaaDoor.Ls
open Go.ChangeShapes Go.WideShapes Go.ChangeAt Go.RowKit

theorem cellsItem : Tryd.prog.cellsOf 51 = 2 := by kernel_rfl
theorem cellsI1 : Tryd.prog.cellsOf 3 = 1 := by kernel_rfl

theorem two_cells {α : Type} : ∀ (cs : List α), cs.length = 2 → ∃ c0 c1, cs = [c0, c1]
  | [c0, c1], _ => ⟨c0, c1, rfl⟩

/-- an int's range -/
def inR (x : Int) : Prop := -9223372036854775808 ≤ x ∧ x ≤ 9223372036854775807

set_option maxRecDepth 100000 in
/-- the cells of one -/
theorem item_cells {H : Type} {enc : TypeId × Value → H} {W : World} {base : Nat} {spare : Nat → Bool} {held : Bool} {m : Nat} {cs : List Value} {x : DataW H × List MemPlace} (h : DataW.trod enc Tryd.prog W base spare held m 51 cs = some x) : ∃ a b : Int, cs = [.int .i64 a, .int .i64 b] ∧ inR a ∧ inR b := by
  obtain ⟨y0, y1, n, -, hl, h0, h1⟩ := trod_struct2 Tryd.underlying51 h
  rw [cellsItem] at hl
  obtain ⟨c0, c1, rfl⟩ := two_cells cs hl
  simp only [cellsI1, List.drop_zero, List.drop_succ_cons, List.take_succ_cons, List.take_zero] at h0 h1
  obtain ⟨a, e0, -, w0⟩ := DataW.trod_int Tryd.underlying3 h0
  obtain ⟨b, e1, -, w1⟩ := DataW.trod_int Tryd.underlying3 h1
  simp at e0 e1
  subst e0 e1
  exact ⟨a, b, rfl, wf_i64 w0, wf_i64 w1⟩

set_option maxRecDepth 100000 in
/-- a pair that was handed in -/
theorem open_item {H : Type} {enc : TypeId × Value → H} {W : World} {base : Nat} {v : Value} {d : DataW H} {p : List MemPlace} (hv : Value.okWide Tryd.prog W .any base 51 v) (h : DataW.Trod enc Tryd.prog W 0 (fun _ => true) true 51 v d p) :
    ∃ x y : Int, v = .agg #[.int .i64 x, .int .i64 y] ∧ inR x ∧ inR y := by
  obtain ⟨c0, c1, y0, y1, m, rfl, -, -, hy0, hy1⟩ := Joins.open_agg2 Tryd.underlying51 (by kernel_rfl) cellsItem hv h
  obtain ⟨a, e0, -, w0⟩ := DataW.trod_int Tryd.underlying3 hy0
  obtain ⟨b, e1, -, w1⟩ := DataW.trod_int Tryd.underlying3 hy1
  simp at e0 e1
  subst e0 e1
  exact ⟨a, b, rfl, wf_i64 w0, wf_i64 w1⟩


/-- how many bits a number has -/
def wideN (n : Nat) : Nat → Nat → Nat
  | 0, k => k
  | f + 1, k => if 2 ^ k ≤ n then wideN n f (k + 1) else k

theorem wideN_spec (n : Nat) : ∀ (f k : Nat), n < 2 ^ (k + f) → (∀ j, j < k → 2 ^ j ≤ n) → n < 2 ^ wideN n f k ∧ ∀ j, j < wideN n f k → 2 ^ j ≤ n
  | 0, _, h, hj => ⟨h, hj⟩
  | f + 1, k, h, hj => by
    unfold wideN
    split
    · next e =>
      refine wideN_spec n f (k + 1) (by rw [show k + 1 + f = k + (f + 1) by omega]; exact h) (fun j hj2 => ?_)
      rcases Nat.lt_or_ge j k with q | q
      · exact hj j q
      · obtain rfl : j = k := by omega
        exact e
    · next e => exact ⟨by omega, hj⟩


end Go.Proofs.YtidpkflgibpldaaDoor.Ls
