/- Less, Right and Few: what each tells of documents that lie in memory. -/
import Derived.Test.YtcheclhiekdjmaaGreatCmp
import Derived.Deep.DeepFit
namespace Go.Proofs.YtcheclhiekdjmaaGreat
open Go.RowKit Go.Sort

/-- what Less tells -/
def lessI (ss : List ByteArray) (d1 a1 d2 a2 : Int) : Bool := okI ss d1 a1 && okI ss d2 a2 && ltR (docs ss) (d1.toNat, a1.toNat) (d2.toNat, a2.toNat)

theorem okI_nat {ss : List ByteArray} {d a : Int} (h : okI ss d a = true) : ∃ (n m : Nat) (hn : n < ss.length), d = n ∧ a = m ∧ m ≤ ss[n].size := by
  simp only [okI, decide_eq_true_eq] at h
  obtain ⟨h1, h2, h3, h4⟩ := h
  obtain ⟨n, rfl⟩ := Int.eq_ofNat_of_zero_le h1
  obtain ⟨m, rfl⟩ := Int.eq_ofNat_of_zero_le h3
  have hn : n < ss.length := by omega
  refine ⟨n, m, hn, rfl, rfl, ?_⟩
  simp [hn] at h4
  exact h4

theorem cmpR_neg (l : List (List UInt8)) (a b : Nat × Nat) : decide (cmpR l a b < 0) = ltR l a b := by
  unfold cmpR
  cases h : ltR l a b with
  | true => simp
  | false =>
    cases h2 : ltR l b a with
    | true => simp
    | false => simp

theorem cells_boxed (W : World) (x y : Value) (t : TypeId) (g : Nat) (hg : g = W.heap.size) : HasCells (W.alloc (.cells #[x, y] t)) (some ⟨g, 0, none⟩) [x, y] := cells_new W [x, y] t g hg

theorem boxed_at {W : World} {g : Nat} {x y : Value} (h : HasCells W (some ⟨g, 0, none⟩) [x, y]) : W.cell? ⟨g, 0, none⟩ = some x ∧ W.cell? ⟨g, 1, none⟩ = some y := by
  obtain ⟨g1, o1, e1, h1⟩ := h 0 x rfl
  obtain ⟨g2, o2, e2, h2⟩ := h 1 y rfl
  cases e1
  cases e2
  exact ⟨h1, h2⟩


end Go.Proofs.YtcheclhiekdjmaaGreat
