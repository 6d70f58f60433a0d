/- Lists of pairs in memory: a copy, one of whose pairs is written anew. -/
import Derived.Test.YtfigihlahmgloaaDoorLsY
namespace Go.Proofs.YtfigihlahmgloaaDoor.Ls
open Go Go.RowKit

/-- the cells of pairs as the memory has them -/
def itemsZ (l : List (Int × Int)) : List Value := l.flatMap fun x => [.int .i64 x.1, .int .i64 x.2]

theorem itemsZ_len : ∀ l : List (Int × Int), (itemsZ l).length = l.length * 2
  | [] => rfl
  | x :: l => by
    show (itemsZ l).length + 2 = (l.length + 1) * 2
    rw [itemsZ_len l]
    omega

theorem itemsZ_at : ∀ (l : List (Int × Int)) (j : Nat) (hj : j < l.length), (itemsZ l)[j * 2]? = some (.int .i64 l[j].1) ∧ (itemsZ l)[j * 2 + 1]? = some (.int .i64 l[j].2)
  | x :: l, 0, _ => ⟨rfl, rfl⟩
  | x :: l, j + 1, hj => by
    obtain ⟨a, b⟩ := itemsZ_at l j (by simpa using hj)
    have e : itemsZ (x :: l) = .int .i64 x.1 :: .int .i64 x.2 :: itemsZ l := rfl
    rw [e, show (j + 1) * 2 + 1 = j * 2 + 1 + 1 + 1 by omega, show (j + 1) * 2 = j * 2 + 1 + 1 by omega]
    exact ⟨a, b⟩

theorem itemsZ_one (l : List (Int × Int)) : ∀ u ∈ itemsZ l, u.oneCell' = true := by
  intro u hu
  obtain ⟨x, -, hx⟩ := List.mem_flatMap.1 hu
  simp only [List.mem_cons, List.not_mem_nil, or_false] at hx
  rcases hx with rfl | rfl <;> rfl

theorem HasItems.cells {w : World} {ao : Option Addr} {l : List (Int × Int)} (h : HasItems w ao l) : HasCells w ao (itemsZ l) := by
  intro m u hu
  have hm : m < l.length * 2 := by rw [← itemsZ_len]; exact (List.getElem?_eq_some_iff.1 hu).1
  obtain ⟨g, o, e, c0, c1⟩ := h.cell (m / 2) (by omega)
  obtain ⟨a0, a1⟩ := itemsZ_at l (m / 2) (by omega)
  refine ⟨g, o, e, ?_⟩
  rcases (show m = m / 2 * 2 ∨ m = m / 2 * 2 + 1 by omega) with q | q
  · rw [q] at hu ⊢
    rw [a0] at hu
    cases hu
    exact c0
  · rw [q] at hu ⊢
    rw [a1] at hu
    cases hu
    rw [← Nat.add_assoc]
    exact c1

/-- a block that begins with these pairs -/
def Begins (cs : List Value) (l : List (Int × Int)) : Prop := ∀ (m : Nat) (u : Value), (itemsZ l)[m]? = some u → cs[m]? = some u

theorem items_of_blk {w : World} {g : Nat} {e : TypeId} {cs : List Value} {l : List (Int × Int)} (h : BlkAt w g e cs) (hb : Begins cs l) : HasItems w (some ⟨g, 0, none⟩) l :=
  ⟨fun j hj => by
    obtain ⟨a, b⟩ := itemsZ_at l j hj
    refine ⟨g, 0, rfl, ?_, ?_⟩
    · rw [Nat.zero_add]; exact h.cell (hb _ _ a)
    · rw [Nat.zero_add]; exact h.cell (hb _ _ b)⟩

/-- what is owned, as a block -/
theorem want_blk {w : World} {base : Nat} {e : TypeId} {v : Value} {l : List (Int × Int)} (h : w.ownsRow base e 2 v l.length (itemsZ l)) (h1 : 1 ≤ l.length) : ∃ g cap cs, v = .slice (some ⟨g, 0, none⟩) l.length cap ∧ base ≤ g ∧ BlkAt w g e cs ∧ Begins cs l := by
  rcases h.2 with ⟨hv, h0⟩ | ⟨g, cap, cur, hv, hb, hg, q1, q2, q3, q4⟩
  · omega
  · refine ⟨g, cap, cur.toList, hv, hb, hg, fun m u hu => ?_⟩
    have hm : m < (itemsZ l).length := (List.getElem?_eq_some_iff.1 hu).1
    rw [itemsZ_len] at hm
    rw [← q4, List.getElem?_take, if_pos (by omega)] at hu
    exact hu

theorem itemsZ_set : ∀ (l : List (Int × Int)) (j : Nat) (a b : Int), j < l.length → itemsZ (l.set j (a, b)) = ((itemsZ l).set (j * 2) (.int .i64 a)).set (j * 2 + 1) (.int .i64 b)
  | x :: l, 0, a, b, _ => rfl
  | x :: l, j + 1, a, b, h => by
    have e : ∀ (y : Int × Int) (m : List (Int × Int)), itemsZ (y :: m) = .int .i64 y.1 :: .int .i64 y.2 :: itemsZ m := fun _ _ => rfl
    rw [List.set_cons_succ, e, e, itemsZ_set l j a b (by simpa using h), show (j + 1) * 2 + 1 = j * 2 + 1 + 1 + 1 by omega, show (j + 1) * 2 = j * 2 + 1 + 1 by omega]
    rfl

theorem Begins.set {cs : List Value} {l : List (Int × Int)} (h : Begins cs l) {j : Nat} (hj : j < l.length) (a b : Int) : Begins ((cs.set (j * 2) (.int .i64 a)).set (j * 2 + 1) (.int .i64 b)) (l.set j (a, b)) := by
  intro m u hu
  rw [itemsZ_set l j a b hj] at hu
  have hm : m < (itemsZ l).length := by
    have := (List.getElem?_eq_some_iff.1 hu).1
    simpa using this
  have hc : m < cs.length := by
    obtain ⟨u0, hu0⟩ : ∃ u0, (itemsZ l)[m]? = some u0 := ⟨_, List.getElem?_eq_getElem hm⟩
    exact (List.getElem?_eq_some_iff.1 (h m u0 hu0)).1
  rw [List.getElem?_set, List.getElem?_set] at hu ⊢
  split
  · next e =>
    subst e
    rw [if_pos rfl, if_pos (by simpa using hm)] at hu
    rw [if_pos (by simpa using hc)]
    exact hu
  · next e =>
    rw [if_neg e] at hu
    split
    · next e2 =>
      subst e2
      rw [if_pos rfl, if_pos hm] at hu
      rw [if_pos hc]
      exact hu
    · next e2 =>
      rw [if_neg e2] at hu
      exact h m u hu

theorem Begins.at {cs : List Value} {l : List (Int × Int)} (h : Begins cs l) {j : Nat} (hj : j < l.length) : cs[j * 2]? = some (.int .i64 l[j].1) ∧ cs[j * 2 + 1]? = some (.int .i64 l[j].2) := by
  obtain ⟨a, b⟩ := itemsZ_at l j hj
  exact ⟨h _ _ a, h _ _ b⟩

end Go.Proofs.YtfigihlahmgloaaDoor.Ls
