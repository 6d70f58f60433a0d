/- The document's own Sorted: rows put one by one ahead of the first that is not less. -/
import Derived.Test.YtimofcbfkblmkaaGreatRLists
import Derived.Deep.RegionHeld3
namespace Go.Proofs.YtimofcbfkblmkaaGreat
open Go.RowKit Go.Sort

/-- the rows of the first documents, and some of the next, put one by one -/
def insTo (l : List (List UInt8)) (d a : Nat) : List (Nat × Nat) := insAll l (allTo l d ++ rowsOf d a)

theorem insTo_succ (l : List (List UInt8)) (d a : Nat) : insTo l d (a + 1) = insR l (insTo l d a) (d, a) := by
  rw [insTo, rowsOf_succ, ← List.append_assoc, insAll_snoc]
  rfl

theorem insTo_next (l : List (List UInt8)) (d : Nat) : insTo l (d + 1) 0 = insTo l d ((docAt l d).length + 1) := by
  rw [insTo, insTo, allTo_succ]
  simp [rowsOf]

theorem len_insTo (l : List (List UInt8)) (d a : Nat) : (insTo l d a).length = (allTo l d).length + a := by
  rw [insTo, (insAll_perm _ _).length_eq, List.length_append, len_rowsOf]

theorem insTo_ok {ss : List ByteArray} {d a : Nat} (hd : d < ss.length) (ha : a ≤ ss[d].size + 1) {r : Nat × Nat} (h : r ∈ insTo (docs ss) d a) : okI ss (r.1 : Nat) (r.2 : Nat) = true := by
  rw [insTo, (insAll_perm _ _).mem_iff, List.mem_append] at h
  rcases h with h | h
  · rw [mem_allTo] at h
    have h1 : r.1 < ss.length := by omega
    have h2 := h.2
    rw [docAt_docs h1] at h2
    simp at h2
    simp [okI, h1]
    omega
  · rw [mem_rowsOf] at h
    obtain ⟨e, h2⟩ := h
    have h1 : r.1 < ss.length := by omega
    have e2 : ss[r.1] = ss[d] := by simp only [e]
    simp [okI, h1, e2]
    omega

/-- how many rows are less -/
def lessN (l : List (List UInt8)) (out : List (Nat × Nat)) (r : Nat × Nat) : Nat := (out.takeWhile (ltR l · r)).length

theorem lessN_le (l : List (List UInt8)) (out : List (Nat × Nat)) (r : Nat × Nat) : lessN l out r ≤ out.length := (List.takeWhile_sublist _).length_le

theorem tw_yes {α : Type} (p : α → Bool) : ∀ (L : List α) (k : Nat) (hk : k < L.length), k ≤ (L.takeWhile p).length → p L[k] = true → k + 1 ≤ (L.takeWhile p).length
  | x :: t, 0, _, _, h => by
    simp only [List.getElem_cons_zero] at h
    rw [List.takeWhile_cons, if_pos h]
    simp
  | x :: t, k + 1, hk, hl, h => by
    rw [List.takeWhile_cons] at hl ⊢
    by_cases hx : p x = true
    · rw [if_pos hx] at hl ⊢
      have := tw_yes p t k (by simpa using hk) (by simpa using hl) (by simpa using h)
      simpa using this
    · rw [if_neg hx] at hl
      simp at hl

theorem tw_no {α : Type} (p : α → Bool) : ∀ (L : List α) (k : Nat) (hk : k < L.length), k ≤ (L.takeWhile p).length → p L[k] = false → k = (L.takeWhile p).length
  | x :: t, 0, _, _, h => by
    simp only [List.getElem_cons_zero] at h
    rw [List.takeWhile_cons, if_neg (by simp [h])]
    rfl
  | x :: t, k + 1, hk, hl, h => by
    rw [List.takeWhile_cons] at hl ⊢
    by_cases hx : p x = true
    · rw [if_pos hx] at hl ⊢
      have := tw_no p t k (by simpa using hk) (by simpa using hl) (by simpa using h)
      simpa using this
    · rw [if_neg hx] at hl
      simp at hl

theorem tw_take {α : Type} (p : α → Bool) : ∀ L : List α, L.takeWhile p = L.take (L.takeWhile p).length ∧ L.dropWhile p = L.drop (L.takeWhile p).length
  | [] => by simp
  | x :: t => by
    obtain ⟨h1, h2⟩ := tw_take p t
    rw [List.takeWhile_cons, List.dropWhile_cons]
    by_cases hx : p x = true
    · rw [if_pos hx, if_pos hx]
      simp only [List.length_cons, List.take_succ_cons, List.drop_succ_cons]
      exact ⟨by rw [← h1], h2⟩
    · rw [if_neg hx, if_neg hx]
      simp

theorem insR_eq (l : List (List UInt8)) (out : List (Nat × Nat)) (r : Nat × Nat) : insR l out r = out.take (lessN l out r) ++ r :: out.drop (lessN l out r) := by
  obtain ⟨h1, h2⟩ := tw_take (ltR l · r) out
  rw [insR, lessN, ← h1, ← h2]

theorem cellsR_append (a b : List (Nat × Nat)) : cellsR (a ++ b) = cellsR a ++ cellsR b := by simp [cellsR]

theorem cellsR_one (rs : List (Nat × Nat)) : ∀ u ∈ cellsR rs, u.oneCell' = true := by
  intro u hu
  simp only [cellsR, List.mem_flatMap] at hu
  obtain ⟨r, _, hr⟩ := hu
  exact row_one _ _ u hr

/-- a part of what lies in memory -/
theorem cells_part {w : World} {ao : Option Addr} {rs : List (Nat × Nat)} (h : HasCells w ao (cellsR rs)) (k : Nat) : HasCells w ao (cellsR (rs.take k)) := by
  have e : cellsR rs = cellsR (rs.take k) ++ cellsR (rs.drop k) := by rw [← cellsR_append, List.take_append_drop]
  rw [e] at h
  exact h.left

theorem cells_rest {w : World} {g o : Nat} {rs : List (Nat × Nat)} (h : HasCells w (some ⟨g, o, none⟩) (cellsR rs)) (k : Nat) (hk : k ≤ rs.length) : HasCells w (some ⟨g, o + k * 2, none⟩) (cellsR (rs.drop k)) := by
  intro j u hu
  have e : cellsR rs = cellsR (rs.take k) ++ cellsR (rs.drop k) := by rw [← cellsR_append, List.take_append_drop]
  have hl : (cellsR (rs.take k)).length = k * 2 := by rw [len_cellsR]; simp; omega
  have h2 : (cellsR rs)[k * 2 + j]? = some u := by
    rw [e, List.getElem?_append_right (by omega), hl, Nat.add_sub_cancel_left]
    exact hu
  obtain ⟨g', o', e', hc⟩ := h _ _ h2
  cases e'
  exact ⟨g, o + k * 2, rfl, by rw [Nat.add_assoc]; exact hc⟩

end Go.Proofs.YtimofcbfkblmkaaGreat
