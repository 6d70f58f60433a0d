/- Rows of bits, plainly: a place is looked for, and a k-th. -/
import Derived.Test.YtfkfnibeipddaabDoorBu
namespace Go.Proofs.YtfkfnibeipddaabDoor

/-- how many 1s are ahead of the leaf of a place -/
def onesT : Tr → Int → Nat
  | .nil, _ => 0
  | .leaf _ _ _, _ => 0
  | .fork _ l r, i => if i < (l.size : Int) then onesT l i else l.ones + onesT r (i - l.size)

/-- the leaf of a place, and the place there -/
def leafT : Tr → Int → Nat × Nat × Int
  | .nil, i => (0, 0, i)
  | .leaf _ x n, i => (x, n, i)
  | .fork _ l r, i => if i < (l.size : Int) then leafT l i else leafT r (i - l.size)

theorem leafT_spec : ∀ {t : Tr} (i : Int), t.ok → (leafT t i).1 < 2 ^ (leafT t i).2.1 ∧ (leafT t i).2.1 ≤ 64 ∧ (0 ≤ (leafT t i).2.2 ↔ 0 ≤ i) ∧ ((leafT t i).2.2 < (leafT t i).2.1 ↔ i < t.size) ∧ (leafT t i).2.2 ≤ i ∨ False
  | .nil, i, _ => Or.inl ⟨by simp [leafT], by simp [leafT], Iff.rfl, Iff.rfl, Int.le_refl _⟩
  | .leaf g x n, i, h => Or.inl ⟨h.2.2, h.2.1, Iff.rfl, Iff.rfl, Int.le_refl _⟩
  | .fork g l r, i, h => by
    obtain ⟨h1, h2, h3, h4, h5⟩ := h
    have hs : (Tr.fork g l r).size = l.size + r.size := rfl
    rw [hs]
    unfold leafT
    left
    split
    · rcases leafT_spec (t := l) i h1 with ⟨a1, a2, a3, a4, a5⟩ | h
      · exact ⟨a1, a2, a3, a4.trans (by omega), a5⟩
      · exact h.elim
    · rcases leafT_spec (t := r) (i - l.size) h2 with ⟨a1, a2, a3, a4, a5⟩ | h
      · exact ⟨a1, a2, a3.trans (by omega), a4.trans (by omega), by omega⟩
      · exact h.elim

theorem leaf_ok {t : Tr} (i : Int) (h : t.ok) : (leafT t i).1 < 2 ^ (leafT t i).2.1 ∧ (leafT t i).2.1 ≤ 64 ∧ (0 ≤ (leafT t i).2.2 ↔ 0 ≤ i) ∧ ((leafT t i).2.2 < (leafT t i).2.1 ↔ i < t.size) ∧ (leafT t i).2.2 ≤ i := by
  rcases leafT_spec i h with h | h
  · exact h
  · exact h.elim

/-- the bit of a place -/
theorem leafT_get : ∀ {t : Tr} {i : Nat}, t.ok → i < t.size → t.bits[i]? = some ((leafT t i).1.testBit (leafT t i).2.2.toNat)
  | .nil, i, _, h => by simp [Tr.size] at h
  | .leaf g x n, i, h, hi => by
    show (bitsL x n)[i]? = _
    rw [bitsL_get?, if_pos (show i < n from hi)]
    rfl
  | .fork g l r, i, h, hi => by
    obtain ⟨h1, h2, h3, h4, h5⟩ := h
    have hs : i < l.size + r.size := hi
    show (l.bits ++ r.bits)[i]? = _
    unfold leafT
    split
    · next e =>
      have e' : i < l.size := by omega
      rw [List.getElem?_append_left (by rw [l.len]; exact e')]
      exact leafT_get h1 e'
    · next e =>
      have e' : l.size ≤ i := by omega
      rw [List.getElem?_append_right (by rw [l.len]; exact e'), l.len, show (i : Int) - (l.size : Int) = ((i - l.size : Nat) : Int) by omega]
      exact leafT_get h2 (by omega)

/-- how many 1s are ahead of a place -/
theorem rank_eq : ∀ {t : Tr} (i : Int), t.ok → onesT t i + popN (if (leafT t i).2.2 < 0 then 0 else if ((leafT t i).2.1 : Int) < (leafT t i).2.2 then (leafT t i).2.1 else (leafT t i).2.2.toNat) (leafT t i).1 = (t.bits.take i.toNat).count true
  | .nil, i, _ => by simp [onesT, leafT, Tr.bits, popN_zero]
  | .leaf g x n, i, h => by
    show 0 + popN (if i < 0 then 0 else if (n : Int) < i then n else i.toNat) x = ((bitsL x n).take i.toNat).count true
    rw [Nat.zero_add]
    by_cases h0 : i < 0
    · rw [if_pos h0, show i.toNat = 0 by omega]
      rfl
    · rw [if_neg h0]
      by_cases h1 : (n : Int) < i
      · rw [if_pos h1, List.take_of_length_le (by rw [bitsL_length]; omega), bitsL_count]
      · rw [if_neg h1, bitsL_take x (by omega), bitsL_count]
  | .fork g l r, i, h => by
    obtain ⟨h1, h2, h3, h4, h5⟩ := h
    show _ = ((l.bits ++ r.bits).take i.toNat).count true
    unfold onesT leafT
    split
    · next e =>
      rw [List.take_append_of_le_length (by rw [l.len]; omega)]
      exact rank_eq i h1
    · next e =>
      have ih := rank_eq (i - l.size) h2
      rw [List.take_append, List.take_of_length_le (by rw [l.len]; omega), List.count_append, l.ones_eq, l.len, show i.toNat - l.size = (i - (l.size : Int)).toNat by omega, ← ih]
      omega

theorem onesT_le : ∀ (t : Tr) (i : Int), onesT t i ≤ t.ones
  | .nil, _ => Nat.zero_le _
  | .leaf _ _ _, _ => Nat.zero_le _
  | .fork _ l r, i => by
    have h1 := onesT_le l i
    have h2 := onesT_le r (i - l.size)
    show onesT _ _ ≤ l.ones + r.ones
    unfold onesT
    split <;> omega

end Go.Proofs.YtfkfnibeipddaabDoor
