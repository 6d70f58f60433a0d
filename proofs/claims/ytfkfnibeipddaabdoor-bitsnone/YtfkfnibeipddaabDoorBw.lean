/- Rows of bits, plainly: where the k-th stands. -/
import Derived.Test.YtfkfnibeipddaabDoorBv
import Derived.Test.YtfkfnibeipddaabDoorMc
namespace Go.Proofs.YtfkfnibeipddaabDoor

/-- how many are as this one -/
def cntT (t : Tr) (one : Bool) : Nat := if one then t.ones else t.size - t.ones

theorem cntT_le (t : Tr) (one : Bool) : cntT t one ≤ t.size := by
  have := t.ones_le
  unfold cntT
  split <;> omega

/-- where the k-th stands; -1 -/
def selT : Tr → Bool → Int → Int
  | .nil, _, _ => -1
  | .leaf _ x n, one, k => selI (wantN x n one) n k
  | .fork _ l r, one, k => if k < (cntT l one : Int) then selT l one k else if selT r one (k - cntT l one) < 0 then -1 else l.size + selT r one (k - cntT l one)

theorem cntT_eq (t : Tr) (one : Bool) : cntT t one = t.bits.count one := by
  unfold cntT
  have h1 := t.ones_eq
  have h2 := t.len
  cases one with
  | true => rw [if_pos rfl, h1]
  | false =>
    rw [if_neg (by simp), ← h1, ← h2]
    have : ∀ l : List Bool, l.length - l.count true = l.count false := by
      intro l
      induction l with
      | nil => rfl
      | cons b t ih =>
        have := List.count_le_length (a := true) (l := t)
        cases b <;> simp <;> omega
    exact this _

/-- what is wanted of a leaf -/
theorem want_test {x n : Nat} (hx : x < 2 ^ n) (one : Bool) {j : Nat} (hj : j < n) : (wantN x n one).testBit j = (x.testBit j == one) := by
  unfold wantN
  cases one with
  | true => simp
  | false =>
    rw [if_neg (by simp), sub_test hx]
    simp [hj]

theorem want_pop {x n : Nat} (hx : x < 2 ^ n) (one : Bool) : ∀ k, k ≤ n → popN k (wantN x n one) = (bitsL x k).count one
  | 0, _ => rfl
  | k + 1, hk => by
    rw [popN_succ, want_pop hx one k (by omega), want_test hx one (by omega)]
    simp only [bitsL]
    rw [List.count_append, List.count_singleton]

/-- the k-th: it stands there, so many are ahead of it -/
theorem selT_spec : ∀ {t : Tr} {one : Bool} {k : Int}, t.ok → (selT t one k = -1 ∧ (k < 0 ∨ (t.bits.count one : Int) ≤ k)) ∨ (∃ p : Nat, selT t one k = p ∧ p < t.size ∧ t.bits[p]? = some one ∧ (((t.bits.take p).count one : Nat) : Int) = k)
  | .nil, one, k, _ => by
    left
    refine ⟨rfl, ?_⟩
    show k < 0 ∨ ((0 : Nat) : Int) ≤ k
    omega
  | .leaf g x n, one, k, h => by
    obtain ⟨h1, h2, h3⟩ := h
    have hp := want_pop h3 one n (Nat.le_refl n)
    show (selI (wantN x n one) n k = -1 ∧ (k < 0 ∨ ((bitsL x n).count one : Int) ≤ k)) ∨ (∃ p : Nat, selI (wantN x n one) n k = p ∧ p < n ∧ (bitsL x n)[p]? = some one ∧ ((((bitsL x n).take p).count one : Nat) : Int) = k)
    by_cases hk : 0 ≤ k ∧ k < (popN n (wantN x n one) : Int)
    · right
      obtain ⟨p, p1, p2, p3, p4⟩ := selI_spec hk.1 hk.2
      refine ⟨p, p4, p1, ?_, ?_⟩
      · rw [bitsL_get?, if_pos p1]
        rw [want_test h3 one p1] at p2
        simpa using p2
      · rw [bitsL_take x (by omega), ← want_pop h3 one p (by omega)]
        exact p3
    · left
      exact ⟨selI_none (by omega), by rw [← hp]; omega⟩
  | .fork g l r, one, k, h => by
    obtain ⟨h1, h2, h3, h4, h5⟩ := h
    have hs : (Tr.fork g l r).size = l.size + r.size := rfl
    have hb : (Tr.fork g l r).bits = l.bits ++ r.bits := rfl
    have hc := cntT_eq l one
    rw [hs, hb]
    by_cases e : k < (cntT l one : Int)
    · have hsel : selT (.fork g l r) one k = selT l one k := if_pos e
      rw [hsel]
      rcases selT_spec (t := l) (one := one) (k := k) h1 with ⟨a1, a2⟩ | ⟨p, a1, a2, a3, a4⟩
      · left
        refine ⟨a1, ?_⟩
        rw [hc] at e
        omega
      · right
        refine ⟨p, a1, by omega, ?_, ?_⟩
        · rw [List.getElem?_append_left (by rw [l.len]; exact a2)]
          exact a3
        · rw [List.take_append_of_le_length (by rw [l.len]; omega)]
          exact a4
    · have hsel : selT (.fork g l r) one k = if selT r one (k - cntT l one) < 0 then -1 else l.size + selT r one (k - cntT l one) := if_neg e
      rw [hsel]
      rcases selT_spec (t := r) (one := one) (k := k - cntT l one) h2 with ⟨a1, a2⟩ | ⟨p, a1, a2, a3, a4⟩
      · left
        rw [a1]
        refine ⟨rfl, ?_⟩
        rw [List.count_append, ← hc]
        omega
      · right
        rw [a1, if_neg (by omega)]
        refine ⟨l.size + p, by omega, by omega, ?_, ?_⟩
        · rw [List.getElem?_append_right (by rw [l.len]; omega), l.len, show l.size + p - l.size = p by omega]
          exact a3
        · rw [List.take_append, List.take_of_length_le (by rw [l.len]; omega), List.count_append, l.len, show l.size + p - l.size = p by omega, ← hc]
          omega

end Go.Proofs.YtfkfnibeipddaabDoor
