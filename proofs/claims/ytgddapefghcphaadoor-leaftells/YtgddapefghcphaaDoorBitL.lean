/- The bits of a word, as a list, plainly. -/
import Derived.Test.YtgddapefghcphaaDoorLeI
namespace Go.Proofs.YtgddapefghcphaaDoor

theorem join_test {x y n : Nat} (hx : x < 2 ^ n) (i : Nat) : (x ||| y * 2 ^ n).testBit i = if i < n then x.testBit i else y.testBit (i - n) := by
  rw [Nat.testBit_or, Nat.testBit_mul_two_pow]
  by_cases h : i < n
  · simp [h, Nat.not_le.mpr h]
  · rw [test_small hx (by omega)]
    simp [h]
    omega

theorem div_test (x c i : Nat) : (x / 2 ^ c).testBit i = x.testBit (i + c) := by
  rw [Nat.testBit_div_two_pow]

theorem oneN_test (b : Bool) (i : Nat) : (oneN b).testBit i = (decide (i = 0) && b) := by
  unfold oneN
  cases b
  · simp
  · cases i
    · rfl
    · simp [Nat.testBit_succ]

theorem insN_test (x j : Nat) (b : Bool) (i : Nat) : (insN x j b).testBit i = if i < j then x.testBit i else if i = j then b else x.testBit (i - 1) := by
  have h1 : x % 2 ^ j < 2 ^ j := Nat.mod_lt _ (Nat.two_pow_pos j)
  have h2 : (x % 2 ^ j ||| oneN b * 2 ^ j) < 2 ^ (j + 1) := by
    apply small_of_test
    intro p hp
    rw [join_test h1, if_neg (by omega), oneN_test, decide_eq_false (show ¬(p - j = 0) by omega)]
    rfl
  unfold insN
  rw [join_test h2, join_test h1, oneN_test, div_test]
  by_cases h : i < j
  · rw [if_pos (by omega), if_pos h, if_pos h, Nat.testBit_mod_two_pow]
    simp [h]
  · rw [if_neg h, if_neg h]
    by_cases e : i = j
    · subst e
      simp
    · rw [if_neg (by omega), if_neg e]
      congr 1
      omega

theorem delN_test (x j : Nat) (i : Nat) : (delN x j).testBit i = if i < j then x.testBit i else x.testBit (i + 1) := by
  have h1 : x % 2 ^ j < 2 ^ j := Nat.mod_lt _ (Nat.two_pow_pos j)
  unfold delN
  rw [join_test h1, div_test]
  by_cases h : i < j
  · rw [if_pos h, if_pos h, Nat.testBit_mod_two_pow]
    simp [h]
  · rw [if_neg h, if_neg h]
    congr 1
    omega

theorem insN_lt {x n j : Nat} (hx : x < 2 ^ n) (hj : j ≤ n) (b : Bool) : insN x j b < 2 ^ (n + 1) := by
  apply small_of_test
  intro i hi
  rw [insN_test, if_neg (by omega), if_neg (by omega)]
  exact test_small hx (by omega)

/-- the first k bits -/
def bitsL (x : Nat) : Nat → List Bool
  | 0 => []
  | k + 1 => bitsL x k ++ [x.testBit k]

theorem bitsL_length (x : Nat) : ∀ k, (bitsL x k).length = k
  | 0 => rfl
  | k + 1 => by simp [bitsL, bitsL_length x k]

theorem bitsL_get (x : Nat) : ∀ k i, i < k → (bitsL x k).getD i false = x.testBit i
  | 0, i, h => by omega
  | k + 1, i, h => by
    by_cases e : i < k
    · have := bitsL_get x k i e
      rw [List.getD_eq_getElem?_getD] at this ⊢
      simp only [bitsL]
      rw [List.getElem?_append_left (by rw [bitsL_length]; exact e)]
      exact this
    · obtain rfl : i = k := by omega
      rw [List.getD_eq_getElem?_getD]
      simp only [bitsL]
      rw [List.getElem?_append_right (by rw [bitsL_length]; omega), bitsL_length]
      simp

theorem bitsL_get? (x k i : Nat) : (bitsL x k)[i]? = if i < k then some (x.testBit i) else none := by
  by_cases h : i < k
  · rw [if_pos h, List.getElem?_eq_getElem (by rw [bitsL_length]; exact h)]
    have := bitsL_get x k i h
    rw [List.getD_eq_getElem?_getD, List.getElem?_eq_getElem (by rw [bitsL_length]; exact h)] at this
    simpa using this
  · rw [if_neg h]
    exact List.getElem?_eq_none (by rw [bitsL_length]; omega)

/-- a list is known by its places -/
theorem bitsL_eq {x k : Nat} {l : List Bool} (hl : l.length = k) (h : ∀ i, i < k → l[i]? = some (x.testBit i)) : l = bitsL x k := by
  apply List.ext_getElem?
  intro i
  rw [bitsL_get?]
  by_cases e : i < k
  · rw [if_pos e, h i e]
  · rw [if_neg e]
    exact List.getElem?_eq_none (by omega)

theorem bitsL_count (x : Nat) : ∀ k, (bitsL x k).count true = popN k x
  | 0 => rfl
  | k + 1 => by
    rw [popN_succ]
    simp only [bitsL]
    rw [List.count_append, bitsL_count x k]
    cases x.testBit k <;> rfl

theorem bitsL_take (x : Nat) {k n : Nat} (h : k ≤ n) : (bitsL x n).take k = bitsL x k := by
  refine bitsL_eq (by rw [List.length_take, bitsL_length]; omega) fun i hi => ?_
  rw [List.getElem?_take, if_pos hi, bitsL_get?, if_pos (by omega)]

/-- in two -/
theorem bitsL_parts (x : Nat) {k n : Nat} (h : k ≤ n) : bitsL (x % 2 ^ k) k ++ bitsL (x / 2 ^ k) (n - k) = bitsL x n := by
  refine bitsL_eq (by rw [List.length_append, bitsL_length, bitsL_length]; omega) fun i hi => ?_
  by_cases e : i < k
  · rw [List.getElem?_append_left (by rw [bitsL_length]; exact e), bitsL_get?, if_pos e, Nat.testBit_mod_two_pow]
    simp [e]
  · rw [List.getElem?_append_right (by rw [bitsL_length]; omega), bitsL_length, bitsL_get?, if_pos (by omega), Nat.testBit_div_two_pow, show i - k + k = i by omega]

/-- together -/
theorem bitsL_join {x y n m : Nat} (hx : x < 2 ^ n) : bitsL (x ||| y * 2 ^ n) (n + m) = bitsL x n ++ bitsL y m := by
  symm
  refine bitsL_eq (by rw [List.length_append, bitsL_length, bitsL_length]) fun i hi => ?_
  rw [Nat.testBit_or, Nat.testBit_mul_two_pow]
  by_cases e : i < n
  · rw [List.getElem?_append_left (by rw [bitsL_length]; exact e), bitsL_get?, if_pos e]
    simp [Nat.not_le.mpr e]
  · rw [List.getElem?_append_right (by rw [bitsL_length]; omega), bitsL_length, bitsL_get?, if_pos (by omega), test_small hx (by omega)]
    simp
    omega

theorem bitsL_drop (x : Nat) {k n : Nat} (h : k ≤ n) : (bitsL x n).drop k = bitsL (x / 2 ^ k) (n - k) := by
  refine bitsL_eq (by rw [List.length_drop, bitsL_length]) fun i hi => ?_
  rw [List.getElem?_drop, bitsL_get?, if_pos (by omega), Nat.testBit_div_two_pow, Nat.add_comm]

theorem bitsL_mod (x k : Nat) : bitsL (x % 2 ^ k) k = bitsL x k := by
  refine bitsL_eq (bitsL_length _ _) fun i hi => ?_
  rw [bitsL_get?, if_pos hi, Nat.testBit_mod_two_pow]
  simp [hi]

/-- with one more -/
theorem bitsL_ins (x : Nat) {j n : Nat} (b : Bool) (h : j ≤ n) : bitsL (insN x j b) (n + 1) = (bitsL x n).take j ++ b :: (bitsL x n).drop j := by
  symm
  refine bitsL_eq (by simp [bitsL_length]; omega) fun i hi => ?_
  rw [insN_test, List.getElem?_append]
  have hl : ((bitsL x n).take j).length = j := by rw [List.length_take, bitsL_length]; omega
  rw [hl]
  by_cases e : i < j
  · rw [if_pos e, if_pos e, List.getElem?_take, if_pos e, bitsL_get?, if_pos (by omega)]
  · rw [if_neg e, if_neg e]
    by_cases e2 : i = j
    · rw [if_pos e2, e2, Nat.sub_self]
      rfl
    · rw [if_neg e2, show i - j = (i - j - 1) + 1 by omega, List.getElem?_cons_succ, List.getElem?_drop, bitsL_get?, if_pos (by omega), show j + (i - j - 1) = i - 1 by omega]

/-- with one less -/
theorem bitsL_del (x : Nat) {j n : Nat} (h : j < n) : bitsL (delN x j) (n - 1) = (bitsL x n).take j ++ (bitsL x n).drop (j + 1) := by
  symm
  refine bitsL_eq (by simp [bitsL_length]; omega) fun i hi => ?_
  rw [delN_test, List.getElem?_append]
  have hl : ((bitsL x n).take j).length = j := by rw [List.length_take, bitsL_length]; omega
  rw [hl]
  by_cases e : i < j
  · rw [if_pos e, if_pos e, List.getElem?_take, if_pos e, bitsL_get?, if_pos (by omega)]
  · rw [if_neg e, if_neg e, List.getElem?_drop, bitsL_get?, if_pos (by omega), show j + 1 + (i - j) = i + 1 by omega]

theorem delN_lt {x n j : Nat} (hx : x < 2 ^ n) (hj : j < n) : delN x j < 2 ^ (n - 1) := by
  apply small_of_test
  intro i hi
  rw [delN_test, if_neg (by omega)]
  exact test_small hx (by omega)

/-- a list is the bits of a word -/
theorem bits_word : ∀ l : List Bool, ∃ x, x < 2 ^ l.length ∧ bitsL x l.length = l
  | [] => ⟨0, by simp, rfl⟩
  | b :: t => by
    obtain ⟨y, h1, h2⟩ := bits_word t
    have hb : oneN b < 2 ^ 1 := by cases b <;> simp [oneN]
    refine ⟨oneN b ||| y * 2 ^ 1, ?_, ?_⟩
    · rw [List.length_cons, Nat.add_comm]
      have e1 : y * 2 ^ 1 < 2 ^ (1 + t.length) := by rw [Nat.pow_add, Nat.mul_comm (2 ^ 1)]; exact (Nat.mul_lt_mul_right (Nat.two_pow_pos 1)).2 h1
      exact Nat.or_lt_two_pow (Nat.lt_of_lt_of_le hb (Nat.pow_le_pow_right (by omega) (by omega))) e1
    · rw [List.length_cons, Nat.add_comm, bitsL_join hb, h2]
      cases b <;> rfl

end Go.Proofs.YtgddapefghcphaaDoor
