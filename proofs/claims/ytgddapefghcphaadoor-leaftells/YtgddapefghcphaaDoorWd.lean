/- A few bits in a word, plainly: how many are 1, where the k-th stands, in two, together. -/
import Derived.Lib.TrailingZeros
namespace Go.Proofs.YtgddapefghcphaaDoor

/-- how many of the first so many bits are 1 -/
def popN : Nat → Nat → Nat
  | 0, _ => 0
  | f + 1, x => x % 2 + popN f (x / 2)

theorem popN_le : ∀ n x, popN n x ≤ n
  | 0, _ => Nat.le_refl _
  | n + 1, x => by have := popN_le n (x / 2); simp only [popN]; omega

theorem popN_zero : ∀ n, popN n 0 = 0
  | 0 => rfl
  | n + 1 => by simp only [popN]; rw [popN_zero n]

theorem popN_add : ∀ a b x, popN (a + b) x = popN a x + popN b (x / 2 ^ a)
  | 0, b, x => by simp [popN]
  | a + 1, b, x => by
    rw [show a + 1 + b = (a + b) + 1 by omega]
    simp only [popN]
    rw [popN_add a b (x / 2), Nat.div_div_eq_div_mul, Nat.pow_succ, Nat.mul_comm 2]
    omega

theorem bit_mod (x k : Nat) : x / 2 ^ k % 2 = if x.testBit k then 1 else 0 := by
  rw [Nat.testBit_eq_decide_div_mod_eq]
  have : x / 2 ^ k % 2 < 2 := Nat.mod_lt _ (by omega)
  by_cases h : x / 2 ^ k % 2 = 1
  · simp [h]
  · simp [h]; omega

theorem popN_succ (k x : Nat) : popN (k + 1) x = popN k x + if x.testBit k then 1 else 0 := by
  rw [popN_add k 1 x, ← bit_mod]
  simp [popN]

theorem popN_mono (x : Nat) {a b : Nat} (h : a ≤ b) : popN a x ≤ popN b x := by
  obtain ⟨c, rfl⟩ := Nat.exists_eq_add_of_le h
  rw [popN_add]
  omega

theorem popN_congr {x y : Nat} : ∀ n, (∀ j, j < n → x.testBit j = y.testBit j) → popN n x = popN n y
  | 0, _ => rfl
  | n + 1, h => by rw [popN_succ, popN_succ, popN_congr n (fun j hj => h j (by omega)), h n (by omega)]

theorem test_small {x n j : Nat} (h : x < 2 ^ n) (hj : n ≤ j) : x.testBit j = false :=
  Nat.testBit_lt_two_pow (Nat.lt_of_lt_of_le h (Nat.pow_le_pow_right (by omega) hj))

theorem small_of_test {x n : Nat} (h : ∀ j, n ≤ j → x.testBit j = false) : x < 2 ^ n := Nat.lt_pow_two_of_testBit x h

theorem popN_more {x n : Nat} (h : x < 2 ^ n) (m : Nat) (hm : n ≤ m) : popN m x = popN n x := by
  obtain ⟨c, rfl⟩ := Nat.exists_eq_add_of_le hm
  rw [popN_add, Nat.div_eq_of_lt h, popN_zero]
  rfl

/-- of the first k alone -/
theorem popN_mod (x : Nat) {k : Nat} (hk : k ≤ 64) : popN 64 (x % 2 ^ k) = popN k x := by
  rw [popN_more (Nat.mod_lt _ (Nat.two_pow_pos k)) 64 hk]
  exact popN_congr k fun j hj => by rw [Nat.testBit_mod_two_pow]; simp [hj]

/-- a place where a 1 stands, so many ahead of it -/
theorem pop_find {x k : Nat} : ∀ n, k < popN n x → ∃ p, p < n ∧ x.testBit p = true ∧ popN p x = k
  | 0, h => by simp [popN] at h
  | n + 1, h => by
    rw [popN_succ] at h
    by_cases h1 : k < popN n x
    · obtain ⟨p, h2, h3, h4⟩ := pop_find n h1
      exact ⟨p, by omega, h3, h4⟩
    · by_cases hb : x.testBit n = true
      · rw [if_pos hb] at h
        exact ⟨n, by omega, hb, by omega⟩
      · rw [if_neg hb] at h
        omega

theorem pop_place {x p q : Nat} (hp : x.testBit p = true) (hq : x.testBit q = true) (h : popN p x = popN q x) : p = q := by
  rcases Nat.lt_trichotomy p q with hl | hl | hl
  · have := popN_mono x (show p + 1 ≤ q by omega)
    rw [popN_succ, if_pos hp] at this
    omega
  · exact hl
  · have := popN_mono x (show q + 1 ≤ p by omega)
    rw [popN_succ, if_pos hq] at this
    omega

/-! ### The k-th -/

/-- these are the 1s of W but the first j -/
def Rest (W j V : Nat) : Prop := ∀ p, V.testBit p = (W.testBit p && decide (j ≤ popN p W))

theorem Rest.zero (W : Nat) : Rest W 0 W := fun p => by simp

theorem low_bit {x : Nat} (h0 : x ≠ 0) (h : x < 18446744073709551616) : x.testBit (Lib.ctz 64 x) = true ∧ Lib.ctz 64 x < 64 ∧ (∀ j, j < Lib.ctz 64 x → x.testBit j = false) ∧ ∀ p, (x &&& (x - 1)).testBit p = (x.testBit p && !decide (p = Lib.ctz 64 x)) := by
  obtain ⟨m, h1, h2⟩ := Lib.ctzFrom_spec 64 x (by omega) (by simpa using h)
  have e : Lib.ctz 64 x = Lib.ctzFrom 64 x := by unfold Lib.ctz; rw [if_neg h0]
  rw [e]
  generalize Lib.ctzFrom 64 x = k at *
  have hb : ∀ j, x.testBit j = (decide (j ≥ k) && (2 * m + 1).testBit (j - k)) := by
    intro j
    rw [h1, Nat.mul_comm, Nat.testBit_mul_two_pow]
  have hk : x.testBit k = true := by
    rw [hb]
    simp [Nat.testBit_zero]
  have hl : ∀ j, j < k → x.testBit j = false := fun j hj => by
    rw [hb]
    simp
    omega
  refine ⟨hk, h2, hl, fun p => ?_⟩
  have hx1 : x - 1 = 2 ^ k * (2 * m) + (2 ^ k - 1) := by
    have : 0 < 2 ^ k := Nat.two_pow_pos k
    have e2 : x = 2 ^ k * (2 * m) + 2 ^ k := by rw [h1]; simp [Nat.mul_add]
    omega
  have hc : (x - 1).testBit p = if p < k then true else (2 * m).testBit (p - k) := by
    rw [hx1, Nat.testBit_two_pow_mul_add _ (by have : 0 < 2 ^ k := Nat.two_pow_pos k; omega)]
    by_cases hp : p < k
    · rw [if_pos hp, if_pos hp, Nat.testBit_two_pow_sub_one]; simp [hp]
    · rw [if_neg hp, if_neg hp]
  rw [Nat.testBit_and, hc]
  by_cases hp : p < k
  · rw [hl p hp]; simp
  · rw [if_neg hp]
    by_cases e3 : p = k
    · subst e3
      simp [Nat.testBit_zero]
    · rw [hb p]
      obtain ⟨c, hc'⟩ : ∃ c, p - k = c + 1 := ⟨p - k - 1, by omega⟩
      rw [hc']
      simp only [Nat.testBit_succ]
      have : (2 * m + 1) / 2 = (2 * m) / 2 := by omega
      rw [this]
      simp [e3]

/-- the least of the rest is the j-th -/
theorem Rest.least {W j V : Nat} (h : Rest W j V) (h0 : V ≠ 0) (hV : V < 18446744073709551616) : W.testBit (Lib.ctz 64 V) = true ∧ popN (Lib.ctz 64 V) W = j ∧ Lib.ctz 64 V < 64 := by
  obtain ⟨h1, h2, h3, -⟩ := low_bit h0 hV
  rw [h] at h1
  simp at h1
  refine ⟨h1.1, ?_, h2⟩
  rcases Nat.lt_or_ge j (popN (Lib.ctz 64 V) W) with hl | hl
  · obtain ⟨p, q1, q2, q3⟩ := pop_find _ hl
    have := h3 p q1
    rw [h, q2, q3] at this
    simp at this
  · omega

theorem Rest.step {W j V : Nat} (h : Rest W j V) (h0 : V ≠ 0) (hV : V < 18446744073709551616) : Rest W (j + 1) (V &&& (V - 1)) := by
  obtain ⟨-, -, h3, h4⟩ := low_bit h0 hV
  obtain ⟨l1, l2, -⟩ := h.least h0 hV
  intro p
  rw [h4, h]
  generalize Lib.ctz 64 V = c at *
  by_cases hw : W.testBit p = true
  · rw [hw]
    rcases Nat.lt_trichotomy p c with hl | hl | hl
    · have := h3 p hl
      rw [h, hw] at this
      have h5 : ¬(j ≤ popN p W) := by simpa using this
      rw [decide_eq_false h5, decide_eq_false (show ¬(j + 1 ≤ popN p W) by omega)]
      simp
    · subst hl
      simp
      omega
    · have := popN_mono W (show c + 1 ≤ p by omega)
      rw [popN_succ, if_pos l1] at this
      rw [decide_eq_true (show j ≤ popN p W by omega), decide_eq_true (show j + 1 ≤ popN p W by omega), decide_eq_false (show ¬(p = c) by omega)]
      rfl
  · simp [hw]

theorem Rest.some {W j V : Nat} (h : Rest W j V) (hj : j < popN 64 W) : V ≠ 0 := by
  obtain ⟨p, -, h2, h3⟩ := pop_find 64 hj
  intro e
  have := h p
  rw [e, h2, h3] at this
  simp at this

/-- where the k-th 1 of the first n stands; -1 -/
def selI (W : Nat) : Nat → Int → Int
  | 0, _ => -1
  | n + 1, k => if W.testBit n = true ∧ (popN n W : Int) = k then n else selI W n k

theorem selI_none {W : Nat} {k : Int} : ∀ {n}, (popN n W : Int) ≤ k ∨ k < 0 → selI W n k = -1
  | 0, _ => rfl
  | n + 1, h => by
    have hs := popN_succ n W
    have : ¬(W.testBit n = true ∧ (popN n W : Int) = k) := by
      rintro ⟨h1, h2⟩
      rw [if_pos h1] at hs
      omega
    unfold selI
    rw [if_neg this]
    have := popN_mono W (show n ≤ n + 1 by omega)
    exact selI_none (by omega)

theorem selI_at {W p : Nat} (hp : W.testBit p = true) : ∀ {n}, p < n → selI W n (popN p W) = p
  | 0, h => by omega
  | n + 1, h => by
    unfold selI
    by_cases hc : W.testBit n = true ∧ (popN n W : Int) = popN p W
    · rw [if_pos hc, pop_place hc.1 hp (by omega)]
    · rw [if_neg hc]
      by_cases e : p = n
      · subst e
        exact absurd ⟨hp, rfl⟩ hc
      · exact selI_at hp (by omega)

theorem selI_spec {W n : Nat} {k : Int} (h0 : 0 ≤ k) (h : k < popN n W) : ∃ p : Nat, p < n ∧ W.testBit p = true ∧ (popN p W : Int) = k ∧ selI W n k = p := by
  obtain ⟨p, h1, h2, h3⟩ := pop_find (x := W) (k := k.toNat) n (by omega)
  have e : (popN p W : Int) = k := by omega
  exact ⟨p, h1, h2, e, by rw [← e]; exact selI_at h2 h1⟩

/-- the k-th of what is wanted -/
theorem Rest.sel {W n k V : Nat} (h : Rest W k V) (hk : k < popN 64 W) (hW : W < 2 ^ n) (hV : V < 18446744073709551616) : (Lib.ctz 64 V : Int) = selI W n k := by
  obtain ⟨l1, l2, -⟩ := h.least (h.some hk) hV
  generalize Lib.ctz 64 V = c at *
  have hc : c < n := by
    rcases Nat.lt_or_ge c n with g | g
    · exact g
    · rw [test_small hW g] at l1
      cases l1
  rw [← l2]
  exact (selI_at l1 hc).symm

/-! ### The other bits -/

theorem sub_test {x n : Nat} (h : x < 2 ^ n) (j : Nat) : (2 ^ n - 1 - x).testBit j = (decide (j < n) && !x.testBit j) := by
  rw [show 2 ^ n - 1 - x = 2 ^ n - (x + 1) by omega]
  exact Nat.testBit_two_pow_sub_succ h j

theorem popN_not {x n : Nat} (h : x < 2 ^ n) : ∀ k, k ≤ n → popN k (2 ^ n - 1 - x) = k - popN k x
  | 0, _ => rfl
  | k + 1, hk => by
    rw [popN_succ, popN_succ, popN_not h k (by omega), sub_test h]
    have := popN_le k x
    by_cases hb : x.testBit k = true
    · simp [hb]
    · simp [hb, show k < n by omega]; omega

end Go.Proofs.YtgddapefghcphaaDoor
