/- A few bits in a word, plainly: how many are 1, where the k-th stands, in two, together. -/
import Derived.Lib.TrailingZeros
import Derived.Test.YtfkfnibeipddaabDoorProg
import Derived.Test.YtfkfnibeipddaabDoorMa
import Derived.Laws.Bits64b
import Derived.Laws.BitsAllLaws
import Derived.Shelf.Spec.TrailingZeros
import Derived.Test.YtfkfnibeipddaabDoorTzLay
import Derived.Test.YtfkfnibeipddaabDoorTab0
import Derived.BigQuiet
import Derived.Deep.RegionHeld3
import Derived.Deep.RegionWith
import Derived.Deep.DeepCutAuto
import Derived.Deep.Cut
namespace Go.Proofs.YtfkfnibeipddaabDoor

/-- how many of the first so many bits are 1 -/
def popN : Nat → Nat → Nat
  | 0, _ => 0
  | f + 1, x => x % 2 + popN f (x / 2)

theorem popN_le : ∀ n x, popN n x ≤ n
  | 0, _ => Nat.le_refl _
  | n + 1, x => by have := popN_le n (x / 2); simp only [popN]; omega

theorem popN_zero : ∀ n, popN n 0 = 0
  | 0 => rfl
  | n + 1 => by simp only [popN]; rw [popN_zero n]

theorem popN_add : ∀ a b x, popN (a + b) x = popN a x + popN b (x / 2 ^ a)
  | 0, b, x => by simp [popN]
  | a + 1, b, x => by
    rw [show a + 1 + b = (a + b) + 1 by omega]
    simp only [popN]
    rw [popN_add a b (x / 2), Nat.div_div_eq_div_mul, Nat.pow_succ, Nat.mul_comm 2]
    omega

theorem bit_mod (x k : Nat) : x / 2 ^ k % 2 = if x.testBit k then 1 else 0 := by
  rw [Nat.testBit_eq_decide_div_mod_eq]
  have : x / 2 ^ k % 2 < 2 := Nat.mod_lt _ (by omega)
  by_cases h : x / 2 ^ k % 2 = 1
  · simp [h]
  · simp [h]; omega

theorem popN_succ (k x : Nat) : popN (k + 1) x = popN k x + if x.testBit k then 1 else 0 := by
  rw [popN_add k 1 x, ← bit_mod]
  simp [popN]

theorem popN_mono (x : Nat) {a b : Nat} (h : a ≤ b) : popN a x ≤ popN b x := by
  obtain ⟨c, rfl⟩ := Nat.exists_eq_add_of_le h
  rw [popN_add]
  omega

theorem popN_congr {x y : Nat} : ∀ n, (∀ j, j < n → x.testBit j = y.testBit j) → popN n x = popN n y
  | 0, _ => rfl
  | n + 1, h => by rw [popN_succ, popN_succ, popN_congr n (fun j hj => h j (by omega)), h n (by omega)]

theorem test_small {x n j : Nat} (h : x < 2 ^ n) (hj : n ≤ j) : x.testBit j = false :=
  Nat.testBit_lt_two_pow (Nat.lt_of_lt_of_le h (Nat.pow_le_pow_right (by omega) hj))

theorem small_of_test {x n : Nat} (h : ∀ j, n ≤ j → x.testBit j = false) : x < 2 ^ n := Nat.lt_pow_two_of_testBit x h

theorem popN_more {x n : Nat} (h : x < 2 ^ n) (m : Nat) (hm : n ≤ m) : popN m x = popN n x := by
  obtain ⟨c, rfl⟩ := Nat.exists_eq_add_of_le hm
  rw [popN_add, Nat.div_eq_of_lt h, popN_zero]
  rfl

/-- of the first k alone -/
theorem popN_mod (x : Nat) {k : Nat} (hk : k ≤ 64) : popN 64 (x % 2 ^ k) = popN k x := by
  rw [popN_more (Nat.mod_lt _ (Nat.two_pow_pos k)) 64 hk]
  exact popN_congr k fun j hj => by rw [Nat.testBit_mod_two_pow]; simp [hj]

/-- a place where a 1 stands, so many ahead of it -/
theorem pop_find {x k : Nat} : ∀ n, k < popN n x → ∃ p, p < n ∧ x.testBit p = true ∧ popN p x = k
  | 0, h => by simp [popN] at h
  | n + 1, h => by
    rw [popN_succ] at h
    by_cases h1 : k < popN n x
    · obtain ⟨p, h2, h3, h4⟩ := pop_find n h1
      exact ⟨p, by omega, h3, h4⟩
    · by_cases hb : x.testBit n = true
      · rw [if_pos hb] at h
        exact ⟨n, by omega, hb, by omega⟩
      · rw [if_neg hb] at h
        omega

theorem pop_place {x p q : Nat} (hp : x.testBit p = true) (hq : x.testBit q = true) (h : popN p x = popN q x) : p = q := by
  rcases Nat.lt_trichotomy p q with hl | hl | hl
  · have := popN_mono x (show p + 1 ≤ q by omega)
    rw [popN_succ, if_pos hp] at this
    omega
  · exact hl
  · have := popN_mono x (show q + 1 ≤ p by omega)
    rw [popN_succ, if_pos hq] at this
    omega

/-! ### The k-th -/

/-- these are the 1s of W but the first j -/
def Rest (W j V : Nat) : Prop := ∀ p, V.testBit p = (W.testBit p && decide (j ≤ popN p W))

theorem Rest.zero (W : Nat) : Rest W 0 W := fun p => by simp

theorem low_bit {x : Nat} (h0 : x ≠ 0) (h : x < 18446744073709551616) : x.testBit (Lib.ctz 64 x) = true ∧ Lib.ctz 64 x < 64 ∧ (∀ j, j < Lib.ctz 64 x → x.testBit j = false) ∧ ∀ p, (x &&& (x - 1)).testBit p = (x.testBit p && !decide (p = Lib.ctz 64 x)) := by
  obtain ⟨m, h1, h2⟩ := Lib.ctzFrom_spec 64 x (by omega) (by simpa using h)
  have e : Lib.ctz 64 x = Lib.ctzFrom 64 x := by unfold Lib.ctz; rw [if_neg h0]
  rw [e]
  generalize Lib.ctzFrom 64 x = k at *
  have hb : ∀ j, x.testBit j = (decide (j ≥ k) && (2 * m + 1).testBit (j - k)) := by
    intro j
    rw [h1, Nat.mul_comm, Nat.testBit_mul_two_pow]
  have hk : x.testBit k = true := by
    rw [hb]
    simp [Nat.testBit_zero]
  have hl : ∀ j, j < k → x.testBit j = false := fun j hj => by
    rw [hb]
    simp
    omega
  refine ⟨hk, h2, hl, fun p => ?_⟩
  have hx1 : x - 1 = 2 ^ k * (2 * m) + (2 ^ k - 1) := by
    have : 0 < 2 ^ k := Nat.two_pow_pos k
    have e2 : x = 2 ^ k * (2 * m) + 2 ^ k := by rw [h1]; simp [Nat.mul_add]
    omega
  have hc : (x - 1).testBit p = if p < k then true else (2 * m).testBit (p - k) := by
    rw [hx1, Nat.testBit_two_pow_mul_add _ (by have : 0 < 2 ^ k := Nat.two_pow_pos k; omega)]
    by_cases hp : p < k
    · rw [if_pos hp, if_pos hp, Nat.testBit_two_pow_sub_one]; simp [hp]
    · rw [if_neg hp, if_neg hp]
  rw [Nat.testBit_and, hc]
  by_cases hp : p < k
  · rw [hl p hp]; simp
  · rw [if_neg hp]
    by_cases e3 : p = k
    · subst e3
      simp [Nat.testBit_zero]
    · rw [hb p]
      obtain ⟨c, hc'⟩ : ∃ c, p - k = c + 1 := ⟨p - k - 1, by omega⟩
      rw [hc']
      simp only [Nat.testBit_succ]
      have : (2 * m + 1) / 2 = (2 * m) / 2 := by omega
      rw [this]
      simp [e3]

/-- the least of the rest is the j-th -/
theorem Rest.least {W j V : Nat} (h : Rest W j V) (h0 : V ≠ 0) (hV : V < 18446744073709551616) : W.testBit (Lib.ctz 64 V) = true ∧ popN (Lib.ctz 64 V) W = j ∧ Lib.ctz 64 V < 64 := by
  obtain ⟨h1, h2, h3, -⟩ := low_bit h0 hV
  rw [h] at h1
  simp at h1
  refine ⟨h1.1, ?_, h2⟩
  rcases Nat.lt_or_ge j (popN (Lib.ctz 64 V) W) with hl | hl
  · obtain ⟨p, q1, q2, q3⟩ := pop_find _ hl
    have := h3 p q1
    rw [h, q2, q3] at this
    simp at this
  · omega

theorem Rest.step {W j V : Nat} (h : Rest W j V) (h0 : V ≠ 0) (hV : V < 18446744073709551616) : Rest W (j + 1) (V &&& (V - 1)) := by
  obtain ⟨-, -, h3, h4⟩ := low_bit h0 hV
  obtain ⟨l1, l2, -⟩ := h.least h0 hV
  intro p
  rw [h4, h]
  generalize Lib.ctz 64 V = c at *
  by_cases hw : W.testBit p = true
  · rw [hw]
    rcases Nat.lt_trichotomy p c with hl | hl | hl
    · have := h3 p hl
      rw [h, hw] at this
      have h5 : ¬(j ≤ popN p W) := by simpa using this
      rw [decide_eq_false h5, decide_eq_false (show ¬(j + 1 ≤ popN p W) by omega)]
      simp
    · subst hl
      simp
      omega
    · have := popN_mono W (show c + 1 ≤ p by omega)
      rw [popN_succ, if_pos l1] at this
      rw [decide_eq_true (show j ≤ popN p W by omega), decide_eq_true (show j + 1 ≤ popN p W by omega), decide_eq_false (show ¬(p = c) by omega)]
      rfl
  · simp [hw]

theorem Rest.some {W j V : Nat} (h : Rest W j V) (hj : j < popN 64 W) : V ≠ 0 := by
  obtain ⟨p, -, h2, h3⟩ := pop_find 64 hj
  intro e
  have := h p
  rw [e, h2, h3] at this
  simp at this

/-- where the k-th 1 of the first n stands; -1 -/
def selI (W : Nat) : Nat → Int → Int
  | 0, _ => -1
  | n + 1, k => if W.testBit n = true ∧ (popN n W : Int) = k then n else selI W n k

theorem selI_none {W : Nat} {k : Int} : ∀ {n}, (popN n W : Int) ≤ k ∨ k < 0 → selI W n k = -1
  | 0, _ => rfl
  | n + 1, h => by
    have hs := popN_succ n W
    have : ¬(W.testBit n = true ∧ (popN n W : Int) = k) := by
      rintro ⟨h1, h2⟩
      rw [if_pos h1] at hs
      omega
    unfold selI
    rw [if_neg this]
    have := popN_mono W (show n ≤ n + 1 by omega)
    exact selI_none (by omega)

theorem selI_at {W p : Nat} (hp : W.testBit p = true) : ∀ {n}, p < n → selI W n (popN p W) = p
  | 0, h => by omega
  | n + 1, h => by
    unfold selI
    by_cases hc : W.testBit n = true ∧ (popN n W : Int) = popN p W
    · rw [if_pos hc, pop_place hc.1 hp (by omega)]
    · rw [if_neg hc]
      by_cases e : p = n
      · subst e
        exact absurd ⟨hp, rfl⟩ hc
      · exact selI_at hp (by omega)

theorem selI_spec {W n : Nat} {k : Int} (h0 : 0 ≤ k) (h : k < popN n W) : ∃ p : Nat, p < n ∧ W.testBit p = true ∧ (popN p W : Int) = k ∧ selI W n k = p := by
  obtain ⟨p, h1, h2, h3⟩ := pop_find (x := W) (k := k.toNat) n (by omega)
  have e : (popN p W : Int) = k := by omega
  exact ⟨p, h1, h2, e, by rw [← e]; exact selI_at h2 h1⟩

/-- the k-th of what is wanted -/
theorem Rest.sel {W n k V : Nat} (h : Rest W k V) (hk : k < popN 64 W) (hW : W < 2 ^ n) (hV : V < 18446744073709551616) : (Lib.ctz 64 V : Int) = selI W n k := by
  obtain ⟨l1, l2, -⟩ := h.least (h.some hk) hV
  generalize Lib.ctz 64 V = c at *
  have hc : c < n := by
    rcases Nat.lt_or_ge c n with g | g
    · exact g
    · rw [test_small hW g] at l1
      cases l1
  rw [← l2]
  exact (selI_at l1 hc).symm

/-! ### The other bits -/

theorem sub_test {x n : Nat} (h : x < 2 ^ n) (j : Nat) : (2 ^ n - 1 - x).testBit j = (decide (j < n) && !x.testBit j) := by
  rw [show 2 ^ n - 1 - x = 2 ^ n - (x + 1) by omega]
  exact Nat.testBit_two_pow_sub_succ h j

theorem popN_not {x n : Nat} (h : x < 2 ^ n) : ∀ k, k ≤ n → popN k (2 ^ n - 1 - x) = k - popN k x
  | 0, _ => rfl
  | k + 1, hk => by
    rw [popN_succ, popN_succ, popN_not h k (by omega), sub_test h]
    have := popN_le k x
    by_cases hb : x.testBit k = true
    · simp [hb]
    · simp [hb, show k < n by omega]; omega

end Go.Proofs.YtfkfnibeipddaabDoor

namespace Go.Proofs.YtfkfnibeipddaabDoor

/-- a mask of so many bytes -/
def mskN (m : Nat) : Nat → Nat
  | 0 => 0
  | n + 1 => 256 * mskN m n + m

theorem mskN_succ (m n : Nat) : mskN m (n + 1) = 256 * mskN m n + m := rfl

theorem and_split (q r a b : Nat) (hr : r < 256) (hb : b < 256) : (256 * q + r) &&& (256 * a + b) = 256 * (q &&& a) + (r &&& b) := by
  have hrb : r &&& b < 2 ^ 8 := Nat.and_lt_two_pow _ hb
  have e1 : (256 * q + r) = 2 ^ 8 * q + r := rfl
  have e2 : (256 * a + b) = 2 ^ 8 * a + b := rfl
  have e3 : 256 * (q &&& a) + (r &&& b) = 2 ^ 8 * (q &&& a) + (r &&& b) := rfl
  rw [e1, e2, e3]
  apply Nat.eq_of_testBit_eq
  intro j
  rw [Nat.testBit_and, Nat.testBit_two_pow_mul_add _ hr, Nat.testBit_two_pow_mul_add _ hb, Nat.testBit_two_pow_mul_add _ hrb]
  by_cases hj : j < 8
  · simp [hj]
  · simp [hj]

/-- the first step, of so many bytes -/
def st1 (n x : Nat) : Nat := (x / 2 &&& mskN 85 n) + (x &&& mskN 85 n)
/-- the second -/
def st2 (n x : Nat) : Nat := (x / 4 &&& mskN 51 n) + (x &&& mskN 51 n)
/-- the third -/
def st3 (n x : Nat) : Nat := (x / 16 + x) &&& mskN 15 n

def b1 (r : Nat) : Nat := (r / 2 &&& 85) + (r &&& 85)
def b2 (r : Nat) : Nat := (r / 4 &&& 51) + (r &&& 51)

theorem half85 : ∀ r : Fin 256, ((128 + r.val / 2) &&& 85) = (r.val / 2 &&& 85) := by decide +kernel
theorem quar51 : ∀ r : Fin 256, ((64 + r.val / 4) &&& 51) = (r.val / 4 &&& 51) ∧ ((128 + r.val / 4) &&& 51) = (r.val / 4 &&& 51) ∧ ((192 + r.val / 4) &&& 51) = (r.val / 4 &&& 51) := by decide +kernel
theorem b1_lt : ∀ r : Fin 256, b1 r.val < 256 := by decide +kernel
theorem b21 : ∀ r : Fin 256, b2 (b1 r.val) ≤ 68 ∧ b2 (b1 r.val) % 16 ≤ 4 := by decide +kernel
theorem b321 : ∀ r : Fin 256, ((b2 (b1 r.val) / 16 + b2 (b1 r.val)) &&& 15) = popN 8 r.val ∧ ((16 + b2 (b1 r.val) / 16 + b2 (b1 r.val)) &&& 15) = popN 8 r.val ∧ ((32 + b2 (b1 r.val) / 16 + b2 (b1 r.val)) &&& 15) = popN 8 r.val ∧ ((48 + b2 (b1 r.val) / 16 + b2 (b1 r.val)) &&& 15) = popN 8 r.val ∧ ((64 + b2 (b1 r.val) / 16 + b2 (b1 r.val)) &&& 15) = popN 8 r.val := by decide +kernel

theorem st1_step (n q r : Nat) (hr : r < 256) : st1 (n + 1) (256 * q + r) = 256 * st1 n q + b1 r := by
  unfold st1 b1
  have e : (256 * q + r) / 2 = 256 * (q / 2) + (q % 2 * 128 + r / 2) := by omega
  rw [mskN_succ, e, and_split _ _ _ _ hr (by omega), and_split _ _ _ _ (by omega) (by omega)]
  have h : ((q % 2 * 128 + r / 2) &&& 85) = (r / 2 &&& 85) := by
    rcases (show q % 2 = 0 ∨ q % 2 = 1 by omega) with k | k <;> rw [k]
    · simp
    · exact half85 ⟨r, hr⟩
  rw [h]
  omega

theorem st2_step (n q r : Nat) (hr : r < 256) : st2 (n + 1) (256 * q + r) = 256 * st2 n q + b2 r := by
  unfold st2 b2
  have e : (256 * q + r) / 4 = 256 * (q / 4) + (q % 4 * 64 + r / 4) := by omega
  rw [mskN_succ, e, and_split _ _ _ _ hr (by omega), and_split _ _ _ _ (by omega) (by omega)]
  have h : ((q % 4 * 64 + r / 4) &&& 51) = (r / 4 &&& 51) := by
    obtain ⟨g1, g2, g3⟩ := quar51 ⟨r, hr⟩
    rcases (show q % 4 = 0 ∨ q % 4 = 1 ∨ q % 4 = 2 ∨ q % 4 = 3 by omega) with k | k | k | k <;> rw [k]
    · simp
    · exact g1
    · exact g2
    · exact g3
  rw [h]
  omega

theorem st12_step (n q r : Nat) (hr : r < 256) : st2 (n + 1) (st1 (n + 1) (256 * q + r)) = 256 * st2 n (st1 n q) + b2 (b1 r) := by
  rw [st1_step n q r hr, st2_step n _ _ (b1_lt ⟨r, hr⟩)]

theorem st12_low (n q : Nat) : st2 n (st1 n q) % 16 ≤ 4 := by
  cases n with
  | zero => unfold st2 mskN; simp
  | succ n =>
    have e : q = 256 * (q / 256) + q % 256 := by omega
    rw [e, st12_step n _ _ (Nat.mod_lt _ (by omega))]
    have := (b21 ⟨q % 256, Nat.mod_lt _ (by omega)⟩).2
    simp only at this
    omega

/-- all three -/
def st (n x : Nat) : Nat := st3 n (st2 n (st1 n x))

theorem st_step (n q r : Nat) (hr : r < 256) : st (n + 1) (256 * q + r) = 256 * st n q + popN 8 r := by
  unfold st
  rw [st12_step n q r hr]
  have hl := st12_low n q
  obtain ⟨h1, h2⟩ := b21 ⟨r, hr⟩
  obtain ⟨g0, g1, g2, g3, g4⟩ := b321 ⟨r, hr⟩
  simp only at h1 h2 g0 g1 g2 g3 g4
  generalize b2 (b1 r) = R at *
  generalize st2 n (st1 n q) = Q at *
  unfold st3
  have e : (256 * Q + R) / 16 + (256 * Q + R) = 256 * (Q / 16 + Q) + (Q % 16 * 16 + R / 16 + R) := by omega
  rw [mskN_succ, e, and_split _ _ _ _ (by omega) (by omega)]
  congr 1
  rcases (show Q % 16 = 0 ∨ Q % 16 = 1 ∨ Q % 16 = 2 ∨ Q % 16 = 3 ∨ Q % 16 = 4 by omega) with k | k | k | k | k <;> rw [k]
  · simpa using g0
  · exact g1
  · exact g2
  · exact g3
  · exact g4

theorem st_any (n x : Nat) : st (n + 1) x = 256 * st n (x / 256) + popN 8 (x % 256) := by
  have e : x = 256 * (x / 256) + x % 256 := by omega
  have := st_step n (x / 256) (x % 256) (Nat.mod_lt _ (by omega))
  rwa [← e] at this

theorem pop8_mod (x : Nat) : popN 8 (x % 256) = popN 8 x := popN_congr 8 fun j hj => by
  rw [show x % 256 = x % 2 ^ 8 from rfl, Nat.testBit_mod_two_pow]; simp [hj]

theorem pop_byte (n x : Nat) : popN (8 + n) x = popN 8 (x % 256) + popN n (x / 256) := by
  rw [popN_add, pop8_mod]

theorem st_zero (x : Nat) : st 0 x = 0 := by
  unfold st st3 mskN
  exact Nat.and_zero _

def fold1 (y : Nat) : Nat := y + y / 256
def fold2 (y : Nat) : Nat := y + y / 65536
def fold3 (y : Nat) : Nat := y + y / 4294967296

theorem cut1 (a z : Nat) (ha : a < 256) : (a + 256 * z) / 256 = z := by omega
theorem cut2 (a b z : Nat) (ha : a < 256) (hb : b < 256) : (a + 256 * (b + 256 * z)) / 65536 = z := by omega
theorem cut4 (a b c d z : Nat) (ha : a < 256) (hb : b < 256) (hc : c < 256) (hd : d < 256) : (a + 256 * (b + 256 * (c + 256 * (d + 256 * z)))) / 4294967296 = z := by
  have h := cut2 a b (c + 256 * (d + 256 * z)) ha hb
  have h2 := cut2 c d z hc hd
  rw [show (4294967296 : Nat) = 65536 * 65536 from rfl, ← Nat.div_div_eq_div_mul, h, h2]
theorem cutm (s z : Nat) (hs : s < 128) : (s + 256 * z) % 128 = s := by omega
theorem add1 (a b y z : Nat) : (a + 256 * y) + (b + 256 * z) = (a + b) + 256 * (y + z) := by omega

theorem lt8 {y z : Nat} (B C : Nat) (hy : y ≤ B) (hz : z ≤ C) (h : B + 256 * C < 9223372036854775808) : y + 256 * z < 9223372036854775808 := by omega
theorem le8 {y z : Nat} (B C : Nat) (hy : y ≤ B) (hz : z ≤ C) : y + 256 * z ≤ B + 256 * C := by omega

theorem low_bytes {a b c d e f g h : Nat} (ha : a ≤ 64) (hb : b ≤ 64) (hc : c ≤ 64) (hd : d ≤ 64) (he : e ≤ 64) (hf : f ≤ 64) (hg : g ≤ 64) (hh : h ≤ 64) :
    a + 256 * (b + 256 * (c + 256 * (d + 256 * (e + 256 * (f + 256 * (g + 256 * h)))))) < 9223372036854775808 :=
  lt8 64 _ ha (le8 64 _ hb (le8 64 _ hc (le8 64 _ hd (le8 64 _ he (le8 64 _ hf (le8 64 _ hg hh)))))) (by decide)

theorem fold1_eq (a b c d e f g h : Nat) (ha : a ≤ 8) : fold1 (a + 256 * (b + 256 * (c + 256 * (d + 256 * (e + 256 * (f + 256 * (g + 256 * h))))))) = (a + b) + 256 * ((b + c) + 256 * ((c + d) + 256 * ((d + e) + 256 * ((e + f) + 256 * ((f + g) + 256 * ((g + h) + 256 * h)))))) := by
  unfold fold1
  rw [cut1 _ _ (by omega), add1, add1, add1, add1, add1, add1, Nat.add_right_comm g (256 * h) h]

theorem fold2_eq (a b c d e f g h : Nat) (ha : a ≤ 16) (hb : b ≤ 16) : fold2 (a + 256 * (b + 256 * (c + 256 * (d + 256 * (e + 256 * (f + 256 * (g + 256 * h))))))) = (a + c) + 256 * ((b + d) + 256 * ((c + e) + 256 * ((d + f) + 256 * ((e + g) + 256 * ((f + h) + 256 * (g + 256 * h)))))) := by
  unfold fold2
  rw [cut2 _ _ _ (by omega) (by omega), add1, add1, add1, add1, add1, Nat.add_right_comm f (256 * (g + 256 * h)) h]

theorem fold3_eq (a b c d e f g h : Nat) (ha : a ≤ 32) (hb : b ≤ 32) (hc : c ≤ 32) (hd : d ≤ 32) : fold3 (a + 256 * (b + 256 * (c + 256 * (d + 256 * (e + 256 * (f + 256 * (g + 256 * h))))))) = (a + e) + 256 * ((b + f) + 256 * ((c + g) + 256 * ((d + h) + 256 * (e + 256 * (f + 256 * (g + 256 * h)))))) := by
  unfold fold3
  rw [cut4 _ _ _ _ _ (by omega) (by omega) (by omega) (by omega), add1, add1, add1, Nat.add_right_comm d _ h]

theorem bytes_sum (a b c d e f g h y : Nat) (hy : y = a + 256 * (b + 256 * (c + 256 * (d + 256 * (e + 256 * (f + 256 * (g + 256 * h))))))) (ha : a ≤ 8) (hb : b ≤ 8) (hc : c ≤ 8) (hd : d ≤ 8) (he : e ≤ 8) (hf : f ≤ 8) (hg : g ≤ 8) (hh : h ≤ 8) :
    fold1 y < 9223372036854775808 ∧ fold2 (fold1 y) < 9223372036854775808 ∧ fold3 (fold2 (fold1 y)) < 9223372036854775808 ∧ fold3 (fold2 (fold1 y)) % 128 = a + b + (c + d) + (e + f + (g + h)) := by
  subst hy
  rw [fold1_eq _ _ _ _ _ _ _ _ ha, fold2_eq _ _ _ _ _ _ _ _ (by omega) (by omega), fold3_eq _ _ _ _ _ _ _ _ (by omega) (by omega) (by omega) (by omega)]
  exact ⟨low_bytes (by omega) (by omega) (by omega) (by omega) (by omega) (by omega) (by omega) (by omega),
    low_bytes (by omega) (by omega) (by omega) (by omega) (by omega) (by omega) (by omega) (by omega),
    low_bytes (by omega) (by omega) (by omega) (by omega) (by omega) (by omega) (by omega) (by omega), cutm _ _ (by omega)⟩

theorem turn8 (a b c d e f g h : Nat) : 256 * (256 * (256 * (256 * (256 * (256 * (256 * h + g) + f) + e) + d) + c) + b) + a = a + 256 * (b + 256 * (c + 256 * (d + 256 * (e + 256 * (f + 256 * (g + 256 * h)))))) := by
  rw [Nat.add_comm _ a, Nat.add_comm _ b, Nat.add_comm _ c, Nat.add_comm _ d, Nat.add_comm _ e, Nat.add_comm _ f, Nat.add_comm _ g]

theorem st8_eq (x : Nat) : st 8 x = popN 8 (x % 256) + 256 * (popN 8 (x / 256 % 256) + 256 * (popN 8 (x / 256 / 256 % 256) + 256 * (popN 8 (x / 256 / 256 / 256 % 256) + 256 * (popN 8 (x / 256 / 256 / 256 / 256 % 256) + 256 * (popN 8 (x / 256 / 256 / 256 / 256 / 256 % 256) + 256 * (popN 8 (x / 256 / 256 / 256 / 256 / 256 / 256 % 256) + 256 * popN 8 (x / 256 / 256 / 256 / 256 / 256 / 256 / 256 % 256))))))) := by
  rw [st_any 7, st_any 6, st_any 5, st_any 4, st_any 3, st_any 2, st_any 1, st_any 0, st_zero, Nat.mul_zero, Nat.zero_add]
  exact turn8 _ _ _ _ _ _ _ _

/-- the whole count -/
theorem count_word (x : Nat) :
    fold1 (st 8 x) < 9223372036854775808 ∧ fold2 (fold1 (st 8 x)) < 9223372036854775808 ∧ fold3 (fold2 (fold1 (st 8 x))) < 9223372036854775808 ∧ fold3 (fold2 (fold1 (st 8 x))) % 128 = popN 64 x := by
  have hp : popN 64 x = popN 8 (x % 256) + (popN 8 (x / 256 % 256) + (popN 8 (x / 256 / 256 % 256) + (popN 8 (x / 256 / 256 / 256 % 256) + (popN 8 (x / 256 / 256 / 256 / 256 % 256) + (popN 8 (x / 256 / 256 / 256 / 256 / 256 % 256) + (popN 8 (x / 256 / 256 / 256 / 256 / 256 / 256 % 256) + popN 8 (x / 256 / 256 / 256 / 256 / 256 / 256 / 256 % 256))))))) := by
    rw [show (64 : Nat) = 8 + (8 + (8 + (8 + (8 + (8 + (8 + 8)))))) from rfl, pop_byte, pop_byte, pop_byte, pop_byte, pop_byte, pop_byte, pop_byte, pop8_mod (x / 256 / 256 / 256 / 256 / 256 / 256 / 256)]
  obtain ⟨h1, h2, h3, h4⟩ := bytes_sum (popN 8 (x % 256)) (popN 8 (x / 256 % 256)) (popN 8 (x / 256 / 256 % 256)) (popN 8 (x / 256 / 256 / 256 % 256)) (popN 8 (x / 256 / 256 / 256 / 256 % 256)) (popN 8 (x / 256 / 256 / 256 / 256 / 256 % 256)) (popN 8 (x / 256 / 256 / 256 / 256 / 256 / 256 % 256)) (popN 8 (x / 256 / 256 / 256 / 256 / 256 / 256 / 256 % 256)) (st 8 x) (st8_eq x)
    (popN_le _ _) (popN_le _ _) (popN_le _ _) (popN_le _ _) (popN_le _ _) (popN_le _ _) (popN_le _ _) (popN_le _ _)
  refine ⟨h1, h2, h3, ?_⟩
  rw [h4, hp]
  simp only [Nat.add_assoc]

end Go.Proofs.YtfkfnibeipddaabDoor

namespace Go.Proofs.YtfkfnibeipddaabDoor
open Go.RowKit

/-- whether one may be -/
def rightB (x : Nat) (n : Int) : Bool := decide (0 ≤ n) && (decide (n ≤ 64) && decide (x < 2 ^ n.toNat))

theorem right_nat {x : Nat} {n : Int} (h : rightB x n = true) : ∃ k : Nat, n = k ∧ k ≤ 64 ∧ x < 2 ^ k := by
  unfold rightB at h
  simp at h
  obtain ⟨h1, h2, h3⟩ := h
  exact ⟨n.toNat, by omega, by omega, h3⟩

theorem right_of {x k : Nat} (hk : k ≤ 64) (h : x < 2 ^ k) : rightB x (k : Nat) = true := by
  unfold rightB
  simp [h]
  omega

theorem pow_le64 {k : Nat} (hk : k ≤ 64) : 2 ^ k ≤ 18446744073709551616 := by
  have h : (2 : Nat) ^ k ≤ 2 ^ 64 := Nat.pow_le_pow_right (by omega) hk
  simpa using h

theorem low_word {k : Nat} (hk : k ≤ 64) : IntKind.u64.wrap (IntKind.u64.wrap (2 ^ k) - 1) = ((2 ^ k - 1 : Nat) : Int) := by
  have h := pow_le64 hk
  have h0 : 0 < 2 ^ k := Nat.two_pow_pos k
  have e : ((2 : Int) ^ k) = ((2 ^ k : Nat) : Int) := by rw [Int.natCast_pow]; rfl
  rw [e, IntKind.wrap_u64, IntKind.wrap_u64]
  generalize (2 ^ k : Nat) = x at *
  omega

set_option maxHeartbeats 1000000 in
theorem lowest_any (k : Nat) (hk : k ≤ 64) (w : World) :
    Calls Tryd.prog 90 #[.int .i64 k] w fun e w' => e = .returned (.int .u64 ((2 ^ k - 1 : Nat) : Int)) ∧ w' = w := by
  go_enter Tryd.func90, Tryd.ntmps90
  go_wp2
  go_ret
  exact ⟨by rw [low_word hk]; rfl, rfl⟩

/-- no bit from the k-th on -/
theorem none_above {x k : Nat} (hx : x < 18446744073709551616) (hk : k ≤ 64) : x &&& (18446744073709551615 - (2 ^ k - 1)) = 0 ↔ x < 2 ^ k := by
  have hp := pow_le64 hk
  have hp0 : 0 < 2 ^ k := Nat.two_pow_pos k
  have hb : ∀ j, (18446744073709551615 - (2 ^ k - 1)).testBit j = (decide (j < 64) && !decide (j < k)) := by
    intro j
    rw [show 18446744073709551615 - (2 ^ k - 1) = 2 ^ 64 - ((2 ^ k - 1) + 1) by omega, Nat.testBit_two_pow_sub_succ (by omega), Nat.testBit_two_pow_sub_one]
  constructor
  · intro h
    apply small_of_test
    intro j hj
    have := congrArg (fun y => Nat.testBit y j) h
    simp only [Nat.testBit_and, hb, Nat.zero_testBit] at this
    by_cases h64 : j < 64
    · simpa [h64, Nat.not_lt.mpr hj] using this
    · exact test_small (n := 64) (by simpa using hx) (by omega)
  · intro h
    apply Nat.eq_of_testBit_eq
    intro j
    rw [Nat.testBit_and, hb, Nat.zero_testBit]
    by_cases hj : j < k
    · simp [hj]
    · rw [test_small h (by omega)]
      simp

theorem right_word {x k : Nat} (hx : x < 18446744073709551616) (hk : k ≤ 64) : decide (bits BinOp.andNot IntKind.u64 (x : Int) ((2 ^ k - 1 : Nat) : Int) = 0) = rightB x (k : Nat) := by
  have hp := pow_le64 hk
  have hp0 : 0 < 2 ^ k := Nat.two_pow_pos k
  rw [u64_andNot_nat x _ hx (by omega)]
  have := none_above hx hk
  generalize x &&& (18446744073709551615 - (2 ^ k - 1)) = y at *
  by_cases h : x < 2 ^ k
  · rw [right_of hk h, this.2 h]
    rfl
  · have e : rightB x (k : Nat) = false := by unfold rightB; simp [h]
    rw [e]
    apply decide_eq_false
    have h2 : y ≠ 0 := fun hy => h (this.1 hy)
    omega

theorem below_drewN {B : Nat} {a w : World} (h : Below B a w) (n : Nat) : Below B a (w.drewN n) := ⟨h.os, h.tape, h.output, h.size, h.block⟩

set_option maxHeartbeats 1000000 in
theorem right_any (x : Nat) (hx : x < 18446744073709551616) (n : Int) (w : World) :
    Calls Tryd.prog 79 #[.agg #[.int .u64 (x : Nat), .int .i64 n]] w fun e w' => e = .returned (.bool (rightB x n)) ∧ Below w.heap.size w w' := by
  have HB : Hid (Below w.heap.size w _) := (((Below.refl w.heap.size w).alloc (Nat.le_refl _) (.cells #[.int .u64 (x : Nat), .int .i64 n] 69)))
  by_cases h0 : 0 ≤ n
  · have d0 : decide (0 ≤ n) = true := decide_eq_true h0
    by_cases h1 : n ≤ 64
    · obtain ⟨k, rfl⟩ : ∃ k : Nat, n = k := ⟨n.toNat, by omega⟩
      have hk : k ≤ 64 := by omega
      have d1 : decide ((k : Int) ≤ 64) = true := decide_eq_true h1
      have HR : Hid (decide (bits BinOp.andNot IntKind.u64 (x : Int) ((2 ^ k - 1 : Nat) : Int) = 0) = rightB x (k : Nat)) := right_word hx hk
      have T : Hid (∀ W, _) := fun W => lowest_any k hk W
      go_enter Tryd.func79, Tryd.ntmps79
      go_wp2
      go_quiet ((go_at_call 90; exact Calls.quiet_of_same (T.out _)))
      go_wp2
      go_ret
      exact ⟨by rw [← HR.out]; rfl, below_drewN HB.out _⟩
    · have d1 : decide (n ≤ 64) = false := decide_eq_false h1
      have HR : Hid (rightB x n = false) := by show rightB x n = false; unfold rightB; simp [h1]
      go_enter Tryd.func79, Tryd.ntmps79
      go_wp2
      go_quiet (fail)
      go_wp2
      go_ret
      exact ⟨by rw [HR.out]; rfl, below_drewN HB.out _⟩
  · have d0 : decide (0 ≤ n) = false := decide_eq_false h0
    have HR : Hid (rightB x n = false) := by show rightB x n = false; unfold rightB; simp [h0]
    go_enter Tryd.func79, Tryd.ntmps79
    go_wp2
    go_quiet (fail)
    go_wp2
    go_ret
    exact ⟨by rw [HR.out]; rfl, below_drewN HB.out _⟩

/-- a block of one leaf -/
structure LB (w : World) (g : Nat) (x : Nat) (n : Int) : Prop where
  blk : w.heap[g]? = some (.cells #[.int .u64 (x : Nat), .int .i64 n] 69 (0, 0))

theorem LB.lt {w : World} {g x : Nat} {n : Int} (h : LB w g x n) : g < w.heap.size := (Array.getElem?_eq_some_iff.1 h.blk).1

theorem LB.c0 {w : World} {g x : Nat} {n : Int} (h : LB w g x n) : w.cell? ⟨g, 0, none⟩ = some (.int .u64 (x : Nat)) := by
  rw [cell_of_row w g 0 _ _ (0, 0) h.blk]
  rfl

theorem LB.c1 {w : World} {g x : Nat} {n : Int} (h : LB w g x n) : w.cell? ⟨g, 1, none⟩ = some (.int .i64 n) := by
  rw [cell_of_row w g 1 _ _ (0, 0) h.blk]
  rfl

theorem LB.f {w : World} {g x : Nat} {n : Int} (h : LB w g x n) (j : Nat) : w.frozen? ⟨g, j, none⟩ = false := by
  simp [World.frozen?, h.blk]

theorem LB.later {w w' : World} {g x : Nat} {n : Int} (h : LB w g x n) (hb : Below w.heap.size w w') : LB w' g x n := ⟨(hb.block g h.lt).trans h.blk⟩

theorem LB.drewN {w : World} {g x : Nat} {n : Int} (h : LB w g x n) (k : Nat) : LB (w.drewN k) g x n := ⟨h.blk⟩

theorem LB.new {w : World} {g : Nat} (hg : g = w.heap.size) (x : Nat) (n : Int) : LB (w.alloc (.cells #[.int .u64 (x : Nat), .int .i64 n] 69)) g x n := by subst hg; exact ⟨heap_alloc_new w _⟩

theorem LB.alloc {w : World} {g x : Nat} {n : Int} (h : LB w g x n) (o : Obj) : LB (w.alloc o) g x n := ⟨(Below.heap_alloc w o g h.lt).trans h.blk⟩

theorem LB.off {w : World} {g x : Nat} {n : Int} (h : LB w g x n) {a : Addr} (ha : g ≠ a.block) (u : Value) : LB (w.setCell a u) g x n := ⟨(heap_setCell_other w a g u ha).trans h.blk⟩

theorem LB.set {w : World} {g x : Nat} {n : Int} (h : LB w g x n) (y : Nat) (m : Int) : LB ((w.setCell ⟨g, 0, none⟩ (.int .u64 (y : Nat))).setCell ⟨g, 1, none⟩ (.int .i64 m)) g y m := by
  have h1 := heap_setCell_same w g 0 _ _ (.int .u64 (y : Nat)) h.blk
  exact ⟨(heap_setCell_same _ g 1 _ _ (.int .i64 m) h1).trans rfl⟩

/-- whether there is an i-th bit -/
def hasB (x : Nat) (n i : Int) : Bool := rightB x n && (decide (0 ≤ i) && decide (i < n))

theorem has_nat {x : Nat} {n i : Int} (h : hasB x n i = true) : ∃ k j : Nat, n = k ∧ i = j ∧ k ≤ 64 ∧ x < 2 ^ k ∧ j < k := by
  unfold hasB at h
  simp at h
  obtain ⟨h1, h2, h3⟩ := h
  obtain ⟨k, rfl, h4, h5⟩ := right_nat h1
  exact ⟨k, i.toNat, rfl, by omega, h4, h5, by omega⟩

set_option maxHeartbeats 1000000 in
theorem lhas_any (x : Nat) (hx : x < 18446744073709551616) (n i : Int) (w : World) :
    Calls Tryd.prog 78 #[.agg #[.int .u64 (x : Nat), .int .i64 n], .int .i64 i] w fun e w' => e = .returned (.bool (hasB x n i)) ∧ Below w.heap.size w w' := by
  have HB : Hid (Below w.heap.size w _) := (((Below.refl w.heap.size w).alloc (Nat.le_refl _) (.cells #[.int .u64 (x : Nat), .int .i64 n] 69)))
  have T : Hid (∀ W, _) := fun W => right_any x hx n W
  have HN : Hid (hasB x n i = (rightB x n && (decide (0 ≤ i) && decide (i < n)))) := rfl
  have HC : Hid (LB _ _ _ _) := LB.new (w := w) rfl x n
  have HS : Hid (w.heap.size ≤ (w.alloc (.cells #[.int .u64 (x : Nat), .int .i64 n] 69)).heap.size) := HB.out.size
  rcases hR : rightB x n with _ | _
  · rw [hR] at T HN
    go_enter Tryd.func78, Tryd.ntmps78
    go_wp2_with (go_at_call 79; fail)
    refine (T.out _).mono ?_
    rintro e w1 ⟨rfl, hb⟩
    have HB1 : Hid (Below w.heap.size w w1) := HB.out.trans (hb.mono HS.out)
    clear hb HB
    go_wp2
    go_ret
    exact ⟨by rw [HN.out]; rfl, HB1.out⟩
  · rw [hR] at T HN
    go_enter Tryd.func78, Tryd.ntmps78
    go_wp2_with (go_at_call 79; fail)
    refine (T.out _).mono ?_
    rintro e w1 ⟨rfl, hb⟩
    have HB1 : Hid (Below w.heap.size w w1) := HB.out.trans (hb.mono HS.out)
    have c1 := (HC.out.later hb).c1
    clear hb HB
    by_cases h0 : 0 ≤ i
    · have d0 : decide (0 ≤ i) = true := decide_eq_true h0
      rw [d0] at HN
      go_wp2
      go_ret
      exact ⟨by rw [HN.out]; rfl, HB1.out⟩
    · have d0 : decide (0 ≤ i) = false := decide_eq_false h0
      rw [d0] at HN
      go_wp2
      go_ret
      exact ⟨by rw [HN.out]; rfl, HB1.out⟩

def oneN (b : Bool) : Nat := if b then 1 else 0

set_option maxHeartbeats 1000000 in
theorem single_any (b : Bool) (w : World) :
    Calls Tryd.prog 82 #[.bool b] w fun e w' => e = .returned (.agg #[.int .u64 (oneN b : Nat), .int .i64 1]) ∧ Below w.heap.size w w' := by
  cases b with
  | false =>
    go_enter Tryd.func82, Tryd.ntmps82
    go_wp2
    exact bodyPost_ret (v := .agg #[.int .u64 0, .int .i64 1]) (by simp [results, Tryd.results82, go_sem]) rfl ⟨rfl, (Below.refl w.heap.size w).alloc (Nat.le_refl _) _⟩
  | true =>
    go_enter Tryd.func82, Tryd.ntmps82
    go_wp2
    exact bodyPost_ret (v := .agg #[.int .u64 1, .int .i64 1]) (by simp [results, Tryd.results82, go_sem]) rfl ⟨rfl, (Below.refl w.heap.size w).alloc (Nat.le_refl _) _⟩

theorem join_word {x y n m : Nat} (hx : x < 2 ^ n) (hy : y < 2 ^ m) (hnm : n + m ≤ 64) : bits BinOp.or IntKind.u64 (x : Int) (IntKind.u64.wrap ((y : Int) * 2 ^ n)) = ((x ||| y * 2 ^ n : Nat) : Int) ∧ (x ||| y * 2 ^ n) < 2 ^ (n + m) := by
  have hp := pow_le64 hnm
  have hn := pow_le64 (show n ≤ 64 by omega)
  have h1 : y * 2 ^ n < 2 ^ (n + m) := by
    rw [Nat.pow_add, Nat.mul_comm (2 ^ n)]
    exact (Nat.mul_lt_mul_right (Nat.two_pow_pos n)).2 hy
  have h2 : x < 2 ^ (n + m) := Nat.lt_of_lt_of_le hx (Nat.pow_le_pow_right (by omega) (by omega))
  have e : IntKind.u64.wrap ((y : Int) * 2 ^ n) = ((y * 2 ^ n : Nat) : Int) := by
    have e1 : ((y : Int) * 2 ^ n) = ((y * 2 ^ n : Nat) : Int) := by rw [Int.natCast_mul, Int.natCast_pow]; rfl
    rw [e1, IntKind.wrap_u64]
    generalize y * 2 ^ n = z at *
    omega
  rw [e, bits_or_u64_nat x _ (by omega) (by omega)]
  exact ⟨rfl, Nat.or_lt_two_pow h2 h1⟩

/-- whether two can be put together -/
def joinB (x : Nat) (n : Int) (y : Nat) (m : Int) : Bool := rightB x n && (rightB y m && decide (n + m ≤ 64))

set_option maxHeartbeats 4000000 in
theorem join_yes {x y n m : Nat} (hx : x < 2 ^ n) (hy : y < 2 ^ m) (hnm : n + m ≤ 64) (w : World) :
    Calls Tryd.prog 81 #[.agg #[.int .u64 (x : Nat), .int .i64 (n : Nat)], .agg #[.int .u64 (y : Nat), .int .i64 (m : Nat)]] w fun e w' => e = .returned (.tuple #[.agg #[.int .u64 ((x ||| y * 2 ^ n : Nat) : Int), .int .i64 ((n + m : Nat) : Int)], .bool true]) ∧ Below w.heap.size w w' := by
  have hp := pow_le64 (show n ≤ 64 by omega)
  have hp2 := pow_le64 (show m ≤ 64 by omega)
  have T1 : Hid (∀ W, _) := fun W => right_any x (by omega) (n : Nat) W
  have T2 : Hid (∀ W, _) := fun W => right_any y (by omega) (m : Nat) W
  rw [right_of (by omega) hx] at T1
  rw [right_of (by omega) hy] at T2
  obtain ⟨e0, -⟩ := join_word hx hy hnm
  have HE : Hid (_ = _) := e0
  clear e0
  go_enter Tryd.func81, Tryd.ntmps81
  go_wp2_with (go_at_call 79; fail)
  refine (T1.out _).mono ?_
  rintro e w1 ⟨rfl, hb1⟩
  have hB1 : Below w.heap.size w w1 := ((((Below.refl w.heap.size w).alloc (Nat.le_refl _) _).alloc (by simp) _).alloc (by simp; omega) _).trans (hb1.mono (by simp; omega))
  have l1 : LB w1 w.heap.size x n := (((LB.new rfl x n).alloc _).alloc _).later hb1
  have l2 : LB w1 (w.heap.size + 1) y m := ((LB.new (by simp) y m).alloc _).later hb1
  have l3 : LB w1 (w.heap.size + 1 + 1) 0 0 := (LB.new (by simp) 0 0).later hb1
  have c10 := l1.c0
  have c11 := l1.c1
  have c20 := l2.c0
  have c21 := l2.c1
  have HB1 : Hid (Below _ _ _) := hB1
  have HL1 : Hid (LB _ _ _ _) := l1
  have HL2 : Hid (LB _ _ _ _) := l2
  have HL3 : Hid (LB _ _ _ _) := l3
  clear hb1 hB1 l1 l2 l3
  go_wp2_with (go_at_call 79; fail)
  refine (T2.out _).mono ?_
  rintro e w2 ⟨rfl, hb2⟩
  clear c10 c11 c20 c21
  have hB2 : Below w.heap.size w w2 := HB1.out.trans (hb2.mono HB1.out.size)
  have l1 := HL1.out.later hb2
  have l2 := HL2.out.later hb2
  have l3 := HL3.out.later hb2
  have c10 := l1.c0
  have c11 := l1.c1
  have c20 := l2.c0
  have c21 := l2.c1
  have c30 := l3.c0
  have c31 := l3.c1
  have f30 := l3.f 0
  have f31 := l3.f 1
  have HB2 : Hid (Below _ _ _) := hB2
  clear hb2 hB2 l1 l2 l3 HL1 HL2 HL3 HB1
  go_wp2
  go_region
  go_wp2
  rw [HE.out]
  exact bodyPost_ret (v := .tuple #[.agg #[.int .u64 ((x ||| y * 2 ^ n : Nat) : Int), .int .i64 ((n + m : Nat) : Int)], .bool true]) (by simp [results, Tryd.results81, go_sem, c30, c31]) rfl ⟨rfl, below_drewN ((HB2.out.setCell (by simp; omega) _).setCell (by simp; omega) _) 1⟩

end Go.Proofs.YtfkfnibeipddaabDoor

namespace Go.Proofs.YtfkfnibeipddaabDoor
open Go.RowKit

theorem msk85 : mskN 85 8 = 6148914691236517205 := rfl
theorem msk51 : mskN 51 8 = 3689348814741910323 := rfl
theorem msk15 : mskN 15 8 = 1085102592571150095 := rfl

theorem and_le_r (a b : Nat) : a &&& b ≤ b := Nat.and_le_right

theorem on1 {x : Nat} (hx : x < 18446744073709551616) : IntKind.u64.wrap (bits BinOp.and IntKind.u64 ((x : Int) / 2) 6148914691236517205 + bits BinOp.and IntKind.u64 (x : Int) 6148914691236517205) = ((st1 8 x : Nat) : Int) ∧ st1 8 x < 18446744073709551616 := by
  have e0 : ((x : Int) / 2) = ((x / 2 : Nat) : Int) := by omega
  have h1 := and_le_r (x / 2) 6148914691236517205
  have h2 := and_le_r x 6148914691236517205
  rw [e0, show (6148914691236517205 : Int) = ((6148914691236517205 : Nat) : Int) from rfl, bits_and_u64_nat _ _ (by omega) (by omega), bits_and_u64_nat _ _ hx (by omega), IntKind.wrap_u64]
  unfold st1
  rw [msk85]
  generalize x / 2 &&& 6148914691236517205 = a at *
  generalize x &&& 6148914691236517205 = b at *
  omega

theorem on2 {x : Nat} (hx : x < 18446744073709551616) : IntKind.u64.wrap (bits BinOp.and IntKind.u64 ((x : Int) / 4) 3689348814741910323 + bits BinOp.and IntKind.u64 (x : Int) 3689348814741910323) = ((st2 8 x : Nat) : Int) ∧ st2 8 x < 18446744073709551616 := by
  have e0 : ((x : Int) / 4) = ((x / 4 : Nat) : Int) := by omega
  have h1 := and_le_r (x / 4) 3689348814741910323
  have h2 := and_le_r x 3689348814741910323
  rw [e0, show (3689348814741910323 : Int) = ((3689348814741910323 : Nat) : Int) from rfl, bits_and_u64_nat _ _ (by omega) (by omega), bits_and_u64_nat _ _ hx (by omega), IntKind.wrap_u64]
  unfold st2
  rw [msk51]
  generalize x / 4 &&& 3689348814741910323 = a at *
  generalize x &&& 3689348814741910323 = b at *
  omega

theorem and_mod (a m : Nat) (hm : m < 18446744073709551616) : (a % 18446744073709551616) &&& m = a &&& m := by
  apply Nat.eq_of_testBit_eq
  intro j
  rw [Nat.testBit_and, Nat.testBit_and, show (18446744073709551616 : Nat) = 2 ^ 64 from rfl, Nat.testBit_mod_two_pow]
  by_cases hj : j < 64
  · simp [hj]
  · rw [test_small (x := m) (n := 64) (by simpa using hm) (by omega)]
    simp

theorem on3 {x : Nat} : bits BinOp.and IntKind.u64 (IntKind.u64.wrap ((x : Int) / 16 + (x : Int))) 1085102592571150095 = ((st3 8 x : Nat) : Int) := by
  have e0 : ((x : Int) / 16 + (x : Int)) = ((x / 16 + x : Nat) : Int) := by omega
  rw [e0, IntKind.wrap_u64]
  unfold st3
  rw [msk15]
  generalize x / 16 + x = a
  have e1 : ((a : Int) % 18446744073709551616) = ((a % 18446744073709551616 : Nat) : Int) := by omega
  rw [e1, show (1085102592571150095 : Int) = ((1085102592571150095 : Nat) : Int) from rfl, bits_and_u64_nat _ _ (by omega) (by omega), and_mod _ _ (by omega)]

theorem on4 {x : Nat} (h : fold1 x < 9223372036854775808) : IntKind.u64.wrap ((x : Int) + (x : Int) / 256) = ((fold1 x : Nat) : Int) := by
  rw [IntKind.wrap_u64]
  unfold fold1 at *
  omega

theorem on5 {x : Nat} (h : fold2 x < 9223372036854775808) : IntKind.u64.wrap ((x : Int) + (x : Int) / 65536) = ((fold2 x : Nat) : Int) := by
  rw [IntKind.wrap_u64]
  unfold fold2 at *
  omega

theorem on6 {x : Nat} (h : fold3 x < 9223372036854775808) : IntKind.u64.wrap ((x : Int) + (x : Int) / 4294967296) = ((fold3 x : Nat) : Int) := by
  rw [IntKind.wrap_u64]
  unfold fold3 at *
  omega

theorem on7 {x : Nat} (h : x < 9223372036854775808) : bits BinOp.and IntKind.i64 (wrap64 (x : Int)) 127 = ((x % 128 : Nat) : Int) := by
  have e : wrap64 (x : Int) = x := by unfold wrap64; omega
  rw [e]
  have h1 : (BitVec.ofInt 64 (x : Int)).toNat = x := by
    rw [BitVec.ofInt_natCast, BitVec.toNat_ofNat]; exact Nat.mod_eq_of_lt (by omega)
  show IntKind.i64.wrap ((BitVec.ofInt 64 (x : Int) &&& BitVec.ofInt 64 127).toNat : Int) = _
  rw [BitVec.toNat_and, h1, show (BitVec.ofInt 64 127).toNat = 127 from rfl, show (127 : Nat) = 2 ^ 7 - 1 from rfl, Nat.and_two_pow_sub_one_eq_mod, IntKind.wrap_i64]
  omega

set_option maxHeartbeats 1000000 in
theorem ones_any (x : Nat) (hx : x < 18446744073709551616) (w : World) :
    Calls Tryd.prog 89 #[.int .u64 (x : Nat)] w fun e w' => e = .returned (.int .i64 ((popN 64 x : Nat) : Int)) ∧ w' = w := by
  obtain ⟨e1, h1⟩ := on1 hx
  obtain ⟨e2, h2⟩ := on2 h1
  have e3 := @on3 (st2 8 (st1 8 x))
  obtain ⟨c1, c2, c3, c4⟩ := count_word x
  unfold st at c1 c2 c3 c4
  have e4 := on4 c1
  have e5 := on5 c2
  have e6 := on6 c3
  have e7 := on7 c3
  rw [c4] at e7
  have H1 : Hid (_ = _) := e1
  have H2 : Hid (_ = _) := e2
  have H3 : Hid (_ = _) := e3
  have H4 : Hid (_ = _) := e4
  have H5 : Hid (_ = _) := e5
  have H6 : Hid (_ = _) := e6
  have H7 : Hid (_ = _) := e7
  clear e1 e2 e3 e4 e5 e6 e7 h1 h2 c1 c2 c3 c4
  go_enter Tryd.func89, Tryd.ntmps89
  go_wp2
  simp only [H1.out, H2.out, H3.out, H4.out, H5.out, H6.out, H7.out]
  go_ret
  exact ⟨rfl, rfl⟩

end Go.Proofs.YtfkfnibeipddaabDoor

namespace Go.Proofs.YtfkfnibeipddaabDoor
open Go.RowKit

set_option maxHeartbeats 4000000 in
theorem join_no1 {x y : Nat} {n m : Int} (hx : x < 18446744073709551616) (h : rightB x n = false) (w : World) :
    Calls Tryd.prog 81 #[.agg #[.int .u64 ((x : Nat) : Int), .int .i64 n], .agg #[.int .u64 ((y : Nat) : Int), .int .i64 m]] w fun e w' => e = .returned (.tuple #[.agg #[.int .u64 0, .int .i64 0], .bool false]) ∧ Below w.heap.size w w' := by
  have T1 : Hid (∀ W, _) := fun W => right_any x hx n W
  rw [h] at T1
  go_enter Tryd.func81, Tryd.ntmps81
  go_wp2_with (go_at_call 79; fail)
  refine (T1.out _).mono ?_
  rintro e w1 ⟨rfl, hb⟩
  have hB : Below w.heap.size w w1 := ((((Below.refl w.heap.size w).alloc (by first | omega | (simp <;> omega)) _).alloc (by first | omega | (simp <;> omega)) _).alloc (by first | omega | (simp <;> omega)) _).trans (hb.mono (by simp <;> omega))
  have la : LB w1 (w.heap.size) (x) (n) := (((LB.new (by simp) (x) (n)).alloc _).alloc _).later hb
  have lb : LB w1 (w.heap.size + 1) (y) (m) := ((LB.new (by simp) (y) (m)).alloc _).later hb
  have lr : LB w1 (w.heap.size + 1 + 1) (0) (0) := (LB.new (by simp) (0) (0)).later hb
  clear hb
  have La : Hid (LB _ _ _ _) := la
  have Lb : Hid (LB _ _ _ _) := lb
  have Lr : Hid (LB _ _ _ _) := lr
  have HB : Hid (Below _ _ _) := hB
  clear hB la lb lr
  have c0r : w1.cell? ⟨w.heap.size + 1 + 1, 0, none⟩ = some (.int .u64 0) := Lr.out.c0
  have c1r : w1.cell? ⟨w.heap.size + 1 + 1, 1, none⟩ = some (.int .i64 (0)) := Lr.out.c1
  have t0r := Lr.out.lt
  have f0r := Lr.out.f 0
  have f1r := Lr.out.f 1
  go_wp2
  exact bodyPost_ret (v := .tuple #[.agg #[.int .u64 0, .int .i64 0], .bool false]) (by simp [results, Tryd.results81, go_sem, c0r, c1r]) rfl ⟨rfl, (HB.out.setCell (by have := HB.out.size; simp <;> omega) _).setCell (by have := HB.out.size; simp <;> omega) _⟩

set_option maxHeartbeats 4000000 in
theorem join_no2 {x y : Nat} {n m : Int} (hx : x < 18446744073709551616) (hy : y < 18446744073709551616) (h : rightB x n = true) (h2 : rightB y m = false) (w : World) :
    Calls Tryd.prog 81 #[.agg #[.int .u64 ((x : Nat) : Int), .int .i64 n], .agg #[.int .u64 ((y : Nat) : Int), .int .i64 m]] w fun e w' => e = .returned (.tuple #[.agg #[.int .u64 0, .int .i64 0], .bool false]) ∧ Below w.heap.size w w' := by
  have T1 : Hid (∀ W, _) := fun W => right_any x hx n W
  have T2 : Hid (∀ W, _) := fun W => right_any y hy m W
  rw [h] at T1
  rw [h2] at T2
  go_enter Tryd.func81, Tryd.ntmps81
  go_wp2_with (go_at_call 79; fail)
  refine (T1.out _).mono ?_
  rintro e w1 ⟨rfl, hb⟩
  have hB : Below w.heap.size w w1 := ((((Below.refl w.heap.size w).alloc (by first | omega | (simp <;> omega)) _).alloc (by first | omega | (simp <;> omega)) _).alloc (by first | omega | (simp <;> omega)) _).trans (hb.mono (by simp <;> omega))
  have la : LB w1 (w.heap.size) (x) (n) := (((LB.new (by simp) (x) (n)).alloc _).alloc _).later hb
  have lb : LB w1 (w.heap.size + 1) (y) (m) := ((LB.new (by simp) (y) (m)).alloc _).later hb
  have lr : LB w1 (w.heap.size + 1 + 1) (0) (0) := (LB.new (by simp) (0) (0)).later hb
  clear hb
  have La : Hid (LB _ _ _ _) := la
  have Lb : Hid (LB _ _ _ _) := lb
  have Lr : Hid (LB _ _ _ _) := lr
  have HB : Hid (Below _ _ _) := hB
  clear hB la lb lr
  have c0a : w1.cell? ⟨w.heap.size, 0, none⟩ = some (.int .u64 ((x : Nat) : Int)) := La.out.c0
  have c1a : w1.cell? ⟨w.heap.size, 1, none⟩ = some (.int .i64 (n)) := La.out.c1
  have t0a := La.out.lt
  have c0b : w1.cell? ⟨w.heap.size + 1, 0, none⟩ = some (.int .u64 ((y : Nat) : Int)) := Lb.out.c0
  have c1b : w1.cell? ⟨w.heap.size + 1, 1, none⟩ = some (.int .i64 (m)) := Lb.out.c1
  have t0b := Lb.out.lt
  go_wp2_with (go_at_call 79; fail)
  refine (T2.out _).mono ?_
  rintro e w2 ⟨rfl, hb⟩
  clear c0a c1a c0b c1b t0a t0b
  have hsz := HB.out.size
  have hB : Below w.heap.size w w2 := HB.out.trans (hb.mono (by skip <;> omega))
  have la : LB w2 (w.heap.size) (x) (n) := La.out.later hb
  have lb : LB w2 (w.heap.size + 1) (y) (m) := Lb.out.later hb
  have lr : LB w2 (w.heap.size + 1 + 1) (0) (0) := Lr.out.later hb
  clear hb hsz La Lb Lr HB
  have La : Hid (LB _ _ _ _) := la
  have Lb : Hid (LB _ _ _ _) := lb
  have Lr : Hid (LB _ _ _ _) := lr
  have HB : Hid (Below _ _ _) := hB
  clear hB la lb lr
  have c0a : w2.cell? ⟨w.heap.size, 0, none⟩ = some (.int .u64 ((x : Nat) : Int)) := La.out.c0
  have c1a : w2.cell? ⟨w.heap.size, 1, none⟩ = some (.int .i64 (n)) := La.out.c1
  have t0a := La.out.lt
  have c0b : w2.cell? ⟨w.heap.size + 1, 0, none⟩ = some (.int .u64 ((y : Nat) : Int)) := Lb.out.c0
  have c1b : w2.cell? ⟨w.heap.size + 1, 1, none⟩ = some (.int .i64 (m)) := Lb.out.c1
  have t0b := Lb.out.lt
  have c0r : w2.cell? ⟨w.heap.size + 1 + 1, 0, none⟩ = some (.int .u64 0) := Lr.out.c0
  have c1r : w2.cell? ⟨w.heap.size + 1 + 1, 1, none⟩ = some (.int .i64 (0)) := Lr.out.c1
  have t0r := Lr.out.lt
  have f0r := Lr.out.f 0
  have f1r := Lr.out.f 1
  go_wp2
  exact bodyPost_ret (v := .tuple #[.agg #[.int .u64 0, .int .i64 0], .bool false]) (by simp [results, Tryd.results81, go_sem, c0r, c1r]) rfl ⟨rfl, (HB.out.setCell (by have := HB.out.size; simp <;> omega) _).setCell (by have := HB.out.size; simp <;> omega) _⟩

set_option maxHeartbeats 4000000 in
theorem join_no3 {x y n m : Nat} (hx : x < 2 ^ n) (hy : y < 2 ^ m) (hn : n ≤ 64) (hm : m ≤ 64) (hnm : 64 < n + m) (w : World) :
    Calls Tryd.prog 81 #[.agg #[.int .u64 ((x : Nat) : Int), .int .i64 (n : Nat)], .agg #[.int .u64 ((y : Nat) : Int), .int .i64 (m : Nat)]] w fun e w' => e = .returned (.tuple #[.agg #[.int .u64 0, .int .i64 0], .bool false]) ∧ Below w.heap.size w w' := by
  have hp := pow_le64 hn
  have hp2 := pow_le64 hm
  have T1 : Hid (∀ W, _) := fun W => right_any x (by omega) (n : Nat) W
  have T2 : Hid (∀ W, _) := fun W => right_any y (by omega) (m : Nat) W
  rw [right_of hn hx] at T1
  rw [right_of hm hy] at T2
  go_enter Tryd.func81, Tryd.ntmps81
  go_wp2_with (go_at_call 79; fail)
  refine (T1.out _).mono ?_
  rintro e w1 ⟨rfl, hb⟩
  have hB : Below w.heap.size w w1 := ((((Below.refl w.heap.size w).alloc (by first | omega | (simp <;> omega)) _).alloc (by first | omega | (simp <;> omega)) _).alloc (by first | omega | (simp <;> omega)) _).trans (hb.mono (by simp <;> omega))
  have la : LB w1 (w.heap.size) (x) ((n : Nat)) := (((LB.new (by simp) (x) ((n : Nat))).alloc _).alloc _).later hb
  have lb : LB w1 (w.heap.size + 1) (y) ((m : Nat)) := ((LB.new (by simp) (y) ((m : Nat))).alloc _).later hb
  have lr : LB w1 (w.heap.size + 1 + 1) (0) (0) := (LB.new (by simp) (0) (0)).later hb
  clear hb
  have La : Hid (LB _ _ _ _) := la
  have Lb : Hid (LB _ _ _ _) := lb
  have Lr : Hid (LB _ _ _ _) := lr
  have HB : Hid (Below _ _ _) := hB
  clear hB la lb lr
  have c0a : w1.cell? ⟨w.heap.size, 0, none⟩ = some (.int .u64 ((x : Nat) : Int)) := La.out.c0
  have c1a : w1.cell? ⟨w.heap.size, 1, none⟩ = some (.int .i64 ((n : Nat))) := La.out.c1
  have t0a := La.out.lt
  have c0b : w1.cell? ⟨w.heap.size + 1, 0, none⟩ = some (.int .u64 ((y : Nat) : Int)) := Lb.out.c0
  have c1b : w1.cell? ⟨w.heap.size + 1, 1, none⟩ = some (.int .i64 ((m : Nat))) := Lb.out.c1
  have t0b := Lb.out.lt
  go_wp2_with (go_at_call 79; fail)
  refine (T2.out _).mono ?_
  rintro e w2 ⟨rfl, hb⟩
  clear c0a c1a c0b c1b t0a t0b
  have hsz := HB.out.size
  have hB : Below w.heap.size w w2 := HB.out.trans (hb.mono (by skip <;> omega))
  have la : LB w2 (w.heap.size) (x) ((n : Nat)) := La.out.later hb
  have lb : LB w2 (w.heap.size + 1) (y) ((m : Nat)) := Lb.out.later hb
  have lr : LB w2 (w.heap.size + 1 + 1) (0) (0) := Lr.out.later hb
  clear hb hsz La Lb Lr HB
  have La : Hid (LB _ _ _ _) := la
  have Lb : Hid (LB _ _ _ _) := lb
  have Lr : Hid (LB _ _ _ _) := lr
  have HB : Hid (Below _ _ _) := hB
  clear hB la lb lr
  have c0a : w2.cell? ⟨w.heap.size, 0, none⟩ = some (.int .u64 ((x : Nat) : Int)) := La.out.c0
  have c1a : w2.cell? ⟨w.heap.size, 1, none⟩ = some (.int .i64 ((n : Nat))) := La.out.c1
  have t0a := La.out.lt
  have c0b : w2.cell? ⟨w.heap.size + 1, 0, none⟩ = some (.int .u64 ((y : Nat) : Int)) := Lb.out.c0
  have c1b : w2.cell? ⟨w.heap.size + 1, 1, none⟩ = some (.int .i64 ((m : Nat))) := Lb.out.c1
  have t0b := Lb.out.lt
  have c0r : w2.cell? ⟨w.heap.size + 1 + 1, 0, none⟩ = some (.int .u64 0) := Lr.out.c0
  have c1r : w2.cell? ⟨w.heap.size + 1 + 1, 1, none⟩ = some (.int .i64 (0)) := Lr.out.c1
  have t0r := Lr.out.lt
  have f0r := Lr.out.f 0
  have f1r := Lr.out.f 1
  go_wp2
  exact bodyPost_ret (v := .tuple #[.agg #[.int .u64 0, .int .i64 0], .bool false]) (by simp [results, Tryd.results81, go_sem, c0r, c1r]) rfl ⟨rfl, (HB.out.setCell (by have := HB.out.size; simp <;> omega) _).setCell (by have := HB.out.size; simp <;> omega) _⟩

/-- its bit -/
def getB (x : Nat) (n i : Int) : Bool := hasB x n i && x.testBit i.toNat

theorem shr_nat (x c : Nat) : (x : Int) / 2 ^ c = ((x / 2 ^ c : Nat) : Int) := by
  rw [Int.natCast_ediv, Int.natCast_pow]
  rfl

theorem get_word {x j : Nat} (hx : x < 18446744073709551616) : decide (bits BinOp.and IntKind.u64 ((x : Int) / 2 ^ j) 1 = 1) = x.testBit j := by
  have h : x / 2 ^ j < 18446744073709551616 := Nat.lt_of_le_of_lt (Nat.div_le_self _ _) hx
  rw [shr_nat, show (1 : Int) = ((1 : Nat) : Int) from rfl, bits_and_u64_nat _ 1 h (by omega), nat_mask1, Nat.testBit_eq_decide_div_mod_eq]
  apply decide_eq_decide.2
  omega

set_option maxHeartbeats 4000000 in
theorem lget_any (x : Nat) (hx : x < 18446744073709551616) (n i : Int) (w : World) :
    Calls Tryd.prog 44 #[.agg #[.int .u64 ((x : Nat) : Int), .int .i64 n], .int .i64 i] w fun e w' => e = .returned (.bool (getB x n i)) ∧ Below w.heap.size w w' := by
  have T1 : Hid (∀ W, _) := fun W => lhas_any x hx n i W
  by_cases hh : hasB x n i = true
  · have hh2 := hh
    obtain ⟨n, j, rfl, rfl, h1, h2, h3⟩ := has_nat hh2
    have HG : Hid (getB x n j = x.testBit j) := by show getB x n j = x.testBit j; unfold getB; rw [hh]; rfl
    have HV : Hid (_ = _) := get_word (j := j) hx
    rw [hh] at T1
    have hj : (j : Int) < 64 := by omega
    clear hh hh2
    go_enter Tryd.func44, Tryd.ntmps44
    go_wp2_with (go_at_call 78; fail)
    refine (T1.out _).mono ?_
    rintro e w1 ⟨rfl, hb⟩
    have hB : Below w.heap.size w w1 := ((Below.refl w.heap.size w).alloc (by first | omega | (simp <;> omega)) _).trans (hb.mono (by simp <;> omega))
    have la : LB w1 (w.heap.size) (x) ((n : Nat)) := (LB.new (by simp) (x) ((n : Nat))).later hb
    clear hb
    have La : Hid (LB _ _ _ _) := la
    have HB : Hid (Below _ _ _) := hB
    clear hB la
    have c0a : w1.cell? ⟨w.heap.size, 0, none⟩ = some (.int .u64 ((x : Nat) : Int)) := La.out.c0
    have c1a : w1.cell? ⟨w.heap.size, 1, none⟩ = some (.int .i64 ((n : Nat))) := La.out.c1
    have t0a := La.out.lt
    go_wp2
    go_ret
    exact ⟨by rw [HG.out, ← HV.out]; rfl, HB.out⟩
  have hh2 : hasB x n i = false := by simpa using hh
  have HG : Hid (getB x n i = false) := by show getB x n i = false; unfold getB; rw [hh2]; rfl
  rw [hh2] at T1
  clear hh hh2
  go_enter Tryd.func44, Tryd.ntmps44
  go_wp2_with (go_at_call 78; fail)
  refine (T1.out _).mono ?_
  rintro e w1 ⟨rfl, hb⟩
  have hB : Below w.heap.size w w1 := ((Below.refl w.heap.size w).alloc (by first | omega | (simp <;> omega)) _).trans (hb.mono (by simp <;> omega))
  have la : LB w1 (w.heap.size) (x) (n) := (LB.new (by simp) (x) (n)).later hb
  clear hb
  have La : Hid (LB _ _ _ _) := la
  have HB : Hid (Below _ _ _) := hB
  clear hB la
  go_wp2
  go_ret
  exact ⟨by rw [HG.out]; rfl, HB.out⟩

theorem split_word {x n c : Nat} (hx : x < 2 ^ n) (hn : n ≤ 64) (hc : c ≤ n) : bits BinOp.and IntKind.u64 (x : Int) ((2 ^ c - 1 : Nat) : Int) = ((x % 2 ^ c : Nat) : Int) ∧ (x : Int) / 2 ^ c = ((x / 2 ^ c : Nat) : Int) ∧ x % 2 ^ c < 2 ^ c ∧ x / 2 ^ c < 2 ^ (n - c) := by
  have h1 := pow_le64 hn
  have h2 := pow_le64 (show c ≤ 64 by omega)
  have h3 : 0 < 2 ^ c := Nat.two_pow_pos c
  refine ⟨?_, shr_nat x c, Nat.mod_lt _ h3, ?_⟩
  · rw [bits_and_u64_nat x _ (by omega) (by omega), Nat.and_two_pow_sub_one_eq_mod]
  · rw [Nat.div_lt_iff_lt_mul h3, ← Nat.pow_add, Nat.sub_add_cancel hc]
    exact hx

end Go.Proofs.YtfkfnibeipddaabDoor

namespace Go.Proofs.YtfkfnibeipddaabDoor
open Go.RowKit

/-- what a leaf's box holds -/
def At2 (g x : Nat) (n : Int) (W : World) : Prop := W.cell? ⟨g, 0, none⟩ = some (.int .u64 (x : Nat)) ∧ W.cell? ⟨g, 1, none⟩ = some (.int .i64 n)

theorem at2_set {W : World} {g h x : Nat} {n : Int} (hs : W.cell? ⟨g, 0, none⟩ = some (.int .u64 (x : Nat)) ∧ W.cell? ⟨g, 1, none⟩ = some (.int .i64 n)) (hne : h ≠ g) (u v : Value) : ((W.setCell ⟨h, 0, none⟩ u).setCell ⟨h, 1, none⟩ v).cell? ⟨g, 0, none⟩ = some (.int .u64 (x : Nat)) ∧ ((W.setCell ⟨h, 0, none⟩ u).setCell ⟨h, 1, none⟩ v).cell? ⟨g, 1, none⟩ = some (.int .i64 n) := by
  refine ⟨?_, ?_⟩
  · rw [World.cell?_setCell_far _ _ _ _ hne, World.cell?_setCell_far _ _ _ _ hne]; exact hs.1
  · rw [World.cell?_setCell_far _ _ _ _ hne, World.cell?_setCell_far _ _ _ _ hne]; exact hs.2

theorem cell_drew (W : World) (a : Addr) : W.drew.cell? a = W.cell? a := rfl

theorem at2_one {W : World} {g h x : Nat} {n : Int} (hs : W.cell? ⟨g, 0, none⟩ = some (.int .u64 (x : Nat)) ∧ W.cell? ⟨g, 1, none⟩ = some (.int .i64 n)) (hne : h ≠ g) (u v : Value) : ((W.setCell ⟨h, 0, none⟩ u).setCell ⟨h, 1, none⟩ v).drew.cell? ⟨g, 0, none⟩ = some (.int .u64 (x : Nat)) ∧ ((W.setCell ⟨h, 0, none⟩ u).setCell ⟨h, 1, none⟩ v).drew.cell? ⟨g, 1, none⟩ = some (.int .i64 n) := by
  rw [cell_drew, cell_drew]
  exact at2_set hs hne u v

theorem at2_two {W : World} {g h k x : Nat} {n : Int} (hs : W.cell? ⟨g, 0, none⟩ = some (.int .u64 (x : Nat)) ∧ W.cell? ⟨g, 1, none⟩ = some (.int .i64 n)) (hne : h ≠ g) (hne2 : k ≠ g) (u v u2 v2 : Value) : ((((W.setCell ⟨h, 0, none⟩ u).setCell ⟨h, 1, none⟩ v).setCell ⟨k, 0, none⟩ u2).setCell ⟨k, 1, none⟩ v2).drew.cell? ⟨g, 0, none⟩ = some (.int .u64 (x : Nat)) ∧ ((((W.setCell ⟨h, 0, none⟩ u).setCell ⟨h, 1, none⟩ v).setCell ⟨k, 0, none⟩ u2).setCell ⟨k, 1, none⟩ v2).drew.cell? ⟨g, 1, none⟩ = some (.int .i64 n) := by
  rw [cell_drew, cell_drew]
  exact at2_set (at2_set hs hne u v) hne2 u2 v2

set_option maxHeartbeats 4000000 in
theorem split_neg {x n : Nat} {i : Int} (hx : x < 2 ^ n) (hn : n ≤ 64) (hi : i < 0) (w : World) :
    Calls Tryd.prog 80 #[.agg #[.int .u64 ((x : Nat) : Int), .int .i64 (n : Nat)], .int .i64 i] w fun e w' => e = .returned (.tuple #[.agg #[.int .u64 0, .int .i64 0], .agg #[.int .u64 ((x : Nat) : Int), .int .i64 (n : Nat)]]) ∧ Below w.heap.size w w' := by
  have hp := pow_le64 hn
  have T1 : Hid (∀ W, _) := fun W => right_any x (by omega) (n : Nat) W
  rw [right_of hn hx] at T1
  have T2 : Hid (∀ W, Calls Tryd.prog 90 #[.int .i64 0] W fun e w' => e = .returned (.int .u64 0) ∧ w' = W) := fun W => lowest_any 0 (by omega) W
  have HE1 : Hid (bits BinOp.and IntKind.u64 (x : Int) 0 = 0) := by
    show bits BinOp.and IntKind.u64 (x : Int) ((0 : Nat) : Int) = 0
    rw [bits_and_u64_nat x 0 (by omega) (by omega), Nat.and_zero]
    rfl
  have hw0 : IntKind.i64.wrap (n : Int) = n := by rw [IntKind.wrap_i64]; omega
  go_enter Tryd.func80, Tryd.ntmps80
  go_wp2_with (go_at_call 79; fail)
  refine (T1.out _).mono ?_
  rintro e w1 ⟨rfl, hb⟩
  have hB : Below w.heap.size w w1 := ((((Below.refl w.heap.size w).alloc (by first | omega | (simp <;> omega)) _).alloc (by first | omega | (simp <;> omega)) _).alloc (by first | omega | (simp <;> omega)) _).trans (hb.mono (by simp <;> omega))
  have la : LB w1 (w.heap.size) (x) ((n : Nat)) := (((LB.new (by simp) (x) ((n : Nat))).alloc _).alloc _).later hb
  have lr : LB w1 (w.heap.size + 1) (0) (0) := ((LB.new (by simp) (0) (0)).alloc _).later hb
  have ls : LB w1 (w.heap.size + 1 + 1) (0) (0) := (LB.new (by simp) (0) (0)).later hb
  clear hb
  have La : Hid (LB _ _ _ _) := la
  have Lr : Hid (LB _ _ _ _) := lr
  have Ls : Hid (LB _ _ _ _) := ls
  have HB : Hid (Below _ _ _) := hB
  clear hB la lr ls
  have c0a : w1.cell? ⟨w.heap.size, 0, none⟩ = some (.int .u64 ((x : Nat) : Int)) := La.out.c0
  have c1a : w1.cell? ⟨w.heap.size, 1, none⟩ = some (.int .i64 ((n : Nat))) := La.out.c1
  have t0a := La.out.lt
  have c0r : w1.cell? ⟨w.heap.size + 1, 0, none⟩ = some (.int .u64 0) := Lr.out.c0
  have c1r : w1.cell? ⟨w.heap.size + 1, 1, none⟩ = some (.int .i64 (0)) := Lr.out.c1
  have t0r := Lr.out.lt
  have c0s : w1.cell? ⟨w.heap.size + 1 + 1, 0, none⟩ = some (.int .u64 0) := Ls.out.c0
  have c1s : w1.cell? ⟨w.heap.size + 1 + 1, 1, none⟩ = some (.int .i64 (0)) := Ls.out.c1
  have t0s := Ls.out.lt
  have f0r := Lr.out.f 0
  have f1r := Lr.out.f 1
  have f0s := Ls.out.f 0
  have f1s := Ls.out.f 1
  go_wp2
  have hS1 : w1.cell? ⟨w.heap.size, 0, none⟩ = some (.int .u64 (x : Nat)) ∧ w1.cell? ⟨w.heap.size, 1, none⟩ = some (.int .i64 (n : Nat)) := ⟨c0a, c1a⟩
  have hS0 : w1.drew.cell? ⟨w.heap.size, 0, none⟩ = some (.int .u64 (x : Nat)) ∧ w1.drew.cell? ⟨w.heap.size, 1, none⟩ = some (.int .i64 (n : Nat)) := ⟨c0a, c1a⟩
  go_region_held3 (fun W => W.cell? ⟨w.heap.size, 0, none⟩ = some (.int .u64 (x : Nat)) ∧ W.cell? ⟨w.heap.size, 1, none⟩ = some (.int .i64 (n : Nat))) (first | (with_reducible assumption) | (with_reducible exact at2_one hS1 (by omega) _ _) | (with_reducible exact at2_two hS1 (by omega) (by omega) _ _ _ _)) ((go_at_call 90; with_reducible refine (T2.out _).mono ?_; rintro e w2 ⟨rfl, hw⟩; obtain rfl := hw.symm))
  clear hS0 hS1
  go_wp2
  rw [HE1.out]
  exact bodyPost_ret (v := .tuple #[.agg #[.int .u64 0, .int .i64 0], .agg #[.int .u64 ((x : Nat) : Int), .int .i64 (n : Nat)]]) (by simp [results, Tryd.results80, go_sem, c0r, c1r, c0s, c1s]) rfl ⟨rfl, below_drewN ((((HB.out.setCell (by simp <;> omega) _).setCell (by simp <;> omega) _).setCell (by simp <;> omega) _).setCell (by simp <;> omega) _) 1⟩

set_option maxHeartbeats 4000000 in
theorem split_over {x n : Nat} {i : Int} (hx : x < 2 ^ n) (hn : n ≤ 64) (hi : (n : Int) < i) (w : World) :
    Calls Tryd.prog 80 #[.agg #[.int .u64 ((x : Nat) : Int), .int .i64 (n : Nat)], .int .i64 i] w fun e w' => e = .returned (.tuple #[.agg #[.int .u64 ((x : Nat) : Int), .int .i64 (n : Nat)], .agg #[.int .u64 0, .int .i64 0]]) ∧ Below w.heap.size w w' := by
  have hp := pow_le64 hn
  have T1 : Hid (∀ W, _) := fun W => right_any x (by omega) (n : Nat) W
  rw [right_of hn hx] at T1
  have T2 : Hid (∀ W, _) := fun W => lowest_any n hn W
  obtain ⟨e1, e2, -, -⟩ := split_word hx hn (Nat.le_refl n)
  rw [Nat.mod_eq_of_lt hx] at e1
  rw [Nat.div_eq_of_lt hx] at e2
  have HE1 : Hid (_ = _) := e1
  have HE2 : Hid ((x : Int) / 2 ^ n = 0) := e2
  clear e1 e2
  have hs0 : (0 : Int) ≤ (n : Int) := by omega
  have hs1 : (n : Int) ≤ 64 := by omega
  have hs2 : (0 : Int) < i := by omega
  have hw0 : IntKind.i64.wrap 0 = 0 := by rw [IntKind.wrap_i64]; omega
  go_enter Tryd.func80, Tryd.ntmps80
  go_wp2_with (go_at_call 79; fail)
  refine (T1.out _).mono ?_
  rintro e w1 ⟨rfl, hb⟩
  have hB : Below w.heap.size w w1 := ((((Below.refl w.heap.size w).alloc (by first | omega | (simp <;> omega)) _).alloc (by first | omega | (simp <;> omega)) _).alloc (by first | omega | (simp <;> omega)) _).trans (hb.mono (by simp <;> omega))
  have la : LB w1 (w.heap.size) (x) ((n : Nat)) := (((LB.new (by simp) (x) ((n : Nat))).alloc _).alloc _).later hb
  have lr : LB w1 (w.heap.size + 1) (0) (0) := ((LB.new (by simp) (0) (0)).alloc _).later hb
  have ls : LB w1 (w.heap.size + 1 + 1) (0) (0) := (LB.new (by simp) (0) (0)).later hb
  clear hb
  have La : Hid (LB _ _ _ _) := la
  have Lr : Hid (LB _ _ _ _) := lr
  have Ls : Hid (LB _ _ _ _) := ls
  have HB : Hid (Below _ _ _) := hB
  clear hB la lr ls
  have c0a : w1.cell? ⟨w.heap.size, 0, none⟩ = some (.int .u64 ((x : Nat) : Int)) := La.out.c0
  have c1a : w1.cell? ⟨w.heap.size, 1, none⟩ = some (.int .i64 ((n : Nat))) := La.out.c1
  have t0a := La.out.lt
  have c0r : w1.cell? ⟨w.heap.size + 1, 0, none⟩ = some (.int .u64 0) := Lr.out.c0
  have c1r : w1.cell? ⟨w.heap.size + 1, 1, none⟩ = some (.int .i64 (0)) := Lr.out.c1
  have t0r := Lr.out.lt
  have c0s : w1.cell? ⟨w.heap.size + 1 + 1, 0, none⟩ = some (.int .u64 0) := Ls.out.c0
  have c1s : w1.cell? ⟨w.heap.size + 1 + 1, 1, none⟩ = some (.int .i64 (0)) := Ls.out.c1
  have t0s := Ls.out.lt
  have f0r := Lr.out.f 0
  have f1r := Lr.out.f 1
  have f0s := Ls.out.f 0
  have f1s := Ls.out.f 1
  go_wp2
  have hS1 : w1.cell? ⟨w.heap.size, 0, none⟩ = some (.int .u64 (x : Nat)) ∧ w1.cell? ⟨w.heap.size, 1, none⟩ = some (.int .i64 (n : Nat)) := ⟨c0a, c1a⟩
  have hS0 : w1.drew.cell? ⟨w.heap.size, 0, none⟩ = some (.int .u64 (x : Nat)) ∧ w1.drew.cell? ⟨w.heap.size, 1, none⟩ = some (.int .i64 (n : Nat)) := ⟨c0a, c1a⟩
  go_region_held3 (fun W => W.cell? ⟨w.heap.size, 0, none⟩ = some (.int .u64 (x : Nat)) ∧ W.cell? ⟨w.heap.size, 1, none⟩ = some (.int .i64 (n : Nat))) (first | (with_reducible assumption) | (with_reducible exact at2_one hS1 (by omega) _ _) | (with_reducible exact at2_two hS1 (by omega) (by omega) _ _ _ _)) ((go_at_call 90; with_reducible refine (T2.out _).mono ?_; rintro e w2 ⟨rfl, hw⟩; obtain rfl := hw.symm))
  clear hS0 hS1
  go_wp2
  rw [HE1.out, HE2.out]
  exact bodyPost_ret (v := .tuple #[.agg #[.int .u64 ((x : Nat) : Int), .int .i64 (n : Nat)], .agg #[.int .u64 0, .int .i64 0]]) (by simp [results, Tryd.results80, go_sem, c0r, c1r, c0s, c1s]) rfl ⟨rfl, below_drewN ((((HB.out.setCell (by simp <;> omega) _).setCell (by simp <;> omega) _).setCell (by simp <;> omega) _).setCell (by simp <;> omega) _) 1⟩

set_option maxHeartbeats 4000000 in
theorem split_no {x : Nat} {n i : Int} (hx : x < 18446744073709551616) (h : rightB x n = false) (w : World) :
    Calls Tryd.prog 80 #[.agg #[.int .u64 ((x : Nat) : Int), .int .i64 n], .int .i64 i] w fun e w' => e = .returned (.tuple #[.agg #[.int .u64 0, .int .i64 0], .agg #[.int .u64 0, .int .i64 0]]) ∧ Below w.heap.size w w' := by
  have T1 : Hid (∀ W, _) := fun W => right_any x hx n W
  rw [h] at T1
  go_enter Tryd.func80, Tryd.ntmps80
  go_wp2_with (go_at_call 79; fail)
  refine (T1.out _).mono ?_
  rintro e w1 ⟨rfl, hb⟩
  have hB : Below w.heap.size w w1 := ((((Below.refl w.heap.size w).alloc (by first | omega | (simp <;> omega)) _).alloc (by first | omega | (simp <;> omega)) _).alloc (by first | omega | (simp <;> omega)) _).trans (hb.mono (by simp <;> omega))
  have la : LB w1 (w.heap.size) (x) (n) := (((LB.new (by simp) (x) (n)).alloc _).alloc _).later hb
  have lr : LB w1 (w.heap.size + 1) (0) (0) := ((LB.new (by simp) (0) (0)).alloc _).later hb
  have ls : LB w1 (w.heap.size + 1 + 1) (0) (0) := (LB.new (by simp) (0) (0)).later hb
  clear hb
  have La : Hid (LB _ _ _ _) := la
  have Lr : Hid (LB _ _ _ _) := lr
  have Ls : Hid (LB _ _ _ _) := ls
  have HB : Hid (Below _ _ _) := hB
  clear hB la lr ls
  have c0r : w1.cell? ⟨w.heap.size + 1, 0, none⟩ = some (.int .u64 0) := Lr.out.c0
  have c1r : w1.cell? ⟨w.heap.size + 1, 1, none⟩ = some (.int .i64 (0)) := Lr.out.c1
  have t0r := Lr.out.lt
  have c0s : w1.cell? ⟨w.heap.size + 1 + 1, 0, none⟩ = some (.int .u64 0) := Ls.out.c0
  have c1s : w1.cell? ⟨w.heap.size + 1 + 1, 1, none⟩ = some (.int .i64 (0)) := Ls.out.c1
  have t0s := Ls.out.lt
  have f0r := Lr.out.f 0
  have f1r := Lr.out.f 1
  have f0s := Ls.out.f 0
  have f1s := Ls.out.f 1
  go_wp2
  exact bodyPost_ret (v := .tuple #[.agg #[.int .u64 0, .int .i64 0], .agg #[.int .u64 0, .int .i64 0]]) (by simp [results, Tryd.results80, go_sem, c0r, c1r, c0s, c1s]) rfl ⟨rfl, (((HB.out.setCell (by simp <;> omega) _).setCell (by simp <;> omega) _).setCell (by simp <;> omega) _).setCell (by simp <;> omega) _⟩

set_option maxHeartbeats 4000000 in
theorem split_in {x n c : Nat} (hx : x < 2 ^ n) (hn : n ≤ 64) (hc : c ≤ n) (w : World) :
    Calls Tryd.prog 80 #[.agg #[.int .u64 ((x : Nat) : Int), .int .i64 (n : Nat)], .int .i64 (c : Nat)] w fun e w' => e = .returned (.tuple #[.agg #[.int .u64 ((x % 2 ^ c : Nat) : Int), .int .i64 (c : Nat)], .agg #[.int .u64 ((x / 2 ^ c : Nat) : Int), .int .i64 ((n - c : Nat) : Int)]]) ∧ Below w.heap.size w w' := by
  have hp := pow_le64 hn
  have T1 : Hid (∀ W, _) := fun W => right_any x (by omega) (n : Nat) W
  rw [right_of hn hx] at T1
  have T2 : Hid (∀ W, _) := fun W => lowest_any c (by omega) W
  obtain ⟨e1, e2, -, -⟩ := split_word hx hn hc
  have HE1 : Hid (_ = _) := e1
  have HE2 : Hid (_ = _) := e2
  have HE3 : Hid ((n : Int) - (c : Int) = ((n - c : Nat) : Int)) := by show (n : Int) - (c : Int) = ((n - c : Nat) : Int); omega
  clear e1 e2
  have hs0 : (0 : Int) ≤ (c : Int) := by omega
  have hs1 : (c : Int) ≤ 64 := by omega
  have hw0 : IntKind.i64.wrap ((n : Int) - (c : Int)) = (n : Int) - (c : Int) := by rw [IntKind.wrap_i64]; omega
  go_enter Tryd.func80, Tryd.ntmps80
  go_wp2_with (go_at_call 79; fail)
  refine (T1.out _).mono ?_
  rintro e w1 ⟨rfl, hb⟩
  have hB : Below w.heap.size w w1 := ((((Below.refl w.heap.size w).alloc (by first | omega | (simp <;> omega)) _).alloc (by first | omega | (simp <;> omega)) _).alloc (by first | omega | (simp <;> omega)) _).trans (hb.mono (by simp <;> omega))
  have la : LB w1 (w.heap.size) (x) ((n : Nat)) := (((LB.new (by simp) (x) ((n : Nat))).alloc _).alloc _).later hb
  have lr : LB w1 (w.heap.size + 1) (0) (0) := ((LB.new (by simp) (0) (0)).alloc _).later hb
  have ls : LB w1 (w.heap.size + 1 + 1) (0) (0) := (LB.new (by simp) (0) (0)).later hb
  clear hb
  have La : Hid (LB _ _ _ _) := la
  have Lr : Hid (LB _ _ _ _) := lr
  have Ls : Hid (LB _ _ _ _) := ls
  have HB : Hid (Below _ _ _) := hB
  clear hB la lr ls
  have c0a : w1.cell? ⟨w.heap.size, 0, none⟩ = some (.int .u64 ((x : Nat) : Int)) := La.out.c0
  have c1a : w1.cell? ⟨w.heap.size, 1, none⟩ = some (.int .i64 ((n : Nat))) := La.out.c1
  have t0a := La.out.lt
  have c0r : w1.cell? ⟨w.heap.size + 1, 0, none⟩ = some (.int .u64 0) := Lr.out.c0
  have c1r : w1.cell? ⟨w.heap.size + 1, 1, none⟩ = some (.int .i64 (0)) := Lr.out.c1
  have t0r := Lr.out.lt
  have c0s : w1.cell? ⟨w.heap.size + 1 + 1, 0, none⟩ = some (.int .u64 0) := Ls.out.c0
  have c1s : w1.cell? ⟨w.heap.size + 1 + 1, 1, none⟩ = some (.int .i64 (0)) := Ls.out.c1
  have t0s := Ls.out.lt
  have f0r := Lr.out.f 0
  have f1r := Lr.out.f 1
  have f0s := Ls.out.f 0
  have f1s := Ls.out.f 1
  go_wp2
  have hS1 : w1.cell? ⟨w.heap.size, 0, none⟩ = some (.int .u64 (x : Nat)) ∧ w1.cell? ⟨w.heap.size, 1, none⟩ = some (.int .i64 (n : Nat)) := ⟨c0a, c1a⟩
  have hS0 : w1.drew.cell? ⟨w.heap.size, 0, none⟩ = some (.int .u64 (x : Nat)) ∧ w1.drew.cell? ⟨w.heap.size, 1, none⟩ = some (.int .i64 (n : Nat)) := ⟨c0a, c1a⟩
  go_region_held3 (fun W => W.cell? ⟨w.heap.size, 0, none⟩ = some (.int .u64 (x : Nat)) ∧ W.cell? ⟨w.heap.size, 1, none⟩ = some (.int .i64 (n : Nat))) (first | (with_reducible assumption) | (with_reducible exact at2_one hS1 (by omega) _ _) | (with_reducible exact at2_two hS1 (by omega) (by omega) _ _ _ _)) ((go_at_call 90; with_reducible refine (T2.out _).mono ?_; rintro e w2 ⟨rfl, hw⟩; obtain rfl := hw.symm))
  clear hS0 hS1
  go_wp2
  rw [HE1.out, HE2.out, HE3.out]
  exact bodyPost_ret (v := .tuple #[.agg #[.int .u64 ((x % 2 ^ c : Nat) : Int), .int .i64 (c : Nat)], .agg #[.int .u64 ((x / 2 ^ c : Nat) : Int), .int .i64 ((n - c : Nat) : Int)]]) (by simp [results, Tryd.results80, go_sem, c0r, c1r, c0s, c1s]) rfl ⟨rfl, below_drewN ((((HB.out.setCell (by simp <;> omega) _).setCell (by simp <;> omega) _).setCell (by simp <;> omega) _).setCell (by simp <;> omega) _) 1⟩

end Go.Proofs.YtfkfnibeipddaabDoor

namespace Go.Proofs.YtfkfnibeipddaabDoor
open Go.RowKit

/-- the place, as it is taken -/
def clampN (i : Int) (n : Nat) : Nat := if i < 0 then 0 else if (n : Int) < i then n else i.toNat

theorem clampN_le (i : Int) (n : Nat) : clampN i n ≤ n := by
  unfold clampN
  split
  · omega
  · split <;> omega

theorem clampN_in {c n : Nat} (h : c ≤ n) : clampN (c : Int) n = c := by
  unfold clampN
  rw [if_neg (by omega), if_neg (by omega)]
  rfl

theorem split_any {x n : Nat} (hx : x < 2 ^ n) (hn : n ≤ 64) (i : Int) (w : World) :
    Calls Tryd.prog 80 #[.agg #[.int .u64 ((x : Nat) : Int), .int .i64 (n : Nat)], .int .i64 i] w fun e w' => e = .returned (.tuple #[.agg #[.int .u64 ((x % 2 ^ clampN i n : Nat) : Int), .int .i64 (clampN i n : Nat)], .agg #[.int .u64 ((x / 2 ^ clampN i n : Nat) : Int), .int .i64 ((n - clampN i n : Nat) : Int)]]) ∧ Below w.heap.size w w' := by
  unfold clampN
  by_cases h0 : i < 0
  · rw [if_pos h0]
    have h := split_neg hx hn h0 w
    simpa [Nat.mod_one] using h
  · rw [if_neg h0]
    by_cases h1 : (n : Int) < i
    · rw [if_pos h1]
      have h := split_over hx hn h1 w
      simpa [Nat.mod_eq_of_lt hx, Nat.div_eq_of_lt hx] using h
    · rw [if_neg h1]
      obtain ⟨c, rfl⟩ : ∃ c : Nat, i = c := ⟨i.toNat, by omega⟩
      exact split_in hx hn (by omega) w

set_option maxHeartbeats 4000000 in
theorem rank_yes {x n : Nat} (hx : x < 2 ^ n) (hn : n ≤ 64) (i : Int) (w : World) :
    Calls Tryd.prog 55 #[.agg #[.int .u64 ((x : Nat) : Int), .int .i64 (n : Nat)], .int .i64 i] w fun e w' => e = .returned (.int .i64 ((popN (clampN i n) x : Nat) : Int)) ∧ Below w.heap.size w w' := by
  have T1 : Hid (∀ W, _) := fun W => split_any hx hn i W
  have hc := clampN_le i n
  generalize clampN i n = c at *
  have T2 : Hid (∀ W, _) := fun W => ones_any (x % 2 ^ c) (Nat.lt_of_lt_of_le (Nat.mod_lt _ (Nat.two_pow_pos c)) (pow_le64 (by omega))) W
  rw [popN_mod x (by omega)] at T2
  generalize x % 2 ^ c = X at *
  generalize x / 2 ^ c = Y at *
  go_enter Tryd.func55, Tryd.ntmps55
  go_wp2_with (go_at_call 80; fail)
  refine (T1.out _).mono ?_
  rintro e w1 ⟨rfl, hb⟩
  have hB : Below w.heap.size w w1 := ((Below.refl w.heap.size w).alloc (by first | omega | (simp <;> omega)) _).trans (hb.mono (by simp <;> omega))
  have la : LB w1 (w.heap.size) (x) ((n : Nat)) := (LB.new (by simp) (x) ((n : Nat))).later hb
  clear hb
  have La : Hid (LB _ _ _ _) := la
  have HB : Hid (Below _ _ _) := hB
  clear hB la
  go_wp2_with (go_at_call 89; refine (T2.out _).mono ?_; rintro e w2 ⟨rfl, hw⟩; obtain rfl := hw.symm)
  go_ret
  have hsz := HB.out.size
  exact ⟨rfl, (HB.out.alloc (by first | omega | (simp <;> omega)) _).alloc (by first | omega | (simp <;> omega)) _⟩

set_option maxHeartbeats 4000000 in
theorem rank_no {x : Nat} {n i : Int} (hx : x < 18446744073709551616) (h : rightB x n = false) (w : World) :
    Calls Tryd.prog 55 #[.agg #[.int .u64 ((x : Nat) : Int), .int .i64 n], .int .i64 i] w fun e w' => e = .returned (.int .i64 0) ∧ Below w.heap.size w w' := by
  have T1 : Hid (∀ W, _) := fun W => split_no (i := i) hx h W
  have T2 : Hid (∀ W, Calls Tryd.prog 89 #[.int .u64 0] W fun e w' => e = .returned (.int .i64 0) ∧ w' = W) := fun W => ones_any 0 (by omega) W
  go_enter Tryd.func55, Tryd.ntmps55
  go_wp2_with (go_at_call 80; fail)
  refine (T1.out _).mono ?_
  rintro e w1 ⟨rfl, hb⟩
  have hB : Below w.heap.size w w1 := ((Below.refl w.heap.size w).alloc (by first | omega | (simp <;> omega)) _).trans (hb.mono (by simp <;> omega))
  have la : LB w1 (w.heap.size) (x) (n) := (LB.new (by simp) (x) (n)).later hb
  clear hb
  have La : Hid (LB _ _ _ _) := la
  have HB : Hid (Below _ _ _) := hB
  clear hB la
  go_wp2_with (go_at_call 89; refine (T2.out _).mono ?_; rintro e w2 ⟨rfl, hw⟩; obtain rfl := hw.symm)
  go_ret
  have hsz := HB.out.size
  exact ⟨rfl, (HB.out.alloc (by first | omega | (simp <;> omega)) _).alloc (by first | omega | (simp <;> omega)) _⟩

set_option maxHeartbeats 4000000 in
theorem delete_no {x : Nat} {n i : Int} (hx : x < 18446744073709551616) (h : hasB x n i = false) (w : World) :
    Calls Tryd.prog 50 #[.agg #[.int .u64 ((x : Nat) : Int), .int .i64 n], .int .i64 i] w fun e w' => e = .returned (.tuple #[.agg #[.int .u64 0, .int .i64 0], .bool false]) ∧ Below w.heap.size w w' := by
  have T1 : Hid (∀ W, _) := fun W => lhas_any x hx n i W
  rw [h] at T1
  go_enter Tryd.func50, Tryd.ntmps50
  go_wp2_with (go_at_call 78; fail)
  refine (T1.out _).mono ?_
  rintro e w1 ⟨rfl, hb⟩
  have hB : Below w.heap.size w w1 := (((Below.refl w.heap.size w).alloc (by first | omega | (simp <;> omega)) _).alloc (by first | omega | (simp <;> omega)) _).trans (hb.mono (by simp <;> omega))
  have la : LB w1 (w.heap.size) (x) (n) := ((LB.new (by simp) (x) (n)).alloc _).later hb
  have lr : LB w1 (w.heap.size + 1) (0) (0) := (LB.new (by simp) (0) (0)).later hb
  clear hb
  have La : Hid (LB _ _ _ _) := la
  have Lr : Hid (LB _ _ _ _) := lr
  have HB : Hid (Below _ _ _) := hB
  clear hB la lr
  have c0r : w1.cell? ⟨w.heap.size + 1, 0, none⟩ = some (.int .u64 0) := Lr.out.c0
  have c1r : w1.cell? ⟨w.heap.size + 1, 1, none⟩ = some (.int .i64 (0)) := Lr.out.c1
  have t0r := Lr.out.lt
  have f0r := Lr.out.f 0
  have f1r := Lr.out.f 1
  go_wp2
  exact bodyPost_ret (v := .tuple #[.agg #[.int .u64 0, .int .i64 0], .bool false]) (by simp [results, Tryd.results50, go_sem, c0r, c1r]) rfl ⟨rfl, (HB.out.setCell (by first | omega | (simp <;> omega)) _).setCell (by first | omega | (simp <;> omega)) _⟩

/-- without the j-th -/
def delN (x j : Nat) : Nat := x % 2 ^ j ||| x / 2 ^ (j + 1) * 2 ^ j

theorem has_of {x k j : Nat} (hk : k ≤ 64) (h : x < 2 ^ k) (hj : j < k) : hasB x (k : Nat) (j : Nat) = true := by
  unfold hasB
  rw [right_of hk h]
  simp [hj]

set_option maxHeartbeats 4000000 in
theorem delete_yes {x n j : Nat} (hx : x < 2 ^ n) (hn : n ≤ 64) (hj : j < n) (w : World) :
    Calls Tryd.prog 50 #[.agg #[.int .u64 ((x : Nat) : Int), .int .i64 (n : Nat)], .int .i64 (j : Nat)] w fun e w' => e = .returned (.tuple #[.agg #[.int .u64 ((delN x j : Nat) : Int), .int .i64 ((n - 1 : Nat) : Int)], .bool true]) ∧ Below w.heap.size w w' := by
  have hp := pow_le64 hn
  have T1 : Hid (∀ W, _) := fun W => lhas_any x (by omega) (n : Nat) (j : Nat) W
  rw [has_of hn hx hj] at T1
  have T2 : Hid (∀ W, _) := fun W => split_in hx hn (Nat.le_of_lt hj) W
  have T3 : Hid (∀ W, _) := fun W => split_in (c := j + 1) hx hn hj W
  rw [show ((j + 1 : Nat) : Int) = (j : Int) + 1 by omega] at T3
  obtain ⟨-, -, h1, -⟩ := split_word hx hn (Nat.le_of_lt hj)
  obtain ⟨-, -, -, h2⟩ := split_word hx hn hj
  have T4 : Hid (∀ W, _) := fun W => join_yes h1 h2 (by omega) W
  rw [show j + (n - (j + 1)) = n - 1 by omega] at T4
  unfold delN
  generalize (x % 2 ^ j ||| x / 2 ^ (j + 1) * 2 ^ j) = D at *
  generalize x % 2 ^ j = P at *
  generalize x / 2 ^ j = Q at *
  generalize x % 2 ^ (j + 1) = U at *
  generalize x / 2 ^ (j + 1) = V at *
  clear h1 h2 hp
  go_enter Tryd.func50, Tryd.ntmps50
  go_wp2_with (go_at_call 78; fail)
  refine (T1.out _).mono ?_
  rintro e w1 ⟨rfl, hb⟩
  have hB : Below w.heap.size w w1 := (((Below.refl w.heap.size w).alloc (by first | omega | (simp <;> omega)) _).alloc (by first | omega | (simp <;> omega)) _).trans (hb.mono (by simp <;> omega))
  have la : LB w1 (w.heap.size) (x) ((n : Nat)) := ((LB.new (by simp) (x) ((n : Nat))).alloc _).later hb
  have lr : LB w1 (w.heap.size + 1) (0) (0) := (LB.new (by simp) (0) (0)).later hb
  clear hb
  have La : Hid (LB _ _ _ _) := la
  have Lr : Hid (LB _ _ _ _) := lr
  have HB : Hid (Below _ _ _) := hB
  clear hB la lr
  have c0a : w1.cell? ⟨w.heap.size, 0, none⟩ = some (.int .u64 ((x : Nat) : Int)) := La.out.c0
  have c1a : w1.cell? ⟨w.heap.size, 1, none⟩ = some (.int .i64 ((n : Nat))) := La.out.c1
  have t0a := La.out.lt
  go_wp2_with (go_at_call 80; fail)
  refine (T2.out _).mono ?_
  rintro e w2 ⟨rfl, hb⟩
  clear c0a c1a t0a
  have hsz := HB.out.size
  have hB : Below w.heap.size w w2 := HB.out.trans (hb.mono (by skip <;> omega))
  have la : LB w2 (w.heap.size) (x) ((n : Nat)) := La.out.later hb
  have lr : LB w2 (w.heap.size + 1) (0) (0) := Lr.out.later hb
  clear hb hsz La Lr HB
  have La : Hid (LB _ _ _ _) := la
  have Lr : Hid (LB _ _ _ _) := lr
  have HB : Hid (Below _ _ _) := hB
  clear hB la lr
  have c0a : w2.cell? ⟨w.heap.size, 0, none⟩ = some (.int .u64 ((x : Nat) : Int)) := La.out.c0
  have c1a : w2.cell? ⟨w.heap.size, 1, none⟩ = some (.int .i64 ((n : Nat))) := La.out.c1
  have t0a := La.out.lt
  go_wp2_with (go_at_call 80; fail)
  refine (T3.out _).mono ?_
  rintro e w3 ⟨rfl, hb⟩
  clear c0a c1a t0a
  have hsz := HB.out.size
  have hB : Below w.heap.size w w3 := ((HB.out.alloc (by first | omega | (simp <;> omega)) _).alloc (by first | omega | (simp <;> omega)) _).trans (hb.mono (by simp <;> omega))
  have la : LB w3 (w.heap.size) (x) ((n : Nat)) := ((La.out.alloc _).alloc _).later hb
  have lr : LB w3 (w.heap.size + 1) (0) (0) := ((Lr.out.alloc _).alloc _).later hb
  have lp : LB w3 (w2.heap.size) (P) ((j : Nat)) := ((LB.new (by simp) (P) ((j : Nat))).alloc _).later hb
  have lq : LB w3 (w2.heap.size + 1) (Q) (((n - j : Nat) : Int)) := (LB.new (by simp) (Q) (((n - j : Nat) : Int))).later hb
  clear hb hsz La Lr HB
  have La : Hid (LB _ _ _ _) := la
  have Lr : Hid (LB _ _ _ _) := lr
  have Lp : Hid (LB _ _ _ _) := lp
  have Lq : Hid (LB _ _ _ _) := lq
  have HB : Hid (Below _ _ _) := hB
  clear hB la lr lp lq
  have c0p : w3.cell? ⟨w2.heap.size, 0, none⟩ = some (.int .u64 ((P : Nat) : Int)) := Lp.out.c0
  have c1p : w3.cell? ⟨w2.heap.size, 1, none⟩ = some (.int .i64 ((j : Nat))) := Lp.out.c1
  have t0p := Lp.out.lt
  go_wp2_with (go_at_call 81; fail)
  refine (T4.out _).mono ?_
  rintro e w4 ⟨rfl, hb⟩
  clear c0p c1p t0p
  have hsz := HB.out.size
  have hB : Below w.heap.size w w4 := ((HB.out.alloc (by first | omega | (simp <;> omega)) _).alloc (by first | omega | (simp <;> omega)) _).trans (hb.mono (by simp <;> omega))
  have la : LB w4 (w.heap.size) (x) ((n : Nat)) := ((La.out.alloc _).alloc _).later hb
  have lr : LB w4 (w.heap.size + 1) (0) (0) := ((Lr.out.alloc _).alloc _).later hb
  have lp : LB w4 (w2.heap.size) (P) ((j : Nat)) := ((Lp.out.alloc _).alloc _).later hb
  have lq : LB w4 (w2.heap.size + 1) (Q) (((n - j : Nat) : Int)) := ((Lq.out.alloc _).alloc _).later hb
  have ls : LB w4 (w3.heap.size) (U) (((j : Int) + 1)) := ((LB.new (by simp) (U) (((j : Int) + 1))).alloc _).later hb
  have lt : LB w4 (w3.heap.size + 1) (V) (((n - (j + 1) : Nat) : Int)) := (LB.new (by simp) (V) (((n - (j + 1) : Nat) : Int))).later hb
  clear hb hsz La Lr Lp Lq HB
  have La : Hid (LB _ _ _ _) := la
  have Lr : Hid (LB _ _ _ _) := lr
  have Lp : Hid (LB _ _ _ _) := lp
  have Lq : Hid (LB _ _ _ _) := lq
  have Ls : Hid (LB _ _ _ _) := ls
  have Lt : Hid (LB _ _ _ _) := lt
  have HB : Hid (Below _ _ _) := hB
  clear hB la lr lp lq ls lt
  have c0r : w4.cell? ⟨w.heap.size + 1, 0, none⟩ = some (.int .u64 0) := Lr.out.c0
  have c1r : w4.cell? ⟨w.heap.size + 1, 1, none⟩ = some (.int .i64 (0)) := Lr.out.c1
  have t0r := Lr.out.lt
  have f0r := Lr.out.f 0
  have f1r := Lr.out.f 1
  go_wp2
  exact bodyPost_ret (v := .tuple #[.agg #[.int .u64 ((D : Nat) : Int), .int .i64 ((n - 1 : Nat) : Int)], .bool true]) (by simp [results, Tryd.results50, go_sem, c0r, c1r]) rfl ⟨rfl, (HB.out.setCell (by first | omega | (simp <;> omega)) _).setCell (by first | omega | (simp <;> omega)) _⟩

end Go.Proofs.YtfkfnibeipddaabDoor

namespace Go.Proofs.YtfkfnibeipddaabDoor
open Go.RowKit

/-- three boxes, and all that was there -/
structure InR (w : World) (gp gq gr P Q : Nat) (j m : Int) (W : World) : Prop where
  p : LB W gp P j
  q : LB W gq Q m
  r : LB W gr 0 0
  b : Below w.heap.size w W

theorem InR.later {w W W' : World} {gp gq gr P Q : Nat} {j m : Int} (h : InR w gp gq gr P Q j m W) (hb : Below W.heap.size W W') : InR w gp gq gr P Q j m W' :=
  ⟨h.p.later hb, h.q.later hb, h.r.later hb, h.b.trans (hb.mono h.b.size)⟩

theorem InR.alloc {w W : World} {gp gq gr P Q : Nat} {j m : Int} (h : InR w gp gq gr P Q j m W) (o : Obj) : InR w gp gq gr P Q j m (W.alloc o) :=
  ⟨h.p.alloc o, h.q.alloc o, h.r.alloc o, h.b.alloc h.b.size o⟩

theorem InR.drew {w W : World} {gp gq gr P Q : Nat} {j m : Int} (h : InR w gp gq gr P Q j m W) : InR w gp gq gr P Q j m W.drew :=
  ⟨⟨h.p.blk⟩, ⟨h.q.blk⟩, ⟨h.r.blk⟩, below_drewN h.b 1⟩

theorem InR.both {w W : World} {gp gq gr P Q : Nat} {j m : Int} (h : InR w gp gq gr P Q j m W) : (W.cell? ⟨gp, 0, none⟩ = some (.int .u64 (P : Nat)) ∧ W.cell? ⟨gp, 1, none⟩ = some (.int .i64 j)) ∧ InR w gp gq gr P Q j m W := ⟨⟨h.p.c0, h.p.c1⟩, h⟩

theorem InR.call {w W : World} {gp gq gr P Q : Nat} {j m : Int} {f : FuncId} {args : Array Value} {v : Value} (hS : (W.cell? ⟨gp, 0, none⟩ = some (.int .u64 (P : Nat)) ∧ W.cell? ⟨gp, 1, none⟩ = some (.int .i64 j)) ∧ InR w gp gq gr P Q j m W) (t : Calls Tryd.prog f args W fun e w' => e = .returned v ∧ Below W.heap.size W w') :
    Calls Tryd.prog f args W fun e w' => e = .returned v ∧ ((w'.cell? ⟨gp, 0, none⟩ = some (.int .u64 (P : Nat)) ∧ w'.cell? ⟨gp, 1, none⟩ = some (.int .i64 j)) ∧ InR w gp gq gr P Q j m w') :=
  t.mono fun _ _ ⟨h1, h2⟩ => ⟨h1, (hS.2.later h2).both⟩

theorem LB.newz {w : World} {g : Nat} (hg : g = w.heap.size) : LB (w.alloc (.cells #[.int .u64 0, .int .i64 0] 69)) g 0 0 := LB.new hg 0 0

theorem LB.drew {w : World} {g x : Nat} {n : Int} (h : LB w g x n) : LB w.drew g x n := ⟨h.blk⟩

theorem InR.offs {w W : World} {gp gq gr P Q g : Nat} {j m : Int} (h : InR w gp gq gr P Q j m W) (h1 : gp ≠ g) (h2 : gq ≠ g) (h3 : gr ≠ g) (h4 : w.heap.size ≤ g) (u v : Value) : InR w gp gq gr P Q j m ((W.setCell ⟨g, 0, none⟩ u).setCell ⟨g, 1, none⟩ v) :=
  ⟨(h.p.off h1 u).off h1 v, (h.q.off h2 u).off h2 v, (h.r.off h3 u).off h3 v, (h.b.setCell h4 u).setCell h4 v⟩

/-- one more, ahead of the j-th -/
def insN (x j : Nat) (b : Bool) : Nat := (x % 2 ^ j ||| oneN b * 2 ^ j) ||| x / 2 ^ j * 2 ^ (j + 1)

set_option maxHeartbeats 4000000 in
theorem insert_no1 {x : Nat} {n i : Int} {b : Bool} (hx : x < 18446744073709551616) (h : rightB x n = false) (w : World) :
    Calls Tryd.prog 46 #[.agg #[.int .u64 ((x : Nat) : Int), .int .i64 n], .int .i64 i, .bool b] w fun e w' => e = .returned (.tuple #[.agg #[.int .u64 0, .int .i64 0], .bool false]) ∧ Below w.heap.size w w' := by
  have T1 : Hid (∀ W, _) := fun W => right_any x hx n W
  rw [h] at T1
  go_enter Tryd.func46, Tryd.ntmps46
  go_wp2_with (go_at_call 79; fail)
  refine (T1.out _).mono ?_
  rintro e w1 ⟨rfl, hb⟩
  have hB : Below w.heap.size w w1 := (((Below.refl w.heap.size w).alloc (by first | omega | (simp <;> omega)) _).alloc (by first | omega | (simp <;> omega)) _).trans (hb.mono (by simp <;> omega))
  have la : LB w1 (w.heap.size) (x) (n) := ((LB.new (by simp) (x) (n)).alloc _).later hb
  have lr : LB w1 (w.heap.size + 1) (0) (0) := (LB.new (by simp) (0) (0)).later hb
  clear hb
  have La : Hid (LB _ _ _ _) := la
  have Lr : Hid (LB _ _ _ _) := lr
  have HB : Hid (Below _ _ _) := hB
  clear hB la lr
  have c0a : w1.cell? ⟨w.heap.size, 0, none⟩ = some (.int .u64 ((x : Nat) : Int)) := La.out.c0
  have c1a : w1.cell? ⟨w.heap.size, 1, none⟩ = some (.int .i64 (n)) := La.out.c1
  have t0a := La.out.lt
  have c0r : w1.cell? ⟨w.heap.size + 1, 0, none⟩ = some (.int .u64 0) := Lr.out.c0
  have c1r : w1.cell? ⟨w.heap.size + 1, 1, none⟩ = some (.int .i64 (0)) := Lr.out.c1
  have t0r := Lr.out.lt
  have f0r := Lr.out.f 0
  have f1r := Lr.out.f 1
  go_wp2
  exact bodyPost_ret (v := .tuple #[.agg #[.int .u64 0, .int .i64 0], .bool false]) (by simp [results, Tryd.results46, go_sem, c0r, c1r]) rfl ⟨rfl, (HB.out.setCell (by first | omega | (simp <;> omega)) _).setCell (by first | omega | (simp <;> omega)) _⟩

set_option maxHeartbeats 4000000 in
theorem insert_no2 {x : Nat} {i : Int} {b : Bool} (hx : x < 2 ^ 64) (w : World) :
    Calls Tryd.prog 46 #[.agg #[.int .u64 ((x : Nat) : Int), .int .i64 64], .int .i64 i, .bool b] w fun e w' => e = .returned (.tuple #[.agg #[.int .u64 0, .int .i64 0], .bool false]) ∧ Below w.heap.size w w' := by
  have T1 : Hid (∀ W, Calls Tryd.prog 79 #[.agg #[.int .u64 (x : Nat), .int .i64 64]] W fun e w' => e = .returned (.bool true) ∧ Below W.heap.size W w') := fun W => by
    have h := right_any x (by simpa using hx) ((64 : Nat) : Int) W
    rw [right_of (Nat.le_refl 64) hx] at h
    exact h
  go_enter Tryd.func46, Tryd.ntmps46
  go_wp2_with (go_at_call 79; fail)
  refine (T1.out _).mono ?_
  rintro e w1 ⟨rfl, hb⟩
  have hB : Below w.heap.size w w1 := (((Below.refl w.heap.size w).alloc (by first | omega | (simp <;> omega)) _).alloc (by first | omega | (simp <;> omega)) _).trans (hb.mono (by simp <;> omega))
  have la : LB w1 (w.heap.size) (x) (64) := ((LB.new (by simp) (x) (64)).alloc _).later hb
  have lr : LB w1 (w.heap.size + 1) (0) (0) := (LB.new (by simp) (0) (0)).later hb
  clear hb
  have La : Hid (LB _ _ _ _) := la
  have Lr : Hid (LB _ _ _ _) := lr
  have HB : Hid (Below _ _ _) := hB
  clear hB la lr
  have c0a : w1.cell? ⟨w.heap.size, 0, none⟩ = some (.int .u64 ((x : Nat) : Int)) := La.out.c0
  have c1a : w1.cell? ⟨w.heap.size, 1, none⟩ = some (.int .i64 (64)) := La.out.c1
  have t0a := La.out.lt
  have c0r : w1.cell? ⟨w.heap.size + 1, 0, none⟩ = some (.int .u64 0) := Lr.out.c0
  have c1r : w1.cell? ⟨w.heap.size + 1, 1, none⟩ = some (.int .i64 (0)) := Lr.out.c1
  have t0r := Lr.out.lt
  have f0r := Lr.out.f 0
  have f1r := Lr.out.f 1
  go_wp2
  exact bodyPost_ret (v := .tuple #[.agg #[.int .u64 0, .int .i64 0], .bool false]) (by simp [results, Tryd.results46, go_sem, c0r, c1r]) rfl ⟨rfl, (HB.out.setCell (by first | omega | (simp <;> omega)) _).setCell (by first | omega | (simp <;> omega)) _⟩

set_option maxHeartbeats 4000000 in
theorem insert_no3 {x n : Nat} {i : Int} {b : Bool} (hx : x < 2 ^ n) (hn : n < 64) (hi : i < 0) (w : World) :
    Calls Tryd.prog 46 #[.agg #[.int .u64 ((x : Nat) : Int), .int .i64 (n : Nat)], .int .i64 i, .bool b] w fun e w' => e = .returned (.tuple #[.agg #[.int .u64 0, .int .i64 0], .bool false]) ∧ Below w.heap.size w w' := by
  have hp := pow_le64 (Nat.le_of_lt hn)
  have T1 : Hid (∀ W, _) := fun W => right_any x (by omega) (n : Nat) W
  rw [right_of (Nat.le_of_lt hn) hx] at T1
  have d1 : decide ((n : Int) = 64) = false := decide_eq_false (by omega)
  go_enter Tryd.func46, Tryd.ntmps46
  go_wp2_with (go_at_call 79; fail)
  refine (T1.out _).mono ?_
  rintro e w1 ⟨rfl, hb⟩
  have hB : Below w.heap.size w w1 := (((Below.refl w.heap.size w).alloc (by first | omega | (simp <;> omega)) _).alloc (by first | omega | (simp <;> omega)) _).trans (hb.mono (by simp <;> omega))
  have la : LB w1 (w.heap.size) (x) ((n : Nat)) := ((LB.new (by simp) (x) ((n : Nat))).alloc _).later hb
  have lr : LB w1 (w.heap.size + 1) (0) (0) := (LB.new (by simp) (0) (0)).later hb
  clear hb
  have La : Hid (LB _ _ _ _) := la
  have Lr : Hid (LB _ _ _ _) := lr
  have HB : Hid (Below _ _ _) := hB
  clear hB la lr
  have c0a : w1.cell? ⟨w.heap.size, 0, none⟩ = some (.int .u64 ((x : Nat) : Int)) := La.out.c0
  have c1a : w1.cell? ⟨w.heap.size, 1, none⟩ = some (.int .i64 ((n : Nat))) := La.out.c1
  have t0a := La.out.lt
  have c0r : w1.cell? ⟨w.heap.size + 1, 0, none⟩ = some (.int .u64 0) := Lr.out.c0
  have c1r : w1.cell? ⟨w.heap.size + 1, 1, none⟩ = some (.int .i64 (0)) := Lr.out.c1
  have t0r := Lr.out.lt
  have f0r := Lr.out.f 0
  have f1r := Lr.out.f 1
  go_wp2
  exact bodyPost_ret (v := .tuple #[.agg #[.int .u64 0, .int .i64 0], .bool false]) (by simp [results, Tryd.results46, go_sem, c0r, c1r]) rfl ⟨rfl, (HB.out.setCell (by first | omega | (simp <;> omega)) _).setCell (by first | omega | (simp <;> omega)) _⟩

set_option maxHeartbeats 4000000 in
theorem insert_no4 {x n : Nat} {i : Int} {b : Bool} (hx : x < 2 ^ n) (hn : n < 64) (hi : (n : Int) < i) (w : World) :
    Calls Tryd.prog 46 #[.agg #[.int .u64 ((x : Nat) : Int), .int .i64 (n : Nat)], .int .i64 i, .bool b] w fun e w' => e = .returned (.tuple #[.agg #[.int .u64 0, .int .i64 0], .bool false]) ∧ Below w.heap.size w w' := by
  have hp := pow_le64 (Nat.le_of_lt hn)
  have T1 : Hid (∀ W, _) := fun W => right_any x (by omega) (n : Nat) W
  rw [right_of (Nat.le_of_lt hn) hx] at T1
  have d1 : decide ((n : Int) = 64) = false := decide_eq_false (by omega)
  have d2 : decide (i < 0) = false := decide_eq_false (by omega)
  go_enter Tryd.func46, Tryd.ntmps46
  go_wp2_with (go_at_call 79; fail)
  refine (T1.out _).mono ?_
  rintro e w1 ⟨rfl, hb⟩
  have hB : Below w.heap.size w w1 := (((Below.refl w.heap.size w).alloc (by first | omega | (simp <;> omega)) _).alloc (by first | omega | (simp <;> omega)) _).trans (hb.mono (by simp <;> omega))
  have la : LB w1 (w.heap.size) (x) ((n : Nat)) := ((LB.new (by simp) (x) ((n : Nat))).alloc _).later hb
  have lr : LB w1 (w.heap.size + 1) (0) (0) := (LB.new (by simp) (0) (0)).later hb
  clear hb
  have La : Hid (LB _ _ _ _) := la
  have Lr : Hid (LB _ _ _ _) := lr
  have HB : Hid (Below _ _ _) := hB
  clear hB la lr
  have c0a : w1.cell? ⟨w.heap.size, 0, none⟩ = some (.int .u64 ((x : Nat) : Int)) := La.out.c0
  have c1a : w1.cell? ⟨w.heap.size, 1, none⟩ = some (.int .i64 ((n : Nat))) := La.out.c1
  have t0a := La.out.lt
  have c0r : w1.cell? ⟨w.heap.size + 1, 0, none⟩ = some (.int .u64 0) := Lr.out.c0
  have c1r : w1.cell? ⟨w.heap.size + 1, 1, none⟩ = some (.int .i64 (0)) := Lr.out.c1
  have t0r := Lr.out.lt
  have f0r := Lr.out.f 0
  have f1r := Lr.out.f 1
  go_wp2
  exact bodyPost_ret (v := .tuple #[.agg #[.int .u64 0, .int .i64 0], .bool false]) (by simp [results, Tryd.results46, go_sem, c0r, c1r]) rfl ⟨rfl, (HB.out.setCell (by first | omega | (simp <;> omega)) _).setCell (by first | omega | (simp <;> omega)) _⟩

set_option maxHeartbeats 4000000 in
theorem insert_yes {x n j : Nat} {b : Bool} (hx : x < 2 ^ n) (hn : n < 64) (hj : j ≤ n) (w : World) :
    Calls Tryd.prog 46 #[.agg #[.int .u64 ((x : Nat) : Int), .int .i64 (n : Nat)], .int .i64 (j : Nat), .bool b] w fun e w' => e = .returned (.tuple #[.agg #[.int .u64 ((insN x j b : Nat) : Int), .int .i64 ((n + 1 : Nat) : Int)], .bool true]) ∧ Below w.heap.size w w' := by
  have hp := pow_le64 (Nat.le_of_lt hn)
  have T1 : Hid (∀ W, _) := fun W => right_any x (by omega) (n : Nat) W
  rw [right_of (Nat.le_of_lt hn) hx] at T1
  have T2 : Hid (∀ W, _) := fun W => split_in hx (Nat.le_of_lt hn) hj W
  have T3 : Hid (∀ W, _) := fun W => single_any b W
  obtain ⟨-, -, h1, h2⟩ := split_word hx (Nat.le_of_lt hn) hj
  have h3 : oneN b < 2 ^ 1 := by unfold oneN; cases b <;> decide
  have T4 : Hid (∀ W, _) := fun W => join_yes h1 h3 (by omega) W
  rw [show ((1 : Nat) : Int) = 1 from rfl] at T4
  obtain ⟨-, h4⟩ := join_word h1 h3 (by omega)
  have T5 : Hid (∀ W, _) := fun W => join_yes h4 h2 (by omega) W
  rw [show j + 1 + (n - j) = n + 1 by omega, show ((j + 1 : Nat) : Int) = (j : Int) + 1 by omega] at T5
  have d1 : ((n : Int) == 64) = false := by simp; omega
  have d2 : decide ((j : Int) < 0) = false := decide_eq_false (by omega)
  have d3 : decide (n < j) = false := decide_eq_false (by omega)
  unfold insN
  generalize (x % 2 ^ j ||| oneN b * 2 ^ j) ||| x / 2 ^ j * 2 ^ (j + 1) = D at *
  generalize x % 2 ^ j ||| oneN b * 2 ^ j = M at *
  generalize x % 2 ^ j = P at *
  generalize x / 2 ^ j = Q at *
  generalize oneN b = B at *
  clear h1 h2 h3 h4 hp
  go_enter Tryd.func46, Tryd.ntmps46
  go_wp2_with (go_at_call 79; fail)
  refine (T1.out _).mono ?_
  rintro e w1 ⟨rfl, hb⟩
  have hB : Below w.heap.size w w1 := (((Below.refl w.heap.size w).alloc (by first | omega | (simp <;> omega)) _).alloc (by first | omega | (simp <;> omega)) _).trans (hb.mono (by simp <;> omega))
  have la : LB w1 (w.heap.size) (x) ((n : Nat)) := ((LB.new (by simp) (x) ((n : Nat))).alloc _).later hb
  have lr : LB w1 (w.heap.size + 1) (0) (0) := (LB.new (by simp) (0) (0)).later hb
  clear hb
  have La : Hid (LB _ _ _ _) := la
  have Lr : Hid (LB _ _ _ _) := lr
  have HB : Hid (Below _ _ _) := hB
  clear hB la lr
  have c0a : w1.cell? ⟨w.heap.size, 0, none⟩ = some (.int .u64 ((x : Nat) : Int)) := La.out.c0
  have c1a : w1.cell? ⟨w.heap.size, 1, none⟩ = some (.int .i64 ((n : Nat))) := La.out.c1
  have t0a := La.out.lt
  go_wp2_with (go_at_call 80; fail)
  refine (T2.out _).mono ?_
  rintro e w2 ⟨rfl, hb⟩
  clear c0a c1a t0a
  have hsz := HB.out.size
  have hB : Below w.heap.size w w2 := HB.out.trans (hb.mono (by skip <;> omega))
  have la : LB w2 (w.heap.size) (x) ((n : Nat)) := La.out.later hb
  have lr : LB w2 (w.heap.size + 1) (0) (0) := Lr.out.later hb
  clear hb hsz La Lr HB
  have La : Hid (LB _ _ _ _) := la
  have Lr : Hid (LB _ _ _ _) := lr
  have HB : Hid (Below _ _ _) := hB
  clear hB la lr
  have c0r : w2.cell? ⟨w.heap.size + 1, 0, none⟩ = some (.int .u64 0) := Lr.out.c0
  have c1r : w2.cell? ⟨w.heap.size + 1, 1, none⟩ = some (.int .i64 (0)) := Lr.out.c1
  have t0r := Lr.out.lt
  go_upto_region 4 with fail
  have hsz := HB.out.size
  have hrl := Lr.out.lt
  have hR0 : InR w w2.heap.size (w2.heap.size + 1) (w.heap.size + 1) P Q (j : Nat) ((n - j : Nat) : Int) ((w2.alloc (.cells #[.int .u64 (P : Nat), .int .i64 (j : Nat)] 69)).alloc (.cells #[.int .u64 (Q : Nat), .int .i64 ((n - j : Nat) : Int)] 69)) := ⟨(LB.new rfl P (j : Nat)).alloc _, LB.new (by simp) Q _, (Lr.out.alloc _).alloc _, (HB.out.alloc HB.out.size _).alloc (by simp <;> omega) _⟩
  clear Lr HB c0r c1r t0r
  go_cut [10] (fun s10 wx => ∃ g : Nat, s10 = .pointer (some ⟨g, 0, none⟩) ∧ Hid (LB wx g M ((j : Int) + 1)) ∧ Hid (InR w w2.heap.size (w2.heap.size + 1) (w.heap.size + 1) P Q (j : Nat) ((n - j : Nat) : Int) wx))
  case first =>
    go_region_with ((first
      | (go_at_call 82
         with_reducible refine (T3.out _).mono ?_
         rintro e w4 ⟨rfl, hb4⟩
         have hR4 : InR w w2.heap.size (w2.heap.size + 1) (w.heap.size + 1) P Q (j : Nat) ((n - j : Nat) : Int) w4 := InR.later (by first | (with_reducible exact hR0.drew) | (with_reducible exact (hR0.alloc _).drew) | (with_reducible exact hR0.drew.alloc _)) hb4
         (try have hz4 : LB w4 (w2.heap.size + 1 + 1) 0 0 := LB.later (by first | (with_reducible exact (LB.newz (by simp)).drew) | (with_reducible exact LB.newz (by simp))) hb4)
         have q0 := hR4.p.c0
         have q1 := hR4.p.c1
         have q2 := hR4.p.lt
         have q3 := hR4.q.lt
         have q4 := hR4.r.lt
         (try have q5 := hz4.lt)
         clear hb4)
      | (go_at_call 81
         with_reducible refine (T4.out _).mono ?_
         rintro e w5 ⟨rfl, hb5⟩
         have hR5 : InR w w2.heap.size (w2.heap.size + 1) (w.heap.size + 1) P Q (j : Nat) ((n - j : Nat) : Int) w5 := InR.later (by first | (with_reducible exact hR4) | (with_reducible exact hR4.alloc _)) hb5
         (first
           | (have hz5 : LB w5 (w2.heap.size + 1 + 1) 0 0 := LB.later (by first | (with_reducible exact hz4) | (with_reducible exact hz4.alloc _)) hb5)
           | (have hz5 : LB w5 w4.heap.size 0 0 := LB.later (by with_reducible exact LB.newz rfl) hb5)
           | skip)
         (try (have z0 := hz5.c0; have z1 := hz5.c1; have z2 := hz5.f 0; have z3 := hz5.f 1))
         clear hb5)))
    all_goals (go_wp2_with fail)
    all_goals go_meet
    all_goals (first
      | exact ⟨_, rfl, LB.new rfl M _, hR5.alloc _⟩
      | exact ⟨_, rfl, hz5.set M _, hR5.offs (by omega) (by omega) (by omega) (by omega) _ _⟩)
  case rest =>
    obtain ⟨g, rfl, HM, HR⟩ := hcut
    have m0 := HM.out.c0
    have m1 := HM.out.c1
    have q0 := HR.out.q.c0
    have q1 := HR.out.q.c1
    go_wp2_with (go_at_call 81; fail)
    refine (T5.out _).mono ?_
    rintro e w6 ⟨rfl, hb⟩
    have hR := HR.out.later hb
    have c0r := hR.r.c0
    have c1r := hR.r.c1
    have f0r := hR.r.f 0
    have f1r := hR.r.f 1
    have HB2 : Hid (Below w.heap.size w w6) := hR.b
    clear hR hb m0 m1 q0 q1 HM HR
    go_wp2
    exact bodyPost_ret (v := .tuple #[.agg #[.int .u64 ((D : Nat) : Int), .int .i64 ((n + 1 : Nat) : Int)], .bool true]) (by simp [results, Tryd.results46, go_sem, c0r, c1r]) rfl ⟨rfl, (HB2.out.setCell (by first | omega | (simp <;> omega)) _).setCell (by first | omega | (simp <;> omega)) _⟩

end Go.Proofs.YtfkfnibeipddaabDoor

namespace Go.Proofs.YtfkfnibeipddaabDoor
open Go.RowKit

theorem not_word {x n : Nat} (hx : x < 2 ^ n) (hn : n ≤ 64) : bits BinOp.andNot IntKind.u64 ((2 ^ n - 1 : Nat) : Int) (x : Int) = ((2 ^ n - 1 - x : Nat) : Int) := by
  have hp := pow_le64 hn
  have hp0 : 0 < 2 ^ n := Nat.two_pow_pos n
  rw [u64_andNot_nat _ x (by omega) (by omega)]
  congr 1
  apply Nat.eq_of_testBit_eq
  intro j
  rw [Nat.testBit_and, Nat.testBit_two_pow_sub_one, sub_test hx, show 18446744073709551615 - x = 2 ^ 64 - (x + 1) by omega, Nat.testBit_two_pow_sub_succ (by have : (2:Nat) ^ 64 = 18446744073709551616 := rfl; omega)]
  by_cases hj : j < n
  · simp [hj, show j < 64 by omega]
  · simp [hj]

/-- what is looked for -/
def wantN (x n : Nat) (one : Bool) : Nat := if one then x else 2 ^ n - 1 - x

theorem wantN_lt {x n : Nat} (hx : x < 2 ^ n) (one : Bool) : wantN x n one < 2 ^ n := by
  unfold wantN
  cases one
  · show 2 ^ n - 1 - x < 2 ^ n; omega
  · exact hx

theorem clear_word {V : Nat} (h0 : V ≠ 0) (hV : V < 18446744073709551616) : bits BinOp.and IntKind.u64 (V : Int) (IntKind.u64.wrap ((V : Int) - 1)) = ((V &&& (V - 1) : Nat) : Int) := by
  have e : IntKind.u64.wrap ((V : Int) - 1) = ((V - 1 : Nat) : Int) := by rw [IntKind.wrap_u64]; omega
  rw [e, bits_and_u64_nat V _ hV (by omega)]

set_option maxHeartbeats 2000000 in
theorem select_no {x : Nat} {n k : Int} {one : Bool} (hx : x < 18446744073709551616) (h : rightB x n = false) (w : World) :
    Calls Tryd.prog 58 #[.agg #[.int .u64 ((x : Nat) : Int), .int .i64 n], .bool one, .int .i64 k] w fun e w' => e = .returned (.int .i64 (-1)) ∧ Below w.heap.size w w' := by
  have T1 : Hid (∀ W, _) := fun W => right_any x hx n W
  rw [h] at T1
  go_enter Tryd.func58, Tryd.ntmps58
  go_wp2_with (go_at_call 79; fail)
  refine (T1.out _).mono ?_
  rintro e w1 ⟨rfl, hb⟩
  have HB : Hid (Below w.heap.size w w1) := ((Below.refl w.heap.size w).alloc (Nat.le_refl _) _).trans (hb.mono (by simp))
  clear hb
  go_wp2
  go_ret
  exact ⟨rfl, HB.out⟩

set_option maxHeartbeats 4000000 in
theorem select_yes {x n : Nat} (hx : x < 2 ^ n) (hn : n ≤ 64) (one : Bool) (k : Int) (w : World) (hT : Tab w) :
    Calls Tryd.prog 58 #[.agg #[.int .u64 ((x : Nat) : Int), .int .i64 (n : Nat)], .bool one, .int .i64 k] w fun e w' => e = .returned (.int .i64 (selI (wantN x n one) n k)) ∧ Below w.heap.size w w' := by
  have hp := pow_le64 hn
  have T1 : Hid (∀ W, _) := fun W => right_any x (by omega) (n : Nat) W
  rw [right_of hn hx] at T1
  have HT : Hid (Tab w) := hT
  clear hT
  have hp0 : 0 < 2 ^ n := Nat.two_pow_pos n
  cases one with
  | true =>
    have hW : x < 2 ^ n := by omega
    have hW64 : x < 18446744073709551616 := by omega
    have HN : Hid (_ = _) := not_word hx hn
    have T2 : Hid (∀ W, _) := fun W => lowest_any n hn W
    have T3 : Hid (∀ W, _) := fun W => ones_any x hW64 W
    have hle : popN 64 x ≤ 64 := popN_le 64 _
    show Calls _ _ _ _ fun e w' => e = .returned (.int .i64 (selI x n k)) ∧ Below w.heap.size w w'
    have H64 : Hid (popN 64 x = popN n x) := popN_more hW 64 hn
    have HW : Hid (x < 2 ^ n) := hW
    have HW64 : Hid (x < 18446744073709551616) := hW64
    clear hW hW64 hp hp0
    by_cases h0 : k < 0
    · have d0 : decide (k < 0) = true := decide_eq_true h0
      have HS : Hid (selI x n k = -1) := selI_none (Or.inr h0)
      go_enter Tryd.func58, Tryd.ntmps58
      go_wp2_with (go_at_call 79; fail)
      refine (T1.out _).mono ?_
      rintro e w1 ⟨rfl, hb⟩
      have HB : Hid (Below w.heap.size w w1) := ((Below.refl w.heap.size w).alloc (Nat.le_refl _) _).trans (hb.mono (by simp))
      have la : LB w1 w.heap.size x n := (LB.new rfl x n).later hb
      have c0 := la.c0
      have c1 := la.c1
      clear la hb
      go_wp2
      go_ret
      exact ⟨by rw [HS.out]; rfl, HB.out⟩
    obtain ⟨k, rfl⟩ : ∃ j : Nat, k = j := ⟨k.toNat, by omega⟩
    have d0 : decide ((k : Int) < 0) = false := decide_eq_false h0
    clear h0
    by_cases h1 : popN 64 x ≤ k
    · have HS : Hid (selI x n k = -1) := selI_none (Or.inl (by have := H64.out; omega))
      have d1 : decide (popN 64 x ≤ k) = true := decide_eq_true h1
      generalize popN 64 x = C at *
      go_enter Tryd.func58, Tryd.ntmps58
      go_wp2_with (go_at_call 79; fail)
      refine (T1.out _).mono ?_
      rintro e w1 ⟨rfl, hb⟩
      have HB : Hid (Below w.heap.size w w1) := ((Below.refl w.heap.size w).alloc (Nat.le_refl _) _).trans (hb.mono (by simp))
      have la : LB w1 w.heap.size x n := (LB.new rfl x n).later hb
      have c0 := la.c0
      have c1 := la.c1
      clear la hb
      go_wp2_with (go_at_call 89; refine (T3.out _).mono ?_; rintro e w2 ⟨rfl, hw⟩; obtain rfl := hw.symm)
      go_ret
      exact ⟨by rw [HS.out]; rfl, HB.out⟩
    have HK : Hid (k < popN 64 x) := by show k < popN 64 x; omega
    have d1 : decide (popN 64 x ≤ k) = false := decide_eq_false h1
    generalize hC : popN 64 x = C at *
    have HC : Hid (popN 64 x = C) := hC
    clear hC
    go_enter Tryd.func58, Tryd.ntmps58
    go_wp2_with (go_at_call 79; fail)
    refine (T1.out _).mono ?_
    rintro e w1 ⟨rfl, hb⟩
    have HB : Hid (Below w.heap.size w w1) := ((Below.refl w.heap.size w).alloc (Nat.le_refl _) _).trans (hb.mono (by simp))
    have la : LB w1 w.heap.size x n := (LB.new rfl x n).later hb
    have c0 := la.c0
    have c1 := la.c1
    clear la hb
    go_wp2_with (go_at_call 89; refine (T3.out _).mono ?_; rintro e w2 ⟨rfl, hw⟩; obtain rfl := hw.symm)
    obtain ⟨Wx, hWd⟩ : ∃ Wx : Nat, Wx = x := ⟨_, rfl⟩
    rw [← hWd] at T3 H64 HW HW64 HC ⊢
    have HWd : Hid (Wx = x) := hWd
    clear hWd HN T2 c0 c1
    go_loop [7, 30] (fun v t => ∃ (i V : Nat), i ≤ k ∧ v = .int .u64 (V : Nat) ∧ t = .int .i64 (i : Nat) ∧ Hid (Rest Wx i V) ∧ Hid (V < 18446744073709551616)) (fun _ t => k - (intOf t).toNat)
    case atStart => exact ⟨0, Wx, Nat.zero_le _, rfl, rfl, Rest.zero Wx, HW64.out⟩
    case round =>
      obtain ⟨i, V, hi, rfl, rfl, HR, HV⟩ := hrel
      have HNZ : Hid (V ≠ 0) := HR.out.some (by have h3 := HK.out; have h4 := HC.out; omega)
      by_cases hlt : i < k
      · have HE : Hid (_ = _) := clear_word HNZ.out HV.out
        go_wp2
        rw [HE.out]
        go_round
        case rel => exact ⟨i + 1, V &&& (V - 1), by omega, rfl, by go_num, HR.out.step HNZ.out HV.out, Nat.lt_of_le_of_lt Nat.and_le_left HV.out⟩
        case measure => simp [intOf]; omega
      · obtain rfl : i = k := by omega
        have T4 : Hid (∀ W, Tab W → _) := fun W h => tz_any V HV.out W h
        have HS : Hid ((Lib.ctz 64 V : Int) = selI Wx n i) := HR.out.sel (by have h3 := HK.out; have h4 := HC.out; omega) HW.out HV.out
        clear hlt
        go_wp2_with (go_at_call 77; refine (T4.out _ (tab_below HT.out HB.out)).mono ?_; rintro e w2 ⟨rfl, hw⟩; obtain rfl := hw.symm)
        go_ret
        exact ⟨by rw [← HWd.out, ← HS.out]; rfl, HB.out⟩
  | false =>
    have hW : (2 ^ n - 1 - x) < 2 ^ n := by omega
    have hW64 : (2 ^ n - 1 - x) < 18446744073709551616 := by omega
    have HN : Hid (_ = _) := not_word hx hn
    have T2 : Hid (∀ W, _) := fun W => lowest_any n hn W
    have T3 : Hid (∀ W, _) := fun W => ones_any (2 ^ n - 1 - x) hW64 W
    have hle : popN 64 (2 ^ n - 1 - x) ≤ 64 := popN_le 64 _
    show Calls _ _ _ _ fun e w' => e = .returned (.int .i64 (selI (2 ^ n - 1 - x) n k)) ∧ Below w.heap.size w w'
    have H64 : Hid (popN 64 (2 ^ n - 1 - x) = popN n (2 ^ n - 1 - x)) := popN_more hW 64 hn
    have HW : Hid ((2 ^ n - 1 - x) < 2 ^ n) := hW
    have HW64 : Hid ((2 ^ n - 1 - x) < 18446744073709551616) := hW64
    clear hW hW64 hp hp0
    by_cases h0 : k < 0
    · have d0 : decide (k < 0) = true := decide_eq_true h0
      have HS : Hid (selI (2 ^ n - 1 - x) n k = -1) := selI_none (Or.inr h0)
      go_enter Tryd.func58, Tryd.ntmps58
      go_wp2_with (go_at_call 79; fail)
      refine (T1.out _).mono ?_
      rintro e w1 ⟨rfl, hb⟩
      have HB : Hid (Below w.heap.size w w1) := ((Below.refl w.heap.size w).alloc (Nat.le_refl _) _).trans (hb.mono (by simp))
      have la : LB w1 w.heap.size x n := (LB.new rfl x n).later hb
      have c0 := la.c0
      have c1 := la.c1
      clear la hb
      go_upto_region 5 with fail
      go_quiet ((go_at_call 90; exact Calls.quiet_of_same (T2.out _)))
      rw [HN.out]
      go_wp2
      go_ret
      exact ⟨by rw [HS.out]; rfl, below_drewN HB.out _⟩
    obtain ⟨k, rfl⟩ : ∃ j : Nat, k = j := ⟨k.toNat, by omega⟩
    have d0 : decide ((k : Int) < 0) = false := decide_eq_false h0
    clear h0
    by_cases h1 : popN 64 (2 ^ n - 1 - x) ≤ k
    · have HS : Hid (selI (2 ^ n - 1 - x) n k = -1) := selI_none (Or.inl (by have := H64.out; omega))
      have d1 : decide (popN 64 (2 ^ n - 1 - x) ≤ k) = true := decide_eq_true h1
      generalize popN 64 (2 ^ n - 1 - x) = C at *
      go_enter Tryd.func58, Tryd.ntmps58
      go_wp2_with (go_at_call 79; fail)
      refine (T1.out _).mono ?_
      rintro e w1 ⟨rfl, hb⟩
      have HB : Hid (Below w.heap.size w w1) := ((Below.refl w.heap.size w).alloc (Nat.le_refl _) _).trans (hb.mono (by simp))
      have la : LB w1 w.heap.size x n := (LB.new rfl x n).later hb
      have c0 := la.c0
      have c1 := la.c1
      clear la hb
      go_upto_region 5 with fail
      go_quiet ((go_at_call 90; exact Calls.quiet_of_same (T2.out _)))
      rw [HN.out]
      go_wp2_with (go_at_call 89; refine (T3.out _).mono ?_; rintro e w2 ⟨rfl, hw⟩; obtain rfl := hw.symm)
      go_ret
      exact ⟨by rw [HS.out]; rfl, below_drewN HB.out _⟩
    have HK : Hid (k < popN 64 (2 ^ n - 1 - x)) := by show k < popN 64 (2 ^ n - 1 - x); omega
    have d1 : decide (popN 64 (2 ^ n - 1 - x) ≤ k) = false := decide_eq_false h1
    generalize hC : popN 64 (2 ^ n - 1 - x) = C at *
    have HC : Hid (popN 64 (2 ^ n - 1 - x) = C) := hC
    clear hC
    go_enter Tryd.func58, Tryd.ntmps58
    go_wp2_with (go_at_call 79; fail)
    refine (T1.out _).mono ?_
    rintro e w1 ⟨rfl, hb⟩
    have HB : Hid (Below w.heap.size w w1) := ((Below.refl w.heap.size w).alloc (Nat.le_refl _) _).trans (hb.mono (by simp))
    have la : LB w1 w.heap.size x n := (LB.new rfl x n).later hb
    have c0 := la.c0
    have c1 := la.c1
    clear la hb
    go_upto_region 5 with fail
    go_quiet ((go_at_call 90; exact Calls.quiet_of_same (T2.out _)))
    rw [HN.out]
    go_wp2_with (go_at_call 89; refine (T3.out _).mono ?_; rintro e w2 ⟨rfl, hw⟩; obtain rfl := hw.symm)
    obtain ⟨Wx, hWd⟩ : ∃ Wx : Nat, Wx = (2 ^ n - 1 - x) := ⟨_, rfl⟩
    rw [← hWd] at T3 H64 HW HW64 HC ⊢
    have HWd : Hid (Wx = (2 ^ n - 1 - x)) := hWd
    clear hWd HN T2 c0 c1
    go_loop [7, 30] (fun v t => ∃ (i V : Nat), i ≤ k ∧ v = .int .u64 (V : Nat) ∧ t = .int .i64 (i : Nat) ∧ Hid (Rest Wx i V) ∧ Hid (V < 18446744073709551616)) (fun _ t => k - (intOf t).toNat)
    case atStart => exact ⟨0, Wx, Nat.zero_le _, rfl, rfl, Rest.zero Wx, HW64.out⟩
    case round =>
      obtain ⟨i, V, hi, rfl, rfl, HR, HV⟩ := hrel
      have HNZ : Hid (V ≠ 0) := HR.out.some (by have h3 := HK.out; have h4 := HC.out; omega)
      by_cases hlt : i < k
      · have HE : Hid (_ = _) := clear_word HNZ.out HV.out
        go_wp2
        rw [HE.out]
        go_round
        case rel => exact ⟨i + 1, V &&& (V - 1), by omega, rfl, by go_num, HR.out.step HNZ.out HV.out, Nat.lt_of_le_of_lt Nat.and_le_left HV.out⟩
        case measure => simp [intOf]; omega
      · obtain rfl : i = k := by omega
        have T4 : Hid (∀ W, Tab W → _) := fun W h => tz_any V HV.out W h
        have HS : Hid ((Lib.ctz 64 V : Int) = selI Wx n i) := HR.out.sel (by have h3 := HK.out; have h4 := HC.out; omega) HW.out HV.out
        clear hlt
        go_wp2_with (go_at_call 77; refine (T4.out _ (tab_drewN (tab_below HT.out HB.out) _)).mono ?_; rintro e w2 ⟨rfl, hw⟩; obtain rfl := hw.symm)
        go_ret
        exact ⟨by rw [← HWd.out, ← HS.out]; rfl, below_drewN HB.out _⟩

end Go.Proofs.YtfkfnibeipddaabDoor
