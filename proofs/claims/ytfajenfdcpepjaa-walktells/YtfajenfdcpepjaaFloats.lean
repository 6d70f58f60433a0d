/- Whole numbers of less than 2^53 as doubles: what their words are, what they read as, and that sums, differences, products and comparisons of them are exact. -/
import Derived.WalkLawsBesides
import Derived.Laws.FloatArith
import Derived.Laws.ComplexArith
namespace Go.Proofs.Ytfajenfdcpepjaa
open Ieee

/-- the double of a whole number, behind a door that no walk opens -/
def flAt (k : Nat) (n : Int) : Nat := if k = 0 then floatOfInt .f64 n else flAt (k - 1) n
  termination_by k

/-- the double of a whole number -/
def fl (n : Int) : Nat := flAt 0 n

theorem fl_def (n : Int) : fl n = floatOfInt .f64 n := by
  unfold fl
  rw [flAt]
  exact if_pos rfl

/-- the rung of a magnitude that is not nought -/
def rungOf (v : Nat) : Nat := (v.log2 + 1022) * 2 ^ 52 + v * 2 ^ (52 - v.log2)

theorem log2_shift (v p : Nat) (h : v ≠ 0) : (v * 2 ^ p).log2 = v.log2 + p := by
  have hp : 0 < 2 ^ p := Nat.two_pow_pos p
  have hne : v * 2 ^ p ≠ 0 := Nat.mul_ne_zero h (by omega)
  rw [Nat.log2_eq_iff hne]
  have h1 := Nat.log2_self_le h
  have h2 := Nat.lt_log2_self (n := v)
  constructor
  · rw [Nat.pow_add]; exact Nat.mul_le_mul_right _ h1
  · rw [show v.log2 + p + 1 = (v.log2 + 1) + p by omega, Nat.pow_add]
    exact Nat.mul_lt_mul_of_pos_right h2 hp

theorem log2_le (v : Nat) (h : v ≠ 0) (hv : v < 2 ^ 53) : v.log2 ≤ 52 := by
  have := (Nat.log2_lt h).2 hv
  omega

theorem kept_ge (v : Nat) (h : v ≠ 0) (hv : v < 2 ^ 53) : 2 ^ 52 ≤ v * 2 ^ (52 - v.log2) ∧ v * 2 ^ (52 - v.log2) < 2 ^ 53 := by
  have hl := log2_le v h hv
  have h1 := Nat.log2_self_le h
  have h2 := Nat.lt_log2_self (n := v)
  constructor
  · have := Nat.mul_le_mul_right (2 ^ (52 - v.log2)) h1
    rw [← Nat.pow_add, show v.log2 + (52 - v.log2) = 52 by omega] at this
    exact this
  · have := Nat.mul_lt_mul_of_pos_right h2 (Nat.two_pow_pos (52 - v.log2))
    rw [← Nat.pow_add, show v.log2 + 1 + (52 - v.log2) = 53 by omega] at this
    exact this

theorem cut_none (s : Bool) (n : Nat) : Toward.even.cut s n 0 = n := by
  simp [Toward.cut, Nat.mod_one]

theorem cut_exact (s : Bool) (k d : Nat) (hk : 0 < k) : Toward.even.cut s (k * 2 ^ d) d = k := by
  have h0 : (k * 2 ^ d).log2 = k.log2 + d := log2_shift k d (by omega)
  have hm : min d ((k * 2 ^ d).log2 + 2) = d := by rw [h0]; omega
  have hp : 0 < 2 ^ d := Nat.two_pow_pos d
  unfold Toward.cut
  simp only [hm, Nat.one_shiftLeft, Nat.mul_mod_left, Nat.mul_div_cancel _ hp]
  have : ¬ (2 ^ d < 2 * 0) := by omega
  have : ¬ (2 ^ d = 2 * 0) := by omega
  simp [*]

theorem leastPlace_double : double.leastPlace = -1074 := by decide
theorem fractionBits_double : (double.fractionBits : Int) = 52 := by decide
theorem binade_double : double.binade = 2 ^ 52 := by decide
theorem infRung_double : double.infRung = 2047 * 2 ^ 52 := by decide
theorem signWeight_double : double.signWeight = 2 ^ 63 := by decide

theorem min_rung (j k : Nat) (h : j ≤ 1074 * 2 ^ 52) (h2 : k < 2 ^ 53) : min (j + k) (2047 * 2 ^ 52) = j + k := by omega

theorem nearest_exact (s : Bool) (v p : Nat) (h : v ≠ 0) (hv : v < 2 ^ 53) :
    double.nearest s (v * 2 ^ p) (-(p : Int)) = double.word s (rungOf v) := by
  have hl := log2_le v h hv
  have hk := kept_ge v h hv
  have hp : 0 < 2 ^ p := Nat.two_pow_pos p
  have hne : v * 2 ^ p ≠ 0 := Nat.mul_ne_zero h (by omega)
  unfold Format.nearest
  rw [if_neg hne, log2_shift v p h]
  have e1 := leastPlace_double
  have e2 := fractionBits_double
  have e3 := binade_double
  have e4 := infRung_double
  have e5 : max (-(p : Int) + ((v.log2 + p : Nat) : Int) - 52) (-1074) = (v.log2 : Int) - 52 := by omega
  rw [e2, e1, e5, e3, e4]
  have e6 : ((v.log2 : Int) - 52 - -1074).toNat = v.log2 + 1022 := by omega
  have hkept : Toward.even.cut s ((v * 2 ^ p) <<< (-(p : Int) - ((v.log2 : Int) - 52)).toNat) ((v.log2 : Int) - 52 - -(p : Int)).toNat = v * 2 ^ (52 - v.log2) := by
    by_cases hc : p ≤ 52 - v.log2
    · rw [show (-(p : Int) - ((v.log2 : Int) - 52)).toNat = 52 - v.log2 - p by omega, show ((v.log2 : Int) - 52 - -(p : Int)).toNat = 0 by omega, cut_none,
        Nat.shiftLeft_eq, Nat.mul_assoc, ← Nat.pow_add, show p + (52 - v.log2 - p) = 52 - v.log2 by omega]
    · rw [show (-(p : Int) - ((v.log2 : Int) - 52)).toNat = 0 by omega, show ((v.log2 : Int) - 52 - -(p : Int)).toNat = p - (52 - v.log2) by omega]
      rw [Nat.shiftLeft_zero]
      rw [show v * 2 ^ p = v * 2 ^ (52 - v.log2) * 2 ^ (p - (52 - v.log2)) by
        rw [Nat.mul_assoc, ← Nat.pow_add, show 52 - v.log2 + (p - (52 - v.log2)) = p by omega]]
      exact cut_exact s _ _ (by omega)
  dsimp only
  rw [hkept, e6]
  have hle : (v.log2 + 1022) * 2 ^ 52 ≤ 1074 * 2 ^ 52 := Nat.mul_le_mul_right _ (by omega)
  rw [min_rung _ _ hle hk.2]
  rfl

theorem rungOf_lt (v : Nat) (h : v ≠ 0) (hv : v < 2 ^ 53) : 2 ^ 52 ≤ rungOf v ∧ rungOf v < 2047 * 2 ^ 52 := by
  have hl := log2_le v h hv
  have hk := kept_ge v h hv
  have : (v.log2 + 1022) * 2 ^ 52 ≤ 1074 * 2 ^ 52 := Nat.mul_le_mul_right _ (by omega)
  unfold rungOf
  omega

theorem read_word (s : Bool) (v : Nat) (h : v ≠ 0) (hv : v < 2 ^ 53) :
    double.read (double.word s (rungOf v)) = .number s (v * 2 ^ (52 - v.log2)) (-((52 - v.log2 : Nat) : Int)) := by
  have hl := log2_le v h hv
  have hk := kept_ge v h hv
  have hr := rungOf_lt v h hv
  have e0 := signWeight_double
  have e1 := leastPlace_double
  have e3 := binade_double
  have e4 := infRung_double
  have hs : (double.word s (rungOf v) / 2 ^ 63 % 2 == 1) = s := by
    cases s
    · simp only [Format.word, Bool.false_eq_true, if_false]
      rw [Nat.div_eq_of_lt (by omega)]; rfl
    · simp only [Format.word, if_true, e0]
      rw [show (2 ^ 63 + rungOf v) / 2 ^ 63 = 1 by omega]; rfl
  have hm : double.word s (rungOf v) % 2 ^ 63 = rungOf v := by
    cases s
    · simp only [Format.word, Bool.false_eq_true, if_false]; omega
    · simp only [Format.word, if_true, e0]; omega
  unfold Format.read
  simp only [e0, e1, e3, e4, hs, hm]
  rw [if_neg (by omega), if_pos (by omega)]
  have a1 : rungOf v % 2 ^ 52 = v * 2 ^ (52 - v.log2) - 2 ^ 52 := by unfold rungOf; omega
  have a2 : rungOf v / 2 ^ 52 = v.log2 + 1023 := by unfold rungOf; omega
  rw [a1, a2]
  rw [show 2 ^ 52 + (v * 2 ^ (52 - v.log2) - 2 ^ 52) = v * 2 ^ (52 - v.log2) by omega, show (-1074 : Int) + ((v.log2 + 1023 - 1 : Nat) : Int) = -((52 - v.log2 : Nat) : Int) by omega]

/-- the word x reads as the whole number n; the sign of a nought is open -/
def IsFl (x : Nat) (n : Int) : Prop :=
  ∃ s m, ∃ p : Nat, double.read x = .number s m (-(p : Int)) ∧ m = n.natAbs * 2 ^ p ∧ (n < 0 → s = true) ∧ (0 < n → s = false)

theorem fl_zero : fl 0 = 0 := by rw [fl_def]; decide

theorem fl_word (n : Int) (h : n ≠ 0) (hv : n.natAbs < 2 ^ 53) : fl n = double.word (decide (n < 0)) (rungOf n.natAbs) := by
  have := nearest_exact (decide (n < 0)) n.natAbs 0 (by omega) hv
  simp only [Nat.pow_zero, Nat.mul_one] at this
  rw [fl_def]
  exact this

theorem fl_lt (n : Int) : fl n < 2 ^ 64 := by
  have := floatOfInt_wf .f64 n
  simp only [Lit.wf] at this
  rw [fl_def]
  simpa using this

theorem zero_mag (p : Nat) : 0 = (0 : Int).natAbs * 2 ^ p := by rw [Int.natAbs_zero, Nat.zero_mul]

theorem read_zero (p : Nat) (hp : p = 1074) : double.read 0 = .number (decide ((0 : Int) < 0)) ((0 : Int).natAbs * 2 ^ p) (-(p : Int)) := by
  rw [← zero_mag p]; subst hp; decide

/-- how the double of a whole number reads: a nought without a sign -/
theorem read_fl (n : Int) (hv : n.natAbs < 2 ^ 53) :
    ∃ p : Nat, double.read (fl n) = .number (decide (n < 0)) (n.natAbs * 2 ^ p) (-(p : Int)) := by
  by_cases h : n = 0
  · subst h
    rw [fl_zero]
    exact ⟨1074, read_zero 1074 rfl⟩
  · rw [fl_word n h hv]
    exact ⟨_, read_word _ _ (by omega) hv⟩

theorem isFl_fl (n : Int) (hv : n.natAbs < 2 ^ 53) : IsFl (fl n) n := by
  obtain ⟨p, hp⟩ := read_fl n hv
  exact ⟨_, _, p, hp, rfl, by simp, by intro h; simp; omega⟩

theorem isFl_negZero : IsFl (2 ^ 63) 0 := ⟨true, 0, 1074, by decide, zero_mag 1074, by simp, by simp⟩

theorem write_not_zero (s : Bool) (n : Int) (p : Nat) (h : n ≠ 0) (hv : n.natAbs < 2 ^ 53) (hs : s = decide (n < 0)) :
    double.write (.number s (n.natAbs * 2 ^ p) (-(p : Int))) = fl n := by
  subst hs
  show double.nearest _ _ _ = _
  rw [nearest_exact _ _ _ (by omega) hv, fl_word n h hv]

theorem write_zero (s : Bool) (e : Int) : double.write (.number s 0 e) = double.word s 0 := by
  show double.nearest _ _ _ = _
  simp [Format.nearest]

theorem signed_eq (n : Int) (s : Bool) (p up : Nat) (h1 : n < 0 → s = true) (h2 : 0 < n → s = false) :
    signed s (n.natAbs * 2 ^ p) up = n * 2 ^ (p + up) := by
  unfold signed
  rw [Nat.shiftLeft_eq, Nat.mul_assoc, ← Nat.pow_add]
  have hc : ((n.natAbs * 2 ^ (p + up) : Nat) : Int) = (n.natAbs : Int) * 2 ^ (p + up) := by
    rw [Int.natCast_mul, Int.natCast_pow]; rfl
  rw [hc]
  rcases Int.lt_trichotomy n 0 with h | h | h
  · rw [h1 h, if_pos rfl, show (n.natAbs : Int) = -n by omega]; simp [Int.neg_mul]
  · subst h; simp
  · rw [h2 h]; simp only [Bool.false_eq_true, if_false]; rw [show (n.natAbs : Int) = n by omega]

theorem pow_pos_int (p : Nat) : (0 : Int) < 2 ^ p := by
  have := Nat.two_pow_pos p
  exact_mod_cast this

theorem natAbs_mul_pow (n : Int) (p : Nat) : (n * 2 ^ p).natAbs = n.natAbs * 2 ^ p := by
  rw [Int.natAbs_mul, Int.natAbs_pow]; rfl

theorem mul_pow_zero (n : Int) (p : Nat) : n * 2 ^ p = 0 ↔ n = 0 := by
  have := pow_pos_int p
  constructor
  · intro h
    rcases Int.mul_eq_zero.1 h with h | h
    · exact h
    · omega
  · intro h; subst h; simp

theorem mul_pow_neg (n : Int) (p : Nat) : n * 2 ^ p < 0 ↔ n < 0 := by
  have hp := pow_pos_int p
  constructor
  · intro h
    by_cases h2 : n < 0
    · exact h2
    · have := Int.mul_nonneg (show 0 ≤ n by omega) (Int.le_of_lt hp); omega
  · intro h; exact Int.mul_neg_of_neg_of_pos h hp

/-- the sum of two data that are whole -/
theorem sum_whole (s t : Bool) (a b : Int) (p q : Nat) (ha1 : a < 0 → s = true) (ha2 : 0 < a → s = false) (hb1 : b < 0 → t = true) (hb2 : 0 < b → t = false) :
    ∃ r : Nat, Datum.sum (.number s (a.natAbs * 2 ^ p) (-(p : Int))) (.number t (b.natAbs * 2 ^ q) (-(q : Int))) =
      some (.number (if a + b = 0 then s && t else decide (a + b < 0)) ((a + b).natAbs * 2 ^ r) (-(r : Int))) := by
  refine ⟨max p q, ?_⟩
  unfold Datum.sum
  simp only
  have hb : min (-(p : Int)) (-(q : Int)) = -((max p q : Nat) : Int) := by omega
  rw [hb, signed_eq a s p _ ha1 ha2, signed_eq b t q _ hb1 hb2]
  rw [show p + (-(p : Int) - -((max p q : Nat) : Int)).toNat = max p q by omega, show q + (-(q : Int) - -((max p q : Nat) : Int)).toNat = max p q by omega]
  rw [← Int.add_mul, natAbs_mul_pow]
  congr 2
  by_cases h : a + b = 0
  · simp [h]
  · rw [if_neg h, if_neg (by rw [mul_pow_zero]; exact h)]
    exact decide_eq_decide.2 (mul_pow_neg _ _)

theorem add_fl (a b : Int) (ha : a.natAbs < 2 ^ 53) (hb : b.natAbs < 2 ^ 53) (hv : (a + b).natAbs < 2 ^ 53) : double.add (fl a) (fl b) = some (fl (a + b)) := by
  obtain ⟨p, hp⟩ := read_fl a ha
  obtain ⟨q, hq⟩ := read_fl b hb
  unfold Format.add
  rw [hp, hq]
  obtain ⟨r, hr⟩ := sum_whole (decide (a < 0)) (decide (b < 0)) a b p q (by simp) (by intro h; simp; omega) (by simp) (by intro h; simp; omega)
  rw [hr]
  simp only [Option.map_some]
  congr 1
  by_cases h : a + b = 0
  · rw [if_pos h, h]
    have : (decide (a < 0) && decide (b < 0)) = false := by simp; omega
    rw [this]; simp only [Int.natAbs_zero, Nat.zero_mul]
    rw [write_zero, fl_zero]; rfl
  · rw [if_neg h]
    exact write_not_zero _ _ _ h hv rfl

theorem sub_fl (a b : Int) (ha : a.natAbs < 2 ^ 53) (hb : b.natAbs < 2 ^ 53) (hv : (a - b).natAbs < 2 ^ 53) : double.sub (fl a) (fl b) = some (fl (a - b)) := by
  obtain ⟨p, hp⟩ := read_fl a ha
  obtain ⟨q, hq⟩ := read_fl b hb
  unfold Format.sub
  rw [hp, hq]
  simp only [Datum.opposite]
  obtain ⟨r, hr⟩ := sum_whole (decide (a < 0)) (!decide (b < 0)) a (-b) p q (by simp) (by intro h; simp; omega) (by intro h; simp; omega) (by intro h; simp; omega)
  rw [Int.natAbs_neg] at hr
  rw [hr, ← Int.sub_eq_add_neg]
  simp only [Option.map_some]
  congr 1
  by_cases h : a - b = 0
  · rw [if_pos h, h]
    have : (decide (a < 0) && !decide (b < 0)) = false := by
      rw [show a = b by omega]; cases decide (b < 0) <;> rfl
    rw [this]; simp only [Int.natAbs_zero, Nat.zero_mul]
    rw [write_zero, fl_zero]; rfl
  · rw [if_neg h]
    exact write_not_zero _ _ _ h hv rfl

theorem read_word_zero (s : Bool) : double.read (double.word s 0) = .number s 0 (-((1074 : Nat) : Int)) := by cases s <;> decide

/-- what is written of a whole datum reads as that number -/
theorem isFl_write (s : Bool) (n : Int) (p : Nat) (hv : n.natAbs < 2 ^ 53) (h1 : n < 0 → s = true) (h2 : 0 < n → s = false) : IsFl (double.write (.number s (n.natAbs * 2 ^ p) (-(p : Int)))) n := by
  by_cases h : n = 0
  · subst h
    simp only [Int.natAbs_zero, Nat.zero_mul]
    rw [write_zero]
    exact ⟨s, 0, 1074, read_word_zero s, zero_mag 1074, by simp, by simp⟩
  · have hs : s = decide (n < 0) := by
      rcases Int.lt_trichotomy n 0 with h' | h' | h'
      · rw [h1 h']; simp [h']
      · contradiction
      · rw [h2 h']; simp; omega
    rw [write_not_zero s n p h hv hs]
    exact isFl_fl n hv

theorem add_isFl (x y : Nat) (a b : Int) (ha : IsFl x a) (hb : IsFl y b) (hv : (a + b).natAbs < 2 ^ 53) : ∃ r, double.add x y = some r ∧ IsFl r (a + b) := by
  obtain ⟨s, m, p, hp, rfl, ha1, ha2⟩ := ha
  obtain ⟨t, n, q, hq, rfl, hb1, hb2⟩ := hb
  obtain ⟨r, hr⟩ := sum_whole s t a b p q ha1 ha2 hb1 hb2
  refine ⟨_, by unfold Format.add; rw [hp, hq, hr]; rfl, isFl_write _ _ _ hv ?_ ?_⟩
  · intro h; rw [if_neg (by omega)]; simpa using h
  · intro h; rw [if_neg (by omega)]; simp; omega

theorem sub_isFl (x y : Nat) (a b : Int) (ha : IsFl x a) (hb : IsFl y b) (hv : (a - b).natAbs < 2 ^ 53) : ∃ r, double.sub x y = some r ∧ IsFl r (a - b) := by
  obtain ⟨s, m, p, hp, rfl, ha1, ha2⟩ := ha
  obtain ⟨t, n, q, hq, rfl, hb1, hb2⟩ := hb
  obtain ⟨r, hr⟩ := sum_whole s (!t) a (-b) p q ha1 ha2 (by intro h; rw [hb2 (by omega)]; rfl) (by intro h; rw [hb1 (by omega)]; rfl)
  rw [Int.natAbs_neg, ← Int.sub_eq_add_neg] at hr
  refine ⟨_, by unfold Format.sub; rw [hp, hq]; simp only [Datum.opposite]; rw [hr]; rfl, isFl_write _ _ _ hv ?_ ?_⟩
  · intro h; rw [if_neg (by omega)]; simpa using h
  · intro h; rw [if_neg (by omega)]; simp; omega

theorem mul_isFl (x y : Nat) (a b : Int) (ha : IsFl x a) (hb : IsFl y b) (hv : (a * b).natAbs < 2 ^ 53) : ∃ r, double.mul x y = some r ∧ IsFl r (a * b) := by
  obtain ⟨s, m, p, hp, rfl, ha1, ha2⟩ := ha
  obtain ⟨t, n, q, hq, rfl, hb1, hb2⟩ := hb
  refine ⟨double.write (.number (s ^^ t) ((a * b).natAbs * 2 ^ (p + q)) (-((p + q : Nat) : Int))), ?_, isFl_write _ _ _ hv ?_ ?_⟩
  · unfold Format.mul
    rw [hp, hq]
    simp only [Datum.product, Option.map_some]
    congr 3
    · rw [Int.natAbs_mul, Nat.pow_add]
      simp only [Nat.mul_assoc, Nat.mul_left_comm]
    · omega
  · intro h
    rcases Int.lt_trichotomy a 0 with h' | h' | h'
    · have : 0 < b := by
        rcases Int.lt_trichotomy b 0 with g | g | g
        · have := Int.mul_pos_of_neg_of_neg h' g; omega
        · subst g; simp at h
        · exact g
      rw [ha1 h', hb2 this]; rfl
    · subst h'; simp at h
    · have : b < 0 := by
        rcases Int.lt_trichotomy b 0 with g | g | g
        · exact g
        · subst g; simp at h
        · have := Int.mul_pos h' g; omega
      rw [ha2 h', hb1 this]; rfl
  · intro h
    rcases Int.lt_trichotomy a 0 with h' | h' | h'
    · have : b < 0 := by
        rcases Int.lt_trichotomy b 0 with g | g | g
        · exact g
        · subst g; simp at h
        · have := Int.mul_neg_of_neg_of_pos h' g; omega
      rw [ha1 h', hb1 this]; rfl
    · subst h'; simp at h
    · have : 0 < b := by
        rcases Int.lt_trichotomy b 0 with g | g | g
        · have := Int.mul_neg_of_pos_of_neg h' g; omega
        · subst g; simp at h
        · exact g
      rw [ha2 h', hb2 this]; rfl

theorem compare_mul_pow (a b : Int) (p : Nat) : compare (a * 2 ^ p) (b * 2 ^ p) = compare a b := by
  have hp := pow_pos_int p
  simp only [compare, compareOfLessAndEq]
  by_cases h1 : a < b
  · rw [if_pos h1, if_pos (Int.mul_lt_mul_of_pos_right h1 hp)]
  · by_cases h2 : a = b
    · subst h2; simp
    · have : b < a := by omega
      have := Int.mul_lt_mul_of_pos_right this hp
      rw [if_neg h1, if_neg h2, if_neg (by omega), if_neg (by omega)]

theorem order_isFl (x y : Nat) (a b : Int) (ha : IsFl x a) (hb : IsFl y b) : double.order x y = some (compare a b) := by
  obtain ⟨s, m, p, hp, rfl, ha1, ha2⟩ := ha
  obtain ⟨t, n, q, hq, rfl, hb1, hb2⟩ := hb
  unfold Format.order
  rw [hp, hq]
  unfold Datum.order
  simp only
  have hb : min (-(p : Int)) (-(q : Int)) = -((max p q : Nat) : Int) := by omega
  rw [hb, signed_eq a s p _ ha1 ha2, signed_eq b t q _ hb1 hb2]
  rw [show p + (-(p : Int) - -((max p q : Nat) : Int)).toNat = max p q by omega, show q + (-(q : Int) - -((max p q : Nat) : Int)).toNat = max p q by omega]
  rw [compare_mul_pow]

theorem order_fl (a b : Int) (ha : a.natAbs < 2 ^ 53) (hb : b.natAbs < 2 ^ 53) : double.order (fl a) (fl b) = some (compare a b) :=
  order_isFl _ _ _ _ (isFl_fl a ha) (isFl_fl b hb)

theorem fl_inj (a b : Int) (ha : a.natAbs < 2 ^ 53) (hb : b.natAbs < 2 ^ 53) : fl a = fl b ↔ a = b := by
  constructor
  · intro h
    have h1 := order_fl a b ha hb
    have h2 := order_fl b b hb hb
    rw [h, h2] at h1
    simp only [Option.some.injEq] at h1
    simp only [compare, compareOfLessAndEq, Int.lt_irrefl, if_false, if_true] at h1
    by_cases c : a < b
    · rw [if_pos c] at h1; cases h1
    · by_cases d : a = b
      · exact d
      · rw [if_neg c, if_neg d] at h1; cases h1
  · intro h; rw [h]

/-- a minus sign -/
theorem neg_fl (n : Int) (h : n ≠ 0) (hv : n.natAbs < 2 ^ 53) : Op.negFloat .f64 (fl n) = fl (-n) := by
  have hr := rungOf_lt n.natAbs (by omega) hv
  rw [fl_word n h hv, fl_word (-n) (by omega) (by omega)]
  rw [Int.natAbs_neg]
  show _ ^^^ 2 ^ 63 = _
  have e0 := signWeight_double
  have hx : ∀ r : Nat, r < 2 ^ 63 → r ^^^ 2 ^ 63 = 2 ^ 63 + r := by
    intro r hlt
    apply Nat.eq_of_testBit_eq
    intro i
    rw [Nat.testBit_xor, Nat.testBit_two_pow]
    by_cases hi : i = 63
    · subst hi
      rw [Nat.testBit_two_pow_add_eq, Nat.testBit_lt_two_pow hlt]; rfl
    · by_cases hi2 : i < 63
      · rw [Nat.testBit_two_pow_add_gt hi2]
        have : ¬ (63 = i) := by omega
        simp [this]
      · have l1 : r < 2 ^ i := Nat.lt_of_lt_of_le hlt (Nat.pow_le_pow_right (by omega) (by omega))
        have l2 : 2 ^ 63 + r < 2 ^ i := by
          have : 2 ^ 64 ≤ 2 ^ i := Nat.pow_le_pow_right (by omega) (by omega)
          omega
        rw [Nat.testBit_lt_two_pow l1, Nat.testBit_lt_two_pow l2]
        have : ¬ (63 = i) := by omega
        simp [this]
  have hlt : rungOf n.natAbs < 2 ^ 63 := by omega
  by_cases hn : n < 0
  · have h2 : ¬ (-n < 0) := by omega
    simp only [hn, h2, decide_true, decide_false, Format.word, e0, if_true, Bool.false_eq_true, if_false]
    rw [← hx _ hlt, Nat.xor_assoc, Nat.xor_self, Nat.xor_zero]
  · have h2 : (-n < 0) := by omega
    simp only [hn, h2, decide_true, decide_false, Format.word, e0, if_true, Bool.false_eq_true, if_false]
    exact hx _ hlt

theorem negFloat_zero : Op.negFloat .f64 0 = 2 ^ 63 := by decide

theorem toInt_isFl (x : Nat) (n : Int) (h : IsFl x n) (hv : n.natAbs < 2 ^ 53) : floatToIntVal .f64 x .i64 = some n := by
  obtain ⟨s, m, p, hp, rfl, h1, h2⟩ := h
  have hz : Toward.zero.cut s (n.natAbs * 2 ^ p) p = n.natAbs := by
    by_cases h0 : n.natAbs = 0
    · rw [h0]; simp [Toward.cut]
    · have e0 : (n.natAbs * 2 ^ p).log2 = n.natAbs.log2 + p := log2_shift _ p h0
      have hm : min p ((n.natAbs * 2 ^ p).log2 + 2) = p := by rw [e0]; omega
      have hp : 0 < 2 ^ p := Nat.two_pow_pos p
      unfold Toward.cut
      simp only [hm, Nat.one_shiftLeft, Nat.mul_div_cancel _ hp]
      simp
  have hi : (FloatKind.decode .f64 x).toInt .zero = some n := by
    show (double.read x).toInt .zero = some n
    rw [hp]
    simp only [Datum.toInt, Datum.integral]
    rw [show (-(p : Int)).toNat = 0 by omega, show (- -(p : Int)).toNat = p by omega, Nat.shiftLeft_zero, hz]
    have := signed_eq n s 0 0 h1 h2
    simp only [Nat.pow_zero, Nat.mul_one] at this
    rw [this]; simp
  unfold floatToIntVal
  rw [hi]
  simp only
  rw [if_pos]
  have e1 : IntKind.i64.min = -2 ^ 63 := by decide
  have e2 : IntKind.i64.max = 2 ^ 63 - 1 := by decide
  rw [e1, e2]; omega

end Go.Proofs.Ytfajenfdcpepjaa
