/- The library's count of the 1s of a word, plainly: what its three masks and three shifts make is how many there are. -/
import Derived.Test.YtgddapefghcphaaDoorWd
namespace Go.Proofs.YtgddapefghcphaaDoor

/-- a mask of so many bytes -/
def mskN (m : Nat) : Nat → Nat
  | 0 => 0
  | n + 1 => 256 * mskN m n + m

theorem mskN_succ (m n : Nat) : mskN m (n + 1) = 256 * mskN m n + m := rfl

theorem and_split (q r a b : Nat) (hr : r < 256) (hb : b < 256) : (256 * q + r) &&& (256 * a + b) = 256 * (q &&& a) + (r &&& b) := by
  have hrb : r &&& b < 2 ^ 8 := Nat.and_lt_two_pow _ hb
  have e1 : (256 * q + r) = 2 ^ 8 * q + r := rfl
  have e2 : (256 * a + b) = 2 ^ 8 * a + b := rfl
  have e3 : 256 * (q &&& a) + (r &&& b) = 2 ^ 8 * (q &&& a) + (r &&& b) := rfl
  rw [e1, e2, e3]
  apply Nat.eq_of_testBit_eq
  intro j
  rw [Nat.testBit_and, Nat.testBit_two_pow_mul_add _ hr, Nat.testBit_two_pow_mul_add _ hb, Nat.testBit_two_pow_mul_add _ hrb]
  by_cases hj : j < 8
  · simp [hj]
  · simp [hj]

/-- the first step, of so many bytes -/
def st1 (n x : Nat) : Nat := (x / 2 &&& mskN 85 n) + (x &&& mskN 85 n)
/-- the second -/
def st2 (n x : Nat) : Nat := (x / 4 &&& mskN 51 n) + (x &&& mskN 51 n)
/-- the third -/
def st3 (n x : Nat) : Nat := (x / 16 + x) &&& mskN 15 n

def b1 (r : Nat) : Nat := (r / 2 &&& 85) + (r &&& 85)
def b2 (r : Nat) : Nat := (r / 4 &&& 51) + (r &&& 51)

theorem half85 : ∀ r : Fin 256, ((128 + r.val / 2) &&& 85) = (r.val / 2 &&& 85) := by decide +kernel
theorem quar51 : ∀ r : Fin 256, ((64 + r.val / 4) &&& 51) = (r.val / 4 &&& 51) ∧ ((128 + r.val / 4) &&& 51) = (r.val / 4 &&& 51) ∧ ((192 + r.val / 4) &&& 51) = (r.val / 4 &&& 51) := by decide +kernel
theorem b1_lt : ∀ r : Fin 256, b1 r.val < 256 := by decide +kernel
theorem b21 : ∀ r : Fin 256, b2 (b1 r.val) ≤ 68 ∧ b2 (b1 r.val) % 16 ≤ 4 := by decide +kernel
theorem b321 : ∀ r : Fin 256, ((b2 (b1 r.val) / 16 + b2 (b1 r.val)) &&& 15) = popN 8 r.val ∧ ((16 + b2 (b1 r.val) / 16 + b2 (b1 r.val)) &&& 15) = popN 8 r.val ∧ ((32 + b2 (b1 r.val) / 16 + b2 (b1 r.val)) &&& 15) = popN 8 r.val ∧ ((48 + b2 (b1 r.val) / 16 + b2 (b1 r.val)) &&& 15) = popN 8 r.val ∧ ((64 + b2 (b1 r.val) / 16 + b2 (b1 r.val)) &&& 15) = popN 8 r.val := by decide +kernel

theorem st1_step (n q r : Nat) (hr : r < 256) : st1 (n + 1) (256 * q + r) = 256 * st1 n q + b1 r := by
  unfold st1 b1
  have e : (256 * q + r) / 2 = 256 * (q / 2) + (q % 2 * 128 + r / 2) := by omega
  rw [mskN_succ, e, and_split _ _ _ _ hr (by omega), and_split _ _ _ _ (by omega) (by omega)]
  have h : ((q % 2 * 128 + r / 2) &&& 85) = (r / 2 &&& 85) := by
    rcases (show q % 2 = 0 ∨ q % 2 = 1 by omega) with k | k <;> rw [k]
    · simp
    · exact half85 ⟨r, hr⟩
  rw [h]
  omega

theorem st2_step (n q r : Nat) (hr : r < 256) : st2 (n + 1) (256 * q + r) = 256 * st2 n q + b2 r := by
  unfold st2 b2
  have e : (256 * q + r) / 4 = 256 * (q / 4) + (q % 4 * 64 + r / 4) := by omega
  rw [mskN_succ, e, and_split _ _ _ _ hr (by omega), and_split _ _ _ _ (by omega) (by omega)]
  have h : ((q % 4 * 64 + r / 4) &&& 51) = (r / 4 &&& 51) := by
    obtain ⟨g1, g2, g3⟩ := quar51 ⟨r, hr⟩
    rcases (show q % 4 = 0 ∨ q % 4 = 1 ∨ q % 4 = 2 ∨ q % 4 = 3 by omega) with k | k | k | k <;> rw [k]
    · simp
    · exact g1
    · exact g2
    · exact g3
  rw [h]
  omega

theorem st12_step (n q r : Nat) (hr : r < 256) : st2 (n + 1) (st1 (n + 1) (256 * q + r)) = 256 * st2 n (st1 n q) + b2 (b1 r) := by
  rw [st1_step n q r hr, st2_step n _ _ (b1_lt ⟨r, hr⟩)]

theorem st12_low (n q : Nat) : st2 n (st1 n q) % 16 ≤ 4 := by
  cases n with
  | zero => unfold st2 mskN; simp
  | succ n =>
    have e : q = 256 * (q / 256) + q % 256 := by omega
    rw [e, st12_step n _ _ (Nat.mod_lt _ (by omega))]
    have := (b21 ⟨q % 256, Nat.mod_lt _ (by omega)⟩).2
    simp only at this
    omega

/-- all three -/
def st (n x : Nat) : Nat := st3 n (st2 n (st1 n x))

theorem st_step (n q r : Nat) (hr : r < 256) : st (n + 1) (256 * q + r) = 256 * st n q + popN 8 r := by
  unfold st
  rw [st12_step n q r hr]
  have hl := st12_low n q
  obtain ⟨h1, h2⟩ := b21 ⟨r, hr⟩
  obtain ⟨g0, g1, g2, g3, g4⟩ := b321 ⟨r, hr⟩
  simp only at h1 h2 g0 g1 g2 g3 g4
  generalize b2 (b1 r) = R at *
  generalize st2 n (st1 n q) = Q at *
  unfold st3
  have e : (256 * Q + R) / 16 + (256 * Q + R) = 256 * (Q / 16 + Q) + (Q % 16 * 16 + R / 16 + R) := by omega
  rw [mskN_succ, e, and_split _ _ _ _ (by omega) (by omega)]
  congr 1
  rcases (show Q % 16 = 0 ∨ Q % 16 = 1 ∨ Q % 16 = 2 ∨ Q % 16 = 3 ∨ Q % 16 = 4 by omega) with k | k | k | k | k <;> rw [k]
  · simpa using g0
  · exact g1
  · exact g2
  · exact g3
  · exact g4

theorem st_any (n x : Nat) : st (n + 1) x = 256 * st n (x / 256) + popN 8 (x % 256) := by
  have e : x = 256 * (x / 256) + x % 256 := by omega
  have := st_step n (x / 256) (x % 256) (Nat.mod_lt _ (by omega))
  rwa [← e] at this

theorem pop8_mod (x : Nat) : popN 8 (x % 256) = popN 8 x := popN_congr 8 fun j hj => by
  rw [show x % 256 = x % 2 ^ 8 from rfl, Nat.testBit_mod_two_pow]; simp [hj]

theorem pop_byte (n x : Nat) : popN (8 + n) x = popN 8 (x % 256) + popN n (x / 256) := by
  rw [popN_add, pop8_mod]

theorem st_zero (x : Nat) : st 0 x = 0 := by
  unfold st st3 mskN
  exact Nat.and_zero _

def fold1 (y : Nat) : Nat := y + y / 256
def fold2 (y : Nat) : Nat := y + y / 65536
def fold3 (y : Nat) : Nat := y + y / 4294967296

theorem cut1 (a z : Nat) (ha : a < 256) : (a + 256 * z) / 256 = z := by omega
theorem cut2 (a b z : Nat) (ha : a < 256) (hb : b < 256) : (a + 256 * (b + 256 * z)) / 65536 = z := by omega
theorem cut4 (a b c d z : Nat) (ha : a < 256) (hb : b < 256) (hc : c < 256) (hd : d < 256) : (a + 256 * (b + 256 * (c + 256 * (d + 256 * z)))) / 4294967296 = z := by
  have h := cut2 a b (c + 256 * (d + 256 * z)) ha hb
  have h2 := cut2 c d z hc hd
  rw [show (4294967296 : Nat) = 65536 * 65536 from rfl, ← Nat.div_div_eq_div_mul, h, h2]
theorem cutm (s z : Nat) (hs : s < 128) : (s + 256 * z) % 128 = s := by omega
theorem add1 (a b y z : Nat) : (a + 256 * y) + (b + 256 * z) = (a + b) + 256 * (y + z) := by omega

theorem lt8 {y z : Nat} (B C : Nat) (hy : y ≤ B) (hz : z ≤ C) (h : B + 256 * C < 9223372036854775808) : y + 256 * z < 9223372036854775808 := by omega
theorem le8 {y z : Nat} (B C : Nat) (hy : y ≤ B) (hz : z ≤ C) : y + 256 * z ≤ B + 256 * C := by omega

theorem low_bytes {a b c d e f g h : Nat} (ha : a ≤ 64) (hb : b ≤ 64) (hc : c ≤ 64) (hd : d ≤ 64) (he : e ≤ 64) (hf : f ≤ 64) (hg : g ≤ 64) (hh : h ≤ 64) :
    a + 256 * (b + 256 * (c + 256 * (d + 256 * (e + 256 * (f + 256 * (g + 256 * h)))))) < 9223372036854775808 :=
  lt8 64 _ ha (le8 64 _ hb (le8 64 _ hc (le8 64 _ hd (le8 64 _ he (le8 64 _ hf (le8 64 _ hg hh)))))) (by decide)

theorem fold1_eq (a b c d e f g h : Nat) (ha : a ≤ 8) : fold1 (a + 256 * (b + 256 * (c + 256 * (d + 256 * (e + 256 * (f + 256 * (g + 256 * h))))))) = (a + b) + 256 * ((b + c) + 256 * ((c + d) + 256 * ((d + e) + 256 * ((e + f) + 256 * ((f + g) + 256 * ((g + h) + 256 * h)))))) := by
  unfold fold1
  rw [cut1 _ _ (by omega), add1, add1, add1, add1, add1, add1, Nat.add_right_comm g (256 * h) h]

theorem fold2_eq (a b c d e f g h : Nat) (ha : a ≤ 16) (hb : b ≤ 16) : fold2 (a + 256 * (b + 256 * (c + 256 * (d + 256 * (e + 256 * (f + 256 * (g + 256 * h))))))) = (a + c) + 256 * ((b + d) + 256 * ((c + e) + 256 * ((d + f) + 256 * ((e + g) + 256 * ((f + h) + 256 * (g + 256 * h)))))) := by
  unfold fold2
  rw [cut2 _ _ _ (by omega) (by omega), add1, add1, add1, add1, add1, Nat.add_right_comm f (256 * (g + 256 * h)) h]

theorem fold3_eq (a b c d e f g h : Nat) (ha : a ≤ 32) (hb : b ≤ 32) (hc : c ≤ 32) (hd : d ≤ 32) : fold3 (a + 256 * (b + 256 * (c + 256 * (d + 256 * (e + 256 * (f + 256 * (g + 256 * h))))))) = (a + e) + 256 * ((b + f) + 256 * ((c + g) + 256 * ((d + h) + 256 * (e + 256 * (f + 256 * (g + 256 * h)))))) := by
  unfold fold3
  rw [cut4 _ _ _ _ _ (by omega) (by omega) (by omega) (by omega), add1, add1, add1, Nat.add_right_comm d _ h]

theorem bytes_sum (a b c d e f g h y : Nat) (hy : y = a + 256 * (b + 256 * (c + 256 * (d + 256 * (e + 256 * (f + 256 * (g + 256 * h))))))) (ha : a ≤ 8) (hb : b ≤ 8) (hc : c ≤ 8) (hd : d ≤ 8) (he : e ≤ 8) (hf : f ≤ 8) (hg : g ≤ 8) (hh : h ≤ 8) :
    fold1 y < 9223372036854775808 ∧ fold2 (fold1 y) < 9223372036854775808 ∧ fold3 (fold2 (fold1 y)) < 9223372036854775808 ∧ fold3 (fold2 (fold1 y)) % 128 = a + b + (c + d) + (e + f + (g + h)) := by
  subst hy
  rw [fold1_eq _ _ _ _ _ _ _ _ ha, fold2_eq _ _ _ _ _ _ _ _ (by omega) (by omega), fold3_eq _ _ _ _ _ _ _ _ (by omega) (by omega) (by omega) (by omega)]
  exact ⟨low_bytes (by omega) (by omega) (by omega) (by omega) (by omega) (by omega) (by omega) (by omega),
    low_bytes (by omega) (by omega) (by omega) (by omega) (by omega) (by omega) (by omega) (by omega),
    low_bytes (by omega) (by omega) (by omega) (by omega) (by omega) (by omega) (by omega) (by omega), cutm _ _ (by omega)⟩

theorem turn8 (a b c d e f g h : Nat) : 256 * (256 * (256 * (256 * (256 * (256 * (256 * h + g) + f) + e) + d) + c) + b) + a = a + 256 * (b + 256 * (c + 256 * (d + 256 * (e + 256 * (f + 256 * (g + 256 * h)))))) := by
  rw [Nat.add_comm _ a, Nat.add_comm _ b, Nat.add_comm _ c, Nat.add_comm _ d, Nat.add_comm _ e, Nat.add_comm _ f, Nat.add_comm _ g]

theorem st8_eq (x : Nat) : st 8 x = popN 8 (x % 256) + 256 * (popN 8 (x / 256 % 256) + 256 * (popN 8 (x / 256 / 256 % 256) + 256 * (popN 8 (x / 256 / 256 / 256 % 256) + 256 * (popN 8 (x / 256 / 256 / 256 / 256 % 256) + 256 * (popN 8 (x / 256 / 256 / 256 / 256 / 256 % 256) + 256 * (popN 8 (x / 256 / 256 / 256 / 256 / 256 / 256 % 256) + 256 * popN 8 (x / 256 / 256 / 256 / 256 / 256 / 256 / 256 % 256))))))) := by
  rw [st_any 7, st_any 6, st_any 5, st_any 4, st_any 3, st_any 2, st_any 1, st_any 0, st_zero, Nat.mul_zero, Nat.zero_add]
  exact turn8 _ _ _ _ _ _ _ _

/-- the whole count -/
theorem count_word (x : Nat) :
    fold1 (st 8 x) < 9223372036854775808 ∧ fold2 (fold1 (st 8 x)) < 9223372036854775808 ∧ fold3 (fold2 (fold1 (st 8 x))) < 9223372036854775808 ∧ fold3 (fold2 (fold1 (st 8 x))) % 128 = popN 64 x := by
  have hp : popN 64 x = popN 8 (x % 256) + (popN 8 (x / 256 % 256) + (popN 8 (x / 256 / 256 % 256) + (popN 8 (x / 256 / 256 / 256 % 256) + (popN 8 (x / 256 / 256 / 256 / 256 % 256) + (popN 8 (x / 256 / 256 / 256 / 256 / 256 % 256) + (popN 8 (x / 256 / 256 / 256 / 256 / 256 / 256 % 256) + popN 8 (x / 256 / 256 / 256 / 256 / 256 / 256 / 256 % 256))))))) := by
    rw [show (64 : Nat) = 8 + (8 + (8 + (8 + (8 + (8 + (8 + 8)))))) from rfl, pop_byte, pop_byte, pop_byte, pop_byte, pop_byte, pop_byte, pop_byte, pop8_mod (x / 256 / 256 / 256 / 256 / 256 / 256 / 256)]
  obtain ⟨h1, h2, h3, h4⟩ := bytes_sum (popN 8 (x % 256)) (popN 8 (x / 256 % 256)) (popN 8 (x / 256 / 256 % 256)) (popN 8 (x / 256 / 256 / 256 % 256)) (popN 8 (x / 256 / 256 / 256 / 256 % 256)) (popN 8 (x / 256 / 256 / 256 / 256 / 256 % 256)) (popN 8 (x / 256 / 256 / 256 / 256 / 256 / 256 % 256)) (popN 8 (x / 256 / 256 / 256 / 256 / 256 / 256 / 256 % 256)) (st 8 x) (st8_eq x)
    (popN_le _ _) (popN_le _ _) (popN_le _ _) (popN_le _ _) (popN_le _ _) (popN_le _ _) (popN_le _ _) (popN_le _ _)
  refine ⟨h1, h2, h3, ?_⟩
  rw [h4, hp]
  simp only [Nat.add_assoc]

end Go.Proofs.YtgddapefghcphaaDoor
