/- The contracts of package walk's turn and step, and of the statements' own small functions over places, at whole parts. -/
import Derived.Test.YtfajenfdcpepjaaRows
import Derived.Test.YtfajenfdcpepjaaFloats
import Derived.WalkKit
import Derived.WalkSpells
import Derived.WalkLawsBesides
import Derived.Laws.BitsAllLaws
namespace Go.Proofs.Ytfajenfdcpepjaa
open Go.RowKit

theorem i64_and3 (n : Int) : bits .and .i64 n 3 = n % 4 := by
  have h3 : (BitVec.ofInt 64 3).toNat = 2 ^ 2 - 1 := by decide
  have key : (BitVec.ofInt 64 n &&& BitVec.ofInt 64 3).toNat = (n % ((2 ^ 64 : Nat) : Int)).toNat % 2 ^ 2 := by
    rw [BitVec.toNat_and, BitVec.toNat_ofInt, h3, Nat.and_two_pow_sub_one_eq_mod]
  show IntKind.i64.wrap ((BitVec.ofInt 64 n &&& BitVec.ofInt 64 3).toNat : Nat) = n % 4
  rw [key, IntKind.wrap_i64]
  omega

theorem run_neg_float (P : Program) (w : World) (b : Nat) : (Op.unary .neg (.float .f64 b)).run P w = .ok (.float .f64 (Op.negFloat .f64 b)) w := rfl

theorem run_store_complex (P : Program) (w : World) (a : Addr) (m : Mode) (k : FloatKind) (x y : Nat) : (store a (.complex k x y) m).run P w = stored P w a (.complex k x y) m := run_store P w a _ m rfl

/-- a part without a sign at a nought -/
theorem plain_any (x : Nat) (n : Int) (w : World) (hx : IsFl x n) (hn : n ≠ 0 → x = fl n) :
    Calls Try.prog 59 #[.float .f64 x] w fun e w' => e = .returned (.float .f64 (fl n)) ∧ w' = w := by
  have h0 : IsFl 0 0 := by rw [← fl_zero]; exact isFl_fl 0 (by decide)
  have ho := order_isFl x 0 n 0 hx h0
  by_cases hz : n = 0
  · subst hz
    have ho : FloatKind.f64.format.order x 0 = some .eq := ho
    rw [fl_zero]
    clear hx hn h0
    go_enter Try.func59, Try.ntmps59
    go_wp2
    go_ret
    exact ⟨rfl, rfl⟩
  · have hb : (FloatKind.f64.format.order x 0 == some .eq) = false := by
      show (Ieee.double.order x 0 == some .eq) = false
      rw [ho]
      rcases Int.lt_trichotomy n 0 with h | h | h
      · simp [compare, compareOfLessAndEq, h]
      · contradiction
      · have : ¬ n < 0 := by omega
        simp [compare, compareOfLessAndEq, this, hz]
    have hx' := hn hz
    subst hx'
    clear hx hn h0 ho
    go_enter Try.func59, Try.ntmps59
    go_wp2
    go_ret
    exact ⟨rfl, rfl⟩

theorem plain_fl (n : Int) (w : World) (hv : n.natAbs < 2 ^ 53) :
    Calls Try.prog 59 #[.float .f64 (fl n)] w fun e w' => e = .returned (.float .f64 (fl n)) ∧ w' = w :=
  plain_any _ n w (isFl_fl n hv) fun _ => rfl

theorem plain_neg (n : Int) (w : World) (hv : n.natAbs < 2 ^ 53) :
    Calls Try.prog 59 #[.float .f64 (Op.negFloat .f64 (fl n))] w fun e w' => e = .returned (.float .f64 (fl (-n))) ∧ w' = w := by
  by_cases h : n = 0
  · subst h
    refine plain_any _ _ w ?_ (by simp)
    rw [fl_zero, negFloat_zero]
    exact isFl_negZero
  · rw [neg_fl n h hv]
    exact plain_fl _ w (by omega)

def turnX (a b n : Int) : Int := if n % 4 = 1 then -b else if n % 4 = 2 then -a else if n % 4 = 3 then b else a
def turnY (a b n : Int) : Int := if n % 4 = 1 then a else if n % 4 = 2 then -b else if n % 4 = 3 then -a else b

theorem turn_any (a b n : Int) (w : World) (ha : a.natAbs < 2 ^ 53) (hb : b.natAbs < 2 ^ 53) :
    Calls Try.prog 22 #[.complex .f64 (fl a) (fl b), .int .i64 n] w fun e w' => e = .returned (.complex .f64 (fl (turnX a b n)) (fl (turnY a b n))) ∧ w' = w := by
  have hand := i64_and3 n
  have hneg := run_neg_float
  have hpa := fun w => plain_fl a w ha
  have hpb := fun w => plain_fl b w hb
  have hna := fun w => plain_neg a w ha
  have hnb := fun w => plain_neg b w hb
  have hx : n % 4 = 0 ∨ n % 4 = 1 ∨ n % 4 = 2 ∨ n % 4 = 3 := by omega
  rcases hx with h | h | h | h
  all_goals
    rw [h] at hand
    simp only [turnX, turnY, h, reduceIte, Int.reduceEq]
    clear h
    generalize fl (-a) = x' at *
    generalize fl (-b) = y' at *
    generalize fl a = x at *
    generalize fl b = y at *
    have HA : Hid (∀ w, _) := hpa
    have HB : Hid (∀ w, _) := hpb
    have NA : Hid (∀ w, _) := hna
    have NB : Hid (∀ w, _) := hnb
    clear hpa hpb hna hnb ha hb
  · go_enter Try.func22, Try.ntmps22
    go_wp2_with (first | (go_at_call 59; refine (HA.out _).mono ?_; rintro e w' ⟨rfl, rfl⟩) | (go_at_call 59; refine (HB.out _).mono ?_; rintro e w' ⟨rfl, rfl⟩))
    go_ret
    exact ⟨rfl, rfl⟩
  · go_enter Try.func22, Try.ntmps22
    go_wp2_with (first | (go_at_call 59; refine (HA.out _).mono ?_; rintro e w' ⟨rfl, rfl⟩) | (go_at_call 59; refine (NB.out _).mono ?_; rintro e w' ⟨rfl, rfl⟩))
    go_ret
    exact ⟨rfl, rfl⟩
  · go_enter Try.func22, Try.ntmps22
    go_wp2_with (first | (go_at_call 59; refine (NA.out _).mono ?_; rintro e w' ⟨rfl, rfl⟩) | (go_at_call 59; refine (NB.out _).mono ?_; rintro e w' ⟨rfl, rfl⟩))
    go_ret
    exact ⟨rfl, rfl⟩
  · go_enter Try.func22, Try.ntmps22
    go_wp2_with (first | (go_at_call 59; refine (HB.out _).mono ?_; rintro e w' ⟨rfl, rfl⟩) | (go_at_call 59; refine (NA.out _).mono ?_; rintro e w' ⟨rfl, rfl⟩))
    go_ret
    exact ⟨rfl, rfl⟩

/-- a byte's step -/
def stepX (b : Int) : Int := turnX 1 0 b
def stepY (b : Int) : Int := turnY 1 0 b

theorem u8_and3 (b : Int) (h0 : 0 ≤ b) (h1 : b < 256) : bits .and .u8 b 3 = b % 4 := by
  rw [u8_and b 3 h0 h1 (by omega) (by omega)]
  rw [show (3 : Int).toNat = 2 ^ 2 - 1 by decide, Nat.and_two_pow_sub_one_eq_mod]
  omega

theorem step_any (b : Int) (w : World) (h0 : 0 ≤ b) (h1 : b < 256) :
    Calls Try.prog 16 #[.int .u8 b] w fun e w' => e = .returned (.complex .f64 (fl (stepX b)) (fl (stepY b))) ∧ w' = w := by
  have hand := u8_and3 b h0 h1
  have ht := fun w => turn_any 1 0 (b % 4) w (by decide) (by decide)
  have ex : turnX 1 0 (b % 4) = stepX b := by simp [stepX, turnX]
  have ey : turnY 1 0 (b % 4) = stepY b := by simp [stepY, turnY]
  rw [ex, ey, show fl 1 = 4607182418800017408 by rw [fl_def]; decide, fl_zero] at ht
  generalize fl (stepX b) = x at *
  generalize fl (stepY b) = y at *
  have HT : Hid (∀ w, _) := ht
  have hw : IntKind.i64.wrap (b % 4) = b % 4 := by rw [IntKind.wrap_i64]; omega
  clear ht ex ey
  go_enter Try.func16, Try.ntmps16
  go_wp2_with (go_at_call 22; refine (HT.out _).mono ?_; rintro e w' ⟨rfl, rfl⟩)
  go_ret
  exact ⟨rfl, rfl⟩

theorem run_bits64 (x : Nat) (w : World) : (callFunc 25 #[.float .f64 x]).run Try.prog w = .ok (.value (.int .u64 x)) w := by
  rw [run_callFunc_extern Try.func25 (by kernel_rfl) (by kernel_rfl) (by kernel_rfl) (e := Extern.MathFloatBits.float64bits) (by kernel_rfl)]
  rfl

theorem run_frombits64 (n : Int) (w : World) : (callFunc 62 #[.int .u64 n]).run Try.prog w = .ok (.value (.float .f64 n.toNat)) w := by
  rw [run_callFunc_extern Try.func62 (by kernel_rfl) (by kernel_rfl) (by kernel_rfl) (e := Extern.MathFloatBits.float64frombits) (by kernel_rfl)]
  rfl

/-- are two places alike, bit by bit? -/
theorem exact_any (x y x' y' : Nat) (w : World) :
    Calls Try.prog 13 #[.complex .f64 x y, .complex .f64 x' y'] w fun e w' => e = .returned (.bool (decide (x = x') && decide (y = y'))) ∧ w' = w := by
  have hbits := run_bits64
  have e1 : ((x : Int) == (x' : Int)) = decide (x = x') := by
    by_cases h : x = x'
    · simp [h]
    · have : ¬ (x : Int) = (x' : Int) := by omega
      simp [h, this]
  have e2 : ((y : Int) == (y' : Int)) = decide (y = y') := by
    by_cases h : y = y'
    · simp [h]
    · have : ¬ (y : Int) = (y' : Int) := by omega
      simp [h, this]
  generalize decide (x = x') = b1 at *
  generalize decide (y = y') = b2 at *
  cases b1
  all_goals
    go_enter Try.func13, Try.ntmps13
    go_wp2
    go_ret
    exact ⟨rfl, rfl⟩

end Go.Proofs.Ytfajenfdcpepjaa
