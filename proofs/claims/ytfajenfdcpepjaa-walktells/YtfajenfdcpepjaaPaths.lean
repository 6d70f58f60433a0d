/- The contracts of package walk's ends and distances: where a text ends, and how far two places of whole parts are. -/
import Derived.Test.YtfajenfdcpepjaaTurns
namespace Go.Proofs.Ytfajenfdcpepjaa
open Go.RowKit

theorem cadd (P : Program) (w : World) (t : TypeId) (a b c d : Int) (ha : a.natAbs < 2 ^ 50) (hb : b.natAbs < 2 ^ 50) (hc : c.natAbs < 2 ^ 50) (hd : d.natAbs < 2 ^ 50) :
    (binOp .add t (.complex .f64 (fl a) (fl b)) (.complex .f64 (fl c) (fl d))).run P w = .ok (.complex .f64 (fl (a + c)) (fl (b + d))) w := by
  refine run_complex_sum w .add (Or.inl rfl) t .f64 _ _ _ _ _ _ ?_
  have e1 : floatBits .add .f64 (fl a) (fl c) = some (fl (a + c)) := add_fl a c (by omega) (by omega) (by omega)
  have e2 : floatBits .add .f64 (fl b) (fl d) = some (fl (b + d)) := add_fl b d (by omega) (by omega) (by omega)
  unfold cSumBits
  rw [e1, e2]; rfl

theorem csub (P : Program) (w : World) (t : TypeId) (a b c d : Int) (ha : a.natAbs < 2 ^ 50) (hb : b.natAbs < 2 ^ 50) (hc : c.natAbs < 2 ^ 50) (hd : d.natAbs < 2 ^ 50) :
    (binOp .sub t (.complex .f64 (fl a) (fl b)) (.complex .f64 (fl c) (fl d))).run P w = .ok (.complex .f64 (fl (a - c)) (fl (b - d))) w := by
  refine run_complex_sum w .sub (Or.inr rfl) t .f64 _ _ _ _ _ _ ?_
  have e1 : floatBits .sub .f64 (fl a) (fl c) = some (fl (a - c)) := sub_fl a c (by omega) (by omega) (by omega)
  have e2 : floatBits .sub .f64 (fl b) (fl d) = some (fl (b - d)) := sub_fl b d (by omega) (by omega) (by omega)
  unfold cSumBits
  rw [e1, e2]; rfl

theorem abs_bits (n : Int) (hv : n.natAbs < 2 ^ 53) : bits .andNot .u64 (fl n : Int) 9223372036854775808 = (fl (n.natAbs : Int) : Int) := by
  have hl := fl_lt n
  rw [u64_andNot _ _ (by omega) (by omega) (by omega) (by omega)]
  rw [Int.toNat_natCast, show 18446744073709551615 - Int.toNat 9223372036854775808 = 2 ^ 63 - 1 by decide, Nat.and_two_pow_sub_one_eq_mod]
  congr 1
  by_cases h : n = 0
  · subst h; rw [fl_zero, show ((Int.natAbs 0 : Nat) : Int) = 0 from rfl, fl_zero]
  · have hr := rungOf_lt n.natAbs (by omega) hv
    rw [fl_word n h hv, fl_word (n.natAbs : Int) (by omega) (by omega)]
    have hnn : ¬ ((n.natAbs : Int) < 0) := by omega
    simp only [hnn, decide_false, Ieee.Format.word, signWeight_double, Bool.false_eq_true, if_false, Int.natAbs_natCast]
    generalize rungOf n.natAbs = r at *
    by_cases hn : n < 0
    · simp only [hn, decide_true, if_true]; omega
    · simp only [hn, decide_false, Bool.false_eq_true, if_false]; omega

theorem abs_any (n : Int) (w : World) (hv : n.natAbs < 2 ^ 53) :
    Calls Try.prog 26 #[.float .f64 (fl n)] w fun e w' => e = .returned (.float .f64 (fl n.natAbs)) ∧ w' = w := by
  have hbits := run_bits64
  have hfrom := run_frombits64
  have hand := abs_bits n hv
  have hn : Int.toNat (fl (n.natAbs : Int) : Int) = fl n.natAbs := Int.toNat_natCast _
  generalize fl (n.natAbs : Int) = y at *
  generalize fl n = x at *
  clear hv
  go_enter Try.func26, Try.ntmps26
  go_wp2
  go_ret
  exact ⟨rfl, rfl⟩

theorem fl_to_int (n : Int) (w : World) (hv : n.natAbs < 2 ^ 53) : (convert 39 3 (.float .f64 (fl n))).run Try.prog w = .ok (.int .i64 n) w :=
  run_convert_float_int w 39 3 .f64 .i64 (fl n) n (by kernel_rfl) Try.underlying3 (toInt_isFl _ n (isFl_fl n hv) hv)

/-- how far two places are -/
def farI (a b c d : Int) : Int := ((c - a).natAbs : Int) + ((d - b).natAbs : Int)

theorem apart_any (a b c d : Int) (w : World) (ha : a.natAbs < 2 ^ 50) (hb : b.natAbs < 2 ^ 50) (hc : c.natAbs < 2 ^ 50) (hd : d.natAbs < 2 ^ 50) :
    Calls Try.prog 19 #[.complex .f64 (fl a) (fl b), .complex .f64 (fl c) (fl d)] w fun e w' => e = .returned (.int .i64 (farI a b c d)) ∧ w' = w := by
  have hs := fun w => csub Try.prog w 37 c d a b hc hd ha hb
  have h1 := fun w => abs_any (c - a) w (by omega)
  have h2 := fun w => abs_any (d - b) w (by omega)
  have t1 := fun w => fl_to_int ((c - a).natAbs : Int) w (by omega)
  have t2 := fun w => fl_to_int ((d - b).natAbs : Int) w (by omega)
  have hw : IntKind.i64.wrap (((c - a).natAbs : Int) + ((d - b).natAbs : Int)) = ((c - a).natAbs : Int) + ((d - b).natAbs : Int) := by rw [IntKind.wrap_i64]; omega
  unfold farI
  clear ha hb hc hd
  generalize fl (((c - a).natAbs : Nat) : Int) = x1 at *
  generalize fl (((d - b).natAbs : Nat) : Int) = y1 at *
  generalize (c - a).natAbs = n1 at *
  generalize (d - b).natAbs = n2 at *
  generalize fl (c - a) = x at *
  generalize fl (d - b) = y at *
  generalize fl a = fa at *
  generalize fl b = fb at *
  generalize fl c = fc at *
  generalize fl d = fd at *
  have H1 : Hid (∀ w, _) := h1
  have H2 : Hid (∀ w, _) := h2
  clear h1 h2
  go_enter Try.func19, Try.ntmps19
  go_wp2_with (first | (go_at_call 26; refine (H1.out _).mono ?_; rintro e w' ⟨rfl, rfl⟩) | (go_at_call 26; refine (H2.out _).mono ?_; rintro e w' ⟨rfl, rfl⟩))
  go_ret
  exact ⟨rfl, rfl⟩

/-- where a text is behind so many of its bytes -/
def posX (s : ByteArray) : Nat → Int
  | 0 => 0
  | k + 1 => posX s k + (if h : k < s.size then stepX (s[k].toNat : Int) else 0)
def posY (s : ByteArray) : Nat → Int
  | 0 => 0
  | k + 1 => posY s k + (if h : k < s.size then stepY (s[k].toNat : Int) else 0)

theorem posX_succ (s : ByteArray) (k : Nat) (h : k < s.size) : posX s (k + 1) = posX s k + stepX (s[k].toNat : Int) := by simp only [posX, h, dite_true]
theorem posY_succ (s : ByteArray) (k : Nat) (h : k < s.size) : posY s (k + 1) = posY s k + stepY (s[k].toNat : Int) := by simp only [posY, h, dite_true]

theorem step_one (b : Int) : (stepX b).natAbs + (stepY b).natAbs = 1 := by
  unfold stepX stepY turnX turnY
  repeat' split
  all_goals omega

theorem pos_le (s : ByteArray) (k : Nat) : (posX s k).natAbs + (posY s k).natAbs ≤ k := by
  induction k with
  | zero => simp [posX, posY]
  | succ k ih =>
    unfold posX posY
    by_cases h : k < s.size
    · have := step_one (s[k].toNat : Int)
      simp only [h, dite_true]; omega
    · simp only [h, dite_false]; omega

theorem end_any (s : ByteArray) (w : World) (hs : s.size ≤ 1000000) :
    Calls Try.prog 18 #[.string s] w fun e w' => e = .returned (.complex .f64 (fl (posX s s.size)) (fl (posY s s.size))) ∧ w' = w := by
  have hx0 : fl (posX s 0) = 0 := fl_zero
  have hy0 : fl (posY s 0) = 0 := fl_zero
  go_enter Try.func18, Try.ntmps18
  go_wp2
  go_loopw [3, 7] (fun z i wr => ∃ k : Nat, k ≤ s.size ∧ z = .complex .f64 (fl (posX s k)) (fl (posY s k)) ∧ i = .int .i64 k ∧ wr = w) (fun _ i _ => s.size - (intOf i).toNat)
  case atStart => exact ⟨0, Nat.zero_le _, by rw [hx0, hy0], rfl, rfl⟩
  case round =>
    obtain ⟨k, hk, rfl, rfl, rfl⟩ := hrel
    by_cases hlt : k < s.size
    · have hb : (s[k].toNat : Int) ≤ 255 := by have := s[k].toNat_lt; omega
      have hp := pos_le s k
      have hst := step_one (s[k].toNat : Int)
      have hadd := fun w => cadd Try.prog w 37 (posX s k) (posY s k) (stepX (s[k].toNat : Int)) (stepY (s[k].toNat : Int)) (by omega) (by omega) (by omega) (by omega)
      rw [← posX_succ s k hlt, ← posY_succ s k hlt] at hadd
      have hstep := fun w => step_any (s[k].toNat : Int) w (by omega) (by omega)
      have HS : Hid (∀ w, _) := hstep
      clear hstep hst hp hx0 hy0
      generalize fl (posX s k) = x at *
      generalize fl (posY s k) = y at *
      generalize fl (stepX (s[k].toNat : Int)) = dx at *
      generalize fl (stepY (s[k].toNat : Int)) = dy at *
      go_wp2_with (go_at_call 16; refine (HS.out _).mono ?_; rintro e w' ⟨rfl, rfl⟩)
      go_roundw
      case rel => exact ⟨k + 1, by omega, rfl, by go_num, by first | rfl | trivial⟩
      case measure => simp [intOf]; omega
    · obtain rfl : k = s.size := by omega
      go_wp2
      go_ret
      exact ⟨rfl, rfl⟩

end Go.Proofs.Ytfajenfdcpepjaa
