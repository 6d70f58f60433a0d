/- Package leaf: where the k-th is. -/
import Derived.Test.YtgddapefghcphaaDoorLeR
import Derived.BigQuiet
import Derived.Deep.Cut
namespace Go.Proofs.YtgddapefghcphaaDoor
open Go.RowKit

theorem not_word {x n : Nat} (hx : x < 2 ^ n) (hn : n ≤ 64) : bits BinOp.andNot IntKind.u64 ((2 ^ n - 1 : Nat) : Int) (x : Int) = ((2 ^ n - 1 - x : Nat) : Int) := by
  have hp := pow_le64 hn
  have hp0 : 0 < 2 ^ n := Nat.two_pow_pos n
  rw [u64_andNot_nat _ x (by omega) (by omega)]
  congr 1
  apply Nat.eq_of_testBit_eq
  intro j
  rw [Nat.testBit_and, Nat.testBit_two_pow_sub_one, sub_test hx, show 18446744073709551615 - x = 2 ^ 64 - (x + 1) by omega, Nat.testBit_two_pow_sub_succ (by have : (2:Nat) ^ 64 = 18446744073709551616 := rfl; omega)]
  by_cases hj : j < n
  · simp [hj, show j < 64 by omega]
  · simp [hj]

/-- what is looked for -/
def wantN (x n : Nat) (one : Bool) : Nat := if one then x else 2 ^ n - 1 - x

theorem wantN_lt {x n : Nat} (hx : x < 2 ^ n) (one : Bool) : wantN x n one < 2 ^ n := by
  unfold wantN
  cases one
  · show 2 ^ n - 1 - x < 2 ^ n; omega
  · exact hx

theorem clear_word {V : Nat} (h0 : V ≠ 0) (hV : V < 18446744073709551616) : bits BinOp.and IntKind.u64 (V : Int) (IntKind.u64.wrap ((V : Int) - 1)) = ((V &&& (V - 1) : Nat) : Int) := by
  have e : IntKind.u64.wrap ((V : Int) - 1) = ((V - 1 : Nat) : Int) := by rw [IntKind.wrap_u64]; omega
  rw [e, bits_and_u64_nat V _ hV (by omega)]

set_option maxHeartbeats 2000000 in
theorem select_no {x : Nat} {n k : Int} {one : Bool} (hx : x < 18446744073709551616) (h : rightB x n = false) (w : World) :
    Calls Tryd.prog 9 #[.agg #[.int .u64 ((x : Nat) : Int), .int .i64 n], .bool one, .int .i64 k] w fun e w' => e = .returned (.int .i64 (-1)) ∧ Below w.heap.size w w' := by
  have T1 : Hid (∀ W, _) := fun W => right_any x hx n W
  rw [h] at T1
  go_enter Tryd.func9, Tryd.ntmps9
  go_wp2_with (go_at_call 6; fail)
  refine (T1.out _).mono ?_
  rintro e w1 ⟨rfl, hb⟩
  have HB : Hid (Below w.heap.size w w1) := ((Below.refl w.heap.size w).alloc (Nat.le_refl _) _).trans (hb.mono (by simp))
  clear hb
  go_wp2
  go_ret
  exact ⟨rfl, HB.out⟩

set_option maxHeartbeats 4000000 in
theorem select_yes {x n : Nat} (hx : x < 2 ^ n) (hn : n ≤ 64) (one : Bool) (k : Int) (w : World) (hT : Tab w) :
    Calls Tryd.prog 9 #[.agg #[.int .u64 ((x : Nat) : Int), .int .i64 (n : Nat)], .bool one, .int .i64 k] w fun e w' => e = .returned (.int .i64 (selI (wantN x n one) n k)) ∧ Below w.heap.size w w' := by
  have hp := pow_le64 hn
  have T1 : Hid (∀ W, _) := fun W => right_any x (by omega) (n : Nat) W
  rw [right_of hn hx] at T1
  have HT : Hid (Tab w) := hT
  clear hT
  have hp0 : 0 < 2 ^ n := Nat.two_pow_pos n
  cases one with
  | true =>
    have hW : x < 2 ^ n := by omega
    have hW64 : x < 18446744073709551616 := by omega
    have HN : Hid (_ = _) := not_word hx hn
    have T2 : Hid (∀ W, _) := fun W => lowest_any n hn W
    have T3 : Hid (∀ W, _) := fun W => ones_any x hW64 W
    have hle : popN 64 x ≤ 64 := popN_le 64 _
    show Calls _ _ _ _ fun e w' => e = .returned (.int .i64 (selI x n k)) ∧ Below w.heap.size w w'
    have H64 : Hid (popN 64 x = popN n x) := popN_more hW 64 hn
    have HW : Hid (x < 2 ^ n) := hW
    have HW64 : Hid (x < 18446744073709551616) := hW64
    clear hW hW64 hp hp0
    by_cases h0 : k < 0
    · have d0 : decide (k < 0) = true := decide_eq_true h0
      have HS : Hid (selI x n k = -1) := selI_none (Or.inr h0)
      go_enter Tryd.func9, Tryd.ntmps9
      go_wp2_with (go_at_call 6; fail)
      refine (T1.out _).mono ?_
      rintro e w1 ⟨rfl, hb⟩
      have HB : Hid (Below w.heap.size w w1) := ((Below.refl w.heap.size w).alloc (Nat.le_refl _) _).trans (hb.mono (by simp))
      have la : LB w1 w.heap.size x n := (LB.new rfl x n).later hb
      have c0 := la.c0
      have c1 := la.c1
      clear la hb
      go_wp2
      go_ret
      exact ⟨by rw [HS.out]; rfl, HB.out⟩
    obtain ⟨k, rfl⟩ : ∃ j : Nat, k = j := ⟨k.toNat, by omega⟩
    have d0 : decide ((k : Int) < 0) = false := decide_eq_false h0
    clear h0
    by_cases h1 : popN 64 x ≤ k
    · have HS : Hid (selI x n k = -1) := selI_none (Or.inl (by have := H64.out; omega))
      have d1 : decide (popN 64 x ≤ k) = true := decide_eq_true h1
      generalize popN 64 x = C at *
      go_enter Tryd.func9, Tryd.ntmps9
      go_wp2_with (go_at_call 6; fail)
      refine (T1.out _).mono ?_
      rintro e w1 ⟨rfl, hb⟩
      have HB : Hid (Below w.heap.size w w1) := ((Below.refl w.heap.size w).alloc (Nat.le_refl _) _).trans (hb.mono (by simp))
      have la : LB w1 w.heap.size x n := (LB.new rfl x n).later hb
      have c0 := la.c0
      have c1 := la.c1
      clear la hb
      go_wp2_with (go_at_call 17; refine (T3.out _).mono ?_; rintro e w2 ⟨rfl, hw⟩; obtain rfl := hw.symm)
      go_ret
      exact ⟨by rw [HS.out]; rfl, HB.out⟩
    have HK : Hid (k < popN 64 x) := by show k < popN 64 x; omega
    have d1 : decide (popN 64 x ≤ k) = false := decide_eq_false h1
    generalize hC : popN 64 x = C at *
    have HC : Hid (popN 64 x = C) := hC
    clear hC
    go_enter Tryd.func9, Tryd.ntmps9
    go_wp2_with (go_at_call 6; fail)
    refine (T1.out _).mono ?_
    rintro e w1 ⟨rfl, hb⟩
    have HB : Hid (Below w.heap.size w w1) := ((Below.refl w.heap.size w).alloc (Nat.le_refl _) _).trans (hb.mono (by simp))
    have la : LB w1 w.heap.size x n := (LB.new rfl x n).later hb
    have c0 := la.c0
    have c1 := la.c1
    clear la hb
    go_wp2_with (go_at_call 17; refine (T3.out _).mono ?_; rintro e w2 ⟨rfl, hw⟩; obtain rfl := hw.symm)
    obtain ⟨Wx, hWd⟩ : ∃ Wx : Nat, Wx = x := ⟨_, rfl⟩
    rw [← hWd] at T3 H64 HW HW64 HC ⊢
    have HWd : Hid (Wx = x) := hWd
    clear hWd HN T2 c0 c1
    go_loop [7, 30] (fun v t => ∃ (i V : Nat), i ≤ k ∧ v = .int .u64 (V : Nat) ∧ t = .int .i64 (i : Nat) ∧ Hid (Rest Wx i V) ∧ Hid (V < 18446744073709551616)) (fun _ t => k - (intOf t).toNat)
    case atStart => exact ⟨0, Wx, Nat.zero_le _, rfl, rfl, Rest.zero Wx, HW64.out⟩
    case round =>
      obtain ⟨i, V, hi, rfl, rfl, HR, HV⟩ := hrel
      have HNZ : Hid (V ≠ 0) := HR.out.some (by have h3 := HK.out; have h4 := HC.out; omega)
      by_cases hlt : i < k
      · have HE : Hid (_ = _) := clear_word HNZ.out HV.out
        go_wp2
        rw [HE.out]
        go_round
        case rel => exact ⟨i + 1, V &&& (V - 1), by omega, rfl, by go_num, HR.out.step HNZ.out HV.out, Nat.lt_of_le_of_lt Nat.and_le_left HV.out⟩
        case measure => simp [intOf]; omega
      · obtain rfl : i = k := by omega
        have T4 : Hid (∀ W, Tab W → _) := fun W h => tz_any V HV.out W h
        have HS : Hid ((Lib.ctz 64 V : Int) = selI Wx n i) := HR.out.sel (by have h3 := HK.out; have h4 := HC.out; omega) HW.out HV.out
        clear hlt
        go_wp2_with (go_at_call 18; refine (T4.out _ (tab_below HT.out HB.out)).mono ?_; rintro e w2 ⟨rfl, hw⟩; obtain rfl := hw.symm)
        go_ret
        exact ⟨by rw [← HWd.out, ← HS.out]; rfl, HB.out⟩
  | false =>
    have hW : (2 ^ n - 1 - x) < 2 ^ n := by omega
    have hW64 : (2 ^ n - 1 - x) < 18446744073709551616 := by omega
    have HN : Hid (_ = _) := not_word hx hn
    have T2 : Hid (∀ W, _) := fun W => lowest_any n hn W
    have T3 : Hid (∀ W, _) := fun W => ones_any (2 ^ n - 1 - x) hW64 W
    have hle : popN 64 (2 ^ n - 1 - x) ≤ 64 := popN_le 64 _
    show Calls _ _ _ _ fun e w' => e = .returned (.int .i64 (selI (2 ^ n - 1 - x) n k)) ∧ Below w.heap.size w w'
    have H64 : Hid (popN 64 (2 ^ n - 1 - x) = popN n (2 ^ n - 1 - x)) := popN_more hW 64 hn
    have HW : Hid ((2 ^ n - 1 - x) < 2 ^ n) := hW
    have HW64 : Hid ((2 ^ n - 1 - x) < 18446744073709551616) := hW64
    clear hW hW64 hp hp0
    by_cases h0 : k < 0
    · have d0 : decide (k < 0) = true := decide_eq_true h0
      have HS : Hid (selI (2 ^ n - 1 - x) n k = -1) := selI_none (Or.inr h0)
      go_enter Tryd.func9, Tryd.ntmps9
      go_wp2_with (go_at_call 6; fail)
      refine (T1.out _).mono ?_
      rintro e w1 ⟨rfl, hb⟩
      have HB : Hid (Below w.heap.size w w1) := ((Below.refl w.heap.size w).alloc (Nat.le_refl _) _).trans (hb.mono (by simp))
      have la : LB w1 w.heap.size x n := (LB.new rfl x n).later hb
      have c0 := la.c0
      have c1 := la.c1
      clear la hb
      go_upto_region 5 with fail
      go_quiet ((go_at_call 15; exact Calls.quiet_of_same (T2.out _)))
      rw [HN.out]
      go_wp2
      go_ret
      exact ⟨by rw [HS.out]; rfl, below_drewN HB.out _⟩
    obtain ⟨k, rfl⟩ : ∃ j : Nat, k = j := ⟨k.toNat, by omega⟩
    have d0 : decide ((k : Int) < 0) = false := decide_eq_false h0
    clear h0
    by_cases h1 : popN 64 (2 ^ n - 1 - x) ≤ k
    · have HS : Hid (selI (2 ^ n - 1 - x) n k = -1) := selI_none (Or.inl (by have := H64.out; omega))
      have d1 : decide (popN 64 (2 ^ n - 1 - x) ≤ k) = true := decide_eq_true h1
      generalize popN 64 (2 ^ n - 1 - x) = C at *
      go_enter Tryd.func9, Tryd.ntmps9
      go_wp2_with (go_at_call 6; fail)
      refine (T1.out _).mono ?_
      rintro e w1 ⟨rfl, hb⟩
      have HB : Hid (Below w.heap.size w w1) := ((Below.refl w.heap.size w).alloc (Nat.le_refl _) _).trans (hb.mono (by simp))
      have la : LB w1 w.heap.size x n := (LB.new rfl x n).later hb
      have c0 := la.c0
      have c1 := la.c1
      clear la hb
      go_upto_region 5 with fail
      go_quiet ((go_at_call 15; exact Calls.quiet_of_same (T2.out _)))
      rw [HN.out]
      go_wp2_with (go_at_call 17; refine (T3.out _).mono ?_; rintro e w2 ⟨rfl, hw⟩; obtain rfl := hw.symm)
      go_ret
      exact ⟨by rw [HS.out]; rfl, below_drewN HB.out _⟩
    have HK : Hid (k < popN 64 (2 ^ n - 1 - x)) := by show k < popN 64 (2 ^ n - 1 - x); omega
    have d1 : decide (popN 64 (2 ^ n - 1 - x) ≤ k) = false := decide_eq_false h1
    generalize hC : popN 64 (2 ^ n - 1 - x) = C at *
    have HC : Hid (popN 64 (2 ^ n - 1 - x) = C) := hC
    clear hC
    go_enter Tryd.func9, Tryd.ntmps9
    go_wp2_with (go_at_call 6; fail)
    refine (T1.out _).mono ?_
    rintro e w1 ⟨rfl, hb⟩
    have HB : Hid (Below w.heap.size w w1) := ((Below.refl w.heap.size w).alloc (Nat.le_refl _) _).trans (hb.mono (by simp))
    have la : LB w1 w.heap.size x n := (LB.new rfl x n).later hb
    have c0 := la.c0
    have c1 := la.c1
    clear la hb
    go_upto_region 5 with fail
    go_quiet ((go_at_call 15; exact Calls.quiet_of_same (T2.out _)))
    rw [HN.out]
    go_wp2_with (go_at_call 17; refine (T3.out _).mono ?_; rintro e w2 ⟨rfl, hw⟩; obtain rfl := hw.symm)
    obtain ⟨Wx, hWd⟩ : ∃ Wx : Nat, Wx = (2 ^ n - 1 - x) := ⟨_, rfl⟩
    rw [← hWd] at T3 H64 HW HW64 HC ⊢
    have HWd : Hid (Wx = (2 ^ n - 1 - x)) := hWd
    clear hWd HN T2 c0 c1
    go_loop [7, 30] (fun v t => ∃ (i V : Nat), i ≤ k ∧ v = .int .u64 (V : Nat) ∧ t = .int .i64 (i : Nat) ∧ Hid (Rest Wx i V) ∧ Hid (V < 18446744073709551616)) (fun _ t => k - (intOf t).toNat)
    case atStart => exact ⟨0, Wx, Nat.zero_le _, rfl, rfl, Rest.zero Wx, HW64.out⟩
    case round =>
      obtain ⟨i, V, hi, rfl, rfl, HR, HV⟩ := hrel
      have HNZ : Hid (V ≠ 0) := HR.out.some (by have h3 := HK.out; have h4 := HC.out; omega)
      by_cases hlt : i < k
      · have HE : Hid (_ = _) := clear_word HNZ.out HV.out
        go_wp2
        rw [HE.out]
        go_round
        case rel => exact ⟨i + 1, V &&& (V - 1), by omega, rfl, by go_num, HR.out.step HNZ.out HV.out, Nat.lt_of_le_of_lt Nat.and_le_left HV.out⟩
        case measure => simp [intOf]; omega
      · obtain rfl : i = k := by omega
        have T4 : Hid (∀ W, Tab W → _) := fun W h => tz_any V HV.out W h
        have HS : Hid ((Lib.ctz 64 V : Int) = selI Wx n i) := HR.out.sel (by have h3 := HK.out; have h4 := HC.out; omega) HW.out HV.out
        clear hlt
        go_wp2_with (go_at_call 18; refine (T4.out _ (tab_drewN (tab_below HT.out HB.out) _)).mono ?_; rintro e w2 ⟨rfl, hw⟩; obtain rfl := hw.symm)
        go_ret
        exact ⟨by rw [← HWd.out, ← HS.out]; rfl, below_drewN HB.out _⟩

end Go.Proofs.YtgddapefghcphaaDoor
