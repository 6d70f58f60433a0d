/- The document's own columns: Column, Rank, Before, Next, walked. -/
import Derived.Test.YtcheclhiekdjmaaGreatBwtE
import Derived.Test.YtcheclhiekdjmaaGreatCol
namespace Go.Proofs.YtcheclhiekdjmaaGreat
open Go.RowKit Go.Sort

set_option maxHeartbeats 400000 in
theorem refColumn_any (xs : List Int) (ao : Option Addr) (cap : Nat) (w : World) (hx : xs.length ≤ 9223372036854775807) (ha : HasInts w ao xs) :
    Calls Tryz.prog 24 #[.slice ao xs.length cap] w fun e w' => e = .returned (.bool (colB xs)) ∧ w' = w := by
  have HA : Hid (HasInts w ao xs) := ha
  obtain ⟨R, hR⟩ : ∃ R, colB xs = R := ⟨_, rfl⟩
  rw [hR]
  have HR : Hid (colB xs = R) := hR
  clear ha hR
  go_enter Tryz.func24, Tryz.ntmps24
  go_wp2
  go_loopw [3] (fun i wr => ∃ k : Nat, k ≤ xs.length ∧ i = .int .i64 k ∧ Hid (colB (xs.take k) = true) ∧ wr = w) (fun i _ => xs.length - (intOf i).toNat)
  case atStart => exact ⟨0, Nat.zero_le _, rfl, rfl, rfl⟩
  case round =>
    obtain ⟨k, hk, rfl, ht, hw⟩ := hrel
    obtain rfl := hw.symm
    by_cases hlt : k < xs.length
    · obtain ⟨g, o, rfl, hc⟩ := HA.out.at hlt
      by_cases h1 : 0 ≤ xs[k] ∧ xs[k] < 257
      · have HN : Hid (_ = true) := col_take hlt ht h1
        obtain ⟨h2, h3⟩ := h1
        generalize xs[k] = x at *
        go_wp2
        go_roundw
        case rel => exact ⟨k + 1, by omega, by go_num, HN, by trivial⟩
        case measure => simp [intOf]; omega
      · have hr := (col_not hlt h1).symm.trans HR.out
        subst hr
        generalize xs[k] = x at *
        by_cases h2 : x < 0
        · clear h1
          go_wp2
          go_ret
          exact ⟨rfl, rfl⟩
        · have h3 : 257 ≤ x := by omega
          clear h1
          go_wp2
          go_ret
          exact ⟨rfl, rfl⟩
    · obtain rfl : k = xs.length := by omega
      have hr : true = R := by
        have := ht.out
        rw [List.take_length] at this
        rw [← HR.out, this]
      subst hr
      go_wp2
      go_ret
      exact ⟨rfl, rfl⟩

theorem cut_lt {i : Int} {n k : Nat} (h : k < cutI i n) : k < n ∧ (k : Int) < i := by unfold cutI at h; omega
theorem cut_ge {i : Int} {n k : Nat} (h : k = cutI i n) : n ≤ k ∨ i ≤ (k : Int) := by unfold cutI at h; omega

set_option maxHeartbeats 1000000 in
theorem refRank_any (xs : List Int) (ao : Option Addr) (cap : Nat) (s i : Int) (w : World) (hx : xs.length ≤ 1000000) (ha : HasInts w ao xs) :
    Calls Tryz.prog 28 #[.int .i64 s, .int .i64 i, .slice ao xs.length cap] w fun e w' => e = .returned (.int .i64 (rankB xs s i : Nat)) ∧ w' = w := by
  have HA : Hid (HasInts w ao xs) := ha
  have t1 := refColumn_any xs ao cap w (by omega) ha
  have hcl := cutI_le i xs.length
  obtain ⟨R, hR⟩ : ∃ R, rankB xs s i = R := ⟨_, rfl⟩
  rw [hR]
  have HR : Hid (rankB xs s i = R) := hR
  have T1 : Hid (Calls _ _ _ _ _) := t1
  clear ha hR t1
  obtain ⟨C, hC⟩ : ∃ C, cutI i xs.length = C := ⟨_, rfl⟩
  rw [hC] at hcl
  have HC : Hid (cutI i xs.length = C) := hC
  clear hC
  go_enter Tryz.func28, Tryz.ntmps28
  go_wp2
  go_loopw [7, 8] (fun n q wr => ∃ k : Nat, k ≤ C ∧ q = .int .i64 k ∧ n = .int .i64 (rankI xs s k : Nat) ∧ wr = w) (fun _ q _ => C - (intOf q).toNat)
  case atStart => exact ⟨0, Nat.zero_le _, rfl, by rw [rank_zero]; rfl, rfl⟩
  case round =>
    obtain ⟨k, hk, rfl, rfl, hw⟩ := hrel
    obtain rfl := hw.symm
    by_cases hlt : k < C
    · obtain ⟨hkx, hki⟩ := cut_lt (i := i) (n := xs.length) (k := k) (by rw [HC.out]; exact hlt)
      obtain ⟨g, o, rfl, hc⟩ := HA.out.at hkx
      have hrk : rankI xs s k ≤ k := rank_le _ _ _
      have HRS : Hid (_ = _) := rank_succ s hkx
      have hI1 : (k : Int) < (xs.length : Int) := by omega
      generalize rankI xs s k = Z at *
      by_cases hq : xs[k] = s
      · have hqq : (xs[k] == s) = true := by simpa using hq
        rw [if_pos hq] at HRS
        clear hq
        generalize xs[k] = x at *
        go_wp2
        go_roundw
        case rel => exact ⟨k + 1, by omega, by go_num, by rw [HRS.out]; go_num, by trivial⟩
        case measure => simp [intOf]; omega
      · have hqq : (xs[k] == s) = false := by simpa using hq
        rw [if_neg hq] at HRS
        clear hq
        generalize xs[k] = x at *
        go_wp2
        go_roundw
        case rel => exact ⟨k + 1, by omega, by go_num, by rw [HRS.out, Nat.add_zero], by trivial⟩
        case measure => simp [intOf]; omega
    · obtain rfl : k = C := by omega
      have hge := cut_ge HC.out.symm
      have hrr := HR.out
      unfold rankB at hrr
      rw [HC.out] at hrr
      have T2 := T1.out
      clear HR T1 HC
      generalize rankI xs s k = Z at *
      by_cases h1 : xs.length ≤ k
      · have hI1 : (xs.length : Int) ≤ (k : Int) := by omega
        cases hcol : colB xs with
        | true =>
          rw [hcol] at T2 hrr
          have e : Z = R := hrr
          subst e
          have T3 : Hid (Calls _ _ _ _ _) := T2
          clear T2 hrr hcol
          go_wp2_with (go_at_call 24; fail)
          refine (T3.out).mono ?_
          rintro e w1 ⟨rfl, hw⟩
          obtain rfl := hw.symm
          go_wp2
          go_ret
          exact ⟨rfl, rfl⟩
        | false =>
          rw [hcol] at T2 hrr
          have e : 0 = R := hrr
          subst e
          have T3 : Hid (Calls _ _ _ _ _) := T2
          clear T2 hrr hcol
          go_wp2_with (go_at_call 24; fail)
          refine (T3.out).mono ?_
          rintro e w1 ⟨rfl, hw⟩
          obtain rfl := hw.symm
          go_wp2
          go_ret
          exact ⟨rfl, rfl⟩
      · have hI1 : (k : Int) < (xs.length : Int) := by omega
        have hI2 : i ≤ (k : Int) := by omega
        cases hcol : colB xs with
        | true =>
          rw [hcol] at T2 hrr
          have e : Z = R := hrr
          subst e
          have T3 : Hid (Calls _ _ _ _ _) := T2
          clear T2 hrr hcol
          go_wp2_with (go_at_call 24; fail)
          refine (T3.out).mono ?_
          rintro e w1 ⟨rfl, hw⟩
          obtain rfl := hw.symm
          go_wp2
          go_ret
          exact ⟨rfl, rfl⟩
        | false =>
          rw [hcol] at T2 hrr
          have e : 0 = R := hrr
          subst e
          have T3 : Hid (Calls _ _ _ _ _) := T2
          clear T2 hrr hcol
          go_wp2_with (go_at_call 24; fail)
          refine (T3.out).mono ?_
          rintro e w1 ⟨rfl, hw⟩
          obtain rfl := hw.symm
          go_wp2
          go_ret
          exact ⟨rfl, rfl⟩

theorem bef_take_succ {xs : List Int} (s : Int) {k : Nat} (h : k < xs.length) : befI (xs.take (k + 1)) s = befI (xs.take k) s + (if xs[k] < s then 1 else 0) := by
  unfold befI
  rw [List.take_succ_eq_append_getElem h, List.countP_append]
  simp [List.countP_cons]

set_option maxHeartbeats 1000000 in
theorem refBefore_any (xs : List Int) (ao : Option Addr) (cap : Nat) (s : Int) (w : World) (hx : xs.length ≤ 1000000) (ha : HasInts w ao xs) :
    Calls Tryz.prog 27 #[.int .i64 s, .slice ao xs.length cap] w fun e w' => e = .returned (.int .i64 (befB xs s : Nat)) ∧ w' = w := by
  have HA : Hid (HasInts w ao xs) := ha
  have t1 := refColumn_any xs ao cap w (by omega) ha
  obtain ⟨R, hR⟩ : ∃ R, befB xs s = R := ⟨_, rfl⟩
  rw [hR]
  have HR : Hid (befB xs s = R) := hR
  have T1 : Hid (Calls _ _ _ _ _) := t1
  clear ha hR t1
  go_enter Tryz.func27, Tryz.ntmps27
  go_wp2
  go_loopw [5, 6] (fun n q wr => ∃ k : Nat, k ≤ xs.length ∧ q = .int .i64 k ∧ n = .int .i64 (befI (xs.take k) s : Nat) ∧ wr = w) (fun _ q _ => xs.length - (intOf q).toNat)
  case atStart => exact ⟨0, Nat.zero_le _, rfl, rfl, rfl⟩
  case round =>
    obtain ⟨k, hk, rfl, rfl, hw⟩ := hrel
    obtain rfl := hw.symm
    by_cases hlt : k < xs.length
    · obtain ⟨g, o, rfl, hc⟩ := HA.out.at hlt
      have hrk : befI (xs.take k) s ≤ k := Nat.le_trans (bef_le _ _) (by simp; omega)
      have HRS : Hid (_ = _) := bef_take_succ s hlt
      generalize befI (xs.take k) s = Z at *
      by_cases hq : xs[k] < s
      · rw [if_pos hq] at HRS
        generalize xs[k] = x at *
        go_wp2
        go_roundw
        case rel => exact ⟨k + 1, by omega, by go_num, by rw [HRS.out]; go_num, by trivial⟩
        case measure => simp [intOf]; omega
      · rw [if_neg hq] at HRS
        generalize xs[k] = x at *
        go_wp2
        go_roundw
        case rel => exact ⟨k + 1, by omega, by go_num, by rw [HRS.out, Nat.add_zero], by trivial⟩
        case measure => simp [intOf]; omega
    · obtain rfl : k = xs.length := by omega
      have hrr := HR.out
      unfold befB at hrr
      have T2 := T1.out
      rw [List.take_length]
      clear HR T1
      generalize befI xs s = Z at *
      cases hcol : colB xs with
      | true =>
        rw [hcol] at T2 hrr
        have e : Z = R := hrr
        subst e
        have T3 : Hid (Calls _ _ _ _ _) := T2
        clear T2 hrr hcol
        go_wp2_with (go_at_call 24; fail)
        refine (T3.out).mono ?_
        rintro e w1 ⟨rfl, hw⟩
        obtain rfl := hw.symm
        go_wp2
        go_ret
        exact ⟨rfl, rfl⟩
      | false =>
        rw [hcol] at T2 hrr
        have e : 0 = R := hrr
        subst e
        have T3 : Hid (Calls _ _ _ _ _) := T2
        clear T2 hrr hcol
        go_wp2_with (go_at_call 24; fail)
        refine (T3.out).mono ?_
        rintro e w1 ⟨rfl, hw⟩
        obtain rfl := hw.symm
        go_wp2
        go_ret
        exact ⟨rfl, rfl⟩


end Go.Proofs.YtcheclhiekdjmaaGreat
