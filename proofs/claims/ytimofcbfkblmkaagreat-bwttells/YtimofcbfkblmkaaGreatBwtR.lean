/- The document's own columns: Column, Rank, Before, Next, walked. -/
import Derived.Test.YtimofcbfkblmkaaGreatBwtK
namespace Go.Proofs.YtimofcbfkblmkaaGreat
open Go.RowKit Go.Sort

set_option maxHeartbeats 400000 in
theorem refColumn_any (xs : List Int) (ao : Option Addr) (cap : Nat) (w : World) (hx : xs.length ≤ 9223372036854775807) (ha : HasInts w ao xs) :
    Calls Tryz.prog 15 #[.slice ao xs.length cap] w fun e w' => e = .returned (.bool (colB xs)) ∧ w' = w := by
  have HA : Hid (HasInts w ao xs) := ha
  obtain ⟨R, hR⟩ : ∃ R, colB xs = R := ⟨_, rfl⟩
  rw [hR]
  have HR : Hid (colB xs = R) := hR
  clear ha hR
  go_enter Tryz.func15, Tryz.ntmps15
  go_wp2
  go_loopw [3] (fun i wr => ∃ k : Nat, k ≤ xs.length ∧ i = .int .i64 k ∧ Hid (colB (xs.take k) = true) ∧ wr = w) (fun i _ => xs.length - (intOf i).toNat)
  case atStart => exact ⟨0, Nat.zero_le _, rfl, rfl, rfl⟩
  case round =>
    obtain ⟨k, hk, rfl, ht, hw⟩ := hrel
    obtain rfl := hw.symm
    by_cases hlt : k < xs.length
    · obtain ⟨g, o, rfl, hc⟩ := HA.out.at hlt
      by_cases h1 : 0 ≤ xs[k] ∧ xs[k] < 257
      · have HN : Hid (_ = true) := col_take hlt ht h1
        obtain ⟨h2, h3⟩ := h1
        generalize xs[k] = x at *
        go_wp2
        go_roundw
        case rel => exact ⟨k + 1, by omega, by go_num, HN, by trivial⟩
        case measure => simp [intOf]; omega
      · have hr := (col_not hlt h1).symm.trans HR.out
        subst hr
        generalize xs[k] = x at *
        by_cases h2 : x < 0
        · clear h1
          go_wp2
          go_ret
          exact ⟨rfl, rfl⟩
        · have h3 : 257 ≤ x := by omega
          clear h1
          go_wp2
          go_ret
          exact ⟨rfl, rfl⟩
    · obtain rfl : k = xs.length := by omega
      have hr : true = R := by
        have := ht.out
        rw [List.take_length] at this
        rw [← HR.out, this]
      subst hr
      go_wp2
      go_ret
      exact ⟨rfl, rfl⟩

theorem cut_lt {i : Int} {n k : Nat} (h : k < cutI i n) : k < n ∧ (k : Int) < i := by unfold cutI at h; omega
theorem cut_ge {i : Int} {n k : Nat} (h : k = cutI i n) : n ≤ k ∨ i ≤ (k : Int) := by unfold cutI at h; omega

set_option maxHeartbeats 1000000 in
theorem refRank_any (xs : List Int) (ao : Option Addr) (cap : Nat) (s i : Int) (w : World) (hx : xs.length ≤ 1000000) (ha : HasInts w ao xs) :
    Calls Tryz.prog 17 #[.int .i64 s, .int .i64 i, .slice ao xs.length cap] w fun e w' => e = .returned (.int .i64 (rankB xs s i : Nat)) ∧ w' = w := by
  have HA : Hid (HasInts w ao xs) := ha
  have t1 := refColumn_any xs ao cap w (by omega) ha
  have hcl := cutI_le i xs.length
  obtain ⟨R, hR⟩ : ∃ R, rankB xs s i = R := ⟨_, rfl⟩
  rw [hR]
  have HR : Hid (rankB xs s i = R) := hR
  have T1 : Hid (Calls _ _ _ _ _) := t1
  clear ha hR t1
  obtain ⟨C, hC⟩ : ∃ C, cutI i xs.length = C := ⟨_, rfl⟩
  rw [hC] at hcl
  have HC : Hid (cutI i xs.length = C) := hC
  clear hC
  go_enter Tryz.func17, Tryz.ntmps17
  go_wp2
  go_loopw [7, 8] (fun n q wr => ∃ k : Nat, k ≤ C ∧ q = .int .i64 k ∧ n = .int .i64 (rankI xs s k : Nat) ∧ wr = w) (fun _ q _ => C - (intOf q).toNat)
  case atStart => exact ⟨0, Nat.zero_le _, rfl, by rw [rank_zero]; rfl, rfl⟩
  case round =>
    obtain ⟨k, hk, rfl, rfl, hw⟩ := hrel
    obtain rfl := hw.symm
    by_cases hlt : k < C
    · obtain ⟨hkx, hki⟩ := cut_lt (i := i) (n := xs.length) (k := k) (by rw [HC.out]; exact hlt)
      obtain ⟨g, o, rfl, hc⟩ := HA.out.at hkx
      have hrk : rankI xs s k ≤ k := rank_le _ _ _
      have HRS : Hid (_ = _) := rank_succ s hkx
      have hI1 : (k : Int) < (xs.length : Int) := by omega
      generalize rankI xs s k = Z at *
      by_cases hq : xs[k] = s
      · have hqq : (xs[k] == s) = true := by simpa using hq
        rw [if_pos hq] at HRS
        clear hq
        generalize xs[k] = x at *
        go_wp2
        go_roundw
        case rel => exact ⟨k + 1, by omega, by go_num, by rw [HRS.out]; go_num, by trivial⟩
        case measure => simp [intOf]; omega
      · have hqq : (xs[k] == s) = false := by simpa using hq
        rw [if_neg hq] at HRS
        clear hq
        generalize xs[k] = x at *
        go_wp2
        go_roundw
        case rel => exact ⟨k + 1, by omega, by go_num, by rw [HRS.out, Nat.add_zero], by trivial⟩
        case measure => simp [intOf]; omega
    · obtain rfl : k = C := by omega
      have hge := cut_ge HC.out.symm
      have hrr := HR.out
      unfold rankB at hrr
      rw [HC.out] at hrr
      have T2 := T1.out
      clear HR T1 HC
      generalize rankI xs s k = Z at *
      by_cases h1 : xs.length ≤ k
      · have hI1 : (xs.length : Int) ≤ (k : Int) := by omega
        cases hcol : colB xs with
        | true =>
          rw [hcol] at T2 hrr
          have e : Z = R := hrr
          subst e
          have T3 : Hid (Calls _ _ _ _ _) := T2
          clear T2 hrr hcol
          go_wp2_with (go_at_call 15; fail)
          refine (T3.out).mono ?_
          rintro e w1 ⟨rfl, hw⟩
          obtain rfl := hw.symm
          go_wp2
          go_ret
          exact ⟨rfl, rfl⟩
        | false =>
          rw [hcol] at T2 hrr
          have e : 0 = R := hrr
          subst e
          have T3 : Hid (Calls _ _ _ _ _) := T2
          clear T2 hrr hcol
          go_wp2_with (go_at_call 15; fail)
          refine (T3.out).mono ?_
          rintro e w1 ⟨rfl, hw⟩
          obtain rfl := hw.symm
          go_wp2
          go_ret
          exact ⟨rfl, rfl⟩
      · have hI1 : (k : Int) < (xs.length : Int) := by omega
        have hI2 : i ≤ (k : Int) := by omega
        cases hcol : colB xs with
        | true =>
          rw [hcol] at T2 hrr
          have e : Z = R := hrr
          subst e
          have T3 : Hid (Calls _ _ _ _ _) := T2
          clear T2 hrr hcol
          go_wp2_with (go_at_call 15; fail)
          refine (T3.out).mono ?_
          rintro e w1 ⟨rfl, hw⟩
          obtain rfl := hw.symm
          go_wp2
          go_ret
          exact ⟨rfl, rfl⟩
        | false =>
          rw [hcol] at T2 hrr
          have e : 0 = R := hrr
          subst e
          have T3 : Hid (Calls _ _ _ _ _) := T2
          clear T2 hrr hcol
          go_wp2_with (go_at_call 15; fail)
          refine (T3.out).mono ?_
          rintro e w1 ⟨rfl, hw⟩
          obtain rfl := hw.symm
          go_wp2
          go_ret
          exact ⟨rfl, rfl⟩

theorem bef_take_succ {xs : List Int} (s : Int) {k : Nat} (h : k < xs.length) : befI (xs.take (k + 1)) s = befI (xs.take k) s + (if xs[k] < s then 1 else 0) := by
  unfold befI
  rw [List.take_succ_eq_append_getElem h, List.countP_append]
  simp [List.countP_cons]

set_option maxHeartbeats 1000000 in
theorem refBefore_any (xs : List Int) (ao : Option Addr) (cap : Nat) (s : Int) (w : World) (hx : xs.length ≤ 1000000) (ha : HasInts w ao xs) :
    Calls Tryz.prog 20 #[.int .i64 s, .slice ao xs.length cap] w fun e w' => e = .returned (.int .i64 (befB xs s : Nat)) ∧ w' = w := by
  have HA : Hid (HasInts w ao xs) := ha
  have t1 := refColumn_any xs ao cap w (by omega) ha
  obtain ⟨R, hR⟩ : ∃ R, befB xs s = R := ⟨_, rfl⟩
  rw [hR]
  have HR : Hid (befB xs s = R) := hR
  have T1 : Hid (Calls _ _ _ _ _) := t1
  clear ha hR t1
  go_enter Tryz.func20, Tryz.ntmps20
  go_wp2
  go_loopw [5, 6] (fun n q wr => ∃ k : Nat, k ≤ xs.length ∧ q = .int .i64 k ∧ n = .int .i64 (befI (xs.take k) s : Nat) ∧ wr = w) (fun _ q _ => xs.length - (intOf q).toNat)
  case atStart => exact ⟨0, Nat.zero_le _, rfl, rfl, rfl⟩
  case round =>
    obtain ⟨k, hk, rfl, rfl, hw⟩ := hrel
    obtain rfl := hw.symm
    by_cases hlt : k < xs.length
    · obtain ⟨g, o, rfl, hc⟩ := HA.out.at hlt
      have hrk : befI (xs.take k) s ≤ k := Nat.le_trans (bef_le _ _) (by simp; omega)
      have HRS : Hid (_ = _) := bef_take_succ s hlt
      generalize befI (xs.take k) s = Z at *
      by_cases hq : xs[k] < s
      · rw [if_pos hq] at HRS
        generalize xs[k] = x at *
        go_wp2
        go_roundw
        case rel => exact ⟨k + 1, by omega, by go_num, by rw [HRS.out]; go_num, by trivial⟩
        case measure => simp [intOf]; omega
      · rw [if_neg hq] at HRS
        generalize xs[k] = x at *
        go_wp2
        go_roundw
        case rel => exact ⟨k + 1, by omega, by go_num, by rw [HRS.out, Nat.add_zero], by trivial⟩
        case measure => simp [intOf]; omega
    · obtain rfl : k = xs.length := by omega
      have hrr := HR.out
      unfold befB at hrr
      have T2 := T1.out
      rw [List.take_length]
      clear HR T1
      generalize befI xs s = Z at *
      cases hcol : colB xs with
      | true =>
        rw [hcol] at T2 hrr
        have e : Z = R := hrr
        subst e
        have T3 : Hid (Calls _ _ _ _ _) := T2
        clear T2 hrr hcol
        go_wp2_with (go_at_call 15; fail)
        refine (T3.out).mono ?_
        rintro e w1 ⟨rfl, hw⟩
        obtain rfl := hw.symm
        go_wp2
        go_ret
        exact ⟨rfl, rfl⟩
      | false =>
        rw [hcol] at T2 hrr
        have e : 0 = R := hrr
        subst e
        have T3 : Hid (Calls _ _ _ _ _) := T2
        clear T2 hrr hcol
        go_wp2_with (go_at_call 15; fail)
        refine (T3.out).mono ?_
        rintro e w1 ⟨rfl, hw⟩
        obtain rfl := hw.symm
        go_wp2
        go_ret
        exact ⟨rfl, rfl⟩

set_option maxRecDepth 100000 in
set_option maxHeartbeats 1000000 in
theorem refNext_any (xs : List Int) (ao : Option Addr) (cap : Nat) (i : Int) (w : World) (hx : xs.length ≤ 1000000) (ha : HasInts w ao xs) :
    Calls Tryz.prog 12 #[.int .i64 i, .slice ao xs.length cap] w fun e w' => e = .returned (.tuple #[.int .i64 (nextV xs i), .bool (nextOk xs i)]) ∧ Ext w w' := by
  have t1 := refColumn_any xs ao cap w (by omega) ha
  by_cases hr : colB xs = true
  · by_cases h1 : 0 ≤ i
    · by_cases h2 : i < xs.length
      · obtain ⟨k, rfl⟩ := Int.eq_ofNat_of_zero_le h1
        have hk : k < xs.length := by omega
        obtain ⟨g, o, hao, hc⟩ := ha.at hk
        by_cases h3 : xs[k] = 0
        · have e : nextOk xs (k : Int) = false := by
            simp only [nextOk, hr, Bool.true_and, decide_eq_false_iff_not, Int.toNat_natCast, getD_at hk, h3]
            simp
          rw [next_no e, e]
          rw [hr] at t1
          rw [h3] at hc
          subst hao
          have T1 : Hid (Calls _ _ _ _ _) := t1
          clear t1 ha hr e h3
          go_enter Tryz.func12, Tryz.ntmps12
          go_wp2_with (go_at_call 15; fail)
          refine (T1.out).mono ?_
          rintro e w1 ⟨rfl, hw⟩
          obtain rfl := hw.symm
          go_wp2
          go_ret2
          exact ⟨rfl, Ext.refl _⟩
        · have e : nextOk xs (k : Int) = true := by
            simp only [nextOk, hr, Bool.true_and, decide_eq_true_eq, Int.toNat_natCast, getD_at hk]
            exact ⟨h1, h2, h3⟩
          have e2 : nextV xs (k : Int) = (befI xs xs[k] : Int) + (rankI xs xs[k] k : Int) := by
            rw [nextV, e, if_pos rfl, Int.toNat_natCast, lf_at hk]
            simp
          have hbl : befI xs xs[k] ≤ xs.length := bef_le _ _
          have hrl : rankI xs xs[k] k ≤ k := rank_le _ _ _
          rw [e2, e]
          have t2 := fun W (h : W.cell? ⟨g, o + k, none⟩ = some (.int .i64 xs[k]) ∧ Ext w W) => (refBefore_any xs ao cap xs[k] W hx (ha.ext h.2)).mono (fun e w' (q : e = _ ∧ w' = W) => (⟨q.1, by rw [q.2]; exact h.1, by rw [q.2]; exact h.2⟩ : e = .returned (.int .i64 (befB xs xs[k] : Nat)) ∧ w'.cell? ⟨g, o + k, none⟩ = some (.int .i64 xs[k]) ∧ Ext w w'))
          have t3 := fun W (h : W.cell? ⟨g, o + k, none⟩ = some (.int .i64 xs[k]) ∧ Ext w W) => (refRank_any xs ao cap xs[k] (k : Int) W hx (ha.ext h.2)).mono (fun e w' (q : e = _ ∧ w' = W) => (⟨q.1, by rw [q.2]; exact h.1, by rw [q.2]; exact h.2⟩ : e = .returned (.int .i64 (rankB xs xs[k] (k : Int) : Nat)) ∧ w'.cell? ⟨g, o + k, none⟩ = some (.int .i64 xs[k]) ∧ Ext w w'))
          have e3 : befB xs xs[k] = befI xs xs[k] := by simp [befB, hr]
          have e4 : rankB xs xs[k] (k : Int) = rankI xs xs[k] k := by simp [rankB, hr, cutI_nat (Nat.le_of_lt hk)]
          rw [e3] at t2
          rw [e4] at t3
          rw [hr] at t1
          subst hao
          have T1 : Hid (Calls _ _ _ _ _) := t1
          have T2 : Hid (∀ W, _) := t2
          have T3 : Hid (∀ W, _) := t3
          clear t1 t2 t3 ha hr e e2 e3 e4
          have hne : (xs[k] == 0) = false := by simpa using h3
          generalize befI xs xs[k] = B at *
          generalize rankI xs xs[k] k = R at *
          generalize xs[k] = x at *
          have hw64 : IntKind.i64.wrap ((B : Int) + (R : Int)) = (B : Int) + (R : Int) := by rw [IntKind.wrap_i64]; omega
          go_enter Tryz.func12, Tryz.ntmps12
          go_wp2_with (go_at_call 15; fail)
          refine (T1.out).mono ?_
          rintro e w1 ⟨rfl, hw⟩
          obtain rfl := hw.symm
          go_wp2
          go_region_held3 (fun W => W.cell? ⟨g, o + k, none⟩ = some (.int .i64 x) ∧ Ext w W) (first | (exact ⟨hc, (Ext.refl _).drew⟩) | (assumption)) ((first | (go_at_call 20; with_reducible refine (T2.out _ (by assumption)).mono ?_; rintro e w4 ⟨rfl, hS4⟩) | (go_at_call 17; with_reducible refine (T3.out _ (by assumption)).mono ?_; rintro e w5 ⟨rfl, hS5⟩)))
          all_goals
            go_wp2
            go_ret2
            refine ⟨rfl, ?_⟩
            first | exact hS5.2 | exact hS4.2
      · have e : nextOk xs i = false := by simp [nextOk, hr]; omega
        rw [next_no e, e]
        rw [hr] at t1
        have T1 : Hid (Calls _ _ _ _ _) := t1
        clear t1 ha hr e
        go_enter Tryz.func12, Tryz.ntmps12
        go_wp2_with (go_at_call 15; fail)
        refine (T1.out).mono ?_
        rintro e w1 ⟨rfl, hw⟩
        obtain rfl := hw.symm
        go_wp2
        go_ret2
        exact ⟨rfl, Ext.refl _⟩
    · have e : nextOk xs i = false := by simp [nextOk, hr]; omega
      rw [next_no e, e]
      rw [hr] at t1
      have T1 : Hid (Calls _ _ _ _ _) := t1
      clear t1 ha hr e
      go_enter Tryz.func12, Tryz.ntmps12
      go_wp2_with (go_at_call 15; fail)
      refine (T1.out).mono ?_
      rintro e w1 ⟨rfl, hw⟩
      obtain rfl := hw.symm
      go_wp2
      go_ret2
      exact ⟨rfl, Ext.refl _⟩
  · have hr' : colB xs = false := by simpa using hr
    have e : nextOk xs i = false := by simp [nextOk, hr']
    rw [next_no e, e]
    rw [hr'] at t1
    have T1 : Hid (Calls _ _ _ _ _) := t1
    clear t1 ha hr hr' e
    go_enter Tryz.func12, Tryz.ntmps12
    go_wp2_with (go_at_call 15; fail)
    refine (T1.out).mono ?_
    rintro e w1 ⟨rfl, hw⟩
    obtain rfl := hw.symm
    go_wp2
    go_ret2
    exact ⟨rfl, Ext.refl _⟩

end Go.Proofs.YtimofcbfkblmkaaGreat
