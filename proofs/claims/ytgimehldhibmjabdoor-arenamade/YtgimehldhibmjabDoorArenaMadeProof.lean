/- What was made, ever, is counted, whatever became of it, and what is used is never more than there is: the statement's tied card, for both numbers. -/
import Derived.Test.YtgimehldhibmjabDoorASh
import Derived.Test.YtgimehldhibmjabDoorArS
import Derived.Test.YtgimehldhibmjabDoorCards
import Derived.Test.YtgimehldhibmjabDoorTie
import Derived.SevenTiedAt
namespace Go.Proofs.YtgimehldhibmjabDoor.arenaMade
open Go.ChangeShapes Go.WideShapes Go.ChangeAt Go.RowKit
set_option linter.unusedVariables false

theorem made_drop {S : St} (hw : S.wt = []) {i : Nat} (hl : S.leastO = some i) (t : Int) :
    (S.lay ((i : Int) + 1) (leafN t)).errB ((i : Int) + 1) = 0 ∧ (St.workN 1 ((S.lay ((i : Int) + 1) (leafN t)).drop ((i : Int) + 1))).2.wt = [] ∧ (St.workN 1 ((S.lay ((i : Int) + 1) (leafN t)).drop ((i : Int) + 1))).2.n = S.n := by
  obtain ⟨⟨f1, f2, f3⟩, -⟩ := least_some hl
  obtain ⟨L, hL⟩ : ∃ L, L = S.lay ((i : Int) + 1) (leafN t) := ⟨_, rfl⟩
  have hg : L.get ((i : Int) + 1) = ⟨leafN t, 1⟩ := by
    have h : L.get ((i : Int) + 1) = if (i : Int) + 1 = (i : Int) + 1 then ⟨leafN t, 1⟩ else S.get ((i : Int) + 1) := by rw [hL]; exact S.get_put _ f1 f2 _
    rw [h, if_pos rfl]
  have hn : L.n = S.n := by rw [hL]; exact S.n_put _ _
  have hwl : L.wt = [] := by rw [hL]; exact hw
  rw [← hL]
  have hc : L.cnt ((i : Int) + 1) = 1 := by unfold St.cnt; rw [hg]
  have hli : L.liveB ((i : Int) + 1) = true := decide_eq_true (by omega)
  have hwd : (L.drop ((i : Int) + 1)).wt = [(i : Int) + 1] := by rw [L.wt_drop, if_pos hc, hwl]; rfl
  have hgd : ((L.drop ((i : Int) + 1)).get ((i : Int) + 1)).nd = leafN t := by rw [L.nd_drop, hg]
  have hwk : (St.workN 1 (L.drop ((i : Int) + 1))).2 = (L.drop ((i : Int) + 1)).free1 := by
    show (if (L.drop ((i : Int) + 1)).wt = [] then (0, L.drop ((i : Int) + 1)) else _).2 = _
    rw [if_neg (by rw [hwd]; simp)]
    rfl
  refine ⟨err_yes hli, ?_, ?_⟩
  · rw [hwk]
    unfold St.free1
    rw [hwd]
    show (((L.drop ((i : Int) + 1)).rid ((i : Int) + 1)).drops ((L.drop ((i : Int) + 1)).get ((i : Int) + 1)).nd.kids).wt = []
    rw [hgd, drops_leaf]
    show (L.drop ((i : Int) + 1)).wt.tail = []
    rw [hwd]
    rfl
  · rw [hwk, St.n_free1, L.n_drop, hn]

/-! ### The walk -/
set_option maxRecDepth 100000 in
set_option maxHeartbeats 2000000 in
theorem walk (a0 : Int) (a1 : Int) (w : World) (hT : Tab w) (w0 : (Lit.int .i64 a0).wf = true) (w1 : (Lit.int .i64 a1).wf = true) :
    Calls Tryd.prog 4 #[.int .i64 a0, .int .i64 a1] w fun e w' => e = .returned (.bool true) ∧ Below w.heap.size w w' := by
  have TA : Hid (∀ W, Tab W → _) := fun W h => alive_any W h
  have HT : Hid (Tab w) := hT
  clear hT
  by_cases h1 : a0 < 0
  · clear w0 w1
    have d1 : decide (a0 < 0) = true := decide_eq_true h1
    go_enter Tryd.func4, Tryd.ntmps4
    go_wp2_with (go_at_call 5; fail)
    refine (TA.out _ HT.out).mono ?_
    rintro e w1 ⟨rfl, hb1⟩
    have HB1 : Hid (Below w.heap.size w w1) := hb1
    clear hb1
    go_wp2
    go_ret
    exact ⟨rfl, HB1.out⟩
  by_cases h2 : 100 < a0
  · clear w0 w1
    have d1 : decide (a0 < 0) = false := decide_eq_false h1
    have d2 : decide (100 < a0) = true := decide_eq_true h2
    go_enter Tryd.func4, Tryd.ntmps4
    go_wp2_with (go_at_call 5; fail)
    refine (TA.out _ HT.out).mono ?_
    rintro e w1 ⟨rfl, hb1⟩
    have HB1 : Hid (Below w.heap.size w w1) := hb1
    clear hb1
    go_wp2
    go_ret
    exact ⟨rfl, HB1.out⟩
  by_cases h3 : a1 < 1
  · clear w0 w1
    have d1 : decide (a0 < 0) = false := decide_eq_false h1
    have d2 : decide (100 < a0) = false := decide_eq_false h2
    have d3 : decide (a1 < 1) = true := decide_eq_true h3
    go_enter Tryd.func4, Tryd.ntmps4
    go_wp2_with (go_at_call 5; fail)
    refine (TA.out _ HT.out).mono ?_
    rintro e w1 ⟨rfl, hb1⟩
    have HB1 : Hid (Below w.heap.size w w1) := hb1
    clear hb1
    go_wp2
    go_ret
    exact ⟨rfl, HB1.out⟩
  by_cases h4 : 20 < a1
  · clear w0 w1
    have d1 : decide (a0 < 0) = false := decide_eq_false h1
    have d2 : decide (100 < a0) = false := decide_eq_false h2
    have d3 : decide (a1 < 1) = false := decide_eq_false h3
    have d4 : decide (20 < a1) = true := decide_eq_true h4
    go_enter Tryd.func4, Tryd.ntmps4
    go_wp2_with (go_at_call 5; fail)
    refine (TA.out _ HT.out).mono ?_
    rintro e w1 ⟨rfl, hb1⟩
    have HB1 : Hid (Below w.heap.size w w1) := hb1
    clear hb1
    go_wp2
    go_ret
    exact ⟨rfl, HB1.out⟩
  have d1 : decide (a0 < 0) = false := decide_eq_false h1
  have d2 : decide (100 < a0) = false := decide_eq_false h2
  have d3 : decide (a1 < 1) = false := decide_eq_false h3
  have d4 : decide (20 < a1) = false := decide_eq_false h4
  obtain ⟨nn, hnn⟩ := Int.eq_ofNat_of_zero_le (show 0 ≤ a0 by omega)
  obtain ⟨sz, hsz⟩ := Int.eq_ofNat_of_zero_le (show 0 ≤ a1 by omega)
  subst hsz hnn
  have hs1 : 1 ≤ sz := by omega
  have hs2 : sz ≤ 20 := by omega
  have hn2 : nn ≤ 100 := by omega
  clear h1 h2 h3 h4 w0 w1
  go_enter Tryd.func4, Tryd.ntmps4
  go_wp2_with (go_at_call 5; fail)
  refine (TA.out _ HT.out).mono ?_
  rintro e w1 ⟨rfl, hb1⟩
  have HB1 : Hid (Below w.heap.size w w1) := hb1
  have HT1 : Hid (Tab w1) := tab_below HT.out hb1
  clear hb1 TA HT
  clear d1 d2 d3 d4
  have T1 : Hid (Calls _ _ _ _ _) := newB HB1.out HT1.out sz hs1 (by omega)
  go_wp2_with (go_at_call 6; fail)
  refine (T1.out).mono ?_
  rintro e w2 ⟨G, rfl, h2⟩
  have H2 : Hid (AB w G w2 (newS sz) 0 0) := h2
  clear h2 T1 HB1 HT1
  go_wp2
  go_loopw [6, 7] (fun t1 t wr => ∃ (j : Nat) (S : St) (md : Nat), j ≤ nn ∧ md ≤ j ∧ t1 = .int .i64 (md : Nat) ∧ t = .int .i64 (j : Nat) ∧ Hid (S.wt = []) ∧ Hid (S.n = sz) ∧ Hid (AB w G wr S md (5 * j))) (fun _ t _ => nn - (intOf t).toNat)
  case atStart => exact ⟨0, newS sz, 0, Nat.zero_le _, Nat.le_refl _, rfl, rfl, rfl, n_new sz, H2⟩
  case round =>
    obtain ⟨j, S, md, hj, hmd, rfl, rfl, HW, HN, HAB⟩ := hrel
    clear H2
    by_cases hlt : j < nn
    · have e1 : decide ((j : Int) < (nn : Int)) = true := decide_eq_true (by omega)
      have hSN : 0 < S.n := by have := HN.out; omega
      cases hlo : S.leastO with
      | none =>
        by_cases h3 : j % 3 = 2
        · have hr3 : ((j : Int) % 3 == 2) = true := by rw [beq_iff_eq]; omega
          obtain ⟨q1, q2, q3⟩ := mk_full (S := S) (t := (1 + (j : Int) % 6)) (by omega) (by omega) hlo
          have hmm : S.mkM md (leafN (1 + (j : Int) % 6)) = md := if_neg (by rw [q1]; decide)
          have T1x : Hid (Calls _ _ _ _ _) := makeV HAB.out (by omega) (by omega) (by omega) (1 + (j : Int) % 6) 0 0 0 0 0 0
          rw [show (⟨(1 + (j : Int) % 6), 0, 0, 0, 0, 0, 0⟩ : Nd) = leafN (1 + (j : Int) % 6) from rfl, q1, q2, q3, hmm] at T1x
          go_wp2_with (go_at_call 7; fail)
          refine (T1x.out).mono ?_
          rintro e w3 ⟨rfl, h6⟩
          clear T1x
          clear q1 q2 q3 hmm HAB
          obtain ⟨S2, hS2⟩ : ∃ S2, S2 = S := ⟨_, rfl⟩
          rw [← hS2] at h6 HW HN
          have HW2 := HW
          have HN2 := HN
          clear hS2
          have hul : usedN S2.sl ≤ sz := by have h := used_le S2.sl; have h2 := HN2.out; unfold St.n at h2; omega
          have U1 : Hid (Calls _ _ _ _ _) := usedB h6
          have U2 : Hid (Calls _ _ _ _ _) := madeB h6
          have e3 : decide ((sz : Int) < (usedN S2.sl : Int)) = false := decide_eq_false (by omega)
          have e4 : decide ((usedN S2.sl : Int) < 0) = false := decide_eq_false (by omega)
          have H6 : Hid (AB w G _ S2 (md) (5 * j + 5)) := h6
          clear h6
          generalize usedN S2.sl = us at *
          have e5 : decide (sz < us) = false := decide_eq_false (by omega)
          go_wp2_with (first
            | (go_at_call 11; refine (U2.out).mono ?_; rintro e w' ⟨rfl, hw'⟩; obtain rfl := hw'.symm)
            | (go_at_call 12; refine (U1.out).mono ?_; rintro e w' ⟨rfl, hw'⟩; obtain rfl := hw'.symm))
          go_roundw
          case rel => exact ⟨j + 1, S2, md, by omega, by omega, by go_num, by go_num, HW2, HN2, H6⟩
          case measure => simp [intOf]; omega
        · have hr3 : ((j : Int) % 3 == 2) = false := by rw [beq_eq_false_iff_ne]; omega
          obtain ⟨q1, q2, q3⟩ := mk_full (S := S) (t := (1 + (j : Int) % 6)) (by omega) (by omega) hlo
          have hmm : S.mkM md (leafN (1 + (j : Int) % 6)) = md := if_neg (by rw [q1]; decide)
          have T1x : Hid (Calls _ _ _ _ _) := makeV HAB.out (by omega) (by omega) (by omega) (1 + (j : Int) % 6) 0 0 0 0 0 0
          rw [show (⟨(1 + (j : Int) % 6), 0, 0, 0, 0, 0, 0⟩ : Nd) = leafN (1 + (j : Int) % 6) from rfl, q1, q2, q3, hmm] at T1x
          go_wp2_with (go_at_call 7; fail)
          refine (T1x.out).mono ?_
          rintro e w3 ⟨rfl, h6⟩
          clear T1x
          clear q1 q2 q3 hmm HAB
          obtain ⟨S2, hS2⟩ : ∃ S2, S2 = S := ⟨_, rfl⟩
          rw [← hS2] at h6 HW HN
          have HW2 := HW
          have HN2 := HN
          clear hS2
          have hul : usedN S2.sl ≤ sz := by have h := used_le S2.sl; have h2 := HN2.out; unfold St.n at h2; omega
          have U1 : Hid (Calls _ _ _ _ _) := usedB h6
          have U2 : Hid (Calls _ _ _ _ _) := madeB h6
          have e3 : decide ((sz : Int) < (usedN S2.sl : Int)) = false := decide_eq_false (by omega)
          have e4 : decide ((usedN S2.sl : Int) < 0) = false := decide_eq_false (by omega)
          have H6 : Hid (AB w G _ S2 (md) (5 * j + 5)) := h6
          clear h6
          generalize usedN S2.sl = us at *
          have e5 : decide (sz < us) = false := decide_eq_false (by omega)
          go_wp2_with (first
            | (go_at_call 11; refine (U2.out).mono ?_; rintro e w' ⟨rfl, hw'⟩; obtain rfl := hw'.symm)
            | (go_at_call 12; refine (U1.out).mono ?_; rintro e w' ⟨rfl, hw'⟩; obtain rfl := hw'.symm))
          go_roundw
          case rel => exact ⟨j + 1, S2, md, by omega, by omega, by go_num, by go_num, HW2, HN2, H6⟩
          case measure => simp [intOf]; omega
      | some i =>
        have hi20 : i < 20 := by
          have h1 := (least_some hlo).1.2.1
          have h2 := HN.out
          omega
        by_cases h3 : j % 3 = 2
        · have hr3 : ((j : Int) % 3 == 2) = true := by rw [beq_iff_eq]; omega
          have hi1 : ((i : Int) + 1 != 0) = true := by rw [bne_iff_ne]; omega
          obtain ⟨q1, q2, q3, -⟩ := mk_leaf (S := S) (t := (1 + (j : Int) % 6)) (by omega) (by omega) hlo
          have hmm : S.mkM md (leafN (1 + (j : Int) % 6)) = md + 1 := if_pos q1
          have T1x : Hid (Calls _ _ _ _ _) := makeV HAB.out (by omega) (by omega) (by omega) (1 + (j : Int) % 6) 0 0 0 0 0 0
          rw [show (⟨(1 + (j : Int) % 6), 0, 0, 0, 0, 0, 0⟩ : Nd) = leafN (1 + (j : Int) % 6) from rfl, q1, q2, q3, hmm] at T1x
          go_wp2_with (go_at_call 7; fail)
          refine (T1x.out).mono ?_
          rintro e w3 ⟨rfl, h3⟩
          clear T1x
          clear q1 q2 q3 hmm HAB
          obtain ⟨r1, r2, r3⟩ := made_drop HW.out hlo (1 + (j : Int) % 6)
          have HR2 : Hid (_ = _) := r2
          have HR3 : Hid (_ = _) := r3
          clear r2 r3 hlo
          have T2x : Hid (Calls _ _ _ _ _) := dropB h3 (by omega) ((i : Int) + 1)
          rw [r1] at T2x
          go_wp2_with (go_at_call 9; fail)
          refine (T2x.out).mono ?_
          rintro e w4 ⟨rfl, h4⟩
          clear T2x
          clear r1 h3
          have T3x : Hid (Calls _ _ _ _ _) := workB h4 (by omega) 1
          go_wp2_with (go_at_call 10; fail)
          refine (T3x.out).mono ?_
          rintro e w5 ⟨rfl, h5⟩
          clear T3x
          have h6 : AB w G w5 (St.workN 1 ((S.lay ((i : Int) + 1) (leafN (1 + (j : Int) % 6))).drop ((i : Int) + 1))).2 (md + 1) (5 * j + 5) := h5
          clear h4 h5
          have HW2 : Hid ((St.workN 1 ((S.lay ((i : Int) + 1) (leafN (1 + (j : Int) % 6))).drop ((i : Int) + 1))).2.wt = []) := HR2
          have HN2 : Hid ((St.workN 1 ((S.lay ((i : Int) + 1) (leafN (1 + (j : Int) % 6))).drop ((i : Int) + 1))).2.n = sz) := HR3.out.trans HN.out
          generalize (St.workN 1 ((S.lay ((i : Int) + 1) (leafN (1 + (j : Int) % 6))).drop ((i : Int) + 1))).2 = S2 at *
          clear HR2 HR3
          have hul : usedN S2.sl ≤ sz := by have h := used_le S2.sl; have h2 := HN2.out; unfold St.n at h2; omega
          have U1 : Hid (Calls _ _ _ _ _) := usedB h6
          have U2 : Hid (Calls _ _ _ _ _) := madeB h6
          have e3 : decide ((sz : Int) < (usedN S2.sl : Int)) = false := decide_eq_false (by omega)
          have e4 : decide ((usedN S2.sl : Int) < 0) = false := decide_eq_false (by omega)
          have H6 : Hid (AB w G _ S2 (md + 1) (5 * j + 5)) := h6
          clear h6
          generalize usedN S2.sl = us at *
          have e5 : decide (sz < us) = false := decide_eq_false (by omega)
          go_wp2_with (first
            | (go_at_call 11; refine (U2.out).mono ?_; rintro e w' ⟨rfl, hw'⟩; obtain rfl := hw'.symm)
            | (go_at_call 12; refine (U1.out).mono ?_; rintro e w' ⟨rfl, hw'⟩; obtain rfl := hw'.symm))
          go_roundw
          case rel => exact ⟨j + 1, S2, md + 1, by omega, by omega, by go_num, by go_num, HW2, HN2, H6⟩
          case measure => simp [intOf]; omega
        · have hr3 : ((j : Int) % 3 == 2) = false := by rw [beq_eq_false_iff_ne]; omega
          have hi1 : ((i : Int) + 1 != 0) = true := by rw [bne_iff_ne]; omega
          obtain ⟨q1, q2, q3, -⟩ := mk_leaf (S := S) (t := (1 + (j : Int) % 6)) (by omega) (by omega) hlo
          have hmm : S.mkM md (leafN (1 + (j : Int) % 6)) = md + 1 := if_pos q1
          have T1x : Hid (Calls _ _ _ _ _) := makeV HAB.out (by omega) (by omega) (by omega) (1 + (j : Int) % 6) 0 0 0 0 0 0
          rw [show (⟨(1 + (j : Int) % 6), 0, 0, 0, 0, 0, 0⟩ : Nd) = leafN (1 + (j : Int) % 6) from rfl, q1, q2, q3, hmm] at T1x
          go_wp2_with (go_at_call 7; fail)
          refine (T1x.out).mono ?_
          rintro e w3 ⟨rfl, h3⟩
          clear T1x
          clear q1 q2 q3 hmm HAB
          have h6 := h3
          clear h3
          have HW2 : Hid ((S.lay ((i : Int) + 1) (leafN (1 + (j : Int) % 6))).wt = []) := HW.out
          have HN2 : Hid ((S.lay ((i : Int) + 1) (leafN (1 + (j : Int) % 6))).n = sz) := (S.n_put _ _).trans HN.out
          generalize S.lay ((i : Int) + 1) (leafN (1 + (j : Int) % 6)) = S2 at *
          have hul : usedN S2.sl ≤ sz := by have h := used_le S2.sl; have h2 := HN2.out; unfold St.n at h2; omega
          have U1 : Hid (Calls _ _ _ _ _) := usedB h6
          have U2 : Hid (Calls _ _ _ _ _) := madeB h6
          have e3 : decide ((sz : Int) < (usedN S2.sl : Int)) = false := decide_eq_false (by omega)
          have e4 : decide ((usedN S2.sl : Int) < 0) = false := decide_eq_false (by omega)
          have H6 : Hid (AB w G _ S2 (md + 1) (5 * j + 5)) := h6
          clear h6
          generalize usedN S2.sl = us at *
          have e5 : decide (sz < us) = false := decide_eq_false (by omega)
          go_wp2_with (first
            | (go_at_call 11; refine (U2.out).mono ?_; rintro e w' ⟨rfl, hw'⟩; obtain rfl := hw'.symm)
            | (go_at_call 12; refine (U1.out).mono ?_; rintro e w' ⟨rfl, hw'⟩; obtain rfl := hw'.symm))
          go_roundw
          case rel => exact ⟨j + 1, S2, md + 1, by omega, by omega, by go_num, by go_num, HW2, HN2, H6⟩
          case measure => simp [intOf]; omega
    · obtain rfl : j = nn := by omega
      have T3 : Hid (Calls _ _ _ _ _) := sizeB HAB.out
      rw [HN.out] at T3
      have T4 : Hid (Calls _ _ _ _ _) := pendingB HAB.out
      rw [HW.out] at T4
      have HB : Hid (Below w.heap.size w wr) := HAB.out.below
      clear HAB HW HN
      go_wp2_with (first
        | (go_at_call 13; refine (T3.out).mono ?_; rintro e w' ⟨rfl, hw'⟩; obtain rfl := hw'.symm)
        | (go_at_call 14; refine (T4.out).mono ?_; rintro e w' ⟨rfl, hw'⟩; obtain rfl := hw'.symm))
      go_ret
      exact ⟨rfl, HB.out⟩

/-! ### The row's step -/
set_option maxRecDepth 100000 in
theorem lifted (os : Os) (started : os.Started) (H : Type) (enc : TypeId × Value → H) :
    ReturnsInHanded {} Tryd.checked os 4 .any (fun w args => (Rows.arenaMadeSpec.pre enc Tryd.prog Tryd.f4 [] false w args ∧ laidMetH Tryd.prog laid1 w) ∧ sizedMet enc Tryd.prog Tryd.f4 (OpenSpec.ofChange Rows.arenaMadeSpec) false w args) (Rows.arenaMadeSpec.post enc Tryd.prog Tryd.f4 false true false false) := by
  refine returnsInHanded_of_change_and (C := Tryd.checked) (X := fun w _ => laidMetH Tryd.prog laid1 w) (fun _ _ _ hh h => h.of_heap hh) Tryd.own started (by kernel_rfl) Tryd.func4
    (ChangeSpec.witness_shaped (enc := enc) (C := Tryd.checked) (os := os) (X := fun w _ => laidMetH Tryd.prog laid1 w) false (World.doorLaid Tryd.prog 400 os) #[.int .i64 0, .int .i64 0] 8 rfl (World.shaped_of_RefB (by kernel_rfl) (by kernel_rfl)) (by kernel_rfl) (by kernel_rfl) (by kernel_rfl) (door_met os _)) ?_
  intro W base args ds gs before hval0 hW _ _ hL _
  have hval : ∀ (j : Nat) t v, Tryd.f4.params[j]? = some t → args[j]? = some v → Value.okWide Tryd.prog W .any base t v := hval0
  have hW' := hW
  obtain ⟨p, q, hA0, hV, rfl, hfz, hnd⟩ := hW
  have hA : DataW.TrodAll enc Tryd.prog W 0 (fun _ => true) true Tryd.f4.params.toList args.toList ds p := hA0
  rw [Tryd.params4] at hA hval
  obtain ⟨v0, vs0, d0, ds0, p0, q0, hargs, rfl, rfl, h0, r0⟩ := trodAll_cons hA
  obtain ⟨v1, vs1, d1, ds1, p1, q1, rfl, rfl, rfl, h1, r1⟩ := trodAll_cons r0
  obtain ⟨rfl, rfl, rfl⟩ := trodAll_nil r1
  obtain rfl : args = #[v0, v1] := by cases args; simp_all
  obtain ⟨rfl, rfl⟩ := trodVars_none hV
  obtain ⟨a0, rfl, rfl, rfl, w0⟩ := open_int Tryd.underlying3 (hval 0 3 v0 rfl rfl) h0
  obtain ⟨a1, rfl, rfl, rfl, w1⟩ := open_int Tryd.underlying3 (hval 1 3 v1 rfl rfl) h1
  clear hA0 hval0
  simp only [List.append_nil] at hW'
  refine (walk a0 a1 W (of_laid hL) w0 w1).mono fun e W' ⟨he, hg⟩ => ?_
  subst he
  exact ⟨_, rfl, post_carry Tryd.laidOut (by rw [Tryd.params4]; intro t ht; simp only [List.mem_cons, List.not_mem_nil, or_false] at ht; rcases ht with rfl | rfl <;> exact ⟨by kernel_rfl, of_decide_eq_true (by kernel_rfl)⟩) rfl hW' (fun _ _ _ => (trodAll_cons_mk (shut_bool Tryd.underlying4 _) trodAll_mk0)) rfl rfl hg⟩

theorem over : Rows.arenaMadeRow.holds Tryd.pinned (OpenSpec.ofChange Rows.arenaMadeSpec) :=
  OpenClaim.holds_of_wide 4 Tryd.f4 rfl rfl rfl rfl rfl rfl rfl ⟨rfl, rfl, rfl, rfl, rfl⟩ rfl rfl rfl rfl rfl (by kernel_rfl) Tryd.func4 (by kernel_rfl)
    (of_decide_eq_true (by kernel_rfl)) (by unfold Func.isWrapper; first | (rw [if_pos (by decide +kernel)]; kernel_rfl) | (rw [if_neg (by decide +kernel)]; exact ⟨rfl, rfl⟩))
    (fun os started H enc _ => lifted os started H enc)

end Go.Proofs.YtgimehldhibmjabDoor.arenaMade

namespace Go.Proofs.YtgimehldhibmjabDoor
/-- the row -/
theorem arenaMade_row : Rows.ArenaMadeSaid := arenaMade.over

/-- the statement: the tied card -/
theorem arenaMade_holds : Rows.ArenaMadeCardSaid :=
  Claim7.holds_tied_plain_at .later [] [.data] true Rows.arenaMadeCard.stood.harness false
    arenaMade_row (fun _ h => by cases h) (by kernel_rfl) (fun _ h => by cases h) arenaMade_row_tie rfl ⟨rfl, rfl⟩ (by kernel_rfl) rfl
    (fun f fn hf hfn => by
      obtain rfl : f = 4 := Option.some.inj ((show Tryd.prog.funcNamed "scrinium/scriniumlaw6.ArenaMade" = some 4 by kernel_rfl).symm.trans hf) |>.symm
      obtain rfl : fn = Tryd.f4 := (Option.some.inj (Tryd.func4.symm.trans hfn)).symm
      exact ⟨by kernel_rfl, fun j t ht => by
        rw [Tryd.params4] at ht
        have hm : t ∈ [3] := by simpa using Array.mem_of_getElem? ht
        have hall : ([3].all fun u => !Tryd.prog.wantsStandIn u) = true := by kernel_rfl
        exact (show Tryd.prog.wantsStandIn t = false by simpa using List.all_eq_true.1 hall t hm)⟩)
    (by kernel_rfl)
#print axioms arenaMade_holds
end Go.Proofs.YtgimehldhibmjabDoor
