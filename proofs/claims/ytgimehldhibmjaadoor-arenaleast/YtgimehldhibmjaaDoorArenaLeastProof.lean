/- The least free handle is told, what was freed comes again: the statement's tied card, for all three numbers. -/
import Derived.Test.YtgimehldhibmjaaDoorASh
import Derived.Test.YtgimehldhibmjaaDoorArS
import Derived.Test.YtgimehldhibmjaaDoorCards
import Derived.Test.YtgimehldhibmjaaDoorTie
import Derived.SevenTiedAt
namespace Go.Proofs.YtgimehldhibmjaaDoor.arenaLeast
open Go.ChangeShapes Go.WideShapes Go.ChangeAt Go.RowKit
set_option linter.unusedVariables false


/-! ### The walk -/
set_option maxRecDepth 100000 in
set_option maxHeartbeats 2000000 in
theorem walk (a0 : Int) (a1 : Int) (a2 : Int) (w : World) (hT : Tab w) (w0 : (Lit.int .i64 a0).wf = true) (w1 : (Lit.int .i64 a1).wf = true) (w2 : (Lit.int .i64 a2).wf = true) :
    Calls Tryd.prog 5 #[.int .i64 a0, .int .i64 a1, .int .i64 a2] w fun e w' => e = .returned (.bool true) ∧ Below w.heap.size w w' := by
  have TA : Hid (∀ W, Tab W → _) := fun W h => alive_any W h
  have HT : Hid (Tab w) := hT
  clear hT
  by_cases h1 : a0 < 1
  · clear w0 w1 w2
    have d1 : decide (a0 < 1) = true := decide_eq_true h1
    go_enter Tryd.func5, Tryd.ntmps5
    go_wp2_with (go_at_call 9; fail)
    refine (TA.out _ HT.out).mono ?_
    rintro e w1 ⟨rfl, hb1⟩
    have HB1 : Hid (Below w.heap.size w w1) := hb1
    clear hb1
    go_wp2
    go_ret
    exact ⟨rfl, HB1.out⟩
  by_cases h2 : 60 < a0
  · clear w0 w1 w2
    have d1 : decide (a0 < 1) = false := decide_eq_false h1
    have d2 : decide (60 < a0) = true := decide_eq_true h2
    go_enter Tryd.func5, Tryd.ntmps5
    go_wp2_with (go_at_call 9; fail)
    refine (TA.out _ HT.out).mono ?_
    rintro e w1 ⟨rfl, hb1⟩
    have HB1 : Hid (Below w.heap.size w w1) := hb1
    clear hb1
    go_wp2
    go_ret
    exact ⟨rfl, HB1.out⟩
  by_cases h3 : a1 < 0
  · clear w0 w1 w2
    have d1 : decide (a0 < 1) = false := decide_eq_false h1
    have d2 : decide (60 < a0) = false := decide_eq_false h2
    have d3 : decide (a1 < 0) = true := decide_eq_true h3
    go_enter Tryd.func5, Tryd.ntmps5
    go_wp2_with (go_at_call 9; fail)
    refine (TA.out _ HT.out).mono ?_
    rintro e w1 ⟨rfl, hb1⟩
    have HB1 : Hid (Below w.heap.size w w1) := hb1
    clear hb1
    go_wp2
    go_ret
    exact ⟨rfl, HB1.out⟩
  by_cases h4 : 80 < a1
  · clear w0 w1 w2
    have d1 : decide (a0 < 1) = false := decide_eq_false h1
    have d2 : decide (60 < a0) = false := decide_eq_false h2
    have d3 : decide (a1 < 0) = false := decide_eq_false h3
    have d4 : decide (80 < a1) = true := decide_eq_true h4
    go_enter Tryd.func5, Tryd.ntmps5
    go_wp2_with (go_at_call 9; fail)
    refine (TA.out _ HT.out).mono ?_
    rintro e w1 ⟨rfl, hb1⟩
    have HB1 : Hid (Below w.heap.size w w1) := hb1
    clear hb1
    go_wp2
    go_ret
    exact ⟨rfl, HB1.out⟩
  have d1 : decide (a0 < 1) = false := decide_eq_false h1
  have d2 : decide (60 < a0) = false := decide_eq_false h2
  have d3 : decide (a1 < 0) = false := decide_eq_false h3
  have d4 : decide (80 < a1) = false := decide_eq_false h4
  obtain ⟨sz, hsz⟩ := Int.eq_ofNat_of_zero_le (show 0 ≤ a0 by omega)
  obtain ⟨nn, hnn⟩ := Int.eq_ofNat_of_zero_le (show 0 ≤ a1 by omega)
  subst hsz hnn
  have hs1 : 1 ≤ sz := by omega
  have hs2 : sz ≤ 60 := by omega
  have hn2 : nn ≤ 80 := by omega
  clear h1 h2 h3 h4 w0 w1 w2
  go_enter Tryd.func5, Tryd.ntmps5
  go_wp2_with (go_at_call 9; fail)
  refine (TA.out _ HT.out).mono ?_
  rintro e w1 ⟨rfl, hb1⟩
  have HB1 : Hid (Below w.heap.size w w1) := hb1
  have HT1 : Hid (Tab w1) := tab_below HT.out hb1
  clear hb1 TA HT
  clear d1 d2 d3 d4
  have T1 : Hid (Calls _ _ _ _ _) := newB HB1.out HT1.out sz hs1 (by omega)
  go_wp2_with (go_at_call 10; fail)
  refine (T1.out).mono ?_
  rintro e w2 ⟨G, rfl, h2⟩
  have H2 : Hid (AB w G w2 (newS sz) 0 0) := h2
  clear h2 T1 HB1 HT1
  go_wp2
  go_loopw [8] (fun t wr => ∃ (j : Nat) (S : St) (md : Nat), j ≤ nn ∧ md ≤ j ∧ t = .int .i64 ((j : Int) + 1) ∧ Hid (LS S sz (min j sz)) ∧ Hid (AB w G wr S md (5 * j))) (fun t _ => nn + 1 - (intOf t).toNat)
  case atStart => exact ⟨0, newS sz, 0, Nat.zero_le _, Nat.le_refl _, rfl, by rw [Nat.zero_min]; exact LS.new sz, H2⟩
  case round =>
    obtain ⟨j, S, md, hj, hmd, rfl, HL, HAB⟩ := hrel
    clear H2
    have hSN : S.n = sz := HL.out.size
    by_cases hlt : j < nn
    · have T2 : Hid (Calls _ _ _ _ _) := makeV HAB.out (by omega) (by omega) (by omega) 1 0 0 0 0 0 0
      rw [show (⟨1, 0, 0, 0, 0, 0, 0⟩ : Nd) = leafN 1 from rfl] at T2
      have e1 : decide ((j : Int) + 1 ≤ (nn : Int)) = true := decide_eq_true (by omega)
      by_cases hjs : j < sz
      · have hL := HL.out
        rw [Nat.min_eq_left (by omega)] at hL
        obtain ⟨q1, q2, q3⟩ := hL.next hjs
        rw [q1, q2] at T2
        have hmm : S.mkM md (leafN 1) = md + 1 := if_pos q1
        rw [hmm] at T2
        have e2 : decide ((sz : Int) < (j : Int) + 1) = false := decide_eq_false (by omega)
        have HL2 : Hid (LS (S.mk1 (leafN 1)) sz (min (j + 1) sz)) := by
          show LS _ sz (min (j + 1) sz)
          rw [Nat.min_eq_left (by omega)]
          exact q3
        clear hL q1 q2 q3 hmm HL HAB hSN
        generalize S.mk1 (leafN 1) = S2 at *
        go_wp2_with (go_at_call 12; refine (T2.out).mono ?_; rintro e w3 ⟨rfl, h3⟩)
        go_roundw
        case rel => exact ⟨j + 1, S2, md + 1, by omega, by omega, by go_num, HL2, h3⟩
        case measure => simp [intOf]; omega
      · have hL := HL.out
        rw [Nat.min_eq_right (by omega)] at hL
        obtain ⟨q1, q2, q3⟩ := hL.full
        rw [q1, q2, q3] at T2
        have hmm : S.mkM md (leafN 1) = md := if_neg (by rw [q1]; decide)
        rw [hmm] at T2
        have e2 : decide ((sz : Int) < (j : Int) + 1) = true := decide_eq_true (by omega)
        have HL2 : Hid (LS S sz (min (j + 1) sz)) := by
          show LS _ sz (min (j + 1) sz)
          rw [Nat.min_eq_right (by omega)]
          exact hL
        clear hL q1 q2 q3 hmm HL HAB hSN
        go_wp2_with (go_at_call 12; refine (T2.out).mono ?_; rintro e w3 ⟨rfl, h3⟩)
        go_roundw
        case rel => exact ⟨j + 1, S, md, by omega, by omega, by go_num, HL2, h3⟩
        case measure => simp [intOf]; omega
    · obtain rfl : j = nn := by omega
      have e1 : decide ((j : Int) + 1 ≤ (j : Int)) = false := decide_eq_false (by omega)
      have HSN : Hid (0 < S.n) := by show 0 < S.n; omega
      clear hSN
      by_cases hz : j = 0
      · subst hz
        have hu := HL.out.used
        rw [Nat.zero_min] at hu
        have T3 : Hid (Calls _ _ _ _ _) := usedB HAB.out
        rw [hu] at T3
        have HB : Hid (Below w.heap.size w wr) := HAB.out.below
        have hmin : (min ((0 : Nat) : Int) (sz : Int)) = 0 := by omega
        clear hu HL HAB
        go_wp2_with (go_at_call 18; refine (T3.out).mono ?_; rintro e w' ⟨rfl, hw'⟩; obtain rfl := hw'.symm)
        go_ret
        exact ⟨rfl, HB.out⟩
      by_cases hjs : j < sz
      · rw [Nat.min_eq_left (by omega)] at HL
        have hmin : (min (j : Int) (sz : Int)) = (j : Int) := by omega
        have hne : ((j : Int) == 0) = false := by rw [beq_eq_false_iff_ne]; omega
        have hne2 : ((j : Int) == (sz : Int)) = false := by rw [beq_eq_false_iff_ne]; omega
        obtain ⟨b1, b2⟩ := rem_in a2 j (by omega)
        obtain ⟨R1, hR1⟩ : ∃ R1, Int.tmod a2 (j : Int) = R1 := ⟨_, rfl⟩
        rw [hR1] at b1 b2
        obtain ⟨D, hDn, hD⟩ := rem_place R1 j b1 b2
        obtain ⟨c1, c2, c3, c4, c5⟩ := HL.out.cycle HAB.out.inv (x := 1 + (D : Int)) (by omega) (by omega) (by omega)
        have ce : S.errB (1 + (D : Int)) = 0 := err_yes c1
        have T1x : Hid (Calls _ _ _ _ _) := dropB HAB.out (by omega) (1 + (D : Int))
        rw [ce] at T1x
        go_wp2_with (go_at_call 15; fail)
        refine (T1x.out).mono ?_
        rintro e w4 ⟨rfl, h4⟩
        clear T1x
        have HC3 : Hid (_ = _) := c3
        have HC4 : Hid (_ = _) := c4
        have HC5 : Hid (_ = _) := c5
        clear c1 c2 c3 c4 c5 ce HL
        have T2x : Hid (Calls _ _ _ _ _) := workB h4 (by omega) 1
        go_wp2_with (go_at_call 16; fail)
        refine (T2x.out).mono ?_
        rintro e w6 ⟨rfl, h6⟩
        clear T2x
        have h7 : AB w G w6 (St.workN 1 (S.drop (1 + (D : Int)))).2 md _ := h6
        clear h4 h6
        have T3x : Hid (Calls _ _ _ _ _) := makeV h7 (by rw [St.n_workN, S.n_drop]; exact HSN.out) (by omega) (by omega) 1 0 0 0 0 0 0
        rw [show (⟨1, 0, 0, 0, 0, 0, 0⟩ : Nd) = leafN 1 from rfl, HC3.out, HC4.out] at T3x
        go_wp2_with (go_at_call 12; fail)
        refine (T3x.out).mono ?_
        rintro e w8 ⟨rfl, h8⟩
        clear T3x
        clear h7
        have T4x : Hid (Calls _ _ _ _ _) := usedB h8
        rw [HC5.out] at T4x
        go_wp2_with (go_at_call 18; fail)
        refine (T4x.out).mono ?_
        rintro e w' ⟨rfl, hw'⟩
        obtain rfl := hw'.symm
        clear T4x
        have HB : Hid (Below w.heap.size w w8) := h8.below
        clear h8
        go_wp2
        go_ret
        exact ⟨rfl, HB.out⟩
      by_cases hjz : j = sz
      · subst hjz
        rw [Nat.min_self] at HL
        have hmin : (min (j : Int) (j : Int)) = (j : Int) := by omega
        have hne : ((j : Int) == 0) = false := by rw [beq_eq_false_iff_ne]; omega
        obtain ⟨b1, b2⟩ := rem_in a2 j (by omega)
        obtain ⟨R1, hR1⟩ : ∃ R1, Int.tmod a2 (j : Int) = R1 := ⟨_, rfl⟩
        rw [hR1] at b1 b2
        obtain ⟨D, hDn, hD⟩ := rem_place R1 j b1 b2
        obtain ⟨c1, c2, c3, c4, c5⟩ := HL.out.cycle HAB.out.inv (x := 1 + (D : Int)) (by omega) (by omega) (by omega)
        have HC2 : Hid (_ ∧ _) := c2 rfl
        have ce : S.errB (1 + (D : Int)) = 0 := err_yes c1
        have T1x : Hid (Calls _ _ _ _ _) := dropB HAB.out (by omega) (1 + (D : Int))
        rw [ce] at T1x
        go_wp2_with (go_at_call 15; fail)
        refine (T1x.out).mono ?_
        rintro e w4 ⟨rfl, h4⟩
        clear T1x
        have HC3 : Hid (_ = _) := c3
        have HC4 : Hid (_ = _) := c4
        have HC5 : Hid (_ = _) := c5
        clear c1 c2 c3 c4 c5 ce HL
        have hmm : (S.drop (1 + (D : Int))).mkM md (leafN 1) = md := if_neg (by rw [HC2.out.1]; decide)
        have T2x : Hid (Calls _ _ _ _ _) := makeV h4 (by rw [S.n_drop]; exact HSN.out) (by omega) (by omega) 1 0 0 0 0 0 0
        rw [show (⟨1, 0, 0, 0, 0, 0, 0⟩ : Nd) = leafN 1 from rfl, HC2.out.1, HC2.out.2.1, HC2.out.2.2, hmm] at T2x
        go_wp2_with (go_at_call 12; fail)
        refine (T2x.out).mono ?_
        rintro e w5 ⟨rfl, h5⟩
        clear T2x
        clear h4 hmm HC2
        have h4 := h5
        clear h5
        have T3x : Hid (Calls _ _ _ _ _) := workB h4 (by omega) 1
        go_wp2_with (go_at_call 16; fail)
        refine (T3x.out).mono ?_
        rintro e w6 ⟨rfl, h6⟩
        clear T3x
        have h7 : AB w G w6 (St.workN 1 (S.drop (1 + (D : Int)))).2 md _ := h6
        clear h4 h6
        have T4x : Hid (Calls _ _ _ _ _) := makeV h7 (by rw [St.n_workN, S.n_drop]; exact HSN.out) (by omega) (by omega) 1 0 0 0 0 0 0
        rw [show (⟨1, 0, 0, 0, 0, 0, 0⟩ : Nd) = leafN 1 from rfl, HC3.out, HC4.out] at T4x
        go_wp2_with (go_at_call 12; fail)
        refine (T4x.out).mono ?_
        rintro e w8 ⟨rfl, h8⟩
        clear T4x
        clear h7
        have T5x : Hid (Calls _ _ _ _ _) := usedB h8
        rw [HC5.out] at T5x
        go_wp2_with (go_at_call 18; fail)
        refine (T5x.out).mono ?_
        rintro e w' ⟨rfl, hw'⟩
        obtain rfl := hw'.symm
        clear T5x
        have HB : Hid (Below w.heap.size w w8) := h8.below
        clear h8
        go_wp2
        go_ret
        exact ⟨rfl, HB.out⟩
      · have hgt : sz < j := by omega
        rw [Nat.min_eq_right (by omega)] at HL
        have hmin : (min (j : Int) (sz : Int)) = (sz : Int) := by omega
        have hne : ((sz : Int) == 0) = false := by rw [beq_eq_false_iff_ne]; omega
        obtain ⟨b1, b2⟩ := rem_in a2 sz (by omega)
        obtain ⟨R1, hR1⟩ : ∃ R1, Int.tmod a2 (sz : Int) = R1 := ⟨_, rfl⟩
        rw [hR1] at b1 b2
        obtain ⟨D, hDn, hD⟩ := rem_place R1 sz b1 b2
        obtain ⟨c1, c2, c3, c4, c5⟩ := HL.out.cycle HAB.out.inv (x := 1 + (D : Int)) (by omega) (by omega) (by omega)
        have HC2 : Hid (_ ∧ _) := c2 rfl
        have ce : S.errB (1 + (D : Int)) = 0 := err_yes c1
        have T1x : Hid (Calls _ _ _ _ _) := dropB HAB.out (by omega) (1 + (D : Int))
        rw [ce] at T1x
        go_wp2_with (go_at_call 15; fail)
        refine (T1x.out).mono ?_
        rintro e w4 ⟨rfl, h4⟩
        clear T1x
        have HC3 : Hid (_ = _) := c3
        have HC4 : Hid (_ = _) := c4
        have HC5 : Hid (_ = _) := c5
        clear c1 c2 c3 c4 c5 ce HL
        have hmm : (S.drop (1 + (D : Int))).mkM md (leafN 1) = md := if_neg (by rw [HC2.out.1]; decide)
        have T2x : Hid (Calls _ _ _ _ _) := makeV h4 (by rw [S.n_drop]; exact HSN.out) (by omega) (by omega) 1 0 0 0 0 0 0
        rw [show (⟨1, 0, 0, 0, 0, 0, 0⟩ : Nd) = leafN 1 from rfl, HC2.out.1, HC2.out.2.1, HC2.out.2.2, hmm] at T2x
        go_wp2_with (go_at_call 12; fail)
        refine (T2x.out).mono ?_
        rintro e w5 ⟨rfl, h5⟩
        clear T2x
        clear h4 hmm HC2
        have h4 := h5
        clear h5
        have T3x : Hid (Calls _ _ _ _ _) := workB h4 (by omega) 1
        go_wp2_with (go_at_call 16; fail)
        refine (T3x.out).mono ?_
        rintro e w6 ⟨rfl, h6⟩
        clear T3x
        have h7 : AB w G w6 (St.workN 1 (S.drop (1 + (D : Int)))).2 md _ := h6
        clear h4 h6
        have T4x : Hid (Calls _ _ _ _ _) := makeV h7 (by rw [St.n_workN, S.n_drop]; exact HSN.out) (by omega) (by omega) 1 0 0 0 0 0 0
        rw [show (⟨1, 0, 0, 0, 0, 0, 0⟩ : Nd) = leafN 1 from rfl, HC3.out, HC4.out] at T4x
        go_wp2_with (go_at_call 12; fail)
        refine (T4x.out).mono ?_
        rintro e w8 ⟨rfl, h8⟩
        clear T4x
        clear h7
        have T5x : Hid (Calls _ _ _ _ _) := usedB h8
        rw [HC5.out] at T5x
        go_wp2_with (go_at_call 18; fail)
        refine (T5x.out).mono ?_
        rintro e w' ⟨rfl, hw'⟩
        obtain rfl := hw'.symm
        clear T5x
        have HB : Hid (Below w.heap.size w w8) := h8.below
        clear h8
        go_wp2
        go_ret
        exact ⟨rfl, HB.out⟩

/-! ### The row's step -/
set_option maxRecDepth 100000 in
theorem lifted (os : Os) (started : os.Started) (H : Type) (enc : TypeId × Value → H) :
    ReturnsInHanded {} Tryd.checked os 5 .any (fun w args => (Rows.arenaLeastSpec.pre enc Tryd.prog Tryd.f5 [] false w args ∧ laidMetH Tryd.prog laid1 w) ∧ sizedMet enc Tryd.prog Tryd.f5 (OpenSpec.ofChange Rows.arenaLeastSpec) false w args) (Rows.arenaLeastSpec.post enc Tryd.prog Tryd.f5 false true false false) := by
  refine returnsInHanded_of_change_and (C := Tryd.checked) (X := fun w _ => laidMetH Tryd.prog laid1 w) (fun _ _ _ hh h => h.of_heap hh) Tryd.own started (by kernel_rfl) Tryd.func5
    (ChangeSpec.witness_shaped (enc := enc) (C := Tryd.checked) (os := os) (X := fun w _ => laidMetH Tryd.prog laid1 w) false (World.doorLaid Tryd.prog 400 os) #[.int .i64 0, .int .i64 0, .int .i64 0] 8 rfl (World.shaped_of_RefB (by kernel_rfl) (by kernel_rfl)) (by kernel_rfl) (by kernel_rfl) (by kernel_rfl) (door_met os _)) ?_
  intro W base args ds gs before hval0 hW _ _ hL _
  have hval : ∀ (j : Nat) t v, Tryd.f5.params[j]? = some t → args[j]? = some v → Value.okWide Tryd.prog W .any base t v := hval0
  have hW' := hW
  obtain ⟨p, q, hA0, hV, rfl, hfz, hnd⟩ := hW
  have hA : DataW.TrodAll enc Tryd.prog W 0 (fun _ => true) true Tryd.f5.params.toList args.toList ds p := hA0
  rw [Tryd.params5] at hA hval
  obtain ⟨v0, vs0, d0, ds0, p0, q0, hargs, rfl, rfl, h0, r0⟩ := trodAll_cons hA
  obtain ⟨v1, vs1, d1, ds1, p1, q1, rfl, rfl, rfl, h1, r1⟩ := trodAll_cons r0
  obtain ⟨v2, vs2, d2, ds2, p2, q2, rfl, rfl, rfl, h2, r2⟩ := trodAll_cons r1
  obtain ⟨rfl, rfl, rfl⟩ := trodAll_nil r2
  obtain rfl : args = #[v0, v1, v2] := by cases args; simp_all
  obtain ⟨rfl, rfl⟩ := trodVars_none hV
  obtain ⟨a0, rfl, rfl, rfl, w0⟩ := open_int Tryd.underlying3 (hval 0 3 v0 rfl rfl) h0
  obtain ⟨a1, rfl, rfl, rfl, w1⟩ := open_int Tryd.underlying3 (hval 1 3 v1 rfl rfl) h1
  obtain ⟨a2, rfl, rfl, rfl, w2⟩ := open_int Tryd.underlying3 (hval 2 3 v2 rfl rfl) h2
  clear hA0 hval0
  simp only [List.append_nil] at hW'
  refine (walk a0 a1 a2 W (of_laid hL) w0 w1 w2).mono fun e W' ⟨he, hg⟩ => ?_
  subst he
  exact ⟨_, rfl, post_carry Tryd.laidOut (by rw [Tryd.params5]; intro t ht; simp only [List.mem_cons, List.not_mem_nil, or_false] at ht; rcases ht with rfl | rfl | rfl <;> exact ⟨by kernel_rfl, of_decide_eq_true (by kernel_rfl)⟩) rfl hW' (fun _ _ _ => (trodAll_cons_mk (shut_bool Tryd.underlying4 _) trodAll_mk0)) rfl rfl hg⟩

theorem over : Rows.arenaLeastRow.holds Tryd.pinned (OpenSpec.ofChange Rows.arenaLeastSpec) :=
  OpenClaim.holds_of_wide 5 Tryd.f5 rfl rfl rfl rfl rfl rfl rfl ⟨rfl, rfl, rfl, rfl, rfl⟩ rfl rfl rfl rfl rfl (by kernel_rfl) Tryd.func5 (by kernel_rfl)
    (of_decide_eq_true (by kernel_rfl)) (by unfold Func.isWrapper; first | (rw [if_pos (by decide +kernel)]; kernel_rfl) | (rw [if_neg (by decide +kernel)]; exact ⟨rfl, rfl⟩))
    (fun os started H enc _ => lifted os started H enc)

end Go.Proofs.YtgimehldhibmjaaDoor.arenaLeast

namespace Go.Proofs.YtgimehldhibmjaaDoor
/-- the row -/
theorem arenaLeast_row : Rows.ArenaLeastSaid := arenaLeast.over

/-- the statement: the tied card -/
theorem arenaLeast_holds : Rows.ArenaLeastCardSaid :=
  Claim7.holds_tied_plain_at .later [] [.data] true Rows.arenaLeastCard.stood.harness false
    arenaLeast_row (fun _ h => by cases h) (by kernel_rfl) (fun _ h => by cases h) arenaLeast_row_tie rfl ⟨rfl, rfl⟩ (by kernel_rfl) rfl
    (fun f fn hf hfn => by
      obtain rfl : f = 5 := Option.some.inj ((show Tryd.prog.funcNamed "scrinium/scriniumlaw6.ArenaLeast" = some 5 by kernel_rfl).symm.trans hf) |>.symm
      obtain rfl : fn = Tryd.f5 := (Option.some.inj (Tryd.func5.symm.trans hfn)).symm
      exact ⟨by kernel_rfl, fun j t ht => by
        rw [Tryd.params5] at ht
        have hm : t ∈ [3] := by simpa using Array.mem_of_getElem? ht
        have hall : ([3].all fun u => !Tryd.prog.wantsStandIn u) = true := by kernel_rfl
        exact (show Tryd.prog.wantsStandIn t = false by simpa using List.all_eq_true.1 hall t hm)⟩)
    (by kernel_rfl)
#print axioms arenaLeast_holds
end Go.Proofs.YtgimehldhibmjaaDoor
