/- Of a chain that is dropped at its head one node is freed at each time, what is shared stays: the statement's tied card, for both numbers. -/
import Derived.Test.YtgimehldhibmjaaDoorASh
import Derived.Test.YtgimehldhibmjaaDoorArC
import Derived.Test.YtgimehldhibmjaaDoorArT
import Derived.Test.YtgimehldhibmjaaDoorCards
import Derived.Test.YtgimehldhibmjaaDoorTie
import Derived.SevenTiedAt
namespace Go.Proofs.YtgimehldhibmjaaDoor.arenaChain
open Go.ChangeShapes Go.WideShapes Go.ChangeAt Go.RowKit
set_option linter.unusedVariables false


/-! ### The walk -/
set_option maxRecDepth 100000 in
set_option maxHeartbeats 2000000 in
theorem walk (a0 : Int) (a1 : Int) (w : World) (hT : Tab w) (w0 : (Lit.int .i64 a0).wf = true) (w1 : (Lit.int .i64 a1).wf = true) :
    Calls Tryd.prog 6 #[.int .i64 a0, .int .i64 a1] w fun e w' => e = .returned (.bool true) ∧ Below w.heap.size w w' := by
  have TA : Hid (∀ W, Tab W → _) := fun W h => alive_any W h
  have HT : Hid (Tab w) := hT
  clear hT
  by_cases h1 : a0 < 1
  · clear w0 w1
    have d1 : decide (a0 < 1) = true := decide_eq_true h1
    go_enter Tryd.func6, Tryd.ntmps6
    go_wp2_with (go_at_call 9; fail)
    refine (TA.out _ HT.out).mono ?_
    rintro e w1 ⟨rfl, hb1⟩
    have HB1 : Hid (Below w.heap.size w w1) := hb1
    clear hb1
    go_wp2
    go_ret
    exact ⟨rfl, HB1.out⟩
  by_cases h2 : 50 < a0
  · clear w0 w1
    have d1 : decide (a0 < 1) = false := decide_eq_false h1
    have d2 : decide (50 < a0) = true := decide_eq_true h2
    go_enter Tryd.func6, Tryd.ntmps6
    go_wp2_with (go_at_call 9; fail)
    refine (TA.out _ HT.out).mono ?_
    rintro e w1 ⟨rfl, hb1⟩
    have HB1 : Hid (Below w.heap.size w w1) := hb1
    clear hb1
    go_wp2
    go_ret
    exact ⟨rfl, HB1.out⟩
  have d1 : decide (a0 < 1) = false := decide_eq_false h1
  have d2 : decide (50 < a0) = false := decide_eq_false h2
  obtain ⟨nn, hnn⟩ := Int.eq_ofNat_of_zero_le (show 0 ≤ a0 by omega)
  subst hnn
  have hn1 : 1 ≤ nn := by omega
  have hn2 : nn ≤ 50 := by omega
  clear h1 h2 w0 w1
  go_enter Tryd.func6, Tryd.ntmps6
  go_wp2_with (go_at_call 9; fail)
  refine (TA.out _ HT.out).mono ?_
  rintro e w1 ⟨rfl, hb1⟩
  have HB1 : Hid (Below w.heap.size w w1) := hb1
  have HT1 : Hid (Tab w1) := tab_below HT.out hb1
  clear hb1 TA HT
  clear d1 d2
  have T1 : Hid (Calls _ _ _ _ _) := newB HB1.out HT1.out 60 (by omega) (by omega)
  go_wp2_with (go_at_call 10; fail)
  refine (T1.out).mono ?_
  rintro e w2 ⟨G, rfl, h2⟩
  have H2 : Hid (AB w G w2 (newS 60) 0 0) := h2
  clear h2 T1 HB1 HT1
  obtain ⟨b1, b2⟩ := rem_in a1 nn (by omega)
  obtain ⟨R1, hR1⟩ : ∃ R1, Int.tmod a1 (nn : Int) = R1 := ⟨_, rfl⟩
  rw [hR1] at b1 b2
  obtain ⟨D, hDn, hD⟩ := rem_place R1 nn b1 b2
  go_wp2
  clear hD hR1 b1 b2
  obtain ⟨at_, hat⟩ : ∃ at_ : Nat, (1 + (D : Int)) = (at_ : Int) := ⟨1 + D, by omega⟩
  rw [hat]
  have ha1 : 1 ≤ at_ := by omega
  have ha2 : at_ ≤ nn := by omega
  clear hat hDn
  go_loopw [7, 8] (fun l t wr => ∃ (j : Nat) (S : St) (md : Nat), j ≤ nn ∧ md ≤ j ∧ l = .int .i64 (j : Nat) ∧ t = .int .i64 ((j : Int) + 1) ∧ Hid (CH S j (fun _ => 1) []) ∧ Hid (AB w G wr S md (5 * j))) (fun _ t _ => nn + 1 - (intOf t).toNat)
  case atStart => exact ⟨0, newS 60, 0, Nat.zero_le _, Nat.le_refl _, rfl, rfl, CH.new _, H2⟩
  case round =>
    obtain ⟨j, S, md, hj, hmd, rfl, rfl, HC, HAB⟩ := hrel
    clear H2
    by_cases hlt : j < nn
    · have e1 : decide ((j : Int) + 1 ≤ (nn : Int)) = true := decide_eq_true (by omega)
      obtain ⟨q1, q2, q3, q4⟩ := HC.out.make (by omega)
      have T2 : Hid (Calls _ _ _ _ _) := makeV HAB.out (by have h := HC.out.size; omega) (by omega) (by omega) 5 (j : Int) 0 0 0 0 0
      have en : (⟨5, (j : Int), 0, 0, 0, 0, 0⟩ : Nd) = chainN ((j : Int) + 1) := by unfold chainN; rw [show (j : Int) + 1 - 1 = (j : Int) by omega]
      have hmm : S.mkM md (chainN ((j : Int) + 1)) = md + 1 := if_pos q1
      rw [en, q1, q2, hmm] at T2
      by_cases hj0 : j = 0
      · have HC2 : Hid (CH (S.mk1 (chainN ((j : Int) + 1))) (j + 1) (fun _ => 1) []) := q3 hj0
        have b0 : ((j : Int) != 0) = false := by rw [hj0]; rfl
        clear q1 q2 q3 q4 en hmm HC HAB
        generalize S.mk1 (chainN ((j : Int) + 1)) = S2 at *
        subst hj0
        go_wp2_with (go_at_call 12; refine (T2.out).mono ?_; rintro e w3 ⟨rfl, h3⟩)
        go_roundw
        case rel => exact ⟨0 + 1, S2, md + 1, by omega, by omega, by rfl, by rfl, HC2, h3⟩
        case measure => simp [intOf]; omega
      · obtain ⟨q5, q6⟩ := q4 hj0
        have HC2 : Hid (CH ((S.mk1 (chainN ((j : Int) + 1))).drop (j : Int)) (j + 1) (fun _ => 1) []) := q6
        have HLV : Hid ((S.mk1 (chainN ((j : Int) + 1))).errB (j : Int) = 0) := err_yes q5
        have b0 : ((j : Int) != 0) = true := by rw [bne_iff_ne]; omega
        clear q1 q2 q3 q4 en hmm HC HAB q5 q6
        generalize S.mk1 (chainN ((j : Int) + 1)) = S2 at *
        go_wp2_with (go_at_call 12; fail)
        refine (T2.out).mono ?_
        rintro e w3 ⟨rfl, h3⟩
        have T3 : Hid (Calls _ _ _ _ _) := dropB h3 (by omega) (j : Int)
        rw [HLV.out] at T3
        clear h3 T2
        go_wp2_with (go_at_call 15; refine (T3.out).mono ?_; rintro e w4 ⟨rfl, h4⟩)
        go_roundw
        case rel => exact ⟨j + 1, S2.drop (j : Int), md + 1, by omega, by omega, by go_num, by go_num, HC2, h4⟩
        case measure => simp [intOf]; omega
    · obtain rfl : j = nn := by omega
      have e1 : decide ((j : Int) + 1 ≤ (j : Int)) = false := decide_eq_false (by omega)
      have HK : Hid (CH (S.keep (at_ : Int)) j (fun h => if h = (at_ : Int) then 2 else 1) []) := HC.out.keep (by omega) (by omega) (Nat.le_refl _)
      have hke : S.errB (at_ : Int) = 0 := err_yes (HC.out.live (by omega) (by omega) (Nat.le_refl _))
      have T3 : Hid (Calls _ _ _ _ _) := keepB HAB.out (by omega) (at_ : Int)
      rw [hke] at T3
      clear hke HC HAB
      go_wp2_with (go_at_call 14; fail)
      refine (T3.out).mono ?_
      rintro e w3 ⟨rfl, h3⟩
      clear T3
      generalize S.keep (at_ : Int) = S2 at *
      have T4 : Hid (Calls _ _ _ _ _) := dropB h3 (by omega) (j : Int)
      by_cases hat : at_ = j
      · subst hat
        have hle : S2.errB (at_ : Int) = 0 := err_yes (HK.out.live (by omega) (by omega) (by show 1 ≤ (if (at_ : Int) = (at_ : Int) then 2 else 1 : Nat); rw [if_pos rfl]; omega))
        have hD := HK.out.drop (x := (at_ : Int)) (by omega) (by omega) (by show 1 ≤ (if (at_ : Int) = (at_ : Int) then 2 else 1 : Nat); rw [if_pos rfl]; omega)
        simp only [if_true] at hD
        rw [if_neg (by omega)] at hD
        rw [hle] at T4
        have hw2 := hD.wt
        have hu2 := hD.used
        clear hle hD HK h3
        go_wp2_with (go_at_call 15; fail)
        refine (T4.out).mono ?_
        rintro e w4 ⟨rfl, h4⟩
        have T5 : Hid (Calls _ _ _ _ _) := pendingB h4
        rw [hw2] at T5
        have T6 : Hid (Calls _ _ _ _ _) := usedB h4
        rw [hu2] at T6
        have HB : Hid (Below w.heap.size w w4) := h4.below
        clear h4 T4 hw2 hu2
        go_wp2_with (first
          | (go_at_call 19; refine (T5.out).mono ?_; rintro e w' ⟨rfl, hw'⟩; obtain rfl := hw'.symm)
          | (go_at_call 18; refine (T6.out).mono ?_; rintro e w' ⟨rfl, hw'⟩; obtain rfl := hw'.symm))
        go_ret
        exact ⟨rfl, HB.out⟩
      · have hne : ((at_ : Int) == (j : Int)) = false := by rw [beq_eq_false_iff_ne]; omega
        have hcj : (if (j : Int) = (at_ : Int) then 2 else 1 : Nat) = 1 := if_neg (by omega)
        have hle : S2.errB (j : Int) = 0 := err_yes (HK.out.live (by omega) (by omega) (by show 1 ≤ (if (j : Int) = (at_ : Int) then 2 else 1 : Nat); rw [hcj]; omega))
        have hD := HK.out.drop (x := (j : Int)) (by omega) (by omega) (by show 1 ≤ (if (j : Int) = (at_ : Int) then 2 else 1 : Nat); rw [hcj]; omega)
        simp only [hcj, if_true, List.nil_append] at hD
        have HD : Hid (CH (S2.drop (j : Int)) j (fun h => if h = (at_ : Int) then 2 else if h = (j : Int) then 0 else 1) [(j : Int)]) := hD.congr (fun x _ _ => by
          show (if x = (j : Int) then (if x = (at_ : Int) then 2 else 1) - 1 else (if x = (at_ : Int) then 2 else 1) : Nat) = (if x = (at_ : Int) then 2 else if x = (j : Int) then 0 else 1)
          by_cases e1 : x = (j : Int)
          · have e2 : ¬ x = (at_ : Int) := by omega
            rw [if_pos e1, if_neg e2, if_neg e2, if_pos e1]
          · rw [if_neg e1]
            by_cases e2 : x = (at_ : Int)
            · rw [if_pos e2, if_pos e2]
            · rw [if_neg e2, if_neg e2, if_neg e1])
        rw [hle] at T4
        clear hle hD HK h3 hcj
        go_wp2_with (go_at_call 15; fail)
        refine (T4.out).mono ?_
        rintro e w4 ⟨rfl, h4⟩
        have H4 : Hid (AB w G w4 (S2.drop (j : Int)) md (5 * j + 1)) := h4
        clear h4 T4
        generalize S2.drop (j : Int) = S3 at *
        go_wp2
        go_loopw [11] (fun t wr => ∃ (m : Nat) (S : St), at_ ≤ m ∧ m ≤ j ∧ t = .int .i64 (m : Nat) ∧ Hid (at_ < m → CH S m (fun h => if h = (at_ : Int) then 2 else if h = (m : Int) then 0 else 1) [(m : Int)]) ∧ Hid (at_ = m → CH S m (fun _ => 1) []) ∧ Hid (AB w G wr S md (5 * j + 1))) (fun t _ => (intOf t).toNat)
        case atStart => exact ⟨j, S3, by omega, Nat.le_refl _, rfl, fun _ => HD.out, fun e => absurd e hat, H4⟩
        case round =>
          obtain ⟨m, S4, hm1, hm2, rfl, HM, HA, HAB⟩ := hrel
          clear HD H4
          by_cases hma : at_ < m
          · have d1 : decide ((at_ : Int) < (m : Int)) = true := decide_eq_true (by omega)
            have C := HM.out hma
            obtain ⟨m', rfl⟩ : ∃ m', m = m' + 1 := ⟨m - 1, by omega⟩
            have C' : CH S4 (m' + 1) (fun h => if h = (at_ : Int) then 2 else if h = ((m' + 1 : Nat) : Int) then 0 else 1) [(m' : Int) + 1] := by
              have e : ((m' + 1 : Nat) : Int) = (m' : Int) + 1 := by omega
              rw [e] at C ⊢
              exact C
            have T5 : Hid (Calls _ _ _ _ _) := pendingB HAB.out
            rw [C.wt] at T5
            have T6 : Hid (Calls _ _ _ _ _) := workB HAB.out (by omega) 1
            have hcm : 1 ≤ (if (m' : Int) = (at_ : Int) then 2 else if (m' : Int) = ((m' + 1 : Nat) : Int) then 0 else 1 : Nat) := by
              split
              · omega
              · rw [if_neg (by omega)]; omega
            obtain ⟨hwk, hF⟩ := C'.free HAB.out.inv (by omega) hcm
            have T7 : Hid (Calls Tryd.prog 16 #[.pointer (some ⟨G, 0, none⟩), .int .i64 1] wr fun e w' => e = .returned (.int .i64 1) ∧ AB w G w' S4.free1 md (5 * j + 1)) := by
              have h := T6.out
              rw [show (1 : Int).toNat = 1 from rfl, hwk] at h
              exact h
            have HM2 : Hid (at_ < m' → CH S4.free1 m' (fun h => if h = (at_ : Int) then 2 else if h = (m' : Int) then 0 else 1) [(m' : Int)]) := fun hlt2 => by
              have e0 : (if (m' : Int) = (at_ : Int) then 2 else if (m' : Int) = ((m' + 1 : Nat) : Int) then 0 else 1 : Nat) = 1 := by rw [if_neg (by omega), if_neg (by omega)]
              rw [if_pos e0] at hF
              refine hF.congr (fun x x1 x2 => ?_)
              by_cases q1 : x = (m' : Int)
              · have q2 : ¬ x = (at_ : Int) := by omega
                have q3 : ¬ x = ((m' + 1 : Nat) : Int) := by omega
                rw [if_pos q1, if_neg q2, if_neg q3, if_neg q2, if_pos q1]
              · rw [if_neg q1]
                by_cases q2 : x = (at_ : Int)
                · rw [if_pos q2, if_pos q2]
                · rw [if_neg q2, if_neg (by omega), if_neg q2, if_neg q1]
            have HA2 : Hid (at_ = m' → CH S4.free1 m' (fun _ => 1) []) := fun heq => by
              have e0 : (if (m' : Int) = (at_ : Int) then 2 else if (m' : Int) = ((m' + 1 : Nat) : Int) then 0 else 1 : Nat) = 2 := if_pos (by omega)
              rw [if_neg (by rw [e0]; omega)] at hF
              refine hF.congr (fun x x1 x2 => ?_)
              by_cases q1 : x = (m' : Int)
              · rw [if_pos q1, if_pos (by omega)]
              · rw [if_neg q1, if_neg (by omega), if_neg (by omega)]
            clear C C' hcm hwk hF HM HA HAB T6
            generalize S4.free1 = S5 at *
            go_wp2_with (first
              | (go_at_call 19; refine (T5.out).mono ?_; rintro e w' ⟨rfl, hw'⟩; obtain rfl := hw'.symm)
              | (go_at_call 16; refine (T7.out).mono ?_; rintro e w5 ⟨rfl, h5⟩))
            go_roundw
            case rel => exact ⟨m', S5, by omega, by omega, by go_num, HM2, HA2, h5⟩
            case measure => simp [intOf]
          · obtain rfl : at_ = m := by omega
            have d1 : decide ((at_ : Int) < (at_ : Int)) = false := decide_eq_false (by omega)
            have C := HA.out rfl
            have T5 : Hid (Calls _ _ _ _ _) := pendingB HAB.out
            rw [C.wt] at T5
            have T6 : Hid (Calls _ _ _ _ _) := usedB HAB.out
            rw [C.used] at T6
            have T7 : Hid (Calls _ _ _ _ _) := countB HAB.out (at_ : Int)
            rw [C.cnt (by omega) (by omega)] at T7
            have T8 : Hid (∀ W, AB w G W S4 md (5 * j + 1) → HasCells W (some ⟨wr.heap.size, 0, none⟩) [.int .i64 (at_ : Int)] → Calls Tryd.prog 22 #[.pointer (some ⟨G, 0, none⟩), .slice (some ⟨wr.heap.size, 0, none⟩) 1 1] W fun e w' => ∃ v c, e = .returned (.slice v at_ c) ∧ AB w G w' S4 md (5 * j + 1)) := fun W hA hc => by
              refine (reachB hA [(at_ : Int)] (some ⟨wr.heap.size, 0, none⟩) 1 hc (by simp)).mono ?_
              rintro e w' ⟨seen, v, rfl, hre, hown, -, hab⟩
              have hl := C.rise (fun _ _ _ => Nat.le_refl _) (by omega) hre
              rw [hl] at hown
              obtain ⟨av, cv, rfl, -, -, -, -⟩ := owns_cells hown
              exact ⟨av, cv, rfl, hab⟩
            have HAG : Hid (AB w G (wr.alloc (.cells #[.int .i64 (at_ : Int)] 3)) S4 md (5 * j + 1)) := HAB.out.grow ((Below.refl _ _).alloc (Nat.le_refl _) _)
            have HW : Hid (S4.wt = []) := C.wt
            clear C HM HA HAB
            go_wp2_with (first
              | (go_at_call 19; refine (T5.out).mono ?_; rintro e w' ⟨rfl, hw'⟩; obtain rfl := hw'.symm)
              | (go_at_call 18; refine (T6.out).mono ?_; rintro e w' ⟨rfl, hw'⟩; obtain rfl := hw'.symm)
              | (go_at_call 17; refine (T7.out).mono ?_; rintro e w' ⟨rfl, hw'⟩; obtain rfl := hw'.symm)
              | (go_at_call 22; fail))
            refine (T8.out _ HAG.out (cells_new _ [.int .i64 (at_ : Int)] _ _ rfl)).mono ?_
            rintro e w5 ⟨av, cv, rfl, h5⟩
            have T9 : Hid (Calls _ _ _ _ _) := workB h5 (by omega) 5
            rw [St.workN_nil HW.out] at T9
            clear h5 HAG T8
            go_wp2_with (go_at_call 16; refine (T9.out).mono ?_; rintro e w6 ⟨rfl, h6⟩)
            go_ret
            exact ⟨rfl, h6.below⟩

/-! ### The row's step -/
set_option maxRecDepth 100000 in
theorem lifted (os : Os) (started : os.Started) (H : Type) (enc : TypeId × Value → H) :
    ReturnsInHanded {} Tryd.checked os 6 .any (fun w args => (Rows.arenaChainSpec.pre enc Tryd.prog Tryd.f6 [] false w args ∧ laidMetH Tryd.prog laid1 w) ∧ sizedMet enc Tryd.prog Tryd.f6 (OpenSpec.ofChange Rows.arenaChainSpec) false w args) (Rows.arenaChainSpec.post enc Tryd.prog Tryd.f6 false true false false) := by
  refine returnsInHanded_of_change_and (C := Tryd.checked) (X := fun w _ => laidMetH Tryd.prog laid1 w) (fun _ _ _ hh h => h.of_heap hh) Tryd.own started (by kernel_rfl) Tryd.func6
    (ChangeSpec.witness_shaped (enc := enc) (C := Tryd.checked) (os := os) (X := fun w _ => laidMetH Tryd.prog laid1 w) false (World.doorLaid Tryd.prog 400 os) #[.int .i64 0, .int .i64 0] 8 rfl (World.shaped_of_RefB (by kernel_rfl) (by kernel_rfl)) (by kernel_rfl) (by kernel_rfl) (by kernel_rfl) (door_met os _)) ?_
  intro W base args ds gs before hval0 hW _ _ hL _
  have hval : ∀ (j : Nat) t v, Tryd.f6.params[j]? = some t → args[j]? = some v → Value.okWide Tryd.prog W .any base t v := hval0
  have hW' := hW
  obtain ⟨p, q, hA0, hV, rfl, hfz, hnd⟩ := hW
  have hA : DataW.TrodAll enc Tryd.prog W 0 (fun _ => true) true Tryd.f6.params.toList args.toList ds p := hA0
  rw [Tryd.params6] at hA hval
  obtain ⟨v0, vs0, d0, ds0, p0, q0, hargs, rfl, rfl, h0, r0⟩ := trodAll_cons hA
  obtain ⟨v1, vs1, d1, ds1, p1, q1, rfl, rfl, rfl, h1, r1⟩ := trodAll_cons r0
  obtain ⟨rfl, rfl, rfl⟩ := trodAll_nil r1
  obtain rfl : args = #[v0, v1] := by cases args; simp_all
  obtain ⟨rfl, rfl⟩ := trodVars_none hV
  obtain ⟨a0, rfl, rfl, rfl, w0⟩ := open_int Tryd.underlying3 (hval 0 3 v0 rfl rfl) h0
  obtain ⟨a1, rfl, rfl, rfl, w1⟩ := open_int Tryd.underlying3 (hval 1 3 v1 rfl rfl) h1
  clear hA0 hval0
  simp only [List.append_nil] at hW'
  refine (walk a0 a1 W (of_laid hL) w0 w1).mono fun e W' ⟨he, hg⟩ => ?_
  subst he
  exact ⟨_, rfl, post_carry Tryd.laidOut (by rw [Tryd.params6]; intro t ht; simp only [List.mem_cons, List.not_mem_nil, or_false] at ht; rcases ht with rfl | rfl <;> exact ⟨by kernel_rfl, of_decide_eq_true (by kernel_rfl)⟩) rfl hW' (fun _ _ _ => (trodAll_cons_mk (shut_bool Tryd.underlying4 _) trodAll_mk0)) rfl rfl hg⟩

theorem over : Rows.arenaChainRow.holds Tryd.pinned (OpenSpec.ofChange Rows.arenaChainSpec) :=
  OpenClaim.holds_of_wide 6 Tryd.f6 rfl rfl rfl rfl rfl rfl rfl ⟨rfl, rfl, rfl, rfl, rfl⟩ rfl rfl rfl rfl rfl (by kernel_rfl) Tryd.func6 (by kernel_rfl)
    (of_decide_eq_true (by kernel_rfl)) (by unfold Func.isWrapper; first | (rw [if_pos (by decide +kernel)]; kernel_rfl) | (rw [if_neg (by decide +kernel)]; exact ⟨rfl, rfl⟩))
    (fun os started H enc _ => lifted os started H enc)

end Go.Proofs.YtgimehldhibmjaaDoor.arenaChain

namespace Go.Proofs.YtgimehldhibmjaaDoor
/-- the row -/
theorem arenaChain_row : Rows.ArenaChainSaid := arenaChain.over

/-- the statement: the tied card -/
theorem arenaChain_holds : Rows.ArenaChainCardSaid :=
  Claim7.holds_tied_plain_at .later [] [.data] true Rows.arenaChainCard.stood.harness false
    arenaChain_row (fun _ h => by cases h) (by kernel_rfl) (fun _ h => by cases h) arenaChain_row_tie rfl ⟨rfl, rfl⟩ (by kernel_rfl) rfl
    (fun f fn hf hfn => by
      obtain rfl : f = 6 := Option.some.inj ((show Tryd.prog.funcNamed "scrinium/scriniumlaw6.ArenaChain" = some 6 by kernel_rfl).symm.trans hf) |>.symm
      obtain rfl : fn = Tryd.f6 := (Option.some.inj (Tryd.func6.symm.trans hfn)).symm
      exact ⟨by kernel_rfl, fun j t ht => by
        rw [Tryd.params6] at ht
        have hm : t ∈ [3] := by simpa using Array.mem_of_getElem? ht
        have hall : ([3].all fun u => !Tryd.prog.wantsStandIn u) = true := by kernel_rfl
        exact (show Tryd.prog.wantsStandIn t = false by simpa using List.all_eq_true.1 hall t hm)⟩)
    (by kernel_rfl)
#print axioms arenaChain_holds
end Go.Proofs.YtgimehldhibmjaaDoor
