/- A bit that is put into a row of at most 300 bits, and taken out again, leaves a row as it was; the rows in between stay as they are: for every list, place and bit. -/
import Derived.Test.YtfkfnibeipddaaaDoorBSh
import Derived.Test.YtfkfnibeipddaaaDoorBcG
import Derived.Test.YtfkfnibeipddaaaDoorCards
import Derived.Test.YtfkfnibeipddaaaDoorTie
import Derived.SevenTiedAt
namespace Go.Proofs.YtfkfnibeipddaaaDoor.bitsBack
open Go.ChangeShapes Go.WideShapes Go.ChangeAt Go.RowKit
set_option linter.unusedVariables false


/-! ### The walk -/
set_option maxRecDepth 100000 in
set_option maxHeartbeats 2000000 in
theorem walk (ao0 : Option Addr) (bs0 : List Bool) (cap0 : Nat) (a1 : Int) (a2 : Bool) (w : World) (hT : Tab w) (hs0 : HasBools w ao0 bs0) (hl0 : bs0.length ≤ cap0) (hm0 : cap0 ≤ 9223372036854775807) (w1 : -9223372036854775808 ≤ a1 ∧ a1 ≤ 9223372036854775807) :
    Calls Tryd.prog 6 #[.slice ao0 bs0.length cap0, .int .i64 a1, .bool a2] w fun e w' => e = .returned (.bool true) ∧ Below w.heap.size w w' := by
  have TA : Hid (∀ W, Tab W → _) := fun W h => alive8 W h
  have HT : Hid (Tab w) := hT
  clear hT
  by_cases h0 : 300 < bs0.length
  · clear hs0 hl0 hm0
    have d0 : decide ((300 : Int) < ((bs0.length : Nat) : Int)) = true := decide_eq_true (by omega)
    have d1 : decide (300 < bs0.length) = true := decide_eq_true h0
    clear h0
    go_enter Tryd.func6, Tryd.ntmps6
    go_wp2_with (go_at_call 9; fail)
    refine (TA.out _ HT.out).mono ?_
    rintro e w1 ⟨rfl, hb⟩
    have HB : Hid (Below w.heap.size w w1) := hb
    have HT1 : Hid (Tab w1) := tab_below HT.out hb
    clear hb HT TA
    go_wp2
    go_ret
    exact ⟨rfl, HB.out⟩
  have d0 : decide ((300 : Int) < ((bs0.length : Nat) : Int)) = false := decide_eq_false (by omega)
  have d1 : decide (300 < bs0.length) = false := decide_eq_false h0
  have hln : bs0.length ≤ 300 := by omega
  clear h0
  obtain ⟨k, hk, hkm, hr1, hr2⟩ := rem8 a1 bs0.length
  generalize hr : Int.tmod a1 ((bs0.length : Int) + 1) = r at *
  have HS : Hid (HasBools w ao0 bs0) := hs0
  clear hs0
  go_enter Tryd.func6, Tryd.ntmps6
  go_wp2_with (go_at_call 9; fail)
  refine (TA.out _ HT.out).mono ?_
  rintro e w1 ⟨rfl, hb⟩
  have HB : Hid (Below w.heap.size w w1) := hb
  have HT1 : Hid (Tab w1) := tab_below HT.out hb
  clear hb HT TA
  have T : Hid (Calls _ _ _ _ _) := newR HB.out HT1.out 1500 (by omega) (by omega)
  go_wp2_with (go_at_call 10; fail)
  refine (T.out).mono ?_
  rintro e w2 ⟨G, S0, rfl, hA, hC, hn, hu, hw⟩
  have HA : Hid (AB w G w2 S0 0 0) := hA
  have HC : Hid (CI S0 []) := hC
  have HN : Hid (S0.n = 1500) := hn
  have HU : Hid (usedN S0.sl ≤ 0) := Nat.le_of_eq hu
  have HW : Hid (S0.wt = []) := hw
  clear hA hC hn hu hw T HB HT1
  have hAl := HA.out.lt
  have T : Hid (Calls _ _ _ _ _) := buildR HA.out HC.out (HS.out.later HA.out.below) hl0 hm0 (by omega) (by have := HN.out; omega) (by have := HN.out; have := HU.out; omega) (by omega) (by omega)
  go_wp2_with (go_at_call 11; fail)
  refine (T.out).mono ?_
  rintro e w3 ⟨S1, th, m1, rfl, hA, hC, hG, hT, hu, hm, -, hS⟩
  have HA2 : Hid (AB w G w3 S1 (0 + m1) (0 + 1300)) := hA
  have HC2 : Hid (CI S1 _) := hC
  have HN2 : Hid (S1.n = 1500) := hG.1.trans HN.out
  have Rh2 : Hid (RowT S1 th (bs0)) := hT
  have HU2 : Hid (usedN S1.sl ≤ 76) := by have := HU.out; show usedN S1.sl ≤ 76; omega
  have hm1 : m1 ≤ 76 := by omega
  clear HU hu hm hS HW
  have HU := HU2
  clear HU2
  clear HA HC HN hA hC hT hG T
  have HA := HA2; have HC := HC2; have HN := HN2
  have Rh := Rh2
  clear HA2 HC2 HN2 Rh2
  have hd1 := Rh.out.deep (by omega)
  have T : Hid (Calls _ _ _ _ _) := insR HA.out HC.out Rh.out (by omega) k hk a2 (by have := HN.out; have := HU.out; omega) (by omega) (by omega)
  go_wp2_with (go_at_call 13; fail)
  refine (T.out).mono ?_
  rintro e w4 ⟨S2, tg, m2, rfl, hA, hC, hG, hT, hu, hm, -, hz, hS⟩
  have HA2 : Hid (AB w G w4 S2 (0 + m1 + m2) (0 + 1300 + 1300)) := hA
  have HC2 : Hid (CI S2 _) := hC
  have HN2 : Hid (S2.n = 1500) := hG.1.trans HN.out
  have hRh := Rh.out.grows hG
  have Rg2 : Hid (RowT S2 tg ((bs0.take k ++ a2 :: bs0.drop k))) := hT
  have HU2 : Hid (usedN S2.sl ≤ 128) := by have := HU.out; show usedN S2.sl ≤ 128; omega
  have hm2 : m2 ≤ 52 := by omega
  clear HU hu hm hz hS hd1
  have HU := HU2
  clear HU2
  clear HA HC HN hA hC hT hG T Rh
  have HA := HA2; have HC := HC2; have HN := HN2
  have Rh : Hid (RowT _ _ _) := hRh
  have Rg := Rg2
  clear HA2 HC2 HN2 Rg2 hRh
  have hlx := ins_len bs0 a2 hk
  have hd2 := Rg.out.deep (by omega)
  have HDL : Hid (_ = bs0) := ins_del bs0 a2 hk
  have HGT : Hid (_ = some a2) := ins_get bs0 a2 hk
  obtain ⟨X, hX⟩ : ∃ X, (bs0.take k ++ a2 :: bs0.drop k) = X := ⟨_, rfl⟩
  rw [hX] at Rg hlx HDL HGT
  clear hX
  have T : Hid (Calls _ _ _ _ _) := delR HA.out HC.out Rg.out (by omega) k (by omega) (by have := HN.out; have := HU.out; omega) (by omega) (by omega)
  go_wp2_with (go_at_call 25; fail)
  refine (T.out).mono ?_
  rintro e w5 ⟨S3, td, m3, rfl, hA, hC, hG, hT, hu, hm, hS⟩
  have HA2 : Hid (AB w G w5 S3 (0 + m1 + m2 + m3) (0 + 1300 + 1300 + 1300)) := hA
  have HC2 : Hid (CI S3 _) := hC
  have HN2 : Hid (S3.n = 1500) := hG.1.trans HN.out
  have hRh := Rh.out.grows hG
  have hRg := Rg.out.grows hG
  have Rd2 : Hid (RowT S3 td (bs0)) := by rw [HDL.out] at hT; exact hT
  clear HU hu hm hS hd2
  clear HA HC HN hA hC hT hG T Rh Rg
  have HA := HA2; have HC := HC2; have HN := HN2
  have Rh : Hid (RowT _ _ _) := hRh
  have Rg : Hid (RowT _ _ _) := hRg
  have Rd := Rd2
  clear HA2 HC2 HN2 Rd2 hRh hRg
  clear HDL
  have T : Hid (Calls _ _ _ _ _) := getbR HA.out.rd Rg.out (by omega) k HGT.out
  go_wp2_with (go_at_call 23; fail)
  refine (T.out).mono ?_
  rintro e w6 ⟨rfl, hb⟩
  have hA : AB w G w6 S3 (0 + m1 + m2 + m3) (0 + 1300 + 1300 + 1300) := HA.out.grow hb
  clear HA T hb
  have HA : Hid (AB _ _ _ _ _ _) := hA
  clear hA
  clear HGT HN HC
  have T : Hid (Calls _ _ _ _ _) := lenR HA.out.rd Rg.out (by omega)
  rw [hlx] at T
  go_wp2_with (go_at_call 21; fail)
  refine (T.out).mono ?_
  rintro e w7 ⟨rfl, hb⟩
  have hA : AB w G w7 S3 (0 + m1 + m2 + m3) (0 + 1300 + 1300 + 1300) := HA.out.grow hb
  clear HA T hb
  have HA : Hid (AB _ _ _ _ _ _) := hA
  clear hA

  have T : Hid (Calls _ _ _ _ _) := allR HA.out.rd Rd.out (by omega)
  go_wp2_with (go_at_call 17; fail)
  refine (T.out).mono ?_
  rintro e w8 ⟨al, cl, rfl, hl, hb⟩
  have LA : Hid (HasBools w8 al bs0) := hl
  clear hl
  have hA : AB w G w8 S3 (0 + m1 + m2 + m3) (0 + 1300 + 1300 + 1300) := HA.out.grow hb
  clear HA T hb
  have HA : Hid (AB _ _ _ _ _ _) := hA
  clear hA
  have T : Hid (Calls _ _ _ _ _) := sameB bs0 al ao0 bs0.length bs0.length cl cap0 w8 rfl rfl (by omega) LA.out (HS.out.later HA.out.below)
  clear LA
  go_wp2_with (go_at_call 16; fail)
  refine (T.out).mono ?_
  rintro e w9 ⟨rfl, hb⟩
  have hA : AB w G w9 S3 (0 + m1 + m2 + m3) (0 + 1300 + 1300 + 1300) := HA.out.grow hb
  clear HA T hb
  have HA : Hid (AB _ _ _ _ _ _) := hA
  clear hA
  have T : Hid (Calls _ _ _ _ _) := allR HA.out.rd Rh.out (by omega)
  go_wp2_with (go_at_call 17; fail)
  refine (T.out).mono ?_
  rintro e w10 ⟨al, cl, rfl, hl, hb⟩
  have LA : Hid (HasBools w10 al bs0) := hl
  clear hl
  have hA : AB w G w10 S3 (0 + m1 + m2 + m3) (0 + 1300 + 1300 + 1300) := HA.out.grow hb
  clear HA T hb
  have HA : Hid (AB _ _ _ _ _ _) := hA
  clear hA
  have T : Hid (Calls _ _ _ _ _) := sameB bs0 al ao0 bs0.length bs0.length cl cap0 w10 rfl rfl (by omega) LA.out (HS.out.later HA.out.below)
  clear LA
  go_wp2_with (go_at_call 16; fail)
  refine (T.out).mono ?_
  rintro e w11 ⟨rfl, hb⟩
  have hA : AB w G w11 S3 (0 + m1 + m2 + m3) (0 + 1300 + 1300 + 1300) := HA.out.grow hb
  clear HA T hb
  have HA : Hid (AB _ _ _ _ _ _) := hA
  clear hA
  have hz := Rd.out.zero
  have HE : Hid (Below _ _ _) := HA.out.below
  clear HA Rh Rg Rd HS
  by_cases h0 : bs0 = []
  · have e1 : td.hd = 0 := hz.2 h0
    have e2 : bs0.length = 0 := by rw [h0]; rfl
    have q1 : (td.hd == 0) = true := by rw [e1]; rfl
    have q2 : ((bs0.length : Int) == 0) = true := by rw [e2]; rfl
    have q3 : (bs0.length == 0) = true := by rw [e2]; rfl
    have q4 : decide (td.hd = 0) = true := decide_eq_true e1
    have q5 : decide (bs0 = []) = true := decide_eq_true h0
    clear hz e2 e1 h0 hlx
    go_wp2
    go_ret
    exact ⟨rfl, HE.out⟩
  · have e1 : ¬ td.hd = 0 := fun e => h0 (hz.1 e)
    have e2 : bs0.length ≠ 0 := fun e => h0 (List.length_eq_zero_iff.1 e)
    have q1 : (td.hd == 0) = false := by simpa using e1
    have q2 : ((bs0.length : Int) == 0) = false := by simpa using h0
    have q3 : (bs0.length == 0) = false := by simpa using h0
    have q4 : decide (td.hd = 0) = false := decide_eq_false e1
    have q5 : decide (bs0 = []) = false := decide_eq_false h0
    clear hz e2 hlx
    go_wp2
    go_ret
    exact ⟨rfl, HE.out⟩

/-! ### The row's step -/
set_option maxRecDepth 100000 in
theorem lifted (os : Os) (started : os.Started) (H : Type) (enc : TypeId × Value → H) :
    ReturnsInHanded {} Tryd.checked os 6 .any (fun w args => (Rows.bitsBackSpec.pre enc Tryd.prog Tryd.f6 [] false w args ∧ laidMetH Tryd.prog laid1 w) ∧ sizedMet enc Tryd.prog Tryd.f6 (OpenSpec.ofChange Rows.bitsBackSpec) false w args) (Rows.bitsBackSpec.post enc Tryd.prog Tryd.f6 false true false false) := by
  refine returnsInHanded_of_change_and (C := Tryd.checked) (X := fun w _ => laidMetH Tryd.prog laid1 w) (fun _ _ _ hh h => h.of_heap hh) Tryd.own started (by kernel_rfl) Tryd.func6
    (ChangeSpec.witness_shaped (enc := enc) (C := Tryd.checked) (os := os) (X := fun w _ => laidMetH Tryd.prog laid1 w) false (World.doorLaid Tryd.prog 400 os) #[.slice none 0 0, .int .i64 0, .bool false] 8 rfl (World.shaped_of_RefB (by kernel_rfl) (by kernel_rfl)) (by kernel_rfl) (by kernel_rfl) (by kernel_rfl) (door_met os _)) ?_
  intro W base args ds gs before hval0 hW _ _ hL _
  have hval : ∀ (j : Nat) t v, Tryd.f6.params[j]? = some t → args[j]? = some v → Value.okWide Tryd.prog W .any base t v := hval0
  have hW' := hW
  obtain ⟨p, q, hA0, hV, rfl, hfz, hnd⟩ := hW
  have hA : DataW.TrodAll enc Tryd.prog W 0 (fun _ => true) true Tryd.f6.params.toList args.toList ds p := hA0
  rw [Tryd.params6] at hA hval
  obtain ⟨v0, vs0, d0, ds0, p0, q0, hargs, rfl, rfl, h0, r0⟩ := trodAll_cons hA
  obtain ⟨v1, vs1, d1, ds1, p1, q1, rfl, rfl, rfl, h1, r1⟩ := trodAll_cons r0
  obtain ⟨v2, vs2, d2, ds2, p2, q2, rfl, rfl, rfl, h2, r2⟩ := trodAll_cons r1
  obtain ⟨rfl, rfl, rfl⟩ := trodAll_nil r2
  obtain rfl : args = #[v0, v1, v2] := by cases args; simp_all
  obtain ⟨rfl, rfl⟩ := trodVars_none hV
  obtain ⟨ao0, bs0, cap0, rfl, hs0, hl0, hm0⟩ := open_bools (hval 0 22 v0 rfl rfl) h0
  obtain ⟨a1, rfl, rfl, rfl, wf1⟩ := open_int Tryd.underlying3 (hval 1 3 v1 rfl rfl) h1
  have w1 := wf_i64 wf1
  obtain ⟨a2, rfl, rfl, rfl⟩ := open_bool Tryd.underlying4 (hval 2 4 v2 rfl rfl) h2
  clear hA0 hval0
  simp only [List.append_nil] at hW'
  refine (walk ao0 bs0 cap0 a1 a2 W (of_laid hL) hs0 hl0 hm0 w1).mono fun e W' ⟨he, hg⟩ => ?_
  subst he
  exact ⟨_, rfl, post_carry Tryd.laidOut (by rw [Tryd.params6]; intro t ht; simp only [List.mem_cons, List.not_mem_nil, or_false] at ht; rcases ht with rfl | rfl | rfl <;> exact ⟨by kernel_rfl, of_decide_eq_true (by kernel_rfl)⟩) rfl hW' (fun _ _ _ => (trodAll_cons_mk (shut_bool Tryd.underlying4 _) trodAll_mk0)) rfl rfl hg⟩

theorem over : Rows.bitsBackRow.holds Tryd.pinned (OpenSpec.ofChange Rows.bitsBackSpec) :=
  OpenClaim.holds_of_wide 6 Tryd.f6 rfl rfl rfl rfl rfl rfl rfl ⟨rfl, rfl, rfl, rfl, rfl⟩ rfl rfl rfl rfl rfl (by kernel_rfl) Tryd.func6 (by kernel_rfl)
    (of_decide_eq_true (by kernel_rfl)) (by unfold Func.isWrapper; first | (rw [if_pos (by decide +kernel)]; kernel_rfl) | (rw [if_neg (by decide +kernel)]; exact ⟨rfl, rfl⟩))
    (fun os started H enc _ => lifted os started H enc)

end Go.Proofs.YtfkfnibeipddaaaDoor.bitsBack

namespace Go.Proofs.YtfkfnibeipddaaaDoor
/-- the row -/
theorem bitsBack_row : Rows.BitsBackSaid := bitsBack.over

/-- the statement: the tied card -/
theorem bitsBack_holds : Rows.BitsBackCardSaid :=
  Claim7.holds_tied_plain_at .later [] [.data] true Rows.bitsBackCard.stood.harness false
    bitsBack_row (fun _ h => by cases h) (by kernel_rfl) (fun _ h => by cases h) bitsBack_row_tie rfl ⟨rfl, rfl⟩ (by kernel_rfl) rfl
    (fun f fn hf hfn => by
      obtain rfl : f = 6 := Option.some.inj ((show Tryd.prog.funcNamed "scrinium/scriniumlaw8.BitsBack" = some 6 by kernel_rfl).symm.trans hf) |>.symm
      obtain rfl : fn = Tryd.f6 := (Option.some.inj (Tryd.func6.symm.trans hfn)).symm
      exact ⟨by kernel_rfl, fun j t ht => by
        rw [Tryd.params6] at ht
        have hm : t ∈ [22, 3, 4] := by simpa using Array.mem_of_getElem? ht
        have hall : ([22, 3, 4].all fun u => !Tryd.prog.wantsStandIn u) = true := by kernel_rfl
        exact (show Tryd.prog.wantsStandIn t = false by simpa using List.all_eq_true.1 hall t hm)⟩)
    (by kernel_rfl)
#print axioms bitsBack_holds
end Go.Proofs.YtfkfnibeipddaaaDoor
