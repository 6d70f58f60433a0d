/- A row of at most 600 bits that differs in one bit shares all but a bounded number of its nodes with the one that it was made of; when it is dropped just that one's nodes are used: for every list, place and bit. -/
import Derived.Test.YtfkfnibeipddaaaDoorBSh
import Derived.Test.YtfkfnibeipddaaaDoorMg
import Derived.Test.YtfkfnibeipddaaaDoorCards
import Derived.Test.YtfkfnibeipddaaaDoorTie
import Derived.SevenTiedAt
namespace Go.Proofs.YtfkfnibeipddaaaDoor.bitsShares
open Go.ChangeShapes Go.WideShapes Go.ChangeAt Go.RowKit
set_option linter.unusedVariables false


/-! ### The walk -/
set_option maxRecDepth 100000 in
set_option maxHeartbeats 2000000 in
theorem walk (ao0 : Option Addr) (bs0 : List Bool) (cap0 : Nat) (a1 : Int) (a2 : Bool) (w : World) (hT : Tab w) (hs0 : HasBools w ao0 bs0) (hl0 : bs0.length ≤ cap0) (hm0 : cap0 ≤ 9223372036854775807) (w1 : -9223372036854775808 ≤ a1 ∧ a1 ≤ 9223372036854775807) :
    Calls Tryd.prog 7 #[.slice ao0 bs0.length cap0, .int .i64 a1, .bool a2] w fun e w' => e = .returned (.bool true) ∧ Below w.heap.size w w' := by
  have TA : Hid (∀ W, Tab W → _) := fun W h => alive8 W h
  have HT : Hid (Tab w) := hT
  clear hT
  by_cases h1 : bs0.length < 1
  · clear hs0 hl0 hm0
    have d0 : decide (((bs0.length : Nat) : Int) < 1) = true := decide_eq_true (by omega)
    have d1 : decide (bs0.length < 1) = true := decide_eq_true h1
    clear h1
    go_enter Tryd.func7, Tryd.ntmps7
    go_wp2_with (go_at_call 9; fail)
    refine (TA.out _ HT.out).mono ?_
    rintro e w1 ⟨rfl, hb⟩
    have HB : Hid (Below w.heap.size w w1) := hb
    have HT1 : Hid (Tab w1) := tab_below HT.out hb
    clear hb HT TA
    go_wp2
    go_ret
    exact ⟨rfl, HB.out⟩
  by_cases h2 : 600 < bs0.length
  · clear hs0 hl0 hm0
    have d0 : decide (((bs0.length : Nat) : Int) < 1) = false := decide_eq_false (by omega)
    have d1 : decide (bs0.length < 1) = false := decide_eq_false h1
    have d2 : decide ((600 : Int) < ((bs0.length : Nat) : Int)) = true := decide_eq_true (by omega)
    have d3 : decide (600 < bs0.length) = true := decide_eq_true h2
    clear h1 h2
    go_enter Tryd.func7, Tryd.ntmps7
    go_wp2_with (go_at_call 9; fail)
    refine (TA.out _ HT.out).mono ?_
    rintro e w1 ⟨rfl, hb⟩
    have HB : Hid (Below w.heap.size w w1) := hb
    have HT1 : Hid (Tab w1) := tab_below HT.out hb
    clear hb HT TA
    go_wp2
    go_ret
    exact ⟨rfl, HB.out⟩
  have d0 : decide (((bs0.length : Nat) : Int) < 1) = false := decide_eq_false (by omega)
  have d1 : decide (bs0.length < 1) = false := decide_eq_false h1
  have d2 : decide ((600 : Int) < ((bs0.length : Nat) : Int)) = false := decide_eq_false (by omega)
  have d3 : decide (600 < bs0.length) = false := decide_eq_false h2
  have hl1 : 1 ≤ bs0.length := by omega
  have hl6 : bs0.length ≤ 600 := by omega
  clear h1 h2
  obtain ⟨b1, b2⟩ := rem_in a1 bs0.length (by omega)
  obtain ⟨R1, hR1⟩ : ∃ R1, Int.tmod a1 (bs0.length : Int) = R1 := ⟨_, rfl⟩
  rw [hR1] at b1 b2
  obtain ⟨D, hDn, hD⟩ := rem_place R1 bs0.length b1 b2
  have hnz : ¬ (bs0.length : Int) = 0 := by omega
  have HS : Hid (HasBools w ao0 bs0) := hs0
  clear hs0
  go_enter Tryd.func7, Tryd.ntmps7
  go_wp2_with (go_at_call 9; fail)
  refine (TA.out _ HT.out).mono ?_
  rintro e w1 ⟨rfl, hb⟩
  have HB : Hid (Below w.heap.size w w1) := hb
  have HT1 : Hid (Tab w1) := tab_below HT.out hb
  clear hb HT TA
  have T : Hid (Calls _ _ _ _ _) := newR HB.out HT1.out 2000 (by omega) (by omega)
  go_wp2_with (go_at_call 10; fail)
  refine (T.out).mono ?_
  rintro e w2 ⟨G, S0, rfl, hA, hC, hn, hu, hw⟩
  have HA : Hid (AB w G w2 S0 0 0) := hA
  have HC : Hid (CI S0 []) := hC
  have HN : Hid (S0.n = 2000) := hn
  have HU : Hid (usedN S0.sl ≤ 0) := Nat.le_of_eq hu
  have HW : Hid (S0.wt = []) := hw
  clear hA hC hn hu hw T HB HT1
  have hAl := HA.out.lt
  have T : Hid (Calls _ _ _ _ _) := buildR HA.out HC.out (HS.out.later HA.out.below) hl0 hm0 (by omega) (by have := HN.out; omega) (by have := HN.out; have := HU.out; omega) (by omega) (by omega)
  go_wp2_with (go_at_call 11; fail)
  refine (T.out).mono ?_
  rintro e w3 ⟨S1, th, m1, rfl, hA, hC, hG, hT, hu, hm, hdp, hS⟩
  have HA2 : Hid (AB w G w3 S1 (0 + m1) (0 + 1300)) := hA
  have HC2 : Hid (CI S1 _) := hC
  have HN2 : Hid (S1.n = 2000) := hG.1.trans HN.out
  have Rh2 : Hid (RowT S1 th (bs0)) := hT
  have HW1 : Hid (S1.wt = []) := hS.2.trans HW.out
  have hhz : th.hd ≠ 0 := fun e => by have := hT.zero.1 e; rw [this] at hl1; exact absurd hl1 (by simp)
  have hC' : CI S1 [th.hd] := by rw [if_neg hhz] at hC; exact hC
  clear HC2
  have HC2 : Hid (CI S1 [th.hd]) := hC'
  have hus : usedN S1.sl = hsN th := used_row hC' hA.inv HW1.out (fun x hx => List.mem_singleton.1 hx) hT.held hT.made
  have HU1 : Hid (usedN S1.sl = hsN th) := hus
  have HDP : Hid (th.deep = (spreadT bs0).deep) := hdp
  have HM1 : Hid (hsN th ≤ 151) := by have := hsN_le th; have := hT.nodes; show hsN th ≤ 151; omega
  have hm1 : m1 ≤ 151 := by omega
  clear HU hu hm hS HW hC' hus hdp
  have HU := HU1; have HW := HW1
  clear HU1 HW1
  clear HA HC HN hA hC hT hG T
  have HA := HA2; have HC := HC2; have HN := HN2
  have Rh := Rh2
  clear HA2 HC2 HN2 Rh2
  have TC := cells_new w3 [.int .i64 th.hd] 3 _ rfl
  have hb : Below w3.heap.size w3 (w3.alloc (.cells #[.int .i64 th.hd] 3)) := (Below.refl _ _).alloc (Nat.le_refl _) _
  have T : Hid True := trivial
  have hA : AB w G (w3.alloc (.cells #[.int .i64 th.hd] 3)) S1 (0 + m1) (0 + 1300) := HA.out.grow hb
  clear HA T hb
  have HA : Hid (AB _ _ _ _ _ _) := hA
  clear hA
  have T : Hid (Calls _ _ _ _ _) := reachRow HA.out Rh.out (some ⟨w3.heap.size, 0, none⟩) 1 TC
  go_wp2_with (go_at_call 18; fail)
  refine (T.out).mono ?_
  rintro e w4 ⟨ra1, rc1, rfl, hb⟩
  have hA : AB w G w4 S1 (0 + m1) (0 + 1300) := HA.out.grow hb
  clear HA T hb
  have HA : Hid (AB _ _ _ _ _ _) := hA
  clear hA
  clear TC
  have hm1n := HM1.out
  have hd1 := Rh.out.deep (by omega)
  have T : Hid (Calls _ _ _ _ _) := insR HA.out HC.out Rh.out (by omega) D (by omega) a2 (by have := HN.out; have := HU.out; omega) (by omega) (by omega)
  go_wp2_with (go_at_call 13; fail)
  refine (T.out).mono ?_
  rintro e w5 ⟨S2, tg, m2, rfl, hA, hC, hG, hT, hu, hm, hm1b, hz, hS⟩
  have HA2 : Hid (AB w G w5 S2 (0 + m1 + m2) (0 + 1300 + 1300)) := hA
  have HC2 : Hid (CI S2 _) := hC
  have HN2 : Hid (S2.n = 2000) := hG.1.trans HN.out
  have hRh := Rh.out.grows hG
  have Rg2 : Hid (RowT S2 tg ((bs0.take D ++ a2 :: bs0.drop D))) := hT
  have HW2 : Hid (S2.wt = []) := hS.2.trans HW.out
  have HU2 : Hid (usedN S2.sl = hsN th + m2) := by have := HU.out; show usedN S2.sl = _; omega
  have HMB : Hid (1 ≤ m2 ∧ m2 ≤ 2 + 5 * th.deep ∧ (bs0.length < 64 → m2 ≤ 1)) := ⟨hm1b.1, hm, hm1b.2⟩
  have hm2 : m2 ≤ 52 := by omega
  clear HU HW hu hm hz hS hd1 hm1b
  have HU := HU2; have HW := HW2
  clear HU2 HW2
  clear HA HC HN hA hC hT hG T Rh
  have HA := HA2; have HC := HC2; have HN := HN2
  have Rh : Hid (RowT _ _ _) := hRh
  have Rg := Rg2
  clear HA2 HC2 HN2 Rg2 hRh
  have TC := cells_new w5 [.int .i64 th.hd] 3 _ rfl
  have hb : Below w5.heap.size w5 (w5.alloc (.cells #[.int .i64 th.hd] 3)) := (Below.refl _ _).alloc (Nat.le_refl _) _
  have T : Hid True := trivial
  have hA : AB w G (w5.alloc (.cells #[.int .i64 th.hd] 3)) S2 (0 + m1 + m2) (0 + 1300 + 1300) := HA.out.grow hb
  clear HA T hb
  have HA : Hid (AB _ _ _ _ _ _) := hA
  clear hA
  have T : Hid (Calls _ _ _ _ _) := reachRow HA.out Rh.out (some ⟨w5.heap.size, 0, none⟩) 1 TC
  go_wp2_with (go_at_call 18; fail)
  refine (T.out).mono ?_
  rintro e w6 ⟨ra2, rc2, rfl, hb⟩
  have hA : AB w G w6 S2 (0 + m1 + m2) (0 + 1300 + 1300) := HA.out.grow hb
  clear HA T hb
  have HA : Hid (AB _ _ _ _ _ _) := hA
  clear hA
  clear TC
  have TC := cells_new w6 [.int .i64 tg.hd, .int .i64 th.hd] 3 _ rfl
  have hb : Below w6.heap.size w6 (w6.alloc (.cells #[.int .i64 tg.hd, .int .i64 th.hd] 3)) := (Below.refl _ _).alloc (Nat.le_refl _) _
  have T : Hid True := trivial
  have hA : AB w G (w6.alloc (.cells #[.int .i64 tg.hd, .int .i64 th.hd] 3)) S2 (0 + m1 + m2) (0 + 1300 + 1300) := HA.out.grow hb
  clear HA T hb
  have HA : Hid (AB _ _ _ _ _ _) := hA
  clear hA
  have T : Hid (Calls _ _ _ _ _) := reachLe HA.out [tg.hd, th.hd] (some ⟨w6.heap.size, 0, none⟩) 2 2 rfl TC (by simp)
  go_wp2_with (go_at_call 18; fail)
  refine (T.out).mono ?_
  rintro e w7 ⟨ra3, r3, rc3, rfl, hr3, hb⟩
  have hA : AB w G w7 S2 (0 + m1 + m2) (0 + 1300 + 1300) := HA.out.grow hb
  clear HA T hb
  have HA : Hid (AB _ _ _ _ _ _) := hA
  clear hA
  clear TC
  have T : Hid (∀ W, _) := fun W => made8_any (bs0.length + 1) (by omega) W
  rw [show ((bs0.length + 1 : Nat) : Int) = (bs0.length : Int) + 1 by omega] at T
  go_wp2_with (go_at_call 28; fail)
  refine (T.out _).mono ?_
  rintro e w8 ⟨⟨kk, rfl, hk1, hk2⟩, hww⟩
  obtain rfl := hww.symm
  have hbd : m2 ≤ 4 + 4 * kk := made_bound hl6 hk1 hk2 (fun j hj => by rw [HDP.out]; exact spread_deep j hj) HMB.out.2.1 HMB.out.2.2
  have hr4 : r3 ≤ hsN th + (4 + 4 * kk) := by have := HU.out; omega
  have hm1p := HMB.out.1
  clear T hk1 hr3 hbd HMB HDP
  obtain ⟨N1, hN1⟩ : ∃ N1, hsN th = N1 := ⟨_, rfl⟩
  rw [hN1] at hr4 hm1n
  have HN1 : Hid (hsN th = N1) := hN1
  have hw1 : IntKind.i64.wrap (4 + 4 * (kk : Int)) = 4 + 4 * (kk : Int) := by rw [IntKind.wrap_i64]; omega
  have hw2 : IntKind.i64.wrap ((N1 : Int) + (4 + 4 * (kk : Int))) = (N1 : Int) + (4 + 4 * (kk : Int)) := by rw [IntKind.wrap_i64]; omega
  have hle : decide ((r3 : Int) ≤ (N1 : Int) + (4 + 4 * (kk : Int))) = true := decide_eq_true (by omega)
  rw [← hN1] at hw2 hle
  clear hN1
  have T : Hid (Calls _ _ _ _ _) := dropR HA.out HC.out (by omega) (x := tg.hd) (by simp)
  go_wp2_with (go_at_call 14; fail)
  refine (T.out).mono ?_
  rintro e w8 ⟨rfl, hA, hC, hK, hu, hS⟩
  have HA2 : Hid (AB w G w8 (S2.drop tg.hd) (0 + m1 + m2) (0 + 1300 + 1300)) := hA
  have hR : RowT (S2.drop tg.hd) th bs0 := Rh.out.carry hC hK (Or.inr (two_left.2 rfl))
  have HR2 : Hid (RowT _ _ _) := hR
  have HC2 : Hid (CI _ _) := hC
  have HU2 : Hid (usedN (S2.drop tg.hd).sl = hsN th + m2) := hu.trans HU.out
  clear HA HC HU Rh Rg T hA hC hK hu hS hR HN HW
  have HA := HA2; have HC := HC2; have HU := HU2; have Rh := HR2
  clear HA2 HC2 HU2 HR2
  have T : Hid (Calls _ _ _ _ _) := workR HA.out HC.out (by omega) 1073741824
  rw [show ((1073741824 : Nat) : Int) = 1073741824 from rfl] at T
  go_wp2_with (go_at_call 15; fail)
  refine (T.out).mono ?_
  rintro e w9 ⟨S4, f4, rfl, hA, hC, hK, -, hu, hS⟩
  obtain ⟨hw4, hu4⟩ := hu (by have := HU.out; have := HM1.out; omega)
  have hR : RowT S4 th bs0 := Rh.out.carry hC hK (Or.inr (two_left.2 rfl))
  have hus : usedN S4.sl = hsN th := used_row hC hA.inv hw4 (fun x hx => two_left.1 hx) hR.held hR.made
  have hf : 1 ≤ f4 := by have := HU.out; omega
  have T2 : Hid (Calls _ _ _ _ _) := usedB hA
  rw [hus] at T2
  have HE : Hid (Below _ _ _) := hA.below
  clear HA HC HU Rh T hA hC hK hu hS hR hw4 hu4 hus
  have q1 : decide ((1 : Int) ≤ (f4 : Int)) = true := decide_eq_true (by omega)
  go_wp2_with (go_at_call 26; fail)
  refine (T2.out).mono ?_
  rintro e w' ⟨rfl, hww⟩
  obtain rfl := hww.symm
  clear T2 hm1n hr4 hm2 hm1 hm1p HM1 HN1
  generalize hsN th = NN at *
  go_wp2
  go_ret
  exact ⟨rfl, HE.out⟩

/-! ### The row's step -/
set_option maxRecDepth 100000 in
theorem lifted (os : Os) (started : os.Started) (H : Type) (enc : TypeId × Value → H) :
    ReturnsInHanded {} Tryd.checked os 7 .any (fun w args => (Rows.bitsSharesSpec.pre enc Tryd.prog Tryd.f7 [] false w args ∧ laidMetH Tryd.prog laid1 w) ∧ sizedMet enc Tryd.prog Tryd.f7 (OpenSpec.ofChange Rows.bitsSharesSpec) false w args) (Rows.bitsSharesSpec.post enc Tryd.prog Tryd.f7 false true false false) := by
  refine returnsInHanded_of_change_and (C := Tryd.checked) (X := fun w _ => laidMetH Tryd.prog laid1 w) (fun _ _ _ hh h => h.of_heap hh) Tryd.own started (by kernel_rfl) Tryd.func7
    (ChangeSpec.witness_shaped (enc := enc) (C := Tryd.checked) (os := os) (X := fun w _ => laidMetH Tryd.prog laid1 w) false (World.doorLaid Tryd.prog 400 os) #[.slice none 0 0, .int .i64 0, .bool false] 8 rfl (World.shaped_of_RefB (by kernel_rfl) (by kernel_rfl)) (by kernel_rfl) (by kernel_rfl) (by kernel_rfl) (door_met os _)) ?_
  intro W base args ds gs before hval0 hW _ _ hL _
  have hval : ∀ (j : Nat) t v, Tryd.f7.params[j]? = some t → args[j]? = some v → Value.okWide Tryd.prog W .any base t v := hval0
  have hW' := hW
  obtain ⟨p, q, hA0, hV, rfl, hfz, hnd⟩ := hW
  have hA : DataW.TrodAll enc Tryd.prog W 0 (fun _ => true) true Tryd.f7.params.toList args.toList ds p := hA0
  rw [Tryd.params7] at hA hval
  obtain ⟨v0, vs0, d0, ds0, p0, q0, hargs, rfl, rfl, h0, r0⟩ := trodAll_cons hA
  obtain ⟨v1, vs1, d1, ds1, p1, q1, rfl, rfl, rfl, h1, r1⟩ := trodAll_cons r0
  obtain ⟨v2, vs2, d2, ds2, p2, q2, rfl, rfl, rfl, h2, r2⟩ := trodAll_cons r1
  obtain ⟨rfl, rfl, rfl⟩ := trodAll_nil r2
  obtain rfl : args = #[v0, v1, v2] := by cases args; simp_all
  obtain ⟨rfl, rfl⟩ := trodVars_none hV
  obtain ⟨ao0, bs0, cap0, rfl, hs0, hl0, hm0⟩ := open_bools (hval 0 22 v0 rfl rfl) h0
  obtain ⟨a1, rfl, rfl, rfl, wf1⟩ := open_int Tryd.underlying3 (hval 1 3 v1 rfl rfl) h1
  have w1 := wf_i64 wf1
  obtain ⟨a2, rfl, rfl, rfl⟩ := open_bool Tryd.underlying4 (hval 2 4 v2 rfl rfl) h2
  clear hA0 hval0
  simp only [List.append_nil] at hW'
  refine (walk ao0 bs0 cap0 a1 a2 W (of_laid hL) hs0 hl0 hm0 w1).mono fun e W' ⟨he, hg⟩ => ?_
  subst he
  exact ⟨_, rfl, post_carry Tryd.laidOut (by rw [Tryd.params7]; intro t ht; simp only [List.mem_cons, List.not_mem_nil, or_false] at ht; rcases ht with rfl | rfl | rfl <;> exact ⟨by kernel_rfl, of_decide_eq_true (by kernel_rfl)⟩) rfl hW' (fun _ _ _ => (trodAll_cons_mk (shut_bool Tryd.underlying4 _) trodAll_mk0)) rfl rfl hg⟩

theorem over : Rows.bitsSharesRow.holds Tryd.pinned (OpenSpec.ofChange Rows.bitsSharesSpec) :=
  OpenClaim.holds_of_wide 7 Tryd.f7 rfl rfl rfl rfl rfl rfl rfl ⟨rfl, rfl, rfl, rfl, rfl⟩ rfl rfl rfl rfl rfl (by kernel_rfl) Tryd.func7 (by kernel_rfl)
    (of_decide_eq_true (by kernel_rfl)) (by unfold Func.isWrapper; first | (rw [if_pos (by decide +kernel)]; kernel_rfl) | (rw [if_neg (by decide +kernel)]; exact ⟨rfl, rfl⟩))
    (fun os started H enc _ => lifted os started H enc)

end Go.Proofs.YtfkfnibeipddaaaDoor.bitsShares

namespace Go.Proofs.YtfkfnibeipddaaaDoor
/-- the row -/
theorem bitsShares_row : Rows.BitsSharesSaid := bitsShares.over

/-- the statement: the tied card -/
theorem bitsShares_holds : Rows.BitsSharesCardSaid :=
  Claim7.holds_tied_plain_at .later [] [.data] true Rows.bitsSharesCard.stood.harness false
    bitsShares_row (fun _ h => by cases h) (by kernel_rfl) (fun _ h => by cases h) bitsShares_row_tie rfl ⟨rfl, rfl⟩ (by kernel_rfl) rfl
    (fun f fn hf hfn => by
      obtain rfl : f = 7 := Option.some.inj ((show Tryd.prog.funcNamed "scrinium/scriniumlaw8.BitsShares" = some 7 by kernel_rfl).symm.trans hf) |>.symm
      obtain rfl : fn = Tryd.f7 := (Option.some.inj (Tryd.func7.symm.trans hfn)).symm
      exact ⟨by kernel_rfl, fun j t ht => by
        rw [Tryd.params7] at ht
        have hm : t ∈ [22, 3, 4] := by simpa using Array.mem_of_getElem? ht
        have hall : ([22, 3, 4].all fun u => !Tryd.prog.wantsStandIn u) = true := by kernel_rfl
        exact (show Tryd.prog.wantsStandIn t = false by simpa using List.all_eq_true.1 hall t hm)⟩)
    (by kernel_rfl)
#print axioms bitsShares_holds
end Go.Proofs.YtfkfnibeipddaaaDoor
