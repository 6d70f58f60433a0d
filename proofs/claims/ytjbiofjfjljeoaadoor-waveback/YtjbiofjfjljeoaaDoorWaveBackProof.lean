/- A symbol that is put in and taken out again leaves a row as it was, and the row with it stays: for every list of at most 40 symbols, every place and symbol. -/
import Derived.Test.YtjbiofjfjljeoaaDoorPb7
import Derived.Test.YtjbiofjfjljeoaaDoorCards
import Derived.Test.YtjbiofjfjljeoaaDoorTie
import Derived.SevenTiedAt
namespace Go.Proofs.YtjbiofjfjljeoaaDoor.waveBack
open Go.ChangeShapes Go.WideShapes Go.ChangeAt Go.RowKit Go.Proofs.YtjbiofjfjljeoaaDoor.Wx
set_option linter.unusedVariables false


/-! ### The walk -/
set_option maxRecDepth 100000 in
set_option maxHeartbeats 2000000 in
theorem walk (ao0 : Option Addr) (xs0 : List Int) (cap0 : Nat) (a1 : Int) (a2 : Int) (w : World) (hT : Tab w) (hs0 : HasInts w ao0 xs0) (hz0 : ∀ x ∈ xs0, (Lit.int .i64 x).wf = true) (hl0 : xs0.length ≤ cap0) (hm0 : cap0 ≤ 9223372036854775807) (hn0 : ao0 = none → xs0.length = 0 ∧ cap0 = 0) (w1 : -9223372036854775808 ≤ a1 ∧ a1 ≤ 9223372036854775807) (w2 : -9223372036854775808 ≤ a2 ∧ a2 ≤ 9223372036854775807) :
    Calls Tryd.prog 4 #[.slice ao0 xs0.length cap0, .int .i64 a1, .int .i64 a2] w fun e w' => e = .returned (.bool true) ∧ Below w.heap.size w w' := by
  have TA : Hid (∀ W, Tab W → _) := fun W h => alive9 W h
  have HT : Hid (Tab w) := hT
  have hp : 0 < w.heap.size := tab_pos hT
  clear hT
  have HS : Hid (HasInts w ao0 xs0) := hs0
  clear hs0 hz0 hn0
  by_cases h40 : 40 < xs0.length
  · have d0 : decide ((40 : Int) < ((xs0.length : Nat) : Int)) = true := decide_eq_true (by omega)
    have d0n : decide (40 < xs0.length) = true := decide_eq_true h40
    go_enter Tryd.func4, Tryd.ntmps4
    go_wp2_with (go_at_call 10; fail)
    refine (TA.out _ HT.out).mono ?_
    rintro e w1 ⟨rfl, hb⟩
    have HB : Hid (Below w.heap.size w w1) := hb
    have HT1 : Hid (Tab w1) := tab_below HT.out hb
    clear hb HT TA
    go_wp2
    go_ret
    exact ⟨rfl, HB.out⟩
  have d0 : decide ((40 : Int) < ((xs0.length : Nat) : Int)) = false := decide_eq_false (by omega)
  have d0n : decide (40 < xs0.length) = false := decide_eq_false h40
  by_cases hn0 : a2 < 0
  · have d1 : decide (a2 < 0) = true := decide_eq_true hn0
    go_enter Tryd.func4, Tryd.ntmps4
    go_wp2_with (go_at_call 10; fail)
    refine (TA.out _ HT.out).mono ?_
    rintro e w1 ⟨rfl, hb⟩
    have HB : Hid (Below w.heap.size w w1) := hb
    have HT1 : Hid (Tab w1) := tab_below HT.out hb
    clear hb HT TA
    go_wp2
    go_ret
    exact ⟨rfl, HB.out⟩
  have d1 : decide (a2 < 0) = false := decide_eq_false hn0
  by_cases hn1 : 257 ≤ a2
  · have d2 : decide (257 ≤ a2) = true := decide_eq_true hn1
    go_enter Tryd.func4, Tryd.ntmps4
    go_wp2_with (go_at_call 10; fail)
    refine (TA.out _ HT.out).mono ?_
    rintro e w1 ⟨rfl, hb⟩
    have HB : Hid (Below w.heap.size w w1) := hb
    have HT1 : Hid (Tab w1) := tab_below HT.out hb
    clear hb HT TA
    go_wp2
    go_ret
    exact ⟨rfl, HB.out⟩
  have d2 : decide (257 ≤ a2) = false := decide_eq_false hn1
  obtain ⟨s, rfl⟩ : ∃ s : Nat, a2 = (s : Nat) := ⟨a2.toNat, by omega⟩
  have hs : s < 257 := by omega
  by_cases hcl : ∀ x ∈ xs0, 0 ≤ x ∧ x < 257
  case neg =>
    have TC : Hid (Calls _ _ _ _ _) := column_any xs0 ao0 cap0 w (by omega) HS.out
    have HNO : Hid (¬ ∀ x ∈ xs0, 0 ≤ x ∧ x < 257) := hcl
    clear hcl
    go_enter Tryd.func4, Tryd.ntmps4
    go_wp2_with (go_at_call 9; fail)
    refine (TC.out).mono ?_
    rintro e w' ⟨hcol, hww⟩
    obtain rfl := hww.symm
    rcases hcol with rfl | ⟨rfl, hcol⟩
    · go_wp2_with (go_at_call 10; fail)
      refine (TA.out _ HT.out).mono ?_
      rintro e w1 ⟨rfl, hb⟩
      have HB : Hid (Below w.heap.size w w1) := hb
      have HT1 : Hid (Tab w1) := tab_below HT.out hb
      clear hb HT TA
      go_wp2
      go_ret
      exact ⟨rfl, HB.out⟩
    · exact absurd hcol HNO.out
  obtain ⟨L, hxs, hL⟩ := nats_of hcl
  have TC : Hid (Calls _ _ _ _ _) := column_any xs0 ao0 cap0 w (by omega) HS.out
  have HM : Hid (HasCells w ao0 (natC L)) := by rw [natC_ints, ← hxs]; exact HS.out.cells
  have hll : xs0.length = L.length := by rw [hxs, List.length_map]
  rw [hll] at TC hl0 h40 d0 d0n ⊢
  have hl40 : L.length ≤ 40 := by omega
  have HSY : Hid (∀ x ∈ L, x < 257) := hL
  clear hcl hxs hll hL HS h40
  have w1a := w1.1
  have w1b := w1.2
  clear w1 w2 hn0 hn1
  obtain ⟨kk, hk, hkm, hr1, hr2⟩ := rem8 a1 L.length
  obtain ⟨R1, hR1⟩ : ∃ R1, Int.tmod a1 ((L.length : Int) + 1) = R1 := ⟨_, rfl⟩
  rw [hR1] at hkm hr1 hr2
  have hw0 : IntKind.i64.wrap ((L.length : Int) + 1) = (L.length : Int) + 1 := by rw [IntKind.wrap_i64]; omega
  have hwa : IntKind.i64.wrap (R1 + (L.length : Int)) = R1 + (L.length : Int) := by rw [IntKind.wrap_i64]; omega
  have hwb : IntKind.i64.wrap (R1 + (L.length : Int) + 1) = R1 + (L.length : Int) + 1 := by rw [IntKind.wrap_i64]; omega
  have hz0 : (((L.length : Int) + 1) == 0) = false := by rw [beq_eq_false_iff_ne]; omega
  have hz1 : ((L.length : Int) + 1) ≠ 0 := by omega
  go_enter Tryd.func4, Tryd.ntmps4
  go_wp2_with (go_at_call 9; fail)
  refine (TC.out).mono ?_
  rintro e w' ⟨hcol, hww⟩
  obtain rfl := hww.symm
  rcases hcol with rfl | ⟨rfl, -⟩
  · go_wp2_with (go_at_call 10; fail)
    refine (TA.out _ HT.out).mono ?_
    rintro e w1 ⟨rfl, hb⟩
    have HB : Hid (Below w.heap.size w w1) := hb
    have HT1 : Hid (Tab w1) := tab_below HT.out hb
    clear hb HT TA
    go_wp2
    go_ret
    exact ⟨rfl, HB.out⟩
  · skip
    clear TC
    go_wp2_with (go_at_call 10; fail)
    refine (TA.out _ HT.out).mono ?_
    rintro e w1 ⟨rfl, hb⟩
    have HB : Hid (Below w.heap.size w w1) := hb
    have HT1 : Hid (Tab w1) := tab_below HT.out hb
    clear hb HT TA
    have T : Hid (Calls _ _ _ _ _) := newR HB.out HT1.out 6000 (by omega) (by omega)
    go_wp2_with (go_at_call 11; fail)
    refine (T.out).mono ?_
    rintro e w2 ⟨G, S0, rfl, hA, hC, hn, hu, hw⟩
    have HA : Hid (AB w G w2 S0 0 0) := hA
    have HC : Hid (CI S0 []) := hC
    have HN : Hid (S0.n = 6000) := hn
    have HU : Hid (usedN S0.sl ≤ 0) := Nat.le_of_eq hu
    have HW : Hid (S0.wt = []) := hw
    clear hA hC hn hu hw T HT1 HB
    have hAl := HA.out.lt
    have T : Hid (Calls _ _ _ _ _) := build_any HA.out HC.out HW.out HN.out hp HSY.out (by omega) (cap := cap0) HM.out
    go_wp2_with (go_at_call 12; fail)
    refine (T.out).mono ?_
    rintro e w3 ⟨t, S, md, c, rfl, hB⟩
    have HR : Hid (RowW S t L) := hB.row
    have HC2 : Hid (CI S (one t)) := hB.ci
    have HN2 : Hid (S.n = 6000) := hB.n
    have HU2 : Hid (usedN S.sl ≤ 27 * L.length) := hB.used
    have HW2 : Hid (S.wt = []) := hB.wt
    have hmd := hB.hmd
    have hcc := hB.hcc
    have HA2 : Hid (AB w G w3 S md c) := hB.ab
    clear hB T HA HC HN HU HW
    have HA := HA2; have HC := HC2; have HN := HN2; have HU := HU2; have HW := HW2
    clear HA2 HC2 HN2 HU2 HW2
    have hus := HU.out
    have hnn := HN.out
    have T : Hid (Calls _ _ _ _ _) := insW_row HA.out HC.out HR.out (by omega) (i := kk) (s := s) (by omega) hs (by omega) (by omega) (by omega) hp
    clear hus hnn
    go_wp2_with (go_at_call 17; fail)
    refine (T.out).mono ?_
    rintro e w4 ⟨u, S1, md1, c1, rfl, hA, hC, hG, hRu, h0, hu, hw, hm, hc, hS⟩
    have HA1 : Hid (AB w G w4 S1 md1 c1) := hA
    have HC1 : Hid (CI S1 (one t ++ [u.hd])) := hC
    have HR1 : Hid (RowW S1 u (insL L kk s)) := hRu
    have HR2 : Hid (RowW S1 t L) := HR.out.grows hG
    have HN1 : Hid (S1.n = 6000) := hG.1.trans HN.out
    have HU1 : Hid (usedN S1.sl ≤ 1200) := by have := HU.out; show usedN S1.sl ≤ 1200; omega
    have hmd1 : md1 ≤ 3000 := by omega
    have hcc1 : c1 ≤ 500000 := by omega
    clear HA HC HR HN HU HW T hA hC hG hRu h0 hu hw hm hc hS hmd hcc
    have HA := HA1; have HC := HC1; have HN := HN1; have HU := HU1; have HR := HR2; clear HA1 HC1 HN1 HU1 HR2
    have T : Hid (Calls _ _ _ _ _) := delW_row HA.out HC.out HR1.out (by rw [insL_len hk]; omega) (insL_get L s hk) (by have h1 := HN.out; have h2 := HU.out; omega) (by omega) (by omega) hp
    rw [delL_insL L s hk] at T
    go_wp2_with (go_at_call 18; fail)
    refine (T.out).mono ?_
    rintro e w5 ⟨f, S2, md2, c2, rfl, hA, hC, hG, hRf, hu, hw, hm, hc, hS⟩
    have HA2 : Hid (AB w G w5 S2 md2 c2) := hA
    have HRf : Hid (RowW S2 f L) := hRf
    have HRu : Hid (RowW S2 u (insL L kk s)) := HR1.out.grows hG
    have HRt : Hid (RowW S2 t L) := HR.out.grows hG
    clear HA HC HR HR1 HN HU T hA hC hG hRf hu hw hm hc hS hmd1 hcc1
    have HA := HA2; clear HA2
    have hil : (insL L kk s).length = L.length + 1 := insL_len hk
    have T : Hid (Calls _ _ _ _ _) := getW_in HA.out.rd HRu.out (by omega) (insL_get L s hk)
    go_wp2_with (go_at_call 16; fail)
    refine (T.out).mono ?_
    rintro e w6 ⟨rfl, hb⟩
    have hA : AB w G w6 S2 md2 c2 := HA.out.grow hb
    clear HA T hb
    have HA : Hid (AB _ _ _ _ _ _) := hA
    clear hA
    have T : Hid (Calls _ _ _ _ _) := allW HA.out.rd HRf.out (by omega)
    go_wp2_with (go_at_call 20; fail)
    refine (T.out).mono ?_
    rintro e w7 ⟨va, rfl, hO, hb⟩
    obtain ⟨ava, cva, rfl, hcv, -, -, -⟩ := owns_cells hO
    have HCV : Hid (HasCells w7 ava (natC L)) := hcv
    clear hO hcv
    have hA : AB w G w7 S2 md2 c2 := HA.out.grow hb
    clear HA T hb
    have HA : Hid (AB _ _ _ _ _ _) := hA
    clear hA
    have T : Hid (Calls _ _ _ _ _) := sameL (M := L) (L := L) (ca := cva) (cb := cap0) HCV.out (has_later HM.out HA.out.below) (by omega)
    rw [show decide (L = L) = true from decide_eq_true rfl] at T
    go_wp2_with (go_at_call 19; fail)
    refine (T.out).mono ?_
    rintro e w8 ⟨rfl, na, rfl⟩
    have hb : Below w7.heap.size w7 (w7.drewN na) := (Below.refl _ _).drewN _
    clear HCV
    have hA : AB w G (w7.drewN na) S2 md2 c2 := HA.out.grow hb
    clear HA T hb
    have HA : Hid (AB _ _ _ _ _ _) := hA
    clear hA
    have T : Hid (Calls _ _ _ _ _) := allW HA.out.rd HRt.out (by omega)
    go_wp2_with (go_at_call 20; fail)
    refine (T.out).mono ?_
    rintro e w9 ⟨vb, rfl, hO, hb⟩
    obtain ⟨avb, cvb, rfl, hcv, -, -, -⟩ := owns_cells hO
    have HCV : Hid (HasCells w9 avb (natC L)) := hcv
    clear hO hcv
    have hA : AB w G w9 S2 md2 c2 := HA.out.grow hb
    clear HA T hb
    have HA : Hid (AB _ _ _ _ _ _) := hA
    clear hA
    have T : Hid (Calls _ _ _ _ _) := sameL (M := L) (L := L) (ca := cvb) (cb := cap0) HCV.out (has_later HM.out HA.out.below) (by omega)
    rw [show decide (L = L) = true from decide_eq_true rfl] at T
    go_wp2_with (go_at_call 19; fail)
    refine (T.out).mono ?_
    rintro e w10 ⟨rfl, nb, rfl⟩
    have hb : Below w9.heap.size w9 (w9.drewN nb) := (Below.refl _ _).drewN _
    clear HCV
    have hA : AB w G (w9.drewN nb) S2 md2 c2 := HA.out.grow hb
    clear HA T hb
    have HA : Hid (AB _ _ _ _ _ _) := hA
    clear hA
    have f1 : (((s : Nat) : Int) == ((s : Nat) : Int)) = true := by simp
    have T : Hid (Calls _ _ _ _ _) := lenW HA.out.rd HRu.out
    rw [hil] at T
    go_wp2_with (go_at_call 21; fail)
    refine (T.out).mono ?_
    rintro e w11 ⟨rfl, hb⟩
    have hA : AB w G w11 S2 md2 c2 := HA.out.grow hb
    clear HA T hb
    have HA : Hid (AB _ _ _ _ _ _) := hA
    clear hA
    have hx : ((L.length + 1 : Nat) : Int) = (L.length : Int) + 1 := by omega
    have f2 : ((((L.length + 1 : Nat) : Int)) == ((L.length : Int) + 1)) = true := by simp
    have HE : Hid (Below _ _ _) := HA.out.below
    clear HA HRf HRu HRt
    go_wp2
    go_ret
    exact ⟨rfl, HE.out⟩

/-! ### The row's step -/
set_option maxRecDepth 100000 in
theorem lifted (os : Os) (started : os.Started) (H : Type) (enc : TypeId × Value → H) :
    ReturnsInHanded {} Tryd.checked os 4 .any (fun w args => (Rows.waveBackSpec.pre enc Tryd.prog Tryd.f4 [] false w args ∧ laidMetH Tryd.prog laid1 w) ∧ sizedMet enc Tryd.prog Tryd.f4 (OpenSpec.ofChange Rows.waveBackSpec) false w args) (Rows.waveBackSpec.post enc Tryd.prog Tryd.f4 false true false false) := by
  refine returnsInHanded_of_change_and (C := Tryd.checked) (X := fun w _ => laidMetH Tryd.prog laid1 w) (fun _ _ _ hh h => h.of_heap hh) Tryd.own started (by kernel_rfl) Tryd.func4
    (ChangeSpec.witness_shaped (enc := enc) (C := Tryd.checked) (os := os) (X := fun w _ => laidMetH Tryd.prog laid1 w) false (World.doorLaid Tryd.prog 400 os) #[.slice none 0 0, .int .i64 0, .int .i64 0] 8 rfl (World.shaped_of_RefB (by kernel_rfl) (by kernel_rfl)) (by kernel_rfl) (by kernel_rfl) (by kernel_rfl) (door_met os _)) ?_
  intro W base args ds gs before hval0 hW _ _ hL _
  have hval : ∀ (j : Nat) t v, Tryd.f4.params[j]? = some t → args[j]? = some v → Value.okWide Tryd.prog W .any base t v := hval0
  have hW' := hW
  obtain ⟨p, q, hA0, hV, rfl, hfz, hnd⟩ := hW
  have hA : DataW.TrodAll enc Tryd.prog W 0 (fun _ => true) true Tryd.f4.params.toList args.toList ds p := hA0
  rw [Tryd.params4] at hA hval
  obtain ⟨v0, vs0, d0, ds0, p0, q0, hargs, rfl, rfl, h0, r0⟩ := trodAll_cons hA
  obtain ⟨v1, vs1, d1, ds1, p1, q1, rfl, rfl, rfl, h1, r1⟩ := trodAll_cons r0
  obtain ⟨v2, vs2, d2, ds2, p2, q2, rfl, rfl, rfl, h2, r2⟩ := trodAll_cons r1
  obtain ⟨rfl, rfl, rfl⟩ := trodAll_nil r2
  obtain rfl : args = #[v0, v1, v2] := by cases args; simp_all
  obtain ⟨rfl, rfl⟩ := trodVars_none hV
  obtain ⟨ao0, xs0, cap0, rfl, hs0, hz0, hl0, hm0, hn0⟩ := open_nums (hval 0 22 v0 rfl rfl) h0
  obtain ⟨a1, rfl, rfl, rfl, wf1⟩ := open_int Tryd.underlying3 (hval 1 3 v1 rfl rfl) h1
  have w1 := wf_i64 wf1
  obtain ⟨a2, rfl, rfl, rfl, wf2⟩ := open_int Tryd.underlying3 (hval 2 3 v2 rfl rfl) h2
  have w2 := wf_i64 wf2
  clear hA0 hval0
  simp only [List.append_nil] at hW'
  refine (walk ao0 xs0 cap0 a1 a2 W (of_laid hL) hs0 hz0 hl0 hm0 hn0 w1 w2).mono fun e W' ⟨he, hg⟩ => ?_
  subst he
  exact ⟨_, rfl, post_carry Tryd.laidOut (by rw [Tryd.params4]; intro t ht; simp only [List.mem_cons, List.not_mem_nil, or_false] at ht; rcases ht with rfl | rfl | rfl <;> exact ⟨by kernel_rfl, of_decide_eq_true (by kernel_rfl)⟩) rfl hW' (fun _ _ _ => (trodAll_cons_mk (shut_bool Tryd.underlying4 _) trodAll_mk0)) rfl rfl hg⟩

theorem over : Rows.waveBackRow.holds Tryd.pinned (OpenSpec.ofChange Rows.waveBackSpec) :=
  OpenClaim.holds_of_wide 4 Tryd.f4 rfl rfl rfl rfl rfl rfl rfl ⟨rfl, rfl, rfl, rfl, rfl⟩ rfl rfl rfl rfl rfl (by kernel_rfl) Tryd.func4 (by kernel_rfl)
    (of_decide_eq_true (by kernel_rfl)) (by unfold Func.isWrapper; first | (rw [if_pos (by decide +kernel)]; kernel_rfl) | (rw [if_neg (by decide +kernel)]; exact ⟨rfl, rfl⟩))
    (fun os started H enc _ => lifted os started H enc)

end Go.Proofs.YtjbiofjfjljeoaaDoor.waveBack

namespace Go.Proofs.YtjbiofjfjljeoaaDoor
/-- the row -/
theorem waveBack_row : Rows.WaveBackSaid := waveBack.over

/-- the statement: the tied card -/
theorem waveBack_holds : Rows.WaveBackCardSaid :=
  Claim7.holds_tied_plain_at .later [] [.data] true Rows.waveBackCard.stood.harness false
    waveBack_row (fun _ h => by cases h) (by kernel_rfl) (fun _ h => by cases h) waveBack_row_tie rfl ⟨rfl, rfl⟩ (by kernel_rfl) rfl
    (fun f fn hf hfn => by
      obtain rfl : f = 4 := Option.some.inj ((show Tryd.prog.funcNamed "scrinium/scriniumlaw9.WaveBack" = some 4 by kernel_rfl).symm.trans hf) |>.symm
      obtain rfl : fn = Tryd.f4 := (Option.some.inj (Tryd.func4.symm.trans hfn)).symm
      exact ⟨by kernel_rfl, fun j t ht => by
        rw [Tryd.params4] at ht
        have hm : t ∈ [22, 3, 3] := by simpa using Array.mem_of_getElem? ht
        have hall : ([22, 3, 3].all fun u => !Tryd.prog.wantsStandIn u) = true := by kernel_rfl
        exact (show Tryd.prog.wantsStandIn t = false by simpa using List.all_eq_true.1 hall t hm)⟩)
    (by kernel_rfl)
#print axioms waveBack_holds
end Go.Proofs.YtjbiofjfjljeoaaDoor
