/- A row of symbols has no more nodes than nine levels of its length take, and dropped nothing of it is left: for every list of at most 40 symbols. -/
import Derived.Test.YtjbiofjfjljeoaaDoorPb7
import Derived.Test.YtjbiofjfjljeoaaDoorCards
import Derived.Test.YtjbiofjfjljeoaaDoorTie
import Derived.SevenTiedAt
namespace Go.Proofs.YtjbiofjfjljeoaaDoor.waveNodes
open Go.ChangeShapes Go.WideShapes Go.ChangeAt Go.RowKit Go.Proofs.YtjbiofjfjljeoaaDoor.Wx
set_option linter.unusedVariables false


/-! ### The walk -/
set_option maxRecDepth 100000 in
set_option maxHeartbeats 2000000 in
theorem walk (ao0 : Option Addr) (xs0 : List Int) (cap0 : Nat) (w : World) (hT : Tab w) (hs0 : HasInts w ao0 xs0) (hz0 : ∀ x ∈ xs0, (Lit.int .i64 x).wf = true) (hl0 : xs0.length ≤ cap0) (hm0 : cap0 ≤ 9223372036854775807) (hn0 : ao0 = none → xs0.length = 0 ∧ cap0 = 0) :
    Calls Tryd.prog 5 #[.slice ao0 xs0.length cap0] w fun e w' => e = .returned (.bool true) ∧ Below w.heap.size w w' := by
  have TA : Hid (∀ W, Tab W → _) := fun W h => alive9 W h
  have HT : Hid (Tab w) := hT
  have hp : 0 < w.heap.size := tab_pos hT
  clear hT
  have HS : Hid (HasInts w ao0 xs0) := hs0
  clear hs0 hz0 hn0
  by_cases h40 : 40 < xs0.length
  · have d0 : decide ((40 : Int) < ((xs0.length : Nat) : Int)) = true := decide_eq_true (by omega)
    have d0n : decide (40 < xs0.length) = true := decide_eq_true h40
    go_enter Tryd.func5, Tryd.ntmps5
    go_wp2_with (go_at_call 10; fail)
    refine (TA.out _ HT.out).mono ?_
    rintro e w1 ⟨rfl, hb⟩
    have HB : Hid (Below w.heap.size w w1) := hb
    have HT1 : Hid (Tab w1) := tab_below HT.out hb
    clear hb HT TA
    go_wp2
    go_ret
    exact ⟨rfl, HB.out⟩
  have d0 : decide ((40 : Int) < ((xs0.length : Nat) : Int)) = false := decide_eq_false (by omega)
  have d0n : decide (40 < xs0.length) = false := decide_eq_false h40
  by_cases hcl : ∀ x ∈ xs0, 0 ≤ x ∧ x < 257
  case neg =>
    have TC : Hid (Calls _ _ _ _ _) := column_any xs0 ao0 cap0 w (by omega) HS.out
    have HNO : Hid (¬ ∀ x ∈ xs0, 0 ≤ x ∧ x < 257) := hcl
    clear hcl
    go_enter Tryd.func5, Tryd.ntmps5
    go_wp2_with (go_at_call 9; fail)
    refine (TC.out).mono ?_
    rintro e w' ⟨hcol, hww⟩
    obtain rfl := hww.symm
    rcases hcol with rfl | ⟨rfl, hcol⟩
    · go_wp2_with (go_at_call 10; fail)
      refine (TA.out _ HT.out).mono ?_
      rintro e w1 ⟨rfl, hb⟩
      have HB : Hid (Below w.heap.size w w1) := hb
      have HT1 : Hid (Tab w1) := tab_below HT.out hb
      clear hb HT TA
      go_wp2
      go_ret
      exact ⟨rfl, HB.out⟩
    · exact absurd hcol HNO.out
  obtain ⟨L, hxs, hL⟩ := nats_of hcl
  have TC : Hid (Calls _ _ _ _ _) := column_any xs0 ao0 cap0 w (by omega) HS.out
  have HM : Hid (HasCells w ao0 (natC L)) := by rw [natC_ints, ← hxs]; exact HS.out.cells
  have hll : xs0.length = L.length := by rw [hxs, List.length_map]
  rw [hll] at TC hl0 h40 d0 d0n ⊢
  have hl40 : L.length ≤ 40 := by omega
  have HSY : Hid (∀ x ∈ L, x < 257) := hL
  clear hcl hxs hll hL HS h40
  go_enter Tryd.func5, Tryd.ntmps5
  go_wp2_with (go_at_call 9; fail)
  refine (TC.out).mono ?_
  rintro e w' ⟨hcol, hww⟩
  obtain rfl := hww.symm
  rcases hcol with rfl | ⟨rfl, -⟩
  · go_wp2_with (go_at_call 10; fail)
    refine (TA.out _ HT.out).mono ?_
    rintro e w1 ⟨rfl, hb⟩
    have HB : Hid (Below w.heap.size w w1) := hb
    have HT1 : Hid (Tab w1) := tab_below HT.out hb
    clear hb HT TA
    go_wp2
    go_ret
    exact ⟨rfl, HB.out⟩
  · skip
    clear TC
    go_wp2_with (go_at_call 10; fail)
    refine (TA.out _ HT.out).mono ?_
    rintro e w1 ⟨rfl, hb⟩
    have HB : Hid (Below w.heap.size w w1) := hb
    have HT1 : Hid (Tab w1) := tab_below HT.out hb
    clear hb HT TA
    have T : Hid (Calls _ _ _ _ _) := newR HB.out HT1.out 6000 (by omega) (by omega)
    go_wp2_with (go_at_call 11; fail)
    refine (T.out).mono ?_
    rintro e w2 ⟨G, S0, rfl, hA, hC, hn, hu, hw⟩
    have HA : Hid (AB w G w2 S0 0 0) := hA
    have HC : Hid (CI S0 []) := hC
    have HN : Hid (S0.n = 6000) := hn
    have HU : Hid (usedN S0.sl ≤ 0) := Nat.le_of_eq hu
    have HW : Hid (S0.wt = []) := hw
    clear hA hC hn hu hw T HT1 HB
    have hAl := HA.out.lt
    have T : Hid (Calls _ _ _ _ _) := build_any HA.out HC.out HW.out HN.out hp HSY.out (by omega) (cap := cap0) HM.out
    go_wp2_with (go_at_call 12; fail)
    refine (T.out).mono ?_
    rintro e w3 ⟨t, S, md, c, rfl, hB⟩
    have HR : Hid (RowW S t L) := hB.row
    have HC2 : Hid (CI S (one t)) := hB.ci
    have HN2 : Hid (S.n = 6000) := hB.n
    have HU2 : Hid (usedN S.sl ≤ 27 * L.length) := hB.used
    have HW2 : Hid (S.wt = []) := hB.wt
    have hmd := hB.hmd
    have hcc := hB.hcc
    have HA2 : Hid (AB w G w3 S md c) := hB.ab
    clear hB T HA HC HN HU HW
    have HA := HA2; have HC := HC2; have HN := HN2; have HU := HU2; have HW := HW2
    clear HA2 HC2 HN2 HU2 HW2
    have hbl : Below w3.heap.size w3 (w3.alloc (.cells #[.int .i64 t.hd] 3)) := (Below.refl _ _).alloc (Nat.le_refl _) _
    have hc1 : HasCells (w3.alloc (.cells #[.int .i64 t.hd] 3)) (some ⟨w3.heap.size, 0, none⟩) ([t.hd].map (Value.int .i64)) := cells_new w3 [.int .i64 t.hd] 3 _ rfl
    have T : Hid (Calls _ _ _ _ _) := reachLe (HA.out.grow hbl) [t.hd] _ 1 1 rfl hc1 (by simp)
    clear hc1
    have HBL : Hid (Below _ _ _) := hbl
    clear hbl
    go_wp2_with (go_at_call 22; fail)
    refine (T.out).mono ?_
    rintro e w4 ⟨ra, r, rc, rfl, hr, hb⟩
    have hA : AB w G w4 S md c := (HA.out.grow HBL.out).grow hb
    clear HA T hb HBL
    have HA : Hid (AB _ _ _ _ _ _) := hA
    clear hA
    have hu := HU.out
    obtain ⟨m1, hm1⟩ : ∃ m1 : Nat, m1 = 3 * L.length := ⟨_, rfl⟩
    obtain ⟨m2, hm2⟩ : ∃ m2 : Nat, m2 = m1 + 2 := ⟨_, rfl⟩
    obtain ⟨m3, hm3⟩ : ∃ m3 : Nat, m3 = 9 * m2 := ⟨_, rfl⟩
    have x1 : (3 : Int) * (L.length : Int) = (m1 : Int) := by omega
    have x2 : (m1 : Int) + 2 = (m2 : Int) := by omega
    have x3 : (9 : Int) * (m2 : Int) = (m3 : Int) := by omega
    have hw1 : IntKind.i64.wrap (m1 : Int) = (m1 : Int) := by rw [IntKind.wrap_i64]; omega
    have hw2 : IntKind.i64.wrap (m2 : Int) = (m2 : Int) := by rw [IntKind.wrap_i64]; omega
    have hw3 : IntKind.i64.wrap (m3 : Int) = (m3 : Int) := by rw [IntKind.wrap_i64]; omega
    have hgt : decide (((m3 : Nat) : Int) < ((r : Nat) : Int)) = false := decide_eq_false (by omega)
    have hgtn : decide (m3 < r) = false := decide_eq_false (by omega)
    clear hm1 hm2 hm3 hr hu
    have HH : Hid (t.hd = 0 ∨ t.hd ≠ 0) := Classical.em _
    rcases HH.out with ht | ht
    · rw [ht]
      have hC : CI S [] := by have h := HC.out; unfold one at h; rw [if_pos ht] at h; exact h
      have T : Hid (Calls _ _ _ _ _) := workR HA.out hC (by omega) 1073741824
      have HUL : Hid (_ ≤ _) := HU.out
      clear hC HA HC HU
      go_wp2_with (go_at_call 24; fail)
      refine (T.out).mono ?_
      rintro e wk ⟨S3, f, rfl, hA, hC, hK, -, hW, hS⟩
      obtain ⟨hw3x, -⟩ := hW (by have := HUL.out; omega)
      have hz : usedN S3.sl = 0 := Nat.le_zero.1 ((RowW.none S3).used hC hA.inv hw3x (fun x hx => absurd hx (by simp)))
      have T : Hid (Calls _ _ _ _ _) := usedR hA.rd
      rw [hz] at T
      have HE : Hid (Below _ _ _) := hA.below
      clear hA hC hK hW hS hw3x hz HUL
      go_wp2_with (go_at_call 25; fail)
      refine (T.out).mono ?_
      rintro e wu ⟨rfl, hwu⟩
      obtain rfl := hwu.symm
      clear T HR HN HW
      go_wp2
      go_ret
      exact ⟨rfl, HE.out⟩
    · have q2 : (t.hd != 0) = true := by rw [bne_iff_ne]; exact ht
      have T : Hid (Calls _ _ _ _ _) := dropR HA.out HC.out (by omega) (x := t.hd) (one_top.resolve_left ht)
      go_wp2_with (go_at_call 23; fail)
      refine (T.out).mono ?_
      rintro e wd ⟨rfl, hA, hC, hK, hu, hS⟩
      have hone : (one t).erase t.hd = [] := by unfold one; rw [if_neg ht]; simp
      rw [hone] at hC
      have hul : usedN (S.drop t.hd).sl ≤ 27 * L.length := by rw [hu]; exact HU.out
      have T : Hid (Calls _ _ _ _ _) := workR hA hC (by omega) 1073741824
      have HUL : Hid (_ ≤ _) := hul
      clear hA hC hK hu hS hul HA HC HU hone
      go_wp2_with (go_at_call 24; fail)
      refine (T.out).mono ?_
      rintro e wk ⟨S3, f, rfl, hA, hC, hK, -, hW, hS⟩
      obtain ⟨hw3x, -⟩ := hW (by have := HUL.out; omega)
      have hz : usedN S3.sl = 0 := Nat.le_zero.1 ((RowW.none S3).used hC hA.inv hw3x (fun x hx => absurd hx (by simp)))
      have T : Hid (Calls _ _ _ _ _) := usedR hA.rd
      rw [hz] at T
      have HE : Hid (Below _ _ _) := hA.below
      clear hA hC hK hW hS hw3x hz HUL
      go_wp2_with (go_at_call 25; fail)
      refine (T.out).mono ?_
      rintro e wu ⟨rfl, hwu⟩
      obtain rfl := hwu.symm
      clear T HR HN HW
      go_wp2
      go_ret
      exact ⟨rfl, HE.out⟩

/-! ### The row's step -/
set_option maxRecDepth 100000 in
theorem lifted (os : Os) (started : os.Started) (H : Type) (enc : TypeId × Value → H) :
    ReturnsInHanded {} Tryd.checked os 5 .any (fun w args => (Rows.waveNodesSpec.pre enc Tryd.prog Tryd.f5 [] false w args ∧ laidMetH Tryd.prog laid1 w) ∧ sizedMet enc Tryd.prog Tryd.f5 (OpenSpec.ofChange Rows.waveNodesSpec) false w args) (Rows.waveNodesSpec.post enc Tryd.prog Tryd.f5 false true false false) := by
  refine returnsInHanded_of_change_and (C := Tryd.checked) (X := fun w _ => laidMetH Tryd.prog laid1 w) (fun _ _ _ hh h => h.of_heap hh) Tryd.own started (by kernel_rfl) Tryd.func5
    (ChangeSpec.witness_shaped (enc := enc) (C := Tryd.checked) (os := os) (X := fun w _ => laidMetH Tryd.prog laid1 w) false (World.doorLaid Tryd.prog 400 os) #[.slice none 0 0] 8 rfl (World.shaped_of_RefB (by kernel_rfl) (by kernel_rfl)) (by kernel_rfl) (by kernel_rfl) (by kernel_rfl) (door_met os _)) ?_
  intro W base args ds gs before hval0 hW _ _ hL _
  have hval : ∀ (j : Nat) t v, Tryd.f5.params[j]? = some t → args[j]? = some v → Value.okWide Tryd.prog W .any base t v := hval0
  have hW' := hW
  obtain ⟨p, q, hA0, hV, rfl, hfz, hnd⟩ := hW
  have hA : DataW.TrodAll enc Tryd.prog W 0 (fun _ => true) true Tryd.f5.params.toList args.toList ds p := hA0
  rw [Tryd.params5] at hA hval
  obtain ⟨v0, vs0, d0, ds0, p0, q0, hargs, rfl, rfl, h0, r0⟩ := trodAll_cons hA
  obtain ⟨rfl, rfl, rfl⟩ := trodAll_nil r0
  obtain rfl : args = #[v0] := by cases args; simp_all
  obtain ⟨rfl, rfl⟩ := trodVars_none hV
  obtain ⟨ao0, xs0, cap0, rfl, hs0, hz0, hl0, hm0, hn0⟩ := open_nums (hval 0 22 v0 rfl rfl) h0
  clear hA0 hval0
  simp only [List.append_nil] at hW'
  refine (walk ao0 xs0 cap0 W (of_laid hL) hs0 hz0 hl0 hm0 hn0).mono fun e W' ⟨he, hg⟩ => ?_
  subst he
  exact ⟨_, rfl, post_carry Tryd.laidOut (by rw [Tryd.params5]; intro t ht; simp only [List.mem_cons, List.not_mem_nil, or_false] at ht; subst ht; exact ⟨by kernel_rfl, of_decide_eq_true (by kernel_rfl)⟩) rfl hW' (fun _ _ _ => (trodAll_cons_mk (shut_bool Tryd.underlying4 _) trodAll_mk0)) rfl rfl hg⟩

theorem over : Rows.waveNodesRow.holds Tryd.pinned (OpenSpec.ofChange Rows.waveNodesSpec) :=
  OpenClaim.holds_of_wide 5 Tryd.f5 rfl rfl rfl rfl rfl rfl rfl ⟨rfl, rfl, rfl, rfl, rfl⟩ rfl rfl rfl rfl rfl (by kernel_rfl) Tryd.func5 (by kernel_rfl)
    (of_decide_eq_true (by kernel_rfl)) (by unfold Func.isWrapper; first | (rw [if_pos (by decide +kernel)]; kernel_rfl) | (rw [if_neg (by decide +kernel)]; exact ⟨rfl, rfl⟩))
    (fun os started H enc _ => lifted os started H enc)

end Go.Proofs.YtjbiofjfjljeoaaDoor.waveNodes

namespace Go.Proofs.YtjbiofjfjljeoaaDoor
/-- the row -/
theorem waveNodes_row : Rows.WaveNodesSaid := waveNodes.over

/-- the statement: the tied card -/
theorem waveNodes_holds : Rows.WaveNodesCardSaid :=
  Claim7.holds_tied_plain_at .later [] [.data] true Rows.waveNodesCard.stood.harness false
    waveNodes_row (fun _ h => by cases h) (by kernel_rfl) (fun _ h => by cases h) waveNodes_row_tie rfl ⟨rfl, rfl⟩ (by kernel_rfl) rfl
    (fun f fn hf hfn => by
      obtain rfl : f = 5 := Option.some.inj ((show Tryd.prog.funcNamed "scrinium/scriniumlaw9.WaveNodes" = some 5 by kernel_rfl).symm.trans hf) |>.symm
      obtain rfl : fn = Tryd.f5 := (Option.some.inj (Tryd.func5.symm.trans hfn)).symm
      exact ⟨by kernel_rfl, fun j t ht => by
        rw [Tryd.params5] at ht
        have hm : t ∈ [22] := by simpa using Array.mem_of_getElem? ht
        have hall : ([22].all fun u => !Tryd.prog.wantsStandIn u) = true := by kernel_rfl
        exact (show Tryd.prog.wantsStandIn t = false by simpa using List.all_eq_true.1 hall t hm)⟩)
    (by kernel_rfl)
#print axioms waveNodes_holds
end Go.Proofs.YtjbiofjfjljeoaaDoor
