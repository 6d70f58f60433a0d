/- Of what is no row, and of symbols that are none, nothing is told, and with no arena nothing is made: for every handle, place and symbol. -/
import Derived.Test.YtjbiofjfjljeoaaDoorPc7
import Derived.Test.YtjbiofjfjljeoaaDoorCards
import Derived.Test.YtjbiofjfjljeoaaDoorTie
import Derived.SevenTiedAt
namespace Go.Proofs.YtjbiofjfjljeoaaDoor.waveNone
open Go.ChangeShapes Go.WideShapes Go.ChangeAt Go.RowKit Go.Proofs.YtjbiofjfjljeoaaDoor.Wx
set_option linter.unusedVariables false


/-! ### The walk -/
set_option maxRecDepth 100000 in
set_option maxHeartbeats 2000000 in
theorem walk (a0 : Int) (a1 : Int) (a2 : Int) (w : World) (hT : Tab w) (w0 : -9223372036854775808 ≤ a0 ∧ a0 ≤ 9223372036854775807) (w1 : -9223372036854775808 ≤ a1 ∧ a1 ≤ 9223372036854775807) (w2 : -9223372036854775808 ≤ a2 ∧ a2 ≤ 9223372036854775807) :
    Calls Tryd.prog 7 #[.int .i64 a0, .int .i64 a1, .int .i64 a2] w fun e w' => e = .returned (.bool true) ∧ Below w.heap.size w w' := by
  have TA : Hid (∀ W, Tab W → _) := fun W h => alive9 W h
  have HT : Hid (Tab w) := hT
  have hp : 0 < w.heap.size := tab_pos hT
  clear hT
  have w1a := w1.1
  have w1b := w1.2
  clear w0 w1 w2
  go_enter Tryd.func7, Tryd.ntmps7
  go_wp2_with (go_at_call 10; fail)
  refine (TA.out _ HT.out).mono ?_
  rintro e w1 ⟨rfl, hb⟩
  have HB : Hid (Below w.heap.size w w1) := hb
  have HT1 : Hid (Tab w1) := tab_below HT.out hb
  clear hb HT TA
  have hT2 := HT1.out
  have HT2 : Hid (Tab w1) := hT2
  clear hT2
  have T : Hid (Calls _ _ _ _ _) := newR HB.out HT1.out 9 (by omega) (by omega)
  go_wp2_with (go_at_call 11; fail)
  refine (T.out).mono ?_
  rintro e w2 ⟨G, S0, rfl, hA, hC, hn, hu, hw⟩
  have HA : Hid (AB w G w2 S0 0 0) := hA
  have HC : Hid (CI S0 []) := hC
  have HN : Hid (S0.n = 9) := hn
  have HU : Hid (usedN S0.sl ≤ 0) := Nat.le_of_eq hu
  have HW : Hid (S0.wt = []) := hw
  clear hA hC hn hu hw T HB
  have hAl := HA.out.lt
  obtain ⟨i0, hl0⟩ := room_least (S := S0) (by have := HN.out; have := HU.out; omega)
  have hkk0 : ∀ k ∈ (Nd.mk 4 0 0 0 0 0 0).kids, k = 0 ∨ k ∈ ([] : List Int) := fun k hk => Or.inl (by simpa [Nd.kids] using hk)
  have hkk1 : ∀ k ∈ (Nd.mk 4 0 0 0 0 0 0).kids, k = 0 ∨ S0.liveB k = true := fun k hk => Or.inl (by simpa [Nd.kids] using hk)
  obtain ⟨e1, e2, hC1⟩ := HC.out.make HA.out.inv (n := (Nd.mk 4 0 0 0 0 0 0)) rfl hkk0 hl0
  obtain ⟨-, -, hc0, hn1, hc1⟩ := mk_told HA.out.inv (n := (Nd.mk 4 0 0 0 0 0 0)) rfl hkk1 hl0
  have HX1 : Hid (0 < (S0.mk1 (Nd.mk 4 0 0 0 0 0 0)).cnt ((i0 : Int) + 1) ∧ ((S0.mk1 (Nd.mk 4 0 0 0 0 0 0)).get ((i0 : Int) + 1)).nd = ⟨4, 0, 0, 0, 0, 0, 0⟩) := ⟨by rw [hc1 _ (by omega), if_pos rfl]; omega, by rw [hn1, if_pos rfl]⟩
  have T : Hid (Calls _ _ _ _ _) := makeB HA.out (by have := HN.out; omega) (by omega) (by omega) (Nd.mk 4 0 0 0 0 0 0)
  rw [e1, e2, show S0.mkM 0 (Nd.mk 4 0 0 0 0 0 0) = 1 from if_pos e1] at T
  unfold ndV at T
  generalize S0.mk1 (Nd.mk 4 0 0 0 0 0 0) = S1 at *
  generalize (i0 : Int) + 1 = x at *
  clear hkk0 hkk1 e1 e2 hC1 hc0 hn1 hc1 hl0 HA HC HN HU HW
  go_wp2_with (go_at_call 27; fail)
  refine (T.out).mono ?_
  rintro e w3 ⟨rfl, hA⟩
  have HA : Hid (AB w G w3 S1 1 (0 + 5)) := hA
  have hAl1 := HA.out.lt
  clear hA T
  have HNR : Hid (NoRow (.pointer (some ⟨G, 0, none⟩)) S1 x) := fun W hR => wsays_item hR HX1.out.1 HX1.out.2
  have HNZ : Hid (NoRow (.pointer none) st0 a0) := fun W hR => wsays_zero hR (st0_cnt a0)
  clear HX1
  obtain ⟨v, hv255, hv⟩ := and_low a2
  have hwv : IntKind.i64.wrap (300 + (v : Int)) = 300 + (v : Int) := by rw [IntKind.wrap_i64]; omega
  have hns : NoSym (300 + (v : Int)) := by unfold NoSym; omega
  have T : Hid (Calls _ _ _ _ _) := getW_none HA.out.rd HNR.out (i := 0) (by omega) (by omega)
  go_wp2_with (go_at_call 16; fail)
  refine (T.out).mono ?_
  rintro e w4 ⟨rfl, hb⟩
  have hA : AB w G w4 S1 1 (0 + 5) := HA.out.grow hb
  clear HA T hb
  have HA : Hid (AB _ _ _ _ _ _) := hA
  clear hA
  have T : Hid (Calls _ _ _ _ _) := insert_nosym (pp := some ⟨G, 0, none⟩) (h := 0) (i := a1) hns w4
  go_wp2_with (go_at_call 17; fail)
  refine (T.out).mono ?_
  rintro e w5 ⟨rfl, hb⟩
  have hA : AB w G w5 S1 1 (0 + 5) := HA.out.grow hb
  clear HA T hb
  have HA : Hid (AB _ _ _ _ _ _) := hA
  clear hA
  clear hv hwv hns hv255
  have T : Hid (Calls _ _ _ _ _) := insert_nil (s := 5) HA.out.rd.tab (by omega)
  rw [show ((5 : Nat) : Int) = 5 from rfl] at T
  go_wp2_with (go_at_call 17; fail)
  refine (T.out).mono ?_
  rintro e w6 ⟨rfl, hb⟩
  have hA : AB w G w6 S1 1 (0 + 5) := HA.out.grow hb
  clear HA T hb
  have HA : Hid (AB _ _ _ _ _ _) := hA
  clear hA
  have T : Hid (Calls _ _ _ _ _) := delete_out HA.out.rd (RowW.none S1) (i := a1) (by omega) (by show a1 < 0 ∨ ((0 : Nat) : Int) ≤ a1; omega)
  rw [show Wt.nil.hd = 0 from rfl] at T
  go_wp2_with (go_at_call 18; fail)
  refine (T.out).mono ?_
  rintro e w7 ⟨rfl, hb⟩
  have hA : AB w G w7 S1 1 (0 + 5) := HA.out.grow hb
  clear HA T hb
  have HA : Hid (AB _ _ _ _ _ _) := hA
  clear hA
  have T : Hid (Calls _ _ _ _ _) := insert_out HA.out.rd (RowW.none S1) (by simp) (iv := 1) (s := 5) (by right; show ((0 : Nat) : Int) < 1; omega) (by omega)
  rw [show Wt.nil.hd = 0 from rfl] at T
  rw [show ((5 : Nat) : Int) = 5 from rfl] at T
  go_wp2_with (go_at_call 17; fail)
  refine (T.out).mono ?_
  rintro e w8 ⟨rfl, hb⟩
  have hA : AB w G w8 S1 1 (0 + 5) := HA.out.grow hb
  clear HA T hb
  have HA : Hid (AB _ _ _ _ _ _) := hA
  clear hA
  have T : Hid (Calls _ _ _ _ _) := lenW_none HA.out.rd HNR.out
  go_wp2_with (go_at_call 21; fail)
  refine (T.out).mono ?_
  rintro e w9 ⟨rfl, hb⟩
  have hA : AB w G w9 S1 1 (0 + 5) := HA.out.grow hb
  clear HA T hb
  have HA : Hid (AB _ _ _ _ _ _) := hA
  clear hA
  have T : Hid (Calls _ _ _ _ _) := rankW_none HA.out.rd HNR.out a2 (i := 9)
  go_wp2_with (go_at_call 13; fail)
  refine (T.out).mono ?_
  rintro e w10 ⟨rfl, hb⟩
  have hA : AB w G w10 S1 1 (0 + 5) := HA.out.grow hb
  clear HA T hb
  have HA : Hid (AB _ _ _ _ _ _) := hA
  clear hA
  have T : Hid (Calls _ _ _ _ _) := beforeW_none HA.out.rd HNR.out a2
  go_wp2_with (go_at_call 15; fail)
  refine (T.out).mono ?_
  rintro e w11 ⟨rfl, hb⟩
  have hA : AB w G w11 S1 1 (0 + 5) := HA.out.grow hb
  clear HA T hb
  have HA : Hid (AB _ _ _ _ _ _) := hA
  clear hA
  have T : Hid (Calls _ _ _ _ _) := allW_none HA.out.rd HNR.out
  go_wp2_with (go_at_call 20; fail)
  refine (T.out).mono ?_
  rintro e w12 ⟨ra, rc, rfl, hb⟩
  have hA : AB w G w12 S1 1 (0 + 5) := HA.out.grow hb
  clear HA T hb
  have HA : Hid (AB _ _ _ _ _ _) := hA
  clear hA
  have T : Hid (Calls _ _ _ _ _) := lenW_none (Rd.nil HA.out.rd.tab) HNZ.out
  go_wp2_with (go_at_call 21; fail)
  refine (T.out).mono ?_
  rintro e w13 ⟨rfl, hb⟩
  have hA : AB w G w13 S1 1 (0 + 5) := HA.out.grow hb
  clear HA T hb
  have HA : Hid (AB _ _ _ _ _ _) := hA
  clear hA
  have T : Hid (Calls _ _ _ _ _) := selectW_none HA.out.rd HNR.out a2 (j := 0) (by omega)
  go_wp2_with (go_at_call 14; fail)
  refine (T.out).mono ?_
  rintro e w14 ⟨rfl, hb⟩
  have hA : AB w G w14 S1 1 (0 + 5) := HA.out.grow hb
  clear HA T hb
  have HA : Hid (AB _ _ _ _ _ _) := hA
  clear hA
  have HE : Hid (Below _ _ _) := HA.out.below
  clear HA HNR HNZ
  go_wp2
  go_ret
  exact ⟨rfl, HE.out⟩

/-! ### The row's step -/
set_option maxRecDepth 100000 in
theorem lifted (os : Os) (started : os.Started) (H : Type) (enc : TypeId × Value → H) :
    ReturnsInHanded {} Tryd.checked os 7 .any (fun w args => (Rows.waveNoneSpec.pre enc Tryd.prog Tryd.f7 [] false w args ∧ laidMetH Tryd.prog laid1 w) ∧ sizedMet enc Tryd.prog Tryd.f7 (OpenSpec.ofChange Rows.waveNoneSpec) false w args) (Rows.waveNoneSpec.post enc Tryd.prog Tryd.f7 false true false false) := by
  refine returnsInHanded_of_change_and (C := Tryd.checked) (X := fun w _ => laidMetH Tryd.prog laid1 w) (fun _ _ _ hh h => h.of_heap hh) Tryd.own started (by kernel_rfl) Tryd.func7
    (ChangeSpec.witness_shaped (enc := enc) (C := Tryd.checked) (os := os) (X := fun w _ => laidMetH Tryd.prog laid1 w) false (World.doorLaid Tryd.prog 400 os) #[.int .i64 0, .int .i64 0, .int .i64 0] 8 rfl (World.shaped_of_RefB (by kernel_rfl) (by kernel_rfl)) (by kernel_rfl) (by kernel_rfl) (by kernel_rfl) (door_met os _)) ?_
  intro W base args ds gs before hval0 hW _ _ hL _
  have hval : ∀ (j : Nat) t v, Tryd.f7.params[j]? = some t → args[j]? = some v → Value.okWide Tryd.prog W .any base t v := hval0
  have hW' := hW
  obtain ⟨p, q, hA0, hV, rfl, hfz, hnd⟩ := hW
  have hA : DataW.TrodAll enc Tryd.prog W 0 (fun _ => true) true Tryd.f7.params.toList args.toList ds p := hA0
  rw [Tryd.params7] at hA hval
  obtain ⟨v0, vs0, d0, ds0, p0, q0, hargs, rfl, rfl, h0, r0⟩ := trodAll_cons hA
  obtain ⟨v1, vs1, d1, ds1, p1, q1, rfl, rfl, rfl, h1, r1⟩ := trodAll_cons r0
  obtain ⟨v2, vs2, d2, ds2, p2, q2, rfl, rfl, rfl, h2, r2⟩ := trodAll_cons r1
  obtain ⟨rfl, rfl, rfl⟩ := trodAll_nil r2
  obtain rfl : args = #[v0, v1, v2] := by cases args; simp_all
  obtain ⟨rfl, rfl⟩ := trodVars_none hV
  obtain ⟨a0, rfl, rfl, rfl, wf0⟩ := open_int Tryd.underlying3 (hval 0 3 v0 rfl rfl) h0
  have w0 := wf_i64 wf0
  obtain ⟨a1, rfl, rfl, rfl, wf1⟩ := open_int Tryd.underlying3 (hval 1 3 v1 rfl rfl) h1
  have w1 := wf_i64 wf1
  obtain ⟨a2, rfl, rfl, rfl, wf2⟩ := open_int Tryd.underlying3 (hval 2 3 v2 rfl rfl) h2
  have w2 := wf_i64 wf2
  clear hA0 hval0
  simp only [List.append_nil] at hW'
  refine (walk a0 a1 a2 W (of_laid hL) w0 w1 w2).mono fun e W' ⟨he, hg⟩ => ?_
  subst he
  exact ⟨_, rfl, post_carry Tryd.laidOut (by rw [Tryd.params7]; intro t ht; simp only [List.mem_cons, List.not_mem_nil, or_false] at ht; rcases ht with rfl | rfl | rfl <;> exact ⟨by kernel_rfl, of_decide_eq_true (by kernel_rfl)⟩) rfl hW' (fun _ _ _ => (trodAll_cons_mk (shut_bool Tryd.underlying4 _) trodAll_mk0)) rfl rfl hg⟩

theorem over : Rows.waveNoneRow.holds Tryd.pinned (OpenSpec.ofChange Rows.waveNoneSpec) :=
  OpenClaim.holds_of_wide 7 Tryd.f7 rfl rfl rfl rfl rfl rfl rfl ⟨rfl, rfl, rfl, rfl, rfl⟩ rfl rfl rfl rfl rfl (by kernel_rfl) Tryd.func7 (by kernel_rfl)
    (of_decide_eq_true (by kernel_rfl)) (by unfold Func.isWrapper; first | (rw [if_pos (by decide +kernel)]; kernel_rfl) | (rw [if_neg (by decide +kernel)]; exact ⟨rfl, rfl⟩))
    (fun os started H enc _ => lifted os started H enc)

end Go.Proofs.YtjbiofjfjljeoaaDoor.waveNone

namespace Go.Proofs.YtjbiofjfjljeoaaDoor
/-- the row -/
theorem waveNone_row : Rows.WaveNoneSaid := waveNone.over

/-- the statement: the tied card -/
theorem waveNone_holds : Rows.WaveNoneCardSaid :=
  Claim7.holds_tied_plain_at .later [] [.data] true Rows.waveNoneCard.stood.harness false
    waveNone_row (fun _ h => by cases h) (by kernel_rfl) (fun _ h => by cases h) waveNone_row_tie rfl ⟨rfl, rfl⟩ (by kernel_rfl) rfl
    (fun f fn hf hfn => by
      obtain rfl : f = 7 := Option.some.inj ((show Tryd.prog.funcNamed "scrinium/scriniumlaw9.WaveNone" = some 7 by kernel_rfl).symm.trans hf) |>.symm
      obtain rfl : fn = Tryd.f7 := (Option.some.inj (Tryd.func7.symm.trans hfn)).symm
      exact ⟨by kernel_rfl, fun j t ht => by
        rw [Tryd.params7] at ht
        have hm : t ∈ [3, 3, 3] := by simpa using Array.mem_of_getElem? ht
        have hall : ([3, 3, 3].all fun u => !Tryd.prog.wantsStandIn u) = true := by kernel_rfl
        exact (show Tryd.prog.wantsStandIn t = false by simpa using List.all_eq_true.1 hall t hm)⟩)
    (by kernel_rfl)
#print axioms waveNone_holds
end Go.Proofs.YtjbiofjfjljeoaaDoor
