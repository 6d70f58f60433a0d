/- Of what is no list nothing is told, what may not be put in is refused, and with no arena nothing is made: for every handle, place and pair. -/
import Derived.Test.YtfigihlahmgloaaDoorSh
import Derived.Test.YtfigihlahmgloaaDoorLsY
import Derived.Test.YtfigihlahmgloaaDoorCards
import Derived.Test.YtfigihlahmgloaaDoorTie
import Derived.SevenTiedAt
namespace Go.Proofs.YtfigihlahmgloaaDoor.listNone
open Go.ChangeShapes Go.WideShapes Go.ChangeAt Go.RowKit Go.Proofs.YtfigihlahmgloaaDoor.Ls
set_option linter.unusedVariables false


/-! ### The walk -/
set_option maxRecDepth 100000 in
set_option maxHeartbeats 2000000 in
theorem walk (a0 : Int) (a1 : Int) (x2 y2 : Int) (w : World) (hT : Tab w) (w0 : -9223372036854775808 ≤ a0 ∧ a0 ≤ 9223372036854775807) (w1 : -9223372036854775808 ≤ a1 ∧ a1 ≤ 9223372036854775807) (hx2 : inR x2) (hy2 : inR y2) :
    Calls Tryd.prog 6 #[.int .i64 a0, .int .i64 a1, .agg #[.int .i64 x2, .int .i64 y2]] w fun e w' => e = .returned (.bool true) ∧ Below w.heap.size w w' := by
  have TA : Hid (∀ W, Tab W → _) := fun W h => alive10 W h
  have HT : Hid (Tab w) := hT
  clear hT
  have w1a := w1.1
  have w1b := w1.2
  clear w0 w1 hx2 hy2
  go_enter Tryd.func6, Tryd.ntmps6
  go_wp2_with (go_at_call 9; fail)
  have hbx : Below w.heap.size w (w.alloc (.cells #[.int .i64 x2, .int .i64 y2] 29)) := (Below.refl _ _).alloc (Nat.le_refl _) _
  refine (TA.out _ (tab_below HT.out hbx)).mono ?_
  rintro e w1 ⟨rfl, hb⟩
  have HB : Hid (Below w.heap.size w w1) := hbx.trans (hb.mono hbx.size)
  have HT1 : Hid (Tab w1) := tab_below HT.out HB.out
  have BX : Hid (BlkAt w1 (w.heap.size) 29 [.int .i64 x2, .int .i64 y2]) := (BlkAt.made rfl _ [.int .i64 x2, .int .i64 y2]).later hb
  clear hb hbx HT TA
  have T : Hid (Calls _ _ _ _ _) := newR (Below.refl _ _) HT1.out 9 (by omega) (by omega)
  go_wp2_with (go_at_call 10; fail)
  refine (T.out).mono ?_
  rintro e w2 ⟨G, S0, rfl, hA, hC, hn, hu, hw⟩
  have HA : Hid (AB w1 G w2 S0 0 0) := hA
  have HC : Hid (CI S0 []) := hC
  have HN : Hid (S0.n = 9) := hn
  have HU : Hid (usedN S0.sl ≤ 0) := Nat.le_of_eq hu
  have HW : Hid (S0.wt = []) := hw
  have hBX : Hid (BlkAt w2 (w.heap.size) 29 [.int .i64 x2, .int .i64 y2]) := BX.out.later hA.below
  clear hA hC hn hu hw T HT1 BX
  have BX := hBX; clear hBX
  have hAl := HA.out.lt
  clear BX
  obtain ⟨i0, hl0⟩ := room_least (S := S0) (by have := HN.out; have := HU.out; omega)
  have hkk1 : ∀ k ∈ (Nd.mk 1 0 0 0 0 1 1).kids, k = 0 ∨ S0.liveB k = true := fun k hk => Or.inl (by simpa [Nd.kids] using hk)
  obtain ⟨e1, e2, hc0, hn1, hc1⟩ := mk_told HA.out.inv (n := Nd.mk 1 0 0 0 0 1 1) rfl hkk1 hl0
  have HX1 : Hid (0 < (S0.mk1 (Nd.mk 1 0 0 0 0 1 1)).cnt ((i0 : Int) + 1) ∧ ((S0.mk1 (Nd.mk 1 0 0 0 0 1 1)).get ((i0 : Int) + 1)).nd.tag = 1) := ⟨by rw [hc1 _ (by omega), if_pos rfl]; omega, by rw [hn1, if_pos rfl]⟩
  have T : Hid (Calls _ _ _ _ _) := makeP HA.out (by have := HN.out; omega) (by omega) (by omega) (Nd.mk 1 0 0 0 0 1 1)
  rw [e1, e2, show S0.mkM 0 (Nd.mk 1 0 0 0 0 1 1) = 1 from if_pos e1] at T
  unfold ndV at T
  generalize S0.mk1 (Nd.mk 1 0 0 0 0 1 1) = S1 at *
  generalize (i0 : Int) + 1 = x at *
  clear hkk1 e1 e2 hc0 hn1 hc1 hl0 HA HC HN HU HW
  go_wp2_with (go_at_call 26; fail)
  refine (T.out).mono ?_
  rintro e w3 ⟨rfl, hA, -⟩
  have HA : Hid (AB w1 G w3 S1 1 (0 + 5)) := hA
  clear hA T
  have HSY : Hid (∀ W, Rd (.pointer (some ⟨G, 0, none⟩)) S1 W → _) := fun W hR => says_other hR HX1.out.1 (by rw [HX1.out.2]; omega) (by rw [HX1.out.2]; omega)
  have TL : Hid (∀ W, Rd (.pointer (some ⟨G, 0, none⟩)) S1 W → _) := fun W hR => len_gen hR (t := .nil) (hh := x) trivial (by show 0 ≤ _; omega) (Or.inr rfl) (fun W hR => HSY.out W hR) trivial
  have TA9 : Hid (∀ W, Rd (.pointer (some ⟨G, 0, none⟩)) S1 W → _) := fun W hR => all_gen hR (t := .nil) (hh := x) trivial (by show 0 ≤ _; omega) (Or.inr rfl) (fun W hR => HSY.out W hR) trivial
  have T : Hid (Calls _ _ _ _ _) := get_gen HA.out.rd (t := .nil) (hh := x) trivial (by show 0 ≤ _; omega) (Or.inr rfl) (fun W hR => HSY.out W hR) trivial (i := 0) (by omega) (Or.inr (by show ((0 : Nat) : Int) ≤ 0; omega))
  clear HSY HX1
  go_wp2_with (go_at_call 22; fail)
  refine (T.out).mono ?_
  rintro e w4 ⟨rfl, hb⟩
  have hA : AB w1 G w4 S1 (1) (0 + 5) := HA.out.grow hb
  clear HA T hb
  have HA : Hid (AB _ _ _ _ _ _) := hA
  clear hA
  have T : Hid (Calls _ _ _ _ _) := ins_arg (p := .pointer (some ⟨G, 0, none⟩)) (h := 0) (i := 0) (a := -1) (b := 0) (by omega) (w4.alloc (.cells #[.int .i64 0, .int .i64 0] 29))
  go_wp2_with (go_at_call 14; fail)
  refine (T.out).mono ?_
  rintro e w5 ⟨rfl, hb⟩
  have hb := ((Below.refl w4.heap.size w4).alloc (Nat.le_refl _) (.cells #[.int .i64 0, .int .i64 0] 29)).trans (hb.mono (by simp))
  have hA : AB w1 G w5 S1 (1) (0 + 5) := HA.out.grow hb
  clear HA T hb
  have HA : Hid (AB _ _ _ _ _ _) := hA
  clear hA
  have hTab := HA.out.tab
  have T : Hid (Calls _ _ _ _ _) := ins_full (pp := none) (S := st0) (Rd.nil hTab) (t := .nil) trivial (by show 0 ≤ _; omega) (Or.inr rfl) trivial (i := 0) (by omega) (by show (0 : Int) ≤ ((0 : Nat) : Int); omega) (a := 0) (b := 0) (by omega) (by omega) (by decide)
  rw [show Tr.nil.hd = 0 from rfl, show ((0 : Nat) : Int) = 0 from rfl] at T
  clear hTab
  go_wp2_with (go_at_call 14; fail)
  refine (T.out).mono ?_
  rintro e w6 ⟨rfl, hb⟩
  have hA : AB w1 G w6 S1 (1) (0 + 5) := HA.out.grow hb
  clear HA T hb
  have HA : Hid (AB _ _ _ _ _ _) := hA
  clear hA
  have T : Hid (Calls _ _ _ _ _) := del_out HA.out.rd (t := .nil) trivial (by show 0 ≤ _; omega) (Or.inr rfl) trivial (i := a1) (by omega) (by show a1 < 0 ∨ ((0 : Nat) : Int) ≤ a1; omega)
  rw [show Tr.nil.hd = 0 from rfl] at T
  go_wp2_with (go_at_call 15; fail)
  refine (T.out).mono ?_
  rintro e w7 ⟨rfl, hb⟩
  have hA : AB w1 G w7 S1 (1) (0 + 5) := HA.out.grow hb
  clear HA T hb
  have HA : Hid (AB _ _ _ _ _ _) := hA
  clear hA
  have T : Hid (Calls _ _ _ _ _) := set_out HA.out.rd (t := .nil) trivial (by show 0 ≤ _; omega) (Or.inr rfl) trivial (i := a1) (by omega) (by show a1 < 0 ∨ ((0 : Nat) : Int) ≤ a1; omega) 1 0
  rw [show Tr.nil.hd = 0 from rfl, show ((1 : Nat) : Int) = 1 from rfl, show ((0 : Nat) : Int) = 0 from rfl] at T
  go_wp2_with (go_at_call 16; fail)
  refine (T.out).mono ?_
  rintro e w8 ⟨rfl, hb⟩
  have hA : AB w1 G w8 S1 (1) (0 + 5) := HA.out.grow hb
  clear HA T hb
  have HA : Hid (AB _ _ _ _ _ _) := hA
  clear hA
  have T : Hid (Calls _ _ _ _ _) := TL.out _ HA.out.rd
  rw [show ((Tr.nil.size : Nat) : Int) = 0 from rfl] at T
  go_wp2_with (go_at_call 25; fail)
  refine (T.out).mono ?_
  rintro e w9 ⟨rfl, hb⟩
  have hA : AB w1 G w9 S1 (1) (0 + 5) := HA.out.grow hb
  clear HA T hb
  have HA : Hid (AB _ _ _ _ _ _) := hA
  clear hA
  have T : Hid (Calls _ _ _ _ _) := TA9.out _ HA.out.rd
  rw [show Tr.nil.bits.length = 0 from rfl] at T
  go_wp2_with (go_at_call 24; fail)
  refine (T.out).mono ?_
  rintro e w10 ⟨v', rfl, hO, hb⟩
  obtain ⟨av, cv, rfl, -, -, -, -⟩ := owns_cells hO
  clear hO
  have hA : AB w1 G w10 S1 (1) (0 + 5) := HA.out.grow hb
  clear HA T hb
  have HA : Hid (AB _ _ _ _ _ _) := hA
  clear hA
  have hTab := HA.out.tab
  have T : Hid (Calls _ _ _ _ _) := len_gen (Rd.nil hTab) (t := .nil) (hh := a0) trivial (by show 0 ≤ _; omega) (Or.inr rfl) (fun W hR => says_zero hR (st0_cnt a0)) trivial
  rw [show ((Tr.nil.size : Nat) : Int) = 0 from rfl] at T
  clear hTab
  go_wp2_with (go_at_call 25; fail)
  refine (T.out).mono ?_
  rintro e w11 ⟨rfl, hb⟩
  have hA : AB w1 G w11 S1 (1) (0 + 5) := HA.out.grow hb
  clear HA T hb
  have HA : Hid (AB _ _ _ _ _ _) := hA
  clear hA
  have HE : Hid (Below w.heap.size w _) := HB.out.trans (HA.out.below.mono HB.out.size)
  clear HA TL TA9
  go_wp2
  go_ret
  exact ⟨rfl, HE.out⟩

/-! ### The row's step -/
set_option maxRecDepth 100000 in
theorem lifted (os : Os) (started : os.Started) (H : Type) (enc : TypeId × Value → H) :
    ReturnsInHanded {} Tryd.checked os 6 .any (fun w args => (Rows.listNoneSpec.pre enc Tryd.prog Tryd.f6 [] false w args ∧ laidMetH Tryd.prog laid1 w) ∧ sizedMet enc Tryd.prog Tryd.f6 (OpenSpec.ofChange Rows.listNoneSpec) false w args) (Rows.listNoneSpec.post enc Tryd.prog Tryd.f6 false true false false) := by
  refine returnsInHanded_of_change_and (C := Tryd.checked) (X := fun w _ => laidMetH Tryd.prog laid1 w) (fun _ _ _ hh h => h.of_heap hh) Tryd.own started (by kernel_rfl) Tryd.func6
    (ChangeSpec.witness_shaped (enc := enc) (C := Tryd.checked) (os := os) (X := fun w _ => laidMetH Tryd.prog laid1 w) false (World.doorLaid Tryd.prog 400 os) #[.int .i64 0, .int .i64 0, .agg #[.int .i64 0, .int .i64 0]] 8 rfl (World.shaped_of_RefB (by kernel_rfl) (by kernel_rfl)) (by kernel_rfl) (by kernel_rfl) (by kernel_rfl) (door_met os _)) ?_
  intro W base args ds gs before hval0 hW _ _ hL _
  have hval : ∀ (j : Nat) t v, Tryd.f6.params[j]? = some t → args[j]? = some v → Value.okWide Tryd.prog W .any base t v := hval0
  have hW' := hW
  obtain ⟨p, q, hA0, hV, rfl, hfz, hnd⟩ := hW
  have hA : DataW.TrodAll enc Tryd.prog W 0 (fun _ => true) true Tryd.f6.params.toList args.toList ds p := hA0
  rw [Tryd.params6] at hA hval
  obtain ⟨v0, vs0, d0, ds0, p0, q0, hargs, rfl, rfl, h0, r0⟩ := trodAll_cons hA
  obtain ⟨v1, vs1, d1, ds1, p1, q1, rfl, rfl, rfl, h1, r1⟩ := trodAll_cons r0
  obtain ⟨v2, vs2, d2, ds2, p2, q2, rfl, rfl, rfl, h2, r2⟩ := trodAll_cons r1
  obtain ⟨rfl, rfl, rfl⟩ := trodAll_nil r2
  obtain rfl : args = #[v0, v1, v2] := by cases args; simp_all
  obtain ⟨rfl, rfl⟩ := trodVars_none hV
  obtain ⟨a0, rfl, rfl, rfl, wf0⟩ := open_int Tryd.underlying3 (hval 0 3 v0 rfl rfl) h0
  have w0 := wf_i64 wf0
  obtain ⟨a1, rfl, rfl, rfl, wf1⟩ := open_int Tryd.underlying3 (hval 1 3 v1 rfl rfl) h1
  have w1 := wf_i64 wf1
  obtain ⟨x2, y2, rfl, hx2, hy2⟩ := open_item (hval 2 29 v2 rfl rfl) h2
  clear hA0 hval0
  simp only [List.append_nil] at hW'
  refine (walk a0 a1 x2 y2 W (of_laid hL) w0 w1 hx2 hy2).mono fun e W' ⟨he, hg⟩ => ?_
  subst he
  exact ⟨_, rfl, post_carry Tryd.laidOut (by rw [Tryd.params6]; intro t ht; simp only [List.mem_cons, List.not_mem_nil, or_false] at ht; rcases ht with rfl | rfl | rfl <;> exact ⟨by kernel_rfl, of_decide_eq_true (by kernel_rfl)⟩) rfl hW' (fun _ _ _ => (trodAll_cons_mk (shut_bool Tryd.underlying4 _) trodAll_mk0)) rfl rfl hg⟩

theorem over : Rows.listNoneRow.holds Tryd.pinned (OpenSpec.ofChange Rows.listNoneSpec) :=
  OpenClaim.holds_of_wide 6 Tryd.f6 rfl rfl rfl rfl rfl rfl rfl ⟨rfl, rfl, rfl, rfl, rfl⟩ rfl rfl rfl rfl rfl (by kernel_rfl) Tryd.func6 (by kernel_rfl)
    (of_decide_eq_true (by kernel_rfl)) (by unfold Func.isWrapper; first | (rw [if_pos (by decide +kernel)]; kernel_rfl) | (rw [if_neg (by decide +kernel)]; exact ⟨rfl, rfl⟩))
    (fun os started H enc _ => lifted os started H enc)

end Go.Proofs.YtfigihlahmgloaaDoor.listNone

namespace Go.Proofs.YtfigihlahmgloaaDoor
/-- the row -/
theorem listNone_row : Rows.ListNoneSaid := listNone.over

/-- the statement: the tied card -/
theorem listNone_holds : Rows.ListNoneCardSaid :=
  Claim7.holds_tied_plain_at .later [] [.data] true Rows.listNoneCard.stood.harness false
    listNone_row (fun _ h => by cases h) (by kernel_rfl) (fun _ h => by cases h) listNone_row_tie rfl ⟨rfl, rfl⟩ (by kernel_rfl) rfl
    (fun f fn hf hfn => by
      obtain rfl : f = 6 := Option.some.inj ((show Tryd.prog.funcNamed "scrinium/scriniumlaw10.ListNone" = some 6 by kernel_rfl).symm.trans hf) |>.symm
      obtain rfl : fn = Tryd.f6 := (Option.some.inj (Tryd.func6.symm.trans hfn)).symm
      exact ⟨by kernel_rfl, fun j t ht => by
        rw [Tryd.params6] at ht
        have hm : t ∈ [3, 3, 29] := by simpa using Array.mem_of_getElem? ht
        have hall : ([3, 3, 29].all fun u => !Tryd.prog.wantsStandIn u) = true := by kernel_rfl
        exact (show Tryd.prog.wantsStandIn t = false by simpa using List.all_eq_true.1 hall t hm)⟩)
    (by kernel_rfl)
#print axioms listNone_holds
end Go.Proofs.YtfigihlahmgloaaDoor
