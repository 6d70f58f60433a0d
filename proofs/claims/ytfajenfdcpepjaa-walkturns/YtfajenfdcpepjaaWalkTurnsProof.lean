/- WalkTurns, for all four numbers: it answers true: every place of whole parts is turned exactly, four quarters are none, and there and back is where it was; no condition. -/
import Derived.Test.YtfajenfdcpepjaaRefTurn
import Derived.Test.YtfajenfdcpepjaaShut
import Derived.Test.YtfajenfdcpepjaaRows
import Derived.WalkKit
import Derived.ProofKit
import Derived.OpenShut
import Derived.ShutString
namespace Go.Proofs.Ytfajenfdcpepjaa.walkTurns
open Go.ChangeShapes Go.WideShapes Go.ChangeAt Go.RowKit
open Go.ChangeMaps (open_string shut_string)
set_option linter.unusedVariables false

theorem own : ownKnob Try.prog.godebug = none := by kernel_rfl

set_option maxHeartbeats 400000

/-! ### The walk -/
theorem walk (a0 : Int) (a1 : Int) (a2 : Int) (a3 : Int) (w0 : (Lit.int .i64 a0).wf = true) (w1 : (Lit.int .i64 a1).wf = true) (w2 : (Lit.int .i64 a2).wf = true) (w3 : (Lit.int .i64 a3).wf = true) (w : World) :
    Calls Try.prog 4 #[.int .i64 a0, .int .i64 a1, .int .i64 a2, .int .i64 a3] w fun e w' => e = .returned (.bool true) ∧ Below w.heap.size w w' := by
  clear w0 w1 w2 w3
  by_cases hn0 : a0 < -1125899906842624
  · go_enter Try.func4, Try.ntmps4
    go_wp2_with (go_at_call 9; refine (alive_b _).mono ?_; rintro e w1 ⟨rfl, hb1⟩)
    go_ret
    exact ⟨rfl, hb1⟩
  by_cases hn1 : a1 < -1125899906842624
  · go_enter Try.func4, Try.ntmps4
    go_wp2_with (go_at_call 9; refine (alive_b _).mono ?_; rintro e w1 ⟨rfl, hb1⟩)
    go_ret
    exact ⟨rfl, hb1⟩
  by_cases hn2 : 1125899906842624 < a0
  · go_enter Try.func4, Try.ntmps4
    go_wp2_with (go_at_call 9; refine (alive_b _).mono ?_; rintro e w1 ⟨rfl, hb1⟩)
    go_ret
    exact ⟨rfl, hb1⟩
  by_cases hn3 : 1125899906842624 < a1
  · go_enter Try.func4, Try.ntmps4
    go_wp2_with (go_at_call 9; refine (alive_b _).mono ?_; rintro e w1 ⟨rfl, hb1⟩)
    go_ret
    exact ⟨rfl, hb1⟩
  by_cases hn4 : a2 < -1152921504606846976
  · go_enter Try.func4, Try.ntmps4
    go_wp2_with (go_at_call 9; refine (alive_b _).mono ?_; rintro e w1 ⟨rfl, hb1⟩)
    go_ret
    exact ⟨rfl, hb1⟩
  by_cases hn5 : 1152921504606846976 < a2
  · go_enter Try.func4, Try.ntmps4
    go_wp2_with (go_at_call 9; refine (alive_b _).mono ?_; rintro e w1 ⟨rfl, hb1⟩)
    go_ret
    exact ⟨rfl, hb1⟩
  by_cases hn6 : a3 < -1152921504606846976
  · go_enter Try.func4, Try.ntmps4
    go_wp2_with (go_at_call 9; refine (alive_b _).mono ?_; rintro e w1 ⟨rfl, hb1⟩)
    go_ret
    exact ⟨rfl, hb1⟩
  by_cases hn7 : 1152921504606846976 < a3
  · go_enter Try.func4, Try.ntmps4
    go_wp2_with (go_at_call 9; refine (alive_b _).mono ?_; rintro e w1 ⟨rfl, hb1⟩)
    go_ret
    exact ⟨rfl, hb1⟩
  have ha : a0.natAbs < 2 ^ 53 := by omega
  have hb : a1.natAbs < 2 ^ 53 := by omega
  have hl := turn_lt a0 a1 a2 (2 ^ 53) ha hb
  have t1 := fun w => turn_any a0 a1 a2 w ha hb
  have t2 := fun w => refturn_any a0 a1 a2 w ha hb
  have t3 := fun w => turn_any _ _ (-a2) w hl.1 hl.2
  have t4 := fun w => turn_any a0 a1 (a2 + 4) w ha hb
  have t5 := fun w => turn_any _ _ a3 w hl.1 hl.2
  have t6 := fun w => turn_any a0 a1 (a2 + a3) w ha hb
  rw [turnX_turn, turnY_turn, Int.add_right_neg, turnX_zero, turnY_zero] at t3
  rw [turnX_four, turnY_four] at t4
  rw [turnX_turn, turnY_turn] at t5
  have hf0 : floatOfInt .f64 a0 = fl a0 := (fl_def a0).symm
  have hf1 : floatOfInt .f64 a1 = fl a1 := (fl_def a1).symm
  have hw1 : IntKind.i64.wrap (0 - a2) = -a2 := by rw [IntKind.wrap_i64]; omega
  have hw2 : wrap64 (a2 + 4) = a2 + 4 := by unfold wrap64; omega
  have hw3 : wrap64 (a2 + a3) = a2 + a3 := by unfold wrap64; omega
  have hw4 : wrap64 (0 - a2) = -a2 := by unfold wrap64; omega
  have hw5 : wrap64 (-a2) = -a2 := by unfold wrap64; omega
  clear ha hb hl
  generalize fl (turnX a0 a1 (a2 + a3)) = x3 at *
  generalize fl (turnY a0 a1 (a2 + a3)) = y3 at *
  generalize fl (turnX a0 a1 a2) = x2 at *
  generalize fl (turnY a0 a1 a2) = y2 at *
  generalize fl a0 = x at *
  generalize fl a1 = y at *
  have T1 : Hid (∀ w, _) := t1
  have T2 : Hid (∀ w, _) := t2
  have T3 : Hid (∀ w, _) := t3
  have T4 : Hid (∀ w, _) := t4
  have T5 : Hid (∀ w, _) := t5
  have T6 : Hid (∀ w, _) := t6
  clear t1 t2 t3 t4 t5 t6
  go_enter Try.func4, Try.ntmps4
  go_wp2_with (first | (go_at_call 9; refine (alive_b _).mono ?_; rintro e w1 ⟨rfl, hb1⟩) | (go_at_call 13; refine (exact_same _ _ _).mono ?_; rintro e w' ⟨rfl, rfl⟩) | (go_at_call 23; with_reducible refine (T2.out _).mono ?_; rintro e w' ⟨rfl, rfl⟩) | (go_at_call 22; with_reducible refine (T1.out _).mono ?_; rintro e w' ⟨rfl, rfl⟩) | (go_at_call 22; with_reducible refine (T3.out _).mono ?_; rintro e w' ⟨rfl, rfl⟩) | (go_at_call 22; with_reducible refine (T4.out _).mono ?_; rintro e w' ⟨rfl, rfl⟩) | (go_at_call 22; with_reducible refine (T5.out _).mono ?_; rintro e w' ⟨rfl, rfl⟩) | (go_at_call 22; with_reducible refine (T6.out _).mono ?_; rintro e w' ⟨rfl, rfl⟩))
  go_ret
  exact ⟨rfl, hb1⟩

/-! ### The row's step -/
set_option maxRecDepth 100000 in
theorem lifted (os : Os) (started : os.Started) (H : Type) (enc : TypeId × Value → H) :
    ReturnsInHanded {} Try.checked os 4 .any (Rows.walkTurnsSpec.pre6 enc Try.prog Try.f4 Rows.walkTurnsRow.domain false) (Rows.walkTurnsSpec.post enc Try.prog Try.f4 false true false false) := by
  refine returnsInHanded_of_change (C := Try.checked) own started (by kernel_rfl) Try.func4
    (ChangeSpec.witness6 (enc := enc) (C := Try.checked) false ⟨#[], #[.int .i64 0, .int .i64 0, .int .i64 0, .int .i64 0], []⟩ 8 (by kernel_rfl) (by kernel_rfl) (by kernel_rfl) (by kernel_rfl)) ?_
  intro W base args ds gs before hval0 hW hcnd _
  have hval : ∀ (j : Nat) t v, Try.f4.params[j]? = some t → args[j]? = some v → Value.okWide Try.prog W .any base t v := hval0
  have hW' := hW
  obtain ⟨p, q, hA0, hV, rfl, hfz, hnd⟩ := hW
  have hA : DataW.TrodAll enc Try.prog W 0 (fun _ => true) true Try.f4.params.toList args.toList ds p := hA0
  rw [Try.params4] at hA hval
  obtain ⟨v0, vs0, d0, ds0, p0, q0, hargs, rfl, rfl, h0, r0⟩ := trodAll_cons hA
  obtain ⟨v1, vs1, d1, ds1, p1, q1, rfl, rfl, rfl, h1, r1⟩ := trodAll_cons r0
  obtain ⟨v2, vs2, d2, ds2, p2, q2, rfl, rfl, rfl, h2, r2⟩ := trodAll_cons r1
  obtain ⟨v3, vs3, d3, ds3, p3, q3, rfl, rfl, rfl, h3, r3⟩ := trodAll_cons r2
  obtain ⟨rfl, rfl, rfl⟩ := trodAll_nil r3
  obtain rfl : args = #[v0, v1, v2, v3] := by cases args; simp_all
  obtain ⟨rfl, rfl⟩ := trodVars_none hV
  obtain ⟨a0, rfl, rfl, rfl, w0⟩ := open_int Try.underlying3 (hval 0 3 v0 rfl rfl) h0
  obtain ⟨a1, rfl, rfl, rfl, w1⟩ := open_int Try.underlying3 (hval 1 3 v1 rfl rfl) h1
  obtain ⟨a2, rfl, rfl, rfl, w2⟩ := open_int Try.underlying3 (hval 2 3 v2 rfl rfl) h2
  obtain ⟨a3, rfl, rfl, rfl, w3⟩ := open_int Try.underlying3 (hval 3 3 v3 rfl rfl) h3
  clear hA0 hval0
  simp only [List.append_nil] at hW'
  refine (walk a0 a1 a2 a3 w0 w1 w2 w3 W).mono fun e W' ⟨he, hg⟩ => ?_
  subst he
  exact ⟨_, rfl, post_below (pa := []) (pv := []) hW' (fun _ _ _ => (trodAll_cons_mk (shut_bool Try.underlying4 _) trodAll_mk0)) (fun sp _ => (trodAll_cons_mk (shut_int Try.underlying3 w0) (trodAll_cons_mk (shut_int Try.underlying3 w1) (trodAll_cons_mk (shut_int Try.underlying3 w2) (trodAll_cons_mk (shut_int Try.underlying3 w3) trodAll_mk0))))) (fun _ _ => rfl) rfl hg⟩

theorem over : Rows.walkTurnsRow.holds Try.pinned (OpenSpec.ofChange Rows.walkTurnsSpec) :=
  OpenClaim.holds_of_wide 4 Try.f4 rfl rfl rfl rfl rfl rfl rfl ⟨rfl, rfl, rfl, rfl, rfl⟩ rfl rfl rfl rfl rfl (by kernel_rfl) Try.func4 (by kernel_rfl)
    (of_decide_eq_true (by kernel_rfl)) (by unfold Func.isWrapper; first | (rw [if_pos (by decide +kernel)]; kernel_rfl) | (rw [if_neg (by decide +kernel)]; exact ⟨rfl, rfl⟩))
    (fun os started H enc _ => lifted os started H enc)

/-- ████ THE STATEMENT ████ -/
theorem proved : Rows.WalkTurnsSaid :=
  over
end Go.Proofs.Ytfajenfdcpepjaa.walkTurns

namespace Go.Proofs.Ytfajenfdcpepjaa
/-- the statement -/
theorem walkTurns_holds : Rows.WalkTurnsSaid := walkTurns.proved
#print axioms walkTurns_holds
end Go.Proofs.Ytfajenfdcpepjaa
