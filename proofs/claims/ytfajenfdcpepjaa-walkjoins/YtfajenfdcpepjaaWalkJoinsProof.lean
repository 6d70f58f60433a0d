/- WalkJoins, for all two texts: it answers true: a text behind another one goes on from where that one ended, and the order of the two does not matter; no condition. -/
import Derived.Test.YtfajenfdcpepjaaEnds
import Derived.Test.YtfajenfdcpepjaaShut
import Derived.Test.YtfajenfdcpepjaaRows
import Derived.WalkKit
import Derived.ProofKit
import Derived.OpenShut
import Derived.ShutString
namespace Go.Proofs.Ytfajenfdcpepjaa.walkJoins
open Go.ChangeShapes Go.WideShapes Go.ChangeAt Go.RowKit
open Go.ChangeMaps (open_string shut_string)
set_option linter.unusedVariables false

theorem own : ownKnob Try.prog.godebug = none := by kernel_rfl

set_option maxHeartbeats 800000

/-! ### The walk -/
theorem walk (a0 : ByteArray) (a1 : ByteArray) (w0 : a0.size ≤ maxLen) (w1 : a1.size ≤ maxLen) (w : World) :
    Calls Try.prog 5 #[.string a0, .string a1] w fun e w' => e = .returned (.bool true) ∧ Below w.heap.size w w' := by
  by_cases h0 : 200 < a0.size
  · go_enter Try.func5, Try.ntmps5
    go_wp2_with (go_at_call 9; refine (alive_b _).mono ?_; rintro e w1 ⟨rfl, hb1⟩)
    go_ret
    exact ⟨rfl, hb1⟩
  by_cases h1 : 200 < a1.size
  · go_enter Try.func5, Try.ntmps5
    go_wp2_with (go_at_call 9; refine (alive_b _).mono ?_; rintro e w1 ⟨rfl, hb1⟩)
    go_ret
    exact ⟨rfl, hb1⟩
  have l0 := end_le a0
  have l1 := end_le a1
  have hsz : (a0 ++ a1).size = a0.size + a1.size := ByteArray.size_append
  have hsz2 : (a1 ++ a0).size = a1.size + a0.size := ByteArray.size_append
  have t1 := fun w => ends_any (a0 ++ a1) w (by omega)
  have t2 := fun w => ends_any (a1 ++ a0) w (by omega)
  have t3 := fun w => ends_any a0 w (by omega)
  have t4 := fun w => ends_any a1 w (by omega)
  have hadd := fun w => cadd Try.prog w 37 (endX a0) (endY a0) (endX a1) (endY a1) (by omega) (by omega) (by omega) (by omega)
  have t5 := fun w => apart_any (endX a0) (endY a0) (endX a0 + endX a1) (endY a0 + endY a1) w (by omega) (by omega) (by omega) (by omega)
  have t6 := fun w => apart_any 0 0 (endX a1) (endY a1) w (by omega) (by omega) (by omega) (by omega)
  have hle : farI (endX a0) (endY a0) (endX a0 + endX a1) (endY a0 + endY a1) ≤ a1.size := by unfold farI; omega
  have hev := end_even a1
  have hfl : farI 0 0 (endX a1) (endY a1) ≤ 200 ∧ 0 ≤ farI 0 0 (endX a1) (endY a1) := by unfold farI; omega
  rw [endX_app, endY_app] at t1
  rw [endX_app, endY_app, Int.add_comm (endX a1), Int.add_comm (endY a1)] at t2
  rw [fl_zero] at t6
  have hwr : wrap64 (farI 0 0 (endX a1) (endY a1) - a1.size) = farI 0 0 (endX a1) (endY a1) - a1.size := by unfold wrap64; omega
  clear l0 l1 hsz hsz2
  generalize fl (endX a0 + endX a1) = x at *
  generalize fl (endY a0 + endY a1) = y at *
  generalize farI (endX a0) (endY a0) (endX a0 + endX a1) (endY a0 + endY a1) = f1 at *
  generalize farI 0 0 (endX a1) (endY a1) = f2 at *
  generalize fl (endX a0) = x0 at *
  generalize fl (endY a0) = y0 at *
  generalize fl (endX a1) = x1 at *
  generalize fl (endY a1) = y1 at *
  have T1 : Hid (∀ w, _) := t1
  have T2 : Hid (∀ w, _) := t2
  have T3 : Hid (∀ w, _) := t3
  have T4 : Hid (∀ w, _) := t4
  have T5 : Hid (∀ w, _) := t5
  have T6 : Hid (∀ w, _) := t6
  clear t1 t2 t3 t4 t5 t6
  go_enter Try.func5, Try.ntmps5
  go_wp2_with (first | (go_at_call 9; refine (alive_b _).mono ?_; rintro e w1 ⟨rfl, hb1⟩) | (go_at_call 13; with_reducible refine (exact_same _ _ _).mono ?_; rintro e w' ⟨rfl, rfl⟩) | (go_at_call 18; with_reducible refine (T1.out _).mono ?_; rintro e w' ⟨rfl, rfl⟩) | (go_at_call 18; with_reducible refine (T2.out _).mono ?_; rintro e w' ⟨rfl, rfl⟩) | (go_at_call 18; with_reducible refine (T3.out _).mono ?_; rintro e w' ⟨rfl, rfl⟩) | (go_at_call 18; with_reducible refine (T4.out _).mono ?_; rintro e w' ⟨rfl, rfl⟩) | (go_at_call 19; with_reducible refine (T5.out _).mono ?_; rintro e w' ⟨rfl, rfl⟩) | (go_at_call 19; with_reducible refine (T6.out _).mono ?_; rintro e w' ⟨rfl, rfl⟩))
  go_ret
  exact ⟨rfl, hb1⟩

/-! ### The row's step -/
set_option maxRecDepth 100000 in
theorem lifted (os : Os) (started : os.Started) (H : Type) (enc : TypeId × Value → H) :
    ReturnsInHanded {} Try.checked os 5 .any (Rows.walkJoinsSpec.pre6 enc Try.prog Try.f5 Rows.walkJoinsRow.domain false) (Rows.walkJoinsSpec.post enc Try.prog Try.f5 false true false false) := by
  refine returnsInHanded_of_change (C := Try.checked) own started (by kernel_rfl) Try.func5
    (ChangeSpec.witness6 (enc := enc) (C := Try.checked) false ⟨#[], #[.string ByteArray.empty, .string ByteArray.empty], []⟩ 8 (by kernel_rfl) (by kernel_rfl) (by kernel_rfl) (by kernel_rfl)) ?_
  intro W base args ds gs before hval0 hW hcnd _
  have hval : ∀ (j : Nat) t v, Try.f5.params[j]? = some t → args[j]? = some v → Value.okWide Try.prog W .any base t v := hval0
  have hW' := hW
  obtain ⟨p, q, hA0, hV, rfl, hfz, hnd⟩ := hW
  have hA : DataW.TrodAll enc Try.prog W 0 (fun _ => true) true Try.f5.params.toList args.toList ds p := hA0
  rw [Try.params5] at hA hval
  obtain ⟨v0, vs0, d0, ds0, p0, q0, hargs, rfl, rfl, h0, r0⟩ := trodAll_cons hA
  obtain ⟨v1, vs1, d1, ds1, p1, q1, rfl, rfl, rfl, h1, r1⟩ := trodAll_cons r0
  obtain ⟨rfl, rfl, rfl⟩ := trodAll_nil r1
  obtain rfl : args = #[v0, v1] := by cases args; simp_all
  obtain ⟨rfl, rfl⟩ := trodVars_none hV
  obtain ⟨a0, rfl, rfl, rfl, w0⟩ := open_string Try.underlying9 (hval 0 9 v0 rfl rfl) h0
  obtain ⟨a1, rfl, rfl, rfl, w1⟩ := open_string Try.underlying9 (hval 1 9 v1 rfl rfl) h1
  clear hA0 hval0
  simp only [List.append_nil] at hW'
  refine (walk a0 a1 w0 w1 W).mono fun e W' ⟨he, hg⟩ => ?_
  subst he
  exact ⟨_, rfl, post_below (pa := []) (pv := []) hW' (fun _ _ _ => (trodAll_cons_mk (shut_bool Try.underlying4 _) trodAll_mk0)) (fun sp _ => (trodAll_cons_mk (shut_string Try.underlying9 w0) (trodAll_cons_mk (shut_string Try.underlying9 w1) trodAll_mk0))) (fun _ _ => rfl) rfl hg⟩

theorem over : Rows.walkJoinsRow.holds Try.pinned (OpenSpec.ofChange Rows.walkJoinsSpec) :=
  OpenClaim.holds_of_wide 5 Try.f5 rfl rfl rfl rfl rfl rfl rfl ⟨rfl, rfl, rfl, rfl, rfl⟩ rfl rfl rfl rfl rfl (by kernel_rfl) Try.func5 (by kernel_rfl)
    (of_decide_eq_true (by kernel_rfl)) (by unfold Func.isWrapper; first | (rw [if_pos (by decide +kernel)]; kernel_rfl) | (rw [if_neg (by decide +kernel)]; exact ⟨rfl, rfl⟩))
    (fun os started H enc _ => lifted os started H enc)

/-- ████ THE STATEMENT ████ -/
theorem proved : Rows.WalkJoinsSaid :=
  over
end Go.Proofs.Ytfajenfdcpepjaa.walkJoins

namespace Go.Proofs.Ytfajenfdcpepjaa
/-- the statement -/
theorem walkJoins_holds : Rows.WalkJoinsSaid := walkJoins.proved
#print axioms walkJoins_holds
end Go.Proofs.Ytfajenfdcpepjaa
