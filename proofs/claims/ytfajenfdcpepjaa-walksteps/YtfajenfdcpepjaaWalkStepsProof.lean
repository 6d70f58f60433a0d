/- WalkSteps, for every text: it answers true: from place to place a path goes the step of its byte, it begins at 0, and ends at its end; no condition. -/
import Derived.Test.YtfajenfdcpepjaaBoxes
import Derived.Test.YtfajenfdcpepjaaShut
import Derived.Test.YtfajenfdcpepjaaRows
import Derived.WalkKit
import Derived.ProofKit
import Derived.OpenShut
import Derived.ShutString
namespace Go.Proofs.Ytfajenfdcpepjaa.walkSteps
open Go.ChangeShapes Go.WideShapes Go.ChangeAt Go.RowKit
open Go.ChangeMaps (open_string shut_string)
set_option linter.unusedVariables false

theorem own : ownKnob Try.prog.godebug = none := by kernel_rfl

set_option maxHeartbeats 2000000
set_option maxRecDepth 100000

theorem quiet_same {P : Program} {f : FuncId} {args : Array Value} {w : World} {n x : Nat} {v : Value} (h : Calls P f args (w.drewN (n + x)) fun e w' => e = .returned v ∧ w' = w.drewN (n + x)) :
    Calls P f args (w.drewN (n + x)) fun e w'' => e = .returned v ∧ ∃ m, w'' = w.drewN (n + m) :=
  h.mono fun _ _ ⟨he, hm⟩ => ⟨he, x, hm⟩

theorem order_self (a : Int) (ha : a.natAbs < 2 ^ 50) : FloatKind.f64.format.order (fl a) (fl a) = some .eq := by
  have h : FloatKind.f64.format.order (fl a) (fl a) = some (compare a a) := order_fl a a (by omega) (by omega)
  rw [h]
  simp [compare, compareOfLessAndEq]

theorem below_drewN {B : Nat} {a w : World} (h : Below B a w) (j : Nat) : Below B a (w.drewN j) := ⟨h.os, h.tape, h.output, h.size, h.block⟩

/-! ### The walk -/
theorem walk (a0 : ByteArray) (w0 : a0.size ≤ maxLen) (w : World) :
    Calls Try.prog 6 #[.string a0] w fun e w' => e = .returned (.bool true) ∧ Below w.heap.size w w' := by
  by_cases h0 : 200 < a0.size
  · go_enter Try.func6, Try.ntmps6
    go_wp2_with (go_at_call 9; refine (alive_b _).mono ?_; rintro e w1 ⟨rfl, hb1⟩)
    go_ret
    exact ⟨rfl, hb1⟩
  have t3 := fun w => path_b a0 w (by omega)
  have t4 := fun w => ends_any a0 w (by omega)
  have l0 := end_le a0
  have oz := order_zz
  have o1 := order_self (endX a0) (by omega)
  have o2 := order_self (endY a0) (by omega)
  have p0 : placeV a0 0 = .complex .f64 0 0 := by unfold placeV posX posY; rw [fl_zero]
  have pn : placeV a0 a0.size = .complex .f64 (fl (endX a0)) (fl (endY a0)) := by unfold placeV; rw [(end_pos a0).1, (end_pos a0).2]
  clear l0
  generalize fl (endX a0) = x at *
  generalize fl (endY a0) = y at *
  have T3 : Hid (∀ w, _) := t3
  have T4 : Hid (∀ w, _) := t4
  have PN : Hid (placeV a0 0 = .complex .f64 0 0 ∧ placeV a0 a0.size = .complex .f64 x y) := ⟨p0, pn⟩
  clear t3 t4 w0 p0 pn
  go_enter Try.func6, Try.ntmps6
  go_wp2_with (first | (go_at_call 9; refine (alive_b _).mono ?_; rintro e w1 ⟨rfl, hb1⟩) | (go_at_call 10; with_reducible refine (T3.out _).mono ?_; rintro e w4 ⟨rfl, hb4, HC⟩))
  have c0 := HC.out 0 (Nat.zero_le _)
  have cn := HC.out a0.size (Nat.le_refl _)
  rw [PN.out.1] at c0
  rw [PN.out.2] at cn
  have HB : Hid (Below w1.heap.size w1 w4) := hb4
  clear hb4
  generalize hg : w1.heap.size = g at *
  have HG : Hid (w1.heap.size = g) := hg
  clear hg
  go_quiet ((go_at_call 18; exact Calls.quiet_of_same (T4.out _)))
  go_wp2
  clear c0 cn o1 o2
  go_loopw [4] (fun i wr => ∃ k j : Nat, k ≤ a0.size ∧ i = .int .i64 k ∧ wr = w4.drewN j) (fun i _ => a0.size - (intOf i).toNat)
  case atStart => exact ⟨0, nq, Nat.zero_le _, rfl, rfl⟩
  case round =>
    obtain ⟨k, j, hk, rfl, rfl⟩ := hrel
    by_cases hlt : k < a0.size
    · have c1 := HC.out k (by omega)
      have c2 := HC.out (k + 1) (by omega)
      have hb : (a0[k].toNat : Int) ≤ 255 := by have := a0[k].toNat_lt; omega
      have q1 := pos_le a0 k
      have q2 := pos_le a0 (k + 1)
      have hone := step_one (a0[k].toNat : Int)
      have sx := posX_succ a0 k hlt
      have sy := posY_succ a0 k hlt
      have hsub := fun w => csub Try.prog w 37 (posX a0 (k + 1)) (posY a0 (k + 1)) (posX a0 k) (posY a0 k) (by omega) (by omega) (by omega) (by omega)
      rw [show posX a0 (k + 1) - posX a0 k = stepX (a0[k].toNat : Int) by omega, show posY a0 (k + 1) - posY a0 k = stepY (a0[k].toNat : Int) by omega] at hsub
      have t5 := fun w => step_any (a0[k].toNat : Int) w (by omega) (by omega)
      have t6 := fun w => apart_any (posX a0 k) (posY a0 k) (posX a0 (k + 1)) (posY a0 (k + 1)) w (by omega) (by omega) (by omega) (by omega)
      have hf : farI (posX a0 k) (posY a0 k) (posX a0 (k + 1)) (posY a0 (k + 1)) = 1 := by unfold farI; omega
      have o3 := order_self (stepX (a0[k].toNat : Int)) (by omega)
      have o4 := order_self (stepY (a0[k].toNat : Int)) (by omega)
      rw [hf] at t6
      unfold placeV at c1 c2
      have hk1 : (k : Int) + 1 < (a0.size : Int) + 1 := by omega
      clear q1 q2 hone sx sy hf
      generalize fl (posX a0 (k + 1)) = x1 at *
      generalize fl (posY a0 (k + 1)) = y1 at *
      generalize fl (posX a0 k) = x0 at *
      generalize fl (posY a0 k) = y0 at *
      generalize fl (stepX (a0[k].toNat : Int)) = dx at *
      generalize fl (stepY (a0[k].toNat : Int)) = dy at *
      have T5 : Hid (∀ w, _) := t5
      have T6 : Hid (∀ w, _) := t6
      clear t5 t6
      go_wp2
      go_quiet ((first | (go_at_call 16; exact quiet_same (T5.out _)) | (go_at_call 19; exact quiet_same (T6.out _))))
      go_wp2
      go_roundw
      case rel => exact ⟨k + 1, _, by omega, by go_num, rfl⟩
      case measure => simp [intOf]; omega
    · obtain rfl : k = a0.size := by omega
      go_wp2
      go_ret
      exact ⟨rfl, below_drewN (below_twice hb1 (by rw [HG.out]; exact HB.out)) _⟩

/-! ### The row's step -/
set_option maxRecDepth 100000 in
theorem lifted (os : Os) (started : os.Started) (H : Type) (enc : TypeId × Value → H) :
    ReturnsInHanded {} Try.checked os 6 .any (Rows.walkStepsSpec.pre6 enc Try.prog Try.f6 Rows.walkStepsRow.domain false) (Rows.walkStepsSpec.post enc Try.prog Try.f6 false true false false) := by
  refine returnsInHanded_of_change (C := Try.checked) own started (by kernel_rfl) Try.func6
    (ChangeSpec.witness6 (enc := enc) (C := Try.checked) false ⟨#[], #[.string ByteArray.empty], []⟩ 8 (by kernel_rfl) (by kernel_rfl) (by kernel_rfl) (by kernel_rfl)) ?_
  intro W base args ds gs before hval0 hW hcnd _
  have hval : ∀ (j : Nat) t v, Try.f6.params[j]? = some t → args[j]? = some v → Value.okWide Try.prog W .any base t v := hval0
  have hW' := hW
  obtain ⟨p, q, hA0, hV, rfl, hfz, hnd⟩ := hW
  have hA : DataW.TrodAll enc Try.prog W 0 (fun _ => true) true Try.f6.params.toList args.toList ds p := hA0
  rw [Try.params6] at hA hval
  obtain ⟨v0, vs0, d0, ds0, p0, q0, hargs, rfl, rfl, h0, r0⟩ := trodAll_cons hA
  obtain ⟨rfl, rfl, rfl⟩ := trodAll_nil r0
  obtain rfl : args = #[v0] := by cases args; simp_all
  obtain ⟨rfl, rfl⟩ := trodVars_none hV
  obtain ⟨a0, rfl, rfl, rfl, w0⟩ := open_string Try.underlying9 (hval 0 9 v0 rfl rfl) h0
  clear hA0 hval0
  simp only [List.append_nil] at hW'
  refine (walk a0 w0 W).mono fun e W' ⟨he, hg⟩ => ?_
  subst he
  exact ⟨_, rfl, post_below (pa := []) (pv := []) hW' (fun _ _ _ => (trodAll_cons_mk (shut_bool Try.underlying4 _) trodAll_mk0)) (fun sp _ => (trodAll_cons_mk (shut_string Try.underlying9 w0) trodAll_mk0)) (fun _ _ => rfl) rfl hg⟩

theorem over : Rows.walkStepsRow.holds Try.pinned (OpenSpec.ofChange Rows.walkStepsSpec) :=
  OpenClaim.holds_of_wide 6 Try.f6 rfl rfl rfl rfl rfl rfl rfl ⟨rfl, rfl, rfl, rfl, rfl⟩ rfl rfl rfl rfl rfl (by kernel_rfl) Try.func6 (by kernel_rfl)
    (of_decide_eq_true (by kernel_rfl)) (by unfold Func.isWrapper; first | (rw [if_pos (by decide +kernel)]; kernel_rfl) | (rw [if_neg (by decide +kernel)]; exact ⟨rfl, rfl⟩))
    (fun os started H enc _ => lifted os started H enc)

/-- ████ THE STATEMENT ████ -/
theorem proved : Rows.WalkStepsSaid :=
  over
end Go.Proofs.Ytfajenfdcpepjaa.walkSteps

namespace Go.Proofs.Ytfajenfdcpepjaa
/-- the statement -/
theorem walkSteps_holds : Rows.WalkStepsSaid := walkSteps.proved
#print axioms walkSteps_holds
end Go.Proofs.Ytfajenfdcpepjaa
