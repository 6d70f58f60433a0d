/- WalkApart, for all three texts and every number: it answers true: how far two ends are is a distance, and turned alike it is the same; no condition. -/
import Derived.Test.YtfajenfdcpepjaaEnds
import Derived.Test.YtfajenfdcpepjaaShut
import Derived.Test.YtfajenfdcpepjaaRows
import Derived.WalkKit
import Derived.ProofKit
import Derived.OpenShut
import Derived.ShutString
namespace Go.Proofs.Ytfajenfdcpepjaa.walkApart
open Go.ChangeShapes Go.WideShapes Go.ChangeAt Go.RowKit
open Go.ChangeMaps (open_string shut_string)
set_option linter.unusedVariables false

theorem own : ownKnob Try.prog.godebug = none := by kernel_rfl

set_option maxHeartbeats 600000

theorem far_turn (a b c d n : Int) : farI (turnX a b n) (turnY a b n) (turnX c d n) (turnY c d n) = farI a b c d := by
  unfold farI turnX turnY
  repeat' split
  all_goals omega

theorem far_sym (a b c d : Int) : farI c d a b = farI a b c d := by unfold farI; omega

theorem tri (a b c : Int) : ((c - a).natAbs : Int) ≤ ((b - a).natAbs : Int) + ((c - b).natAbs : Int) := by omega

theorem far_tri (a b c d e f : Int) : farI a b e f ≤ farI a b c d + farI c d e f := by
  have h1 := tri a c e
  have h2 := tri b d f
  unfold farI
  generalize ((e - a).natAbs : Int) = p1 at *
  generalize ((f - b).natAbs : Int) = p2 at *
  omega

theorem far_bound (a b c d : Int) (n m : Nat) (h1 : a.natAbs + b.natAbs ≤ n) (h2 : c.natAbs + d.natAbs ≤ m) : 0 ≤ farI a b c d ∧ farI a b c d ≤ n + m := by
  unfold farI; omega

theorem far_zero (a b c d : Int) : (farI a b c d == 0) = (decide (a = c) && decide (b = d)) := by
  by_cases e1 : a = c
  · by_cases e2 : b = d
    · have : farI a b c d = 0 := by unfold farI; omega
      rw [this]; simp [e1, e2]
    · have : farI a b c d ≠ 0 := by unfold farI; omega
      simp only [e2, decide_false, Bool.and_false]; simpa using this
  · have : farI a b c d ≠ 0 := by unfold farI; omega
    simp only [e1, decide_false, Bool.false_and]; simpa using this

theorem wrap_small (p q : Int) (hp : 0 ≤ p ∧ p ≤ 1000) (hq : 0 ≤ q ∧ q ≤ 1000) : wrap64 (p + q) = p + q := by unfold wrap64; omega

theorem small_end (s : ByteArray) (h : s.size ≤ 100) : (endX s).natAbs < 2 ^ 50 ∧ (endY s).natAbs < 2 ^ 50 := by
  have := end_le s
  omega

theorem lt_more {n : Nat} (h : n < 2 ^ 50) : n < 2 ^ 53 := by omega

theorem far_self (a b : Int) : farI a b a b = 0 := by unfold farI; omega

theorem order_eq (a b : Int) (ha : a.natAbs < 2 ^ 50) (hb : b.natAbs < 2 ^ 50) : (FloatKind.f64.format.order (fl a) (fl b) == some .eq) = decide (a = b) := by
  show (Ieee.double.order (fl a) (fl b) == some .eq) = decide (a = b)
  rw [order_fl a b (by omega) (by omega)]
  rcases Int.lt_trichotomy a b with g | g | g
  · have : a ≠ b := by omega
    simp [compare, compareOfLessAndEq, g, this]
  · subst g
    simp [compare, compareOfLessAndEq]
  · have h1 : ¬ a < b := by omega
    have h2 : a ≠ b := by omega
    simp [compare, compareOfLessAndEq, h1, h2]

/-! ### The walk -/
theorem walk (a0 : ByteArray) (a1 : ByteArray) (a2 : ByteArray) (a3 : Int) (w0 : a0.size ≤ maxLen) (w1 : a1.size ≤ maxLen) (w2 : a2.size ≤ maxLen) (w3 : (Lit.int .i64 a3).wf = true) (w : World) :
    Calls Try.prog 8 #[.string a0, .string a1, .string a2, .int .i64 a3] w fun e w' => e = .returned (.bool true) ∧ Below w.heap.size w w' := by
  clear w3
  by_cases h0 : 100 < a0.size
  · go_enter Try.func8, Try.ntmps8
    go_wp2_with (go_at_call 9; refine (alive_b _).mono ?_; rintro e w1 ⟨rfl, hb1⟩)
    go_ret
    exact ⟨rfl, hb1⟩
  by_cases h1 : 100 < a1.size
  · go_enter Try.func8, Try.ntmps8
    go_wp2_with (go_at_call 9; refine (alive_b _).mono ?_; rintro e w1 ⟨rfl, hb1⟩)
    go_ret
    exact ⟨rfl, hb1⟩
  by_cases h2 : 100 < a2.size
  · go_enter Try.func8, Try.ntmps8
    go_wp2_with (go_at_call 9; refine (alive_b _).mono ?_; rintro e w1 ⟨rfl, hb1⟩)
    go_ret
    exact ⟨rfl, hb1⟩
  by_cases h3 : a3 < -1152921504606846976
  · go_enter Try.func8, Try.ntmps8
    go_wp2_with (go_at_call 9; refine (alive_b _).mono ?_; rintro e w1 ⟨rfl, hb1⟩)
    go_ret
    exact ⟨rfl, hb1⟩
  by_cases h4 : 1152921504606846976 < a3
  · go_enter Try.func8, Try.ntmps8
    go_wp2_with (go_at_call 9; refine (alive_b _).mono ?_; rintro e w1 ⟨rfl, hb1⟩)
    go_ret
    exact ⟨rfl, hb1⟩
  have l0 := end_le a0
  have l1 := end_le a1
  have l2 := end_le a2
  obtain ⟨p0, q0⟩ := small_end a0 (by omega)
  obtain ⟨p1, q1⟩ := small_end a1 (by omega)
  obtain ⟨p2, q2⟩ := small_end a2 (by omega)
  have t1 := fun w => ends_any a0 w (by omega)
  have t2 := fun w => ends_any a1 w (by omega)
  have t3 := fun w => ends_any a2 w (by omega)
  have lt0 := turn_lt (endX a0) (endY a0) a3 (2 ^ 50) p0 q0
  have lt1 := turn_lt (endX a1) (endY a1) a3 (2 ^ 50) p1 q1
  have t4 := fun w => turn_any (endX a0) (endY a0) a3 w (lt_more p0) (lt_more q0)
  have t5 := fun w => turn_any (endX a1) (endY a1) a3 w (lt_more p1) (lt_more q1)
  have t6 := fun w => apart_any (endX a0) (endY a0) (endX a0) (endY a0) w p0 q0 p0 q0
  have t7 := fun w => apart_any (endX a0) (endY a0) (endX a1) (endY a1) w p0 q0 p1 q1
  have t8 := fun w => apart_any (endX a1) (endY a1) (endX a0) (endY a0) w p1 q1 p0 q0
  have t9 := fun w => apart_any (endX a0) (endY a0) (endX a2) (endY a2) w p0 q0 p2 q2
  have t10 := fun w => apart_any (endX a1) (endY a1) (endX a2) (endY a2) w p1 q1 p2 q2
  have t11 := fun w => apart_any _ _ _ _ w lt0.1 lt0.2 lt1.1 lt1.2
  rw [far_self] at t6
  rw [far_sym] at t8
  rw [far_turn] at t11
  have ox := order_eq (endX a0) (endX a1) p0 p1
  have oy := order_eq (endY a0) (endY a1) q0 q1
  have hle := far_tri (endX a0) (endY a0) (endX a1) (endY a1) (endX a2) (endY a2)
  have b1 := far_bound _ _ _ _ _ _ l0 l1
  have b2 := far_bound _ _ _ _ _ _ l1 l2
  have hwr := wrap_small (farI (endX a0) (endY a0) (endX a1) (endY a1)) (farI (endX a1) (endY a1) (endX a2) (endY a2)) ⟨b1.1, by omega⟩ ⟨b2.1, by omega⟩
  have hz := far_zero (endX a0) (endY a0) (endX a1) (endY a1)
  clear b1 b2
  clear l0 l1 l2 lt0 lt1 p0 q0 p1 q1 p2 q2 w0 w1 w2
  generalize fl (turnX (endX a0) (endY a0) a3) = tx0 at *
  generalize fl (turnY (endX a0) (endY a0) a3) = ty0 at *
  generalize fl (turnX (endX a1) (endY a1) a3) = tx1 at *
  generalize fl (turnY (endX a1) (endY a1) a3) = ty1 at *
  generalize farI (endX a0) (endY a0) (endX a1) (endY a1) = f1 at *
  generalize farI (endX a0) (endY a0) (endX a2) (endY a2) = f2 at *
  generalize farI (endX a1) (endY a1) (endX a2) (endY a2) = f3 at *
  generalize decide (endX a0 = endX a1) = b1 at *
  generalize decide (endY a0 = endY a1) = b2 at *
  generalize fl (endX a0) = x0 at *
  generalize fl (endY a0) = y0 at *
  generalize fl (endX a1) = x1 at *
  generalize fl (endY a1) = y1 at *
  generalize fl (endX a2) = x2 at *
  generalize fl (endY a2) = y2 at *
  have T1 : Hid (∀ w, _) := t1
  have T2 : Hid (∀ w, _) := t2
  have T3 : Hid (∀ w, _) := t3
  have T4 : Hid (∀ w, _) := t4
  have T5 : Hid (∀ w, _) := t5
  have T6 : Hid (∀ w, _) := t6
  have T7 : Hid (∀ w, _) := t7
  have T8 : Hid (∀ w, _) := t8
  have T9 : Hid (∀ w, _) := t9
  have T10 : Hid (∀ w, _) := t10
  have T11 : Hid (∀ w, _) := t11
  clear t1 t2 t3 t4 t5 t6 t7 t8 t9 t10 t11
  go_enter Try.func8, Try.ntmps8
  go_wp2_with (first | (go_at_call 9; refine (alive_b _).mono ?_; rintro e w1 ⟨rfl, hb1⟩) | (go_at_call 18; with_reducible refine (T1.out _).mono ?_; rintro e w' ⟨rfl, rfl⟩) | (go_at_call 18; with_reducible refine (T2.out _).mono ?_; rintro e w' ⟨rfl, rfl⟩) | (go_at_call 18; with_reducible refine (T3.out _).mono ?_; rintro e w' ⟨rfl, rfl⟩) | (go_at_call 22; with_reducible refine (T4.out _).mono ?_; rintro e w' ⟨rfl, rfl⟩) | (go_at_call 22; with_reducible refine (T5.out _).mono ?_; rintro e w' ⟨rfl, rfl⟩) | (go_at_call 19; with_reducible refine (T6.out _).mono ?_; rintro e w' ⟨rfl, rfl⟩) | (go_at_call 19; with_reducible refine (T7.out _).mono ?_; rintro e w' ⟨rfl, rfl⟩) | (go_at_call 19; with_reducible refine (T8.out _).mono ?_; rintro e w' ⟨rfl, rfl⟩) | (go_at_call 19; with_reducible refine (T9.out _).mono ?_; rintro e w' ⟨rfl, rfl⟩) | (go_at_call 19; with_reducible refine (T10.out _).mono ?_; rintro e w' ⟨rfl, rfl⟩) | (go_at_call 19; with_reducible refine (T11.out _).mono ?_; rintro e w' ⟨rfl, rfl⟩))
  go_ret
  exact ⟨ret_bool (by first | rfl | simp), hb1⟩

/-! ### The row's step -/
set_option maxRecDepth 100000 in
theorem lifted (os : Os) (started : os.Started) (H : Type) (enc : TypeId × Value → H) :
    ReturnsInHanded {} Try.checked os 8 .any (Rows.walkApartSpec.pre6 enc Try.prog Try.f8 Rows.walkApartRow.domain false) (Rows.walkApartSpec.post enc Try.prog Try.f8 false true false false) := by
  refine returnsInHanded_of_change (C := Try.checked) own started (by kernel_rfl) Try.func8
    (ChangeSpec.witness6 (enc := enc) (C := Try.checked) false ⟨#[], #[.string ByteArray.empty, .string ByteArray.empty, .string ByteArray.empty, .int .i64 0], []⟩ 8 (by kernel_rfl) (by kernel_rfl) (by kernel_rfl) (by kernel_rfl)) ?_
  intro W base args ds gs before hval0 hW hcnd _
  have hval : ∀ (j : Nat) t v, Try.f8.params[j]? = some t → args[j]? = some v → Value.okWide Try.prog W .any base t v := hval0
  have hW' := hW
  obtain ⟨p, q, hA0, hV, rfl, hfz, hnd⟩ := hW
  have hA : DataW.TrodAll enc Try.prog W 0 (fun _ => true) true Try.f8.params.toList args.toList ds p := hA0
  rw [Try.params8] at hA hval
  obtain ⟨v0, vs0, d0, ds0, p0, q0, hargs, rfl, rfl, h0, r0⟩ := trodAll_cons hA
  obtain ⟨v1, vs1, d1, ds1, p1, q1, rfl, rfl, rfl, h1, r1⟩ := trodAll_cons r0
  obtain ⟨v2, vs2, d2, ds2, p2, q2, rfl, rfl, rfl, h2, r2⟩ := trodAll_cons r1
  obtain ⟨v3, vs3, d3, ds3, p3, q3, rfl, rfl, rfl, h3, r3⟩ := trodAll_cons r2
  obtain ⟨rfl, rfl, rfl⟩ := trodAll_nil r3
  obtain rfl : args = #[v0, v1, v2, v3] := by cases args; simp_all
  obtain ⟨rfl, rfl⟩ := trodVars_none hV
  obtain ⟨a0, rfl, rfl, rfl, w0⟩ := open_string Try.underlying9 (hval 0 9 v0 rfl rfl) h0
  obtain ⟨a1, rfl, rfl, rfl, w1⟩ := open_string Try.underlying9 (hval 1 9 v1 rfl rfl) h1
  obtain ⟨a2, rfl, rfl, rfl, w2⟩ := open_string Try.underlying9 (hval 2 9 v2 rfl rfl) h2
  obtain ⟨a3, rfl, rfl, rfl, w3⟩ := open_int Try.underlying3 (hval 3 3 v3 rfl rfl) h3
  clear hA0 hval0
  simp only [List.append_nil] at hW'
  refine (walk a0 a1 a2 a3 w0 w1 w2 w3 W).mono fun e W' ⟨he, hg⟩ => ?_
  subst he
  exact ⟨_, rfl, post_below (pa := []) (pv := []) hW' (fun _ _ _ => (trodAll_cons_mk (shut_bool Try.underlying4 _) trodAll_mk0)) (fun sp _ => (trodAll_cons_mk (shut_string Try.underlying9 w0) (trodAll_cons_mk (shut_string Try.underlying9 w1) (trodAll_cons_mk (shut_string Try.underlying9 w2) (trodAll_cons_mk (shut_int Try.underlying3 w3) trodAll_mk0))))) (fun _ _ => rfl) rfl hg⟩

theorem over : Rows.walkApartRow.holds Try.pinned (OpenSpec.ofChange Rows.walkApartSpec) :=
  OpenClaim.holds_of_wide 8 Try.f8 rfl rfl rfl rfl rfl rfl rfl ⟨rfl, rfl, rfl, rfl, rfl⟩ rfl rfl rfl rfl rfl (by kernel_rfl) Try.func8 (by kernel_rfl)
    (of_decide_eq_true (by kernel_rfl)) (by unfold Func.isWrapper; first | (rw [if_pos (by decide +kernel)]; kernel_rfl) | (rw [if_neg (by decide +kernel)]; exact ⟨rfl, rfl⟩))
    (fun os started H enc _ => lifted os started H enc)

/-- ████ THE STATEMENT ████ -/
theorem proved : Rows.WalkApartSaid :=
  over
end Go.Proofs.Ytfajenfdcpepjaa.walkApart

namespace Go.Proofs.Ytfajenfdcpepjaa
/-- the statement -/
theorem walkApart_holds : Rows.WalkApartSaid := walkApart.proved
#print axioms walkApart_holds
end Go.Proofs.Ytfajenfdcpepjaa
