/- WalkBytes, for every byte: it answers true: a byte's step turned a quarter is that of the next byte, each step is one far, and four in a row come back; no condition. -/
import Derived.Test.YtfajenfdcpepjabMuls
import Derived.Test.YtfajenfdcpepjabText
import Derived.Test.YtfajenfdcpepjabShut
import Derived.Test.YtfajenfdcpepjabRows
import Derived.WalkKit
import Derived.ProofKit
import Derived.OpenShut
import Derived.ShutString
namespace Go.Proofs.Ytfajenfdcpepjab.walkBytes
open Go.ChangeShapes Go.WideShapes Go.ChangeAt Go.RowKit
open Go.ChangeMaps (open_string shut_string)
set_option linter.unusedVariables false

theorem own : ownKnob Try.prog.godebug = none := by kernel_rfl

set_option maxHeartbeats 800000

theorem step_mod (b b' : Int) (h : b % 4 = b' % 4) : stepX b = stepX b' ∧ stepY b = stepY b' := by
  unfold stepX stepY turnX turnY
  rw [h]; exact ⟨rfl, rfl⟩

theorem step_turn (b n : Int) : turnX (stepX b) (stepY b) n = stepX (b + n) ∧ turnY (stepX b) (stepY b) n = stepY (b + n) := by
  unfold stepX stepY
  exact ⟨turnX_turn 1 0 b n, turnY_turn 1 0 b n⟩

theorem step_two (b : Int) : stepX (b + 2) = -stepX b ∧ stepY (b + 2) = -stepY b := by
  obtain ⟨h1, h2⟩ := step_turn b 2
  rw [← h1, ← h2]
  simp [turnX, turnY]

theorem next_mod (c d : UInt8) : ((c + d).toNat : Int) % 4 = ((c.toNat : Int) + (d.toNat : Int)) % 4 := by
  rw [UInt8.toNat_add]; omega

theorem ring_four (c : UInt8) : endX ⟨#[c, c + 1, c + 2, c + 3]⟩ = 0 ∧ endY ⟨#[c, c + 1, c + 2, c + 3]⟩ = 0 := by
  obtain ⟨a1, b1⟩ := step_mod _ _ (next_mod c 1)
  obtain ⟨a2, b2⟩ := step_mod _ _ (next_mod c 2)
  obtain ⟨a3, b3⟩ := step_mod _ _ (next_mod c 3)
  have e1 : ((1 : UInt8).toNat : Int) = 1 := rfl
  have e2 : ((2 : UInt8).toNat : Int) = 2 := rfl
  have e3 : ((3 : UInt8).toNat : Int) = 1 + 2 := rfl
  rw [e1] at a1 b1
  rw [e2, (step_two _).1] at a2
  rw [e2, (step_two _).2] at b2
  rw [e3, ← Int.add_assoc, (step_two _).1] at a3
  rw [e3, ← Int.add_assoc, (step_two _).2] at b3
  show stepX _ + (stepX _ + (stepX _ + (stepX _ + 0))) = 0 ∧ stepY _ + (stepY _ + (stepY _ + (stepY _ + 0))) = 0
  rw [a1, a2, a3, b1, b2, b3]
  omega

theorem ring_two (c : UInt8) : endX ⟨#[c, c + 2]⟩ = 0 ∧ endY ⟨#[c, c + 2]⟩ = 0 := by
  obtain ⟨a2, b2⟩ := step_mod _ _ (next_mod c 2)
  have e2 : ((2 : UInt8).toNat : Int) = 2 := rfl
  rw [e2, (step_two _).1] at a2
  rw [e2, (step_two _).2] at b2
  show stepX _ + (stepX _ + 0) = 0 ∧ stepY _ + (stepY _ + 0) = 0
  rw [a2, b2]
  omega

theorem byte_of (b : Int) (h : (Lit.int .u8 b).wf = true) : ∃ c : UInt8, b = (c.toNat : Int) := by
  have hb : 0 ≤ b ∧ b ≤ 255 := by
    have e1 : IntKind.u8.min = 0 := by decide
    have e2 : IntKind.u8.max = 255 := by decide
    simp only [Lit.wf, e1, e2] at h
    simpa using h
  obtain ⟨n, rfl⟩ := Int.eq_ofNat_of_zero_le hb.1
  refine ⟨UInt8.ofNat n, ?_⟩
  have : n < 256 := by omega
  simp [Nat.mod_eq_of_lt this]

theorem wrap_next (c d : UInt8) : IntKind.u8.wrap ((c.toNat : Int) + (d.toNat : Int)) = ((c + d).toNat : Int) := by
  rw [UInt8.toNat_add]
  show ((c.toNat : Int) + (d.toNat : Int)) % 256 = _
  omega

theorem wrap_last (c : UInt8) : IntKind.u8.wrap ((c.toNat : Int) - 1) = ((c - 1).toNat : Int) := by
  rw [UInt8.toNat_sub]
  show ((c.toNat : Int) - 1) % 256 = _
  have h1 : (1 : UInt8).toNat = 1 := rfl
  rw [h1]
  omega

theorem conv_four (b c d e : UInt8) (g : Nat) (w : World) (hg : g = w.heap.size) :
    (convert 25 9 (.slice (some ⟨g, 0, none⟩) 4 4)).run Try.prog (w.alloc (.cells #[.int .u8 b.toNat, .int .u8 c.toNat, .int .u8 d.toNat, .int .u8 e.toNat] 5)) = .ok (.string ⟨#[b, c, d, e]⟩) (w.alloc (.cells #[.int .u8 b.toNat, .int .u8 c.toNat, .int .u8 d.toNat, .int .u8 e.toNat] 5)) :=
  conv_bytes [b, c, d, e] 4 4 g w rfl hg

theorem conv_two (b c : UInt8) (g : Nat) (w : World) (hg : g = w.heap.size) :
    (convert 25 9 (.slice (some ⟨g, 0, none⟩) 2 2)).run Try.prog (w.alloc (.cells #[.int .u8 b.toNat, .int .u8 c.toNat] 5)) = .ok (.string ⟨#[b, c]⟩) (w.alloc (.cells #[.int .u8 b.toNat, .int .u8 c.toNat] 5)) :=
  conv_bytes [b, c] 2 2 g w rfl hg

/-! ### The walk -/
theorem walk (a0 : Int) (w0 : (Lit.int .u8 a0).wf = true) (w : World) :
    Calls Try.prog 3 #[.int .u8 a0] w fun e w' => e = .returned (.bool true) ∧ Below w.heap.size w w' := by
  obtain ⟨c, rfl⟩ := byte_of a0 w0
  clear w0
  have hl : ∀ d : UInt8, (d.toNat : Int) < 256 := fun d => by have := d.toNat_lt; omega
  have t1 := fun w => step_any (c.toNat : Int) w (by omega) (hl c)
  have t2 := fun w => step_any ((c + 1).toNat : Int) w (by omega) (hl _)
  have t3 := fun w => step_any ((c - 1).toNat : Int) w (by omega) (hl _)
  have hone := step_one (c.toNat : Int)
  have t4 := fun w => turn_any (stepX (c.toNat : Int)) (stepY (c.toNat : Int)) 1 w (by omega) (by omega)
  have t5 := fun w => turn_any (stepX (c.toNat : Int)) (stepY (c.toNat : Int)) (-1) w (by omega) (by omega)
  have t6 := fun w => apart_any 0 0 (stepX (c.toNat : Int)) (stepY (c.toNat : Int)) w (by omega) (by omega) (by omega) (by omega)
  have hfar : farI 0 0 (stepX (c.toNat : Int)) (stepY (c.toNat : Int)) = 1 := by unfold farI; omega
  have m1 := step_mod ((c + 1).toNat : Int) ((c.toNat : Int) + 1) (next_mod c 1)
  have m2 := step_mod ((c - 1).toNat : Int) ((c.toNat : Int) + -1) (by rw [UInt8.toNat_sub]; have h1 : (1 : UInt8).toNat = 1 := rfl; rw [h1]; omega)
  rw [(step_turn _ _).1, (step_turn _ _).2] at t4 t5
  rw [m1.1, m1.2] at t2
  rw [m2.1, m2.2] at t3
  rw [hfar, fl_zero] at t6
  obtain ⟨r1, i1, r2, i2, r3, i3, u1, u2, u3, o1, o2⟩ := pow_four (c.toNat : Int)
  have t7 := fun w => ends_any ⟨#[c, c + 1, c + 2, c + 3]⟩ w (by show 4 ≤ 1000000; decide)
  have t8 := fun w => ends_any ⟨#[c, c + 2]⟩ w (by show 2 ≤ 1000000; decide)
  rw [(ring_four c).1, (ring_four c).2, fl_zero] at t7
  rw [(ring_two c).1, (ring_two c).2, fl_zero] at t8
  have k1 : IntKind.u8.wrap ((c.toNat : Int) + 1) = ((c + 1).toNat : Int) := wrap_next c 1
  have k2 : IntKind.u8.wrap ((c.toNat : Int) + 2) = ((c + 2).toNat : Int) := wrap_next c 2
  have k3 : IntKind.u8.wrap ((c.toNat : Int) + 3) = ((c + 3).toNat : Int) := wrap_next c 3
  have k4 := wrap_last c
  have v4 := fun g w => conv_four c (c + 1) (c + 2) (c + 3) g w
  have v2 := fun g w => conv_two c (c + 2) g w
  clear hl hone hfar m1 m2
  generalize (⟨#[c, c + 1, c + 2, c + 3]⟩ : ByteArray) = R4 at *
  generalize (⟨#[c, c + 2]⟩ : ByteArray) = R2 at *
  generalize fl (stepX (c.toNat : Int)) = x at *
  generalize fl (stepY (c.toNat : Int)) = y at *
  generalize fl (stepX ((c.toNat : Int) + 1)) = x1 at *
  generalize fl (stepY ((c.toNat : Int) + 1)) = y1 at *
  generalize fl (stepX ((c.toNat : Int) + -1)) = x2 at *
  generalize fl (stepY ((c.toNat : Int) + -1)) = y2 at *
  generalize ((c + 1).toNat : Int) = b1 at *
  generalize ((c + 2).toNat : Int) = b2 at *
  generalize ((c + 3).toNat : Int) = b3 at *
  generalize ((c - 1).toNat : Int) = b4 at *
  generalize (c.toNat : Int) = b at *
  have T1 : Hid (∀ w, _) := t1
  have T2 : Hid (∀ w, _) := t2
  have T3 : Hid (∀ w, _) := t3
  have T4 : Hid (∀ w, _) := t4
  have T5 : Hid (∀ w, _) := t5
  have T6 : Hid (∀ w, _) := t6
  have T7 : Hid (∀ w, _) := t7
  have T8 : Hid (∀ w, _) := t8
  clear t1 t2 t3 t4 t5 t6 t7 t8
  go_enter Try.func3, Try.ntmps3
  go_wp2_with (first | (go_at_call 5; refine (alive_b _).mono ?_; rintro e w1 ⟨rfl, hb1⟩) | (go_at_call 7; with_reducible refine (exact_same _ _ _).mono ?_; rintro e w' ⟨rfl, rfl⟩) | (go_at_call 6; with_reducible refine (T1.out _).mono ?_; rintro e w' ⟨rfl, rfl⟩) | (go_at_call 6; with_reducible refine (T2.out _).mono ?_; rintro e w' ⟨rfl, rfl⟩) | (go_at_call 6; with_reducible refine (T3.out _).mono ?_; rintro e w' ⟨rfl, rfl⟩) | (go_at_call 8; with_reducible refine (T4.out _).mono ?_; rintro e w' ⟨rfl, rfl⟩) | (go_at_call 8; with_reducible refine (T5.out _).mono ?_; rintro e w' ⟨rfl, rfl⟩) | (go_at_call 9; with_reducible refine (T6.out _).mono ?_; rintro e w' ⟨rfl, rfl⟩) | (go_at_call 10; with_reducible refine (T7.out _).mono ?_; rintro e w' ⟨rfl, rfl⟩) | (go_at_call 10; with_reducible refine (T8.out _).mono ?_; rintro e w' ⟨rfl, rfl⟩))
  go_ret
  exact ⟨rfl, (hb1.alloc hb1.size _).alloc (by simp; have := hb1.size; omega) _⟩

/-! ### The row's step -/
set_option maxRecDepth 100000 in
theorem lifted (os : Os) (started : os.Started) (H : Type) (enc : TypeId × Value → H) :
    ReturnsInHanded {} Try.checked os 3 .any (Rows.walkBytesSpec.pre6 enc Try.prog Try.f3 Rows.walkBytesRow.domain false) (Rows.walkBytesSpec.post enc Try.prog Try.f3 false true false false) := by
  refine returnsInHanded_of_change (C := Try.checked) own started (by kernel_rfl) Try.func3
    (ChangeSpec.witness6 (enc := enc) (C := Try.checked) false ⟨#[], #[.int .u8 0], []⟩ 8 (by kernel_rfl) (by kernel_rfl) (by kernel_rfl) (by kernel_rfl)) ?_
  intro W base args ds gs before hval0 hW hcnd _
  have hval : ∀ (j : Nat) t v, Try.f3.params[j]? = some t → args[j]? = some v → Value.okWide Try.prog W .any base t v := hval0
  have hW' := hW
  obtain ⟨p, q, hA0, hV, rfl, hfz, hnd⟩ := hW
  have hA : DataW.TrodAll enc Try.prog W 0 (fun _ => true) true Try.f3.params.toList args.toList ds p := hA0
  rw [Try.params3] at hA hval
  obtain ⟨v0, vs0, d0, ds0, p0, q0, hargs, rfl, rfl, h0, r0⟩ := trodAll_cons hA
  obtain ⟨rfl, rfl, rfl⟩ := trodAll_nil r0
  obtain rfl : args = #[v0] := by cases args; simp_all
  obtain ⟨rfl, rfl⟩ := trodVars_none hV
  obtain ⟨a0, rfl, rfl, rfl, w0⟩ := open_int Try.underlying5 (hval 0 5 v0 rfl rfl) h0
  clear hA0 hval0
  simp only [List.append_nil] at hW'
  refine (walk a0 w0 W).mono fun e W' ⟨he, hg⟩ => ?_
  subst he
  exact ⟨_, rfl, post_below (pa := []) (pv := []) hW' (fun _ _ _ => (trodAll_cons_mk (shut_bool Try.underlying4 _) trodAll_mk0)) (fun sp _ => (trodAll_cons_mk (shut_int Try.underlying5 w0) trodAll_mk0)) (fun _ _ => rfl) rfl hg⟩

theorem over : Rows.walkBytesRow.holds Try.pinned (OpenSpec.ofChange Rows.walkBytesSpec) :=
  OpenClaim.holds_of_wide 3 Try.f3 rfl rfl rfl rfl rfl rfl rfl ⟨rfl, rfl, rfl, rfl, rfl⟩ rfl rfl rfl rfl rfl (by kernel_rfl) Try.func3 (by kernel_rfl)
    (of_decide_eq_true (by kernel_rfl)) (by unfold Func.isWrapper; first | (rw [if_pos (by decide +kernel)]; kernel_rfl) | (rw [if_neg (by decide +kernel)]; exact ⟨rfl, rfl⟩))
    (fun os started H enc _ => lifted os started H enc)

/-- ████ THE STATEMENT ████ -/
theorem proved : Rows.WalkBytesSaid :=
  over
end Go.Proofs.Ytfajenfdcpepjab.walkBytes

namespace Go.Proofs.Ytfajenfdcpepjab
/-- the statement -/
theorem walkBytes_holds : Rows.WalkBytesSaid := walkBytes.proved
#print axioms walkBytes_holds
end Go.Proofs.Ytfajenfdcpepjab
