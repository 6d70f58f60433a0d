/- WalkTells, for every byte and every two texts: it answers true: each byte's step, each text's path, end and box, and how far two are, are the document's, and the lists that were told lie apart; no condition. -/
import Derived.Test.YtfajenfdcpepjaaPtState
import Derived.Test.YtfajenfdcpepjaaShut
import Derived.Test.YtfajenfdcpepjaaRows
import Derived.WalkKit
import Derived.ProofKit
import Derived.OpenShut
import Derived.ShutString
namespace Go.Proofs.Ytfajenfdcpepjaa.walkTells
open Go.ChangeShapes Go.WideShapes Go.ChangeAt Go.RowKit
open Go.ChangeMaps (open_string shut_string)
set_option linter.unusedVariables false

theorem own : ownKnob Try.prog.godebug = none := by kernel_rfl

set_option maxHeartbeats 4000000
set_option maxRecDepth 100000

theorem quiet_same {P : Program} {f : FuncId} {args : Array Value} {w : World} {n x : Nat} {v : Value} (h : Calls P f args (w.drewN (n + x)) fun e w' => e = .returned v ∧ w' = w.drewN (n + x)) :
    Calls P f args (w.drewN (n + x)) fun e w'' => e = .returned v ∧ ∃ m, w'' = w.drewN (n + m) :=
  h.mono fun _ _ ⟨he, hm⟩ => ⟨he, x, hm⟩

theorem byte_in (b : Int) (h : (Lit.int .u8 b).wf = true) : 0 ≤ b ∧ b < 256 := by
  have e1 : IntKind.u8.min = 0 := by decide
  have e2 : IntKind.u8.max = 255 := by decide
  simp only [Lit.wf, e1, e2] at h
  simp at h
  omega

theorem small (a : Int) (n : Nat) (h : a.natAbs ≤ n) (hn : n ≤ 1000) : a.natAbs < 2 ^ 50 := by omega

theorem small_end (s : ByteArray) (h : s.size ≤ 300) : (endX s).natAbs < 2 ^ 50 ∧ (endY s).natAbs < 2 ^ 50 := by
  have := end_le s
  omega

theorem zero_box (s : ByteArray) : placeV s 0 = .complex .f64 (fl (loP (posX s) 0)) (fl (loP (posY s) 0)) ∧ placeV s 0 = .complex .f64 (fl (hiP (posX s) 0)) (fl (hiP (posY s) 0)) := ⟨rfl, rfl⟩

theorem below_far {w6 w9 : World} {j : Nat} (h : Below (w6.drewN j).heap.size (w6.drewN j) w9) : Below w6.heap.size w6 w9 := ⟨h.os, h.tape, h.output, h.size, h.block⟩

/-! ### The walk -/
theorem walk (a0 : Int) (a1 : ByteArray) (a2 : ByteArray) (w0 : (Lit.int .u8 a0).wf = true) (w1 : a1.size ≤ maxLen) (w2 : a2.size ≤ maxLen) (w : World) :
    Calls Try.prog 3 #[.int .u8 a0, .string a1, .string a2] w fun e w' => e = .returned (.bool true) ∧ Below w.heap.size w w' := by
  obtain ⟨hb0, hb255⟩ := byte_in a0 w0
  clear w0
  by_cases h1 : 300 < a1.size
  · go_enter Try.func3, Try.ntmps3
    go_wp2_with (go_at_call 9; refine (alive_b _).mono ?_; rintro e w1 ⟨rfl, hb1⟩)
    go_ret
    exact ⟨rfl, hb1⟩
  by_cases h2 : 300 < a2.size
  · go_enter Try.func3, Try.ntmps3
    go_wp2_with (go_at_call 9; refine (alive_b _).mono ?_; rintro e w1 ⟨rfl, hb1⟩)
    go_ret
    exact ⟨rfl, hb1⟩
  clear w1 w2
  have hs1 : a1.size ≤ 1000000 := by omega
  obtain ⟨x1, y1⟩ := small_end a1 (by omega)
  obtain ⟨x2, y2⟩ := small_end a2 (by omega)
  have t1 := fun w => step_any a0 w hb0 hb255
  have t2 := fun w => refstep_any a0 w hb0
  have t3 := fun w => ends_any a1 w (by omega)
  have t4 := fun w => refend_any a1 w (by omega)
  have t5 := fun w => refend_any a2 w (by omega)
  have t6 := fun w => apart_any _ _ _ _ w x1 y1 x2 y2
  have t7 := fun w => refapart_any _ _ _ _ w x1 y1 x2 y2
  have t8 := fun w => box_b a1 w hs1
  unfold boxLo boxHi at t8
  have mins : ∀ k, k < a1.size + 1 → (∀ ts t w, (Builtin.min_ ts t #[.float .f64 (fl (loP (posX a1) k)), .float .f64 (fl (posX a1 k))]).run Try.prog w = .ok (.float .f64 (fl (loP (posX a1) (k + 1)))) w) ∧
      (∀ ts t w, (Builtin.min_ ts t #[.float .f64 (fl (loP (posY a1) k)), .float .f64 (fl (posY a1 k))]).run Try.prog w = .ok (.float .f64 (fl (loP (posY a1) (k + 1)))) w) ∧
      (∀ ts t w, (Builtin.max_ ts t #[.float .f64 (fl (hiP (posX a1) k)), .float .f64 (fl (posX a1 k))]).run Try.prog w = .ok (.float .f64 (fl (hiP (posX a1) (k + 1)))) w) ∧
      (∀ ts t w, (Builtin.max_ ts t #[.float .f64 (fl (hiP (posY a1) k)), .float .f64 (fl (posY a1 k))]).run Try.prog w = .ok (.float .f64 (fl (hiP (posY a1) (k + 1)))) w) := by
    intro k hk
    have p1 := small _ _ (posX_le a1 k) (by omega)
    have p2 := small _ _ (posY_le a1 k) (by omega)
    have p3 := small _ _ (loP_bound (posX a1) k (posX_le a1) k (Nat.le_refl _)) (by omega)
    have p4 := small _ _ (loP_bound (posY a1) k (posY_le a1) k (Nat.le_refl _)) (by omega)
    have p5 := small _ _ (hiP_bound (posX a1) k (posX_le a1) k (Nat.le_refl _)) (by omega)
    have p6 := small _ _ (hiP_bound (posY a1) k (posY_le a1) k (Nat.le_refl _)) (by omega)
    exact ⟨fun ts t w => run_min_fl ts t _ _ Try.prog w p3 p1, fun ts t w => run_min_fl ts t _ _ Try.prog w p4 p2, fun ts t w => run_max_fl ts t _ _ Try.prog w p5 p1, fun ts t w => run_max_fl ts t _ _ Try.prog w p6 p2⟩
  generalize fl (stepX a0) = sx at *
  generalize fl (stepY a0) = sy at *
  generalize farI (endX a1) (endY a1) (endX a2) (endY a2) = far at *
  generalize fl (endX a1) = ex1 at *
  generalize fl (endY a1) = ey1 at *
  generalize fl (endX a2) = ex2 at *
  generalize fl (endY a2) = ey2 at *
  have T1 : Hid (∀ w, _) := t1
  have T2 : Hid (∀ w, _) := t2
  have T3 : Hid (∀ w, _) := t3
  have T4 : Hid (∀ w, _) := t4
  have T5 : Hid (∀ w, _) := t5
  have T6 : Hid (∀ w, _) := t6
  have T7 : Hid (∀ w, _) := t7
  have T8 : Hid (∀ w, _) := t8
  have MINS := hid mins
  clear t1 t2 t3 t4 t5 t6 t7 t8 mins x1 y1 x2 y2
  go_enter Try.func3, Try.ntmps3
  go_wp2_with (go_at_call 9; refine (alive_b _).mono ?_; rintro e w1 ⟨rfl, hb1⟩)
  refine (path_own a1 _ hs1).mono ?_
  rintro e w2 ⟨rfl, lt2, o1, b2⟩
  go_wp2_with fail
  refine (path_own a1 _ hs1).mono ?_
  rintro e w3 ⟨rfl, lt3, o2, b3⟩
  go_wp2_with fail
  refine (refpath_own a1 _ hs1).mono ?_
  rintro e w4 ⟨v, rfl, o3, b4⟩
  obtain ⟨W, hW, bk, p1, p2, p3, bl, s1, s4⟩ := told_start hb1 b2.out b3.out b4.out o1.out o2.out o3.out
  obtain ⟨gw, ow, capw, rfl, -⟩ := owns_last hs1 p3
  have hX : (pathK a1 (a1.size + 1)).length = a1.size + 1 := len_path _ _
  have HW := hid hW
  have BK := hid bk
  have O1 := hid p1
  have O2 := hid p2
  have O3 := hid p3
  have BL := hid bl
  have HX := hid hX
  clear hW bk p1 p2 p3 bl hX o1 o2 o3 b2 b3 b4 hb1
  go_wp2_with fail
  refine at_world HW.out ?_
  refine (ints_any _ w.heap.size newBook _ _ _ [] [] (pathK a1 (a1.size + 1)) W BK.out (by rw [HX.out]; exact O1.out) s1 (by decide) (by decide) (by rw [HX.out]; omega)).mono ?_
  rintro e w5 ⟨fs1, f01, f11, c1, rfl, bk5, l5, c5, n5, fr5⟩
  have M5 := hid (kept_pts BK.out fr5 O2.out)
  have X5 := hid (kept_pts BK.out fr5 O3.out)
  have BL5 := hid (BL.out.trans (below_book BK.out fr5 (Nat.le_refl _) (by omega) s1))
  have s5 : w.heap.size ≤ w5.heap.size := BL5.out.size
  have BK5 := hid bk5
  have L5 := hid l5
  have C5 := hid c5
  have N5 := hid n5
  clear bk5 l5 c5 n5 fr5
  go_wp2_with fail
  refine (ints_any _ w.heap.size fs1 f01 f11 _ _ _ (pathK a1 (a1.size + 1)) w5 BK5.out (by rw [HX.out]; exact M5.out) s5 (by simp) (by simp) (by rw [HX.out]; omega)).mono ?_
  rintro e w6 ⟨fs2, f02, f12, c2, rfl, bk6, m6, c6, n6, fr6⟩
  have BL6 := hid (BL5.out.trans (below_book BK5.out fr6 (Nat.le_refl _) (by omega) s5))
  have s6 : w.heap.size ≤ w6.heap.size := BL6.out.size
  have L6 := hid (kept_pts BK5.out fr6 L5.out)
  have AP := hid (fun (w9 : World) (h9 : Below w6.heap.size w6 w9) => tells_apart (w9 := w9) HX.out (by omega) (by omega) s6 bk6 (fun i h10 h11 h16 => by rw [n6 i h10 h11, N5.out i h10 h11]; exact new_nil i h16) L6.out m6 (kept_pts BK5.out fr6 C5.out) c6 h9)
  have X6 := kept_pts BK5.out fr6 X5.out
  have P6 := L6.out
  rw [HX.out] at P6
  obtain ⟨g1, o1, cap1, e1, hcp⟩ := owns_last hs1 P6
  cases e1
  obtain ⟨g2, o2, cap2, e2, hcw⟩ := owns_last hs1 X6
  cases e2
  have CP := hid hcp
  have CW := hid hcw
  have cz := hcw 0 (Nat.zero_le _)
  have hz1 := zero_box a1
  have HZ := hid hz1
  obtain ⟨q1, q2, hq⟩ : ∃ a b, placeV a1 0 = .complex .f64 a b := ⟨_, _, rfl⟩
  rw [hq] at cz
  have HQ := hid hq
  clear bk6 m6 c6 n6 fr6 X6 P6 hcp hcw hz1 hq L5 M5 X5 C5 N5 BK5 BL5 O1 O2 O3 BK BL HW L6
  rw [Nat.add_zero] at cz
  have hst : ∀ i : Nat, w6.cell? ⟨w1.heap.size, 0 + i, none⟩ = w6.cell? ⟨w1.heap.size, i, none⟩ := fun i => by rw [Nat.zero_add]
  have HST := hid hst
  clear hst
  generalize w1.heap.size = G1 at *
  generalize w4.heap.size = G4 at *
  go_wp2_with fail
  go_quiet (fail)
  go_wp2
  clear cz
  go_loopw [11, 12, 58] (fun a b i wr => ∃ k j : Nat, k ≤ a1.size + 1 ∧ a = .complex .f64 (fl (loP (posX a1) k)) (fl (loP (posY a1) k)) ∧ b = .complex .f64 (fl (hiP (posX a1) k)) (fl (hiP (posY a1) k)) ∧ i = .int .i64 k ∧ wr = w6.drewN j) (fun _ _ i _ => a1.size + 1 - (intOf i).toNat)
  case atStart => exact ⟨0, nq, Nat.zero_le _, by rw [← HZ.out.1, HQ.out], by rw [← HZ.out.2, HQ.out], rfl, rfl⟩
  case round =>
    obtain ⟨k, j, hk, rfl, rfl, rfl, rfl⟩ := hrel
    by_cases hlt : k < a1.size + 1
    · have c1 := CP.out k (by omega)
      rw [HST.out] at c1
      have c2 := CW.out k (by omega)
      obtain ⟨m1, m2, m3, m4⟩ := MINS.out k hlt
      unfold placeV at c1 c2
      generalize fl (loP (posX a1) k) = x1 at *
      generalize fl (loP (posY a1) k) = x2 at *
      generalize fl (hiP (posX a1) k) = x3 at *
      generalize fl (hiP (posY a1) k) = x4 at *
      generalize fl (posX a1 k) = x at *
      generalize fl (posY a1 k) = y at *
      go_wp2
      go_quiet ((go_at_call 13; exact quiet_same (exact_same x y _)))
      go_wp2
      go_quiet (fail)
      go_wp2
      go_quiet (fail)
      go_wp2
      go_roundw
      case rel => exact ⟨k + 1, _, by omega, rfl, rfl, by go_num, rfl⟩
      case measure => simp [intOf]; omega
    · obtain rfl : k = a1.size + 1 := by omega
      generalize fl (loP (posX a1) (a1.size + 1)) = z1 at *
      generalize fl (loP (posY a1) (a1.size + 1)) = z2 at *
      generalize fl (hiP (posX a1) (a1.size + 1)) = z3 at *
      generalize fl (hiP (posY a1) (a1.size + 1)) = z4 at *
      go_wp2_with (first | (go_at_call 14; with_reducible refine (T8.out _).mono ?_; rintro e w7 ⟨rfl, hb7⟩) | (go_at_call 15; with_reducible refine (T4.out _).mono ?_; rintro e w8 ⟨rfl, hb8⟩))
      refine (T5.out _).mono ?_
      rintro e w9 ⟨rfl, hb9⟩
      have h69 := hid (below_twice (below_twice (below_far hb7) hb8.out) hb9.out)
      clear hb7 hb8 hb9
      go_wp2_with (first | (go_at_call 16; with_reducible refine (T1.out _).mono ?_; rintro e w' ⟨rfl, hw⟩; obtain rfl := hw.symm) | (go_at_call 17; with_reducible refine (T2.out _).mono ?_; rintro e w' ⟨rfl, hw⟩; obtain rfl := hw.symm) | (go_at_call 13; with_reducible refine (exact_same _ _ _).mono ?_; rintro e w' ⟨rfl, hw⟩; obtain rfl := hw.symm) | (go_at_call 18; with_reducible refine (T3.out _).mono ?_; rintro e w' ⟨rfl, hw⟩; obtain rfl := hw.symm) | (go_at_call 19; with_reducible refine (T6.out _).mono ?_; rintro e w' ⟨rfl, hw⟩; obtain rfl := hw.symm) | (go_at_call 20; with_reducible refine (T7.out _).mono ?_; rintro e w' ⟨rfl, hw⟩; obtain rfl := hw.symm) | (go_at_call 21; with_reducible refine (AP.out _ h69.out).mono ?_; rintro e w10 ⟨rfl, hend⟩))
      go_ret
      exact ⟨rfl, (BL6.out.trans (h69.out.mono s6)).trans hend⟩

/-! ### The row's step -/
set_option maxRecDepth 100000 in
theorem lifted (os : Os) (started : os.Started) (H : Type) (enc : TypeId × Value → H) :
    ReturnsInHanded {} Try.checked os 3 .any (Rows.walkTellsSpec.pre6 enc Try.prog Try.f3 Rows.walkTellsRow.domain false) (Rows.walkTellsSpec.post enc Try.prog Try.f3 false true false false) := by
  refine returnsInHanded_of_change (C := Try.checked) own started (by kernel_rfl) Try.func3
    (ChangeSpec.witness6 (enc := enc) (C := Try.checked) false ⟨#[], #[.int .u8 0, .string ByteArray.empty, .string ByteArray.empty], []⟩ 8 (by kernel_rfl) (by kernel_rfl) (by kernel_rfl) (by kernel_rfl)) ?_
  intro W base args ds gs before hval0 hW hcnd _
  have hval : ∀ (j : Nat) t v, Try.f3.params[j]? = some t → args[j]? = some v → Value.okWide Try.prog W .any base t v := hval0
  have hW' := hW
  obtain ⟨p, q, hA0, hV, rfl, hfz, hnd⟩ := hW
  have hA : DataW.TrodAll enc Try.prog W 0 (fun _ => true) true Try.f3.params.toList args.toList ds p := hA0
  rw [Try.params3] at hA hval
  obtain ⟨v0, vs0, d0, ds0, p0, q0, hargs, rfl, rfl, h0, r0⟩ := trodAll_cons hA
  obtain ⟨v1, vs1, d1, ds1, p1, q1, rfl, rfl, rfl, h1, r1⟩ := trodAll_cons r0
  obtain ⟨v2, vs2, d2, ds2, p2, q2, rfl, rfl, rfl, h2, r2⟩ := trodAll_cons r1
  obtain ⟨rfl, rfl, rfl⟩ := trodAll_nil r2
  obtain rfl : args = #[v0, v1, v2] := by cases args; simp_all
  obtain ⟨rfl, rfl⟩ := trodVars_none hV
  obtain ⟨a0, rfl, rfl, rfl, w0⟩ := open_int Try.underlying5 (hval 0 5 v0 rfl rfl) h0
  obtain ⟨a1, rfl, rfl, rfl, w1⟩ := open_string Try.underlying9 (hval 1 9 v1 rfl rfl) h1
  obtain ⟨a2, rfl, rfl, rfl, w2⟩ := open_string Try.underlying9 (hval 2 9 v2 rfl rfl) h2
  clear hA0 hval0
  simp only [List.append_nil] at hW'
  refine (walk a0 a1 a2 w0 w1 w2 W).mono fun e W' ⟨he, hg⟩ => ?_
  subst he
  exact ⟨_, rfl, post_below (pa := []) (pv := []) hW' (fun _ _ _ => (trodAll_cons_mk (shut_bool Try.underlying4 _) trodAll_mk0)) (fun sp _ => (trodAll_cons_mk (shut_int Try.underlying5 w0) (trodAll_cons_mk (shut_string Try.underlying9 w1) (trodAll_cons_mk (shut_string Try.underlying9 w2) trodAll_mk0)))) (fun _ _ => rfl) rfl hg⟩

theorem over : Rows.walkTellsRow.holds Try.pinned (OpenSpec.ofChange Rows.walkTellsSpec) :=
  OpenClaim.holds_of_wide 3 Try.f3 rfl rfl rfl rfl rfl rfl rfl ⟨rfl, rfl, rfl, rfl, rfl⟩ rfl rfl rfl rfl rfl (by kernel_rfl) Try.func3 (by kernel_rfl)
    (of_decide_eq_true (by kernel_rfl)) (by unfold Func.isWrapper; first | (rw [if_pos (by decide +kernel)]; kernel_rfl) | (rw [if_neg (by decide +kernel)]; exact ⟨rfl, rfl⟩))
    (fun os started H enc _ => lifted os started H enc)

/-- ████ THE STATEMENT ████ -/
theorem proved : Rows.WalkTellsSaid :=
  over
end Go.Proofs.Ytfajenfdcpepjaa.walkTells

namespace Go.Proofs.Ytfajenfdcpepjaa
/-- the statement -/
theorem walkTells_holds : Rows.WalkTellsSaid := walkTells.proved
#print axioms walkTells_holds
end Go.Proofs.Ytfajenfdcpepjaa
