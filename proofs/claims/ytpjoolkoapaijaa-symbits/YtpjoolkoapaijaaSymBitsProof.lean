/- SymBits, for all two numbers: it answers true: a symbol is the number of its bits, and two symbols whose bits are alike are one; no condition. -/
import Derived.Test.YtpjoolkoapaijaaAlive
import Derived.Test.YtpjoolkoapaijaaShut
import Derived.Test.YtpjoolkoapaijaaRows
import Derived.WalkKit
import Derived.ProofKit
import Derived.OpenShut
import Derived.ShutString
namespace Go.Proofs.Ytpjoolkoapaijaa.symBits
open Go.ChangeShapes Go.WideShapes Go.ChangeAt Go.RowKit
open Go.ChangeMaps (open_string shut_string)
set_option linter.unusedVariables false

theorem own : ownKnob Try.prog.godebug = none := by kernel_rfl

theorem pow_step (s : Int) (n : Nat) (hn : n < 9) : s / 2 ^ (9 - n) = s / 2 ^ (8 - n) / 2 := by
  rw [Int.ediv_ediv_of_nonneg (Int.pow_nonneg (by decide)), ← Int.pow_succ]; congr 2; omega

theorem bit_in (s : Int) (n : Nat) (h0 : 0 ≤ s) (h1 : s < 257) (hn : n < 9) : bitB s n = (s / 2 ^ (8 - n) % 2 == 1) := by
  have e : (8 - (n : Int)).toNat = 8 - n := by omega
  simp only [bitB, e, h0, h1, show (0 : Int) ≤ n from by omega, show (n : Int) < 9 from by omega, and_self, decide_true, Bool.true_and]

theorem part_bound (s : Int) (k : Nat) (h0 : 0 ≤ s) (h1 : s < 257) : 0 ≤ s / 2 ^ k ∧ s / 2 ^ k < 257 := by
  have p : (0 : Int) < 2 ^ k := Int.pow_pos (by decide)
  refine ⟨Int.ediv_nonneg h0 (by omega), ?_⟩
  have := Int.ediv_le_self (2 ^ k) h0
  omega

theorem val_int {a b : Int} (h : a = b) : Value.int .i64 a = .int .i64 b := by rw [h]
theorem val_bool {a b : Bool} (h : a = b) : Value.bool a = .bool b := by rw [h]

/-! ### The walk -/
theorem walk (a0 : Int) (a1 : Int) (w0 : (Lit.int .i64 a0).wf = true) (w1 : (Lit.int .i64 a1).wf = true) (w : World) :
    Calls Try.prog 4 #[.int .i64 a0, .int .i64 a1] w fun e w' => e = .returned (.bool true) ∧ Below w.heap.size w w' := by
  clear w0 w1
  by_cases hs0 : a0 < 0
  · go_enter Try.func4, Try.ntmps4
    go_wp2_with (go_at_call 9; refine (alive_any _).mono ?_; rintro e w' ⟨rfl, rfl⟩)
    go_ret
    exact ⟨rfl, (Below.refl _ _).alloc (Nat.le_refl _) _⟩
  by_cases ht0 : a1 < 0
  · go_enter Try.func4, Try.ntmps4
    go_wp2_with (go_at_call 9; refine (alive_any _).mono ?_; rintro e w' ⟨rfl, rfl⟩)
    go_ret
    exact ⟨rfl, (Below.refl _ _).alloc (Nat.le_refl _) _⟩
  by_cases hs1 : 257 ≤ a0
  · go_enter Try.func4, Try.ntmps4
    go_wp2_with (go_at_call 9; refine (alive_any _).mono ?_; rintro e w' ⟨rfl, rfl⟩)
    go_ret
    exact ⟨rfl, (Below.refl _ _).alloc (Nat.le_refl _) _⟩
  by_cases ht1 : 257 ≤ a1
  · go_enter Try.func4, Try.ntmps4
    go_wp2_with (go_at_call 9; refine (alive_any _).mono ?_; rintro e w' ⟨rfl, rfl⟩)
    go_ret
    exact ⟨rfl, (Below.refl _ _).alloc (Nat.le_refl _) _⟩
  have bs : 0 ≤ a0 ∧ a0 < 257 := by omega
  have bt : 0 ≤ a1 ∧ a1 < 257 := by omega
  go_enter Try.func4, Try.ntmps4
  go_wp2_with (go_at_call 9; refine (alive_any _).mono ?_; rintro e w' ⟨rfl, rfl⟩)
  go_loop [5, 6, 7] (fun v same k => ∃ n : Nat, n ≤ 9 ∧ k = .int .i64 n ∧ v = .int .i64 (a0 / 2 ^ (9 - n)) ∧ same = .bool (decide (a0 / 2 ^ (9 - n) = a1 / 2 ^ (9 - n)))) (fun _ _ k => 9 - (intOf k).toNat)
  case atStart => exact ⟨0, Nat.zero_le _, rfl, val_int (by simp; omega), val_bool (by simp; omega)⟩
  case round =>
    obtain ⟨n, hn, rfl, rfl, rfl⟩ := hrel
    by_cases hlt : n < 9
    · have hx := part_bound a0 (8 - n) bs.1 bs.2
      have hy := part_bound a1 (8 - n) bt.1 bt.2
      have H1 : Hid (bitB a0 n = (a0 / 2 ^ (8 - n) % 2 == 1)) := bit_in a0 n bs.1 bs.2 hlt
      have H2 : Hid (bitB a1 n = (a1 / 2 ^ (8 - n) % 2 == 1)) := bit_in a1 n bt.1 bt.2 hlt
      have e9 : 9 - (n + 1) = 8 - n := by omega
      rw [pow_step a0 n hlt, pow_step a1 n hlt]
      generalize hx8 : a0 / 2 ^ (8 - n) = x at *
      generalize hy8 : a1 / 2 ^ (8 - n) = y at *
      have X8 : Hid (a0 / 2 ^ (9 - (n + 1)) = x) := by rw [e9]; exact hx8
      have Y8 : Hid (a1 / 2 ^ (9 - (n + 1)) = y) := by rw [e9]; exact hy8
      clear hx8 hy8 e9
      obtain ⟨x0, x1⟩ := hx
      obtain ⟨y0, y1⟩ := hy
      have ev : ∀ z : Int, (z % 2 == 1) = decide (z % 2 = 1) := fun z => by rw [Bool.eq_iff_iff]; simp
      by_cases px : x % 2 = 1
      all_goals by_cases py : y % 2 = 1
      all_goals by_cases pq : x / 2 = y / 2
      all_goals
        have b1 := H1.out
        have b2 := H2.out
        rw [ev] at b1 b2
        simp only [px, py, decide_true, decide_false] at b1 b2
        clear ev
        have PX : Hid (x % 2 = 1 ∨ x % 2 = 0) := by show _ ∨ _; omega
        go_wp2_with (go_at_call 14; refine (bit_any _ _ _).mono ?_; rintro e w' ⟨rfl, rfl⟩)
        go_round
        case rel => exact ⟨n + 1, by omega, by go_num, val_int (by rw [X8.out]; omega), val_bool (by rw [X8.out, Y8.out]; simp; try omega)⟩
        case measure => simp [intOf]; omega
    · obtain rfl : n = 9 := by omega
      by_cases he : a0 = a1
      · subst he
        have e0 : a0 / 2 ^ (9 - 9) = a0 := by simp
        rw [e0]
        clear e0
        go_wp2
        go_ret
        exact ⟨ret_bool (by simp), (Below.refl _ _).alloc (Nat.le_refl _) _⟩
      · have e0 : a0 / 2 ^ (9 - 9) = a0 := by simp
        have e1 : a1 / 2 ^ (9 - 9) = a1 := by simp
        rw [e0, e1]
        clear e0 e1
        have e2 : decide (a0 = a1) = false := by simp [he]
        have e3 : (a0 == a1) = false := by simp [he]
        rw [e2]
        go_wp2
        go_ret
        exact ⟨ret_bool (by simp), (Below.refl _ _).alloc (Nat.le_refl _) _⟩

/-! ### The row's step -/
set_option maxRecDepth 100000 in
theorem lifted (os : Os) (started : os.Started) (H : Type) (enc : TypeId × Value → H) :
    ReturnsInHanded {} Try.checked os 4 .any (Rows.symBitsSpec.pre6 enc Try.prog Try.f4 Rows.symBitsRow.domain false) (Rows.symBitsSpec.post enc Try.prog Try.f4 false true false false) := by
  refine returnsInHanded_of_change (C := Try.checked) own started (by kernel_rfl) Try.func4
    (ChangeSpec.witness6 (enc := enc) (C := Try.checked) false ⟨#[], #[.int .i64 0, .int .i64 0], []⟩ 8 (by kernel_rfl) (by kernel_rfl) (by kernel_rfl) (by kernel_rfl)) ?_
  intro W base args ds gs before hval0 hW hcnd _
  have hval : ∀ (j : Nat) t v, Try.f4.params[j]? = some t → args[j]? = some v → Value.okWide Try.prog W .any base t v := hval0
  have hW' := hW
  obtain ⟨p, q, hA0, hV, rfl, hfz, hnd⟩ := hW
  have hA : DataW.TrodAll enc Try.prog W 0 (fun _ => true) true Try.f4.params.toList args.toList ds p := hA0
  rw [Try.params4] at hA hval
  obtain ⟨v0, vs0, d0, ds0, p0, q0, hargs, rfl, rfl, h0, r0⟩ := trodAll_cons hA
  obtain ⟨v1, vs1, d1, ds1, p1, q1, rfl, rfl, rfl, h1, r1⟩ := trodAll_cons r0
  obtain ⟨rfl, rfl, rfl⟩ := trodAll_nil r1
  obtain rfl : args = #[v0, v1] := by cases args; simp_all
  obtain ⟨rfl, rfl⟩ := trodVars_none hV
  obtain ⟨a0, rfl, rfl, rfl, w0⟩ := open_int Try.underlying3 (hval 0 3 v0 rfl rfl) h0
  obtain ⟨a1, rfl, rfl, rfl, w1⟩ := open_int Try.underlying3 (hval 1 3 v1 rfl rfl) h1
  clear hA0 hval0
  simp only [List.append_nil] at hW'
  refine (walk a0 a1 w0 w1 W).mono fun e W' ⟨he, hg⟩ => ?_
  subst he
  exact ⟨_, rfl, post_below (pa := []) (pv := []) hW' (fun _ _ _ => (trodAll_cons_mk (shut_bool Try.underlying4 _) trodAll_mk0)) (fun sp _ => (trodAll_cons_mk (shut_int Try.underlying3 w0) (trodAll_cons_mk (shut_int Try.underlying3 w1) trodAll_mk0))) (fun _ _ => rfl) rfl hg⟩

theorem over : Rows.symBitsRow.holds Try.pinned (OpenSpec.ofChange Rows.symBitsSpec) :=
  OpenClaim.holds_of_wide 4 Try.f4 rfl rfl rfl rfl rfl rfl rfl ⟨rfl, rfl, rfl, rfl, rfl⟩ rfl rfl rfl rfl rfl (by kernel_rfl) Try.func4 (by kernel_rfl)
    (of_decide_eq_true (by kernel_rfl)) (by unfold Func.isWrapper; first | (rw [if_pos (by decide +kernel)]; kernel_rfl) | (rw [if_neg (by decide +kernel)]; exact ⟨rfl, rfl⟩))
    (fun os started H enc _ => lifted os started H enc)

/-- ████ THE STATEMENT ████ -/
theorem proved : Rows.SymBitsSaid :=
  over
end Go.Proofs.Ytpjoolkoapaijaa.symBits

namespace Go.Proofs.Ytpjoolkoapaijaa
/-- the statement -/
theorem symBits_holds : Rows.SymBitsSaid := symBits.proved
#print axioms symBits_holds
end Go.Proofs.Ytpjoolkoapaijaa
