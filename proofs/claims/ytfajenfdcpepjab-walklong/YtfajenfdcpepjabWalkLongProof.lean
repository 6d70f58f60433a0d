/- WalkLong, for every text and number: it answers true: a text's end, so often told, is so often as far; no condition. -/
import Derived.Test.YtfajenfdcpepjabMuls
import Derived.Test.YtfajenfdcpepjabShut
import Derived.Test.YtfajenfdcpepjabRows
import Derived.WalkKit
import Derived.ProofKit
import Derived.OpenShut
import Derived.ShutString
namespace Go.Proofs.Ytfajenfdcpepjab.walkLong
open Go.ChangeShapes Go.WideShapes Go.ChangeAt Go.RowKit
open Go.ChangeMaps (open_string shut_string)
set_option linter.unusedVariables false

theorem own : ownKnob Try.prog.godebug = none := by kernel_rfl

set_option maxHeartbeats 800000

/-- a text so often, one behind the other -/
def repT (s : ByteArray) : Nat → ByteArray
  | 0 => ⟨#[]⟩
  | k + 1 => repT s k ++ s

theorem rep_size (s : ByteArray) (k : Nat) : (repT s k).size = k * s.size := by
  induction k with
  | zero => simp [repT]; rfl
  | succ k ih => simp only [repT, ByteArray.size_append, ih, Nat.succ_mul]

theorem rep_end (s : ByteArray) (k : Nat) : endX (repT s k) = k * endX s ∧ endY (repT s k) = k * endY s := by
  induction k with
  | zero => simp [repT, endX, endY, sumX, sumY]
  | succ k ih =>
    simp only [repT]
    rw [endX_app, endY_app, ih.1, ih.2]
    constructor
    · rw [show ((k + 1 : Nat) : Int) = (k : Int) + 1 by omega, Int.add_mul, Int.one_mul]
    · rw [show ((k + 1 : Nat) : Int) = (k : Int) + 1 by omega, Int.add_mul, Int.one_mul]

theorem far_mul (k : Nat) (x y : Int) : farI 0 0 (k * x) (k * y) = k * farI 0 0 x y := by
  unfold farI
  rw [Int.sub_zero, Int.sub_zero, Int.sub_zero, Int.sub_zero, Int.natAbs_mul, Int.natAbs_mul, Int.natAbs_natCast, Int.mul_add, Int.natCast_mul, Int.natCast_mul]

theorem mul_small (k : Nat) (x : Int) (hk : k ≤ 20) (hx : x.natAbs ≤ 40) : (k * x).natAbs ≤ 800 := by
  rw [Int.natAbs_mul, Int.natAbs_natCast]
  exact Nat.mul_le_mul hk hx

theorem rep_mul (k : Nat) (x y : Int) (hk : k ≤ 20) (hx : x.natAbs ≤ 40) (hy : y.natAbs ≤ 40) :
    ∃ re im, (∀ w : World, (binOp .mul 23 (.complex .f64 (fl x) (fl y)) (.complex .f64 (fl k) 0)).run Try.prog w = .ok (.complex .f64 re im) w) ∧
      FloatKind.f64.format.order (fl (k * x)) re = some .eq ∧ FloatKind.f64.format.order (fl (k * y)) im = some .eq := by
  have hzero : IsFl 0 0 := by rw [← fl_zero]; exact isFl_fl 0 (by decide)
  have h1 := mul_small k x hk hx
  have h2 := mul_small k y hk hy
  rw [Int.mul_comm] at h1 h2
  obtain ⟨re, im, m, p, q⟩ := cmul (fl x) (fl y) (fl k) 0 x y k 0 (isFl_fl x (by omega)) (isFl_fl y (by omega)) (isFl_fl k (by omega)) hzero (by omega) (by simp) (by simp) (by omega)
  rw [Int.mul_zero, Int.sub_zero, Int.mul_comm] at p
  rw [Int.mul_zero, Int.zero_add, Int.mul_comm] at q
  rw [Int.mul_comm] at h1 h2
  exact ⟨re, im, fun w => m _ w _, order_isEq _ _ _ (isFl_fl _ (by omega)) p, order_isEq _ _ _ (isFl_fl _ (by omega)) q⟩

theorem wrap_mul (k : Nat) (f : Int) (hk : k ≤ 20) (h0 : 0 ≤ f) (h1 : f ≤ 40) : wrap64 (k * f) = k * f := by
  obtain ⟨n, rfl⟩ := Int.eq_ofNat_of_zero_le h0
  have h := Nat.mul_le_mul hk (show n ≤ 40 by omega)
  have e : ((k : Int) * (n : Int)) = ((k * n : Nat) : Int) := by rw [Int.natCast_mul]
  rw [e]
  unfold wrap64
  omega

/-! ### The walk -/
theorem walk (a0 : ByteArray) (a1 : Int) (w0 : a0.size ≤ maxLen) (w1 : (Lit.int .i64 a1).wf = true) (w : World) :
    Calls Try.prog 4 #[.string a0, .int .i64 a1] w fun e w' => e = .returned (.bool true) ∧ Below w.heap.size w w' := by
  clear w1
  by_cases h0 : 40 < a0.size
  · go_enter Try.func4, Try.ntmps4
    go_wp2_with (go_at_call 5; refine (alive_b _).mono ?_; rintro e w1 ⟨rfl, hb1⟩)
    go_ret
    exact ⟨rfl, hb1⟩
  by_cases h1 : a1 < 0
  · go_enter Try.func4, Try.ntmps4
    go_wp2_with (go_at_call 5; refine (alive_b _).mono ?_; rintro e w1 ⟨rfl, hb1⟩)
    go_ret
    exact ⟨rfl, hb1⟩
  by_cases h2 : 20 < a1
  · go_enter Try.func4, Try.ntmps4
    go_wp2_with (go_at_call 5; refine (alive_b _).mono ?_; rintro e w1 ⟨rfl, hb1⟩)
    go_ret
    exact ⟨rfl, hb1⟩
  obtain ⟨n, rfl⟩ := Int.eq_ofNat_of_zero_le (show 0 ≤ a1 by omega)
  have hn : n ≤ 20 := by omega
  have l0 := end_le a0
  have hx : (endX a0).natAbs ≤ 40 := by omega
  have hy : (endY a0).natAbs ≤ 40 := by omega
  have mx := mul_small n _ hn hx
  have my := mul_small n _ hn hy
  have hsz := rep_size a0 n
  have hsm := Nat.mul_le_mul hn (show a0.size ≤ 40 by omega)
  have t1 := fun w => ends_any (repT a0 n) w (by omega)
  have t2 := fun w => ends_any a0 w (by omega)
  have t3 := fun w => apart_any 0 0 (n * endX a0) (n * endY a0) w (by omega) (by omega) (by omega) (by omega)
  have t4 := fun w => apart_any 0 0 (endX a0) (endY a0) w (by omega) (by omega) (by omega) (by omega)
  have hf : 0 ≤ farI 0 0 (endX a0) (endY a0) ∧ farI 0 0 (endX a0) (endY a0) ≤ a0.size := by unfold farI; omega
  have hwr := wrap_mul n (farI 0 0 (endX a0) (endY a0)) hn hf.1 (by omega)
  have hle := hf.2
  obtain ⟨re, im, hm, o1, o2⟩ := rep_mul n _ _ hn hx hy
  rw [(rep_end a0 n).1, (rep_end a0 n).2] at t1
  rw [far_mul, fl_zero] at t3
  rw [fl_zero] at t4
  have hfo : floatOfInt .f64 (n : Int) = fl n := (fl_def n).symm
  clear l0 hx hy mx my hsz hsm hf
  generalize fl (n * endX a0) = x at *
  generalize fl (n * endY a0) = y at *
  generalize farI 0 0 (endX a0) (endY a0) = f at *
  generalize fl (endX a0) = x0 at *
  generalize fl (endY a0) = y0 at *
  generalize fl (n : Int) = fn at *
  have T1 : Hid (∀ w, _) := t1
  have T2 : Hid (∀ w, _) := t2
  have T3 : Hid (∀ w, _) := t3
  have T4 : Hid (∀ w, _) := t4
  have HM : Hid (∀ w : World, _) := hm
  have HX : Hid (wrap64 (n * f) = n * f ∧ f ≤ a0.size ∧ FloatKind.f64.format.order x re = some .eq ∧ FloatKind.f64.format.order y im = some .eq ∧ floatOfInt .f64 (n : Int) = fn) := ⟨hwr, hle, o1, o2, hfo⟩
  clear t1 t2 t3 t4 hm hwr hle o1 o2 hfo
  go_enter Try.func4, Try.ntmps4
  go_wp2_with (first | (go_at_call 5; refine (alive_b _).mono ?_; rintro e w1 ⟨rfl, hb1⟩))
  go_loopw [5, 6] (fun t i wr => ∃ k : Nat, k ≤ n ∧ t = .string (repT a0 k) ∧ i = .int .i64 k ∧ wr = w1) (fun _ i _ => n - (intOf i).toNat)
  case atStart => exact ⟨0, Nat.zero_le _, rfl, rfl, rfl⟩
  case round =>
    obtain ⟨k, hk, rfl, rfl, rfl⟩ := hrel
    by_cases hlt : k < n
    · have hrs : repT a0 k ++ a0 = repT a0 (k + 1) := rfl
      have hcap : (repT a0 k).size + a0.size ≤ 9223372036854775807 := by
        rw [rep_size]
        have := Nat.mul_le_mul (show k ≤ 20 by omega) (show a0.size ≤ 40 by omega)
        omega
      go_wp2
      go_roundw
      case rel => exact ⟨k + 1, by omega, rfl, by go_num, by first | rfl | trivial⟩
      case measure => simp [intOf]; omega
    · obtain rfl : k = n := by omega
      have hm := HM.out
      obtain ⟨hwr, hle, o1, o2, hfo⟩ := HX.out
      go_wp2_with (first | (go_at_call 10; with_reducible refine (T1.out _).mono ?_; rintro e w' ⟨rfl, rfl⟩) | (go_at_call 10; with_reducible refine (T2.out _).mono ?_; rintro e w' ⟨rfl, rfl⟩) | (go_at_call 9; with_reducible refine (T3.out _).mono ?_; rintro e w' ⟨rfl, rfl⟩) | (go_at_call 9; with_reducible refine (T4.out _).mono ?_; rintro e w' ⟨rfl, rfl⟩))
      go_ret
      exact ⟨rfl, hb1⟩

/-! ### The row's step -/
set_option maxRecDepth 100000 in
theorem lifted (os : Os) (started : os.Started) (H : Type) (enc : TypeId × Value → H) :
    ReturnsInHanded {} Try.checked os 4 .any (Rows.walkLongSpec.pre6 enc Try.prog Try.f4 Rows.walkLongRow.domain false) (Rows.walkLongSpec.post enc Try.prog Try.f4 false true false false) := by
  refine returnsInHanded_of_change (C := Try.checked) own started (by kernel_rfl) Try.func4
    (ChangeSpec.witness6 (enc := enc) (C := Try.checked) false ⟨#[], #[.string ByteArray.empty, .int .i64 0], []⟩ 8 (by kernel_rfl) (by kernel_rfl) (by kernel_rfl) (by kernel_rfl)) ?_
  intro W base args ds gs before hval0 hW hcnd _
  have hval : ∀ (j : Nat) t v, Try.f4.params[j]? = some t → args[j]? = some v → Value.okWide Try.prog W .any base t v := hval0
  have hW' := hW
  obtain ⟨p, q, hA0, hV, rfl, hfz, hnd⟩ := hW
  have hA : DataW.TrodAll enc Try.prog W 0 (fun _ => true) true Try.f4.params.toList args.toList ds p := hA0
  rw [Try.params4] at hA hval
  obtain ⟨v0, vs0, d0, ds0, p0, q0, hargs, rfl, rfl, h0, r0⟩ := trodAll_cons hA
  obtain ⟨v1, vs1, d1, ds1, p1, q1, rfl, rfl, rfl, h1, r1⟩ := trodAll_cons r0
  obtain ⟨rfl, rfl, rfl⟩ := trodAll_nil r1
  obtain rfl : args = #[v0, v1] := by cases args; simp_all
  obtain ⟨rfl, rfl⟩ := trodVars_none hV
  obtain ⟨a0, rfl, rfl, rfl, w0⟩ := open_string Try.underlying9 (hval 0 9 v0 rfl rfl) h0
  obtain ⟨a1, rfl, rfl, rfl, w1⟩ := open_int Try.underlying3 (hval 1 3 v1 rfl rfl) h1
  clear hA0 hval0
  simp only [List.append_nil] at hW'
  refine (walk a0 a1 w0 w1 W).mono fun e W' ⟨he, hg⟩ => ?_
  subst he
  exact ⟨_, rfl, post_below (pa := []) (pv := []) hW' (fun _ _ _ => (trodAll_cons_mk (shut_bool Try.underlying4 _) trodAll_mk0)) (fun sp _ => (trodAll_cons_mk (shut_string Try.underlying9 w0) (trodAll_cons_mk (shut_int Try.underlying3 w1) trodAll_mk0))) (fun _ _ => rfl) rfl hg⟩

theorem over : Rows.walkLongRow.holds Try.pinned (OpenSpec.ofChange Rows.walkLongSpec) :=
  OpenClaim.holds_of_wide 4 Try.f4 rfl rfl rfl rfl rfl rfl rfl ⟨rfl, rfl, rfl, rfl, rfl⟩ rfl rfl rfl rfl rfl (by kernel_rfl) Try.func4 (by kernel_rfl)
    (of_decide_eq_true (by kernel_rfl)) (by unfold Func.isWrapper; first | (rw [if_pos (by decide +kernel)]; kernel_rfl) | (rw [if_neg (by decide +kernel)]; exact ⟨rfl, rfl⟩))
    (fun os started H enc _ => lifted os started H enc)

/-- ████ THE STATEMENT ████ -/
theorem proved : Rows.WalkLongSaid :=
  over
end Go.Proofs.Ytfajenfdcpepjab.walkLong

namespace Go.Proofs.Ytfajenfdcpepjab
/-- the statement -/
theorem walkLong_holds : Rows.WalkLongSaid := walkLong.proved
#print axioms walkLong_holds
end Go.Proofs.Ytfajenfdcpepjab
