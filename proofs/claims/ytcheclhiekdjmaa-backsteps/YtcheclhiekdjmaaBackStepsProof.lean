/- BackSteps holds of every documents and pattern: step by step from the end on a pattern's rows are those that Range tells at once. -/
import Derived.Test.YtcheclhiekdjmaaBackV
import Derived.Test.YtcheclhiekdjmaaRMore
import Derived.Test.YtcheclhiekdjmaaRows
namespace Go.Proofs.Ytcheclhiekdjmaa.backSteps
open Go.ChangeShapes Go.WideShapes Go.ChangeAt Go.RowKit Go.Sort
open Go.ChangeMaps (open_string shut_string)
set_option linter.unusedVariables false

theorem own : ownKnob Try.prog.godebug = none := by kernel_rfl

theorem goN_none {xs : List Int} {p : List UInt8} (h : xs.length = 0) : rangeN xs p = (0, 0) := by
  have h1 := range_le xs p
  rw [h] at h1
  apply Prod.ext
  · simp; omega
  · simp; omega

theorem step_low {xs : List Int} (hc : colB xs = true) (b : UInt8) {i : Nat} (hi : i ≤ xs.length) : stepB xs ((b.toNat : Int) + 1) (i : Int) = lowN xs (symU b) i := by
  have hb := b.toNat_lt
  unfold stepB
  rw [if_pos ⟨by omega, by omega⟩, befB, hc, if_pos rfl, rankB, hc, if_pos rfl, cutI_nat hi]
  rfl


/-! ### The walk -/
set_option maxRecDepth 100000 in
set_option maxHeartbeats 2000000 in
theorem walk (ao0 : Option Addr) (ss0 : List ByteArray) (cap0 : Nat) (a1 : ByteArray) (w : World) (hs0 : HasStrs w ao0 ss0) (hz0 : ∀ s ∈ ss0, s.size ≤ 9223372036854775807) (hl0 : ss0.length ≤ 9223372036854775807) (w1 : a1.size ≤ maxLen) :
    Calls Try.prog 6 #[.slice ao0 ss0.length cap0, .string a1] w fun e w' => e = .returned (.bool true) ∧ Below w.heap.size w w' := by
  have t1 := few_any ss0 ao0 cap0 w hs0 hl0
  have T3 : Hid (Calls _ _ _ _ _) := valive_any w
  cases hf : fewB ss0 with
  | false =>
    rw [hf] at t1
    have T1 : Hid (Calls _ _ _ _ _) := t1
    clear t1 hs0 hz0 hl0 hf 
    go_enter Try.func6, Try.ntmps6
    go_wp2_with (go_at_call 8; fail)
    refine (T1.out).mono ?_
    rintro e w1 ⟨rfl, hw⟩
    obtain rfl := hw.symm
    go_wp2_with (go_at_call 10; fail)
    refine (T3.out).mono ?_
    rintro e w2 ⟨rfl, hb⟩
    go_wp2
    go_ret
    exact ⟨rfl, hb⟩
  | true =>
    have t2 := right_any ss0 ao0 cap0 w hs0
    rw [hf] at t1
    have T1 : Hid (Calls _ _ _ _ _) := t1
    clear t1
    cases hr : rightB ss0 with
    | false =>
      rw [hr] at t2
      have T2 : Hid (Calls _ _ _ _ _) := t2
      clear t2 hs0 hz0 hl0 hf hr 
      go_enter Try.func6, Try.ntmps6
      go_wp2_with (go_at_call 8; fail)
      refine (T1.out).mono ?_
      rintro e w1 ⟨rfl, hw⟩
      obtain rfl := hw.symm
      go_wp2_with (go_at_call 9; fail)
      refine (T2.out).mono ?_
      rintro e w1 ⟨rfl, hw⟩
      obtain rfl := hw.symm
      go_wp2_with (go_at_call 10; fail)
      refine (T3.out).mono ?_
      rintro e w2 ⟨rfl, hb⟩
      go_wp2
      go_ret
      exact ⟨rfl, hb⟩
    | true =>
      rw [hr] at t2
      have T2 : Hid (Calls _ _ _ _ _) := t2
      clear t2
      have hl10 : ss0.length ≤ 10 := right_len hr
      have HS : Hid (HasStrs w ao0 ss0) := hs0
      have HR : Hid (rightB ss0 = true) := hr
      have T4 : Hid (∀ W, HasStrs W ao0 ss0 → _) := fun W h => symbols_any ss0 ao0 cap0 W h
      clear hs0 hr hf hl0 hz0
      by_cases hp : a1.size ≤ 20
      · have hp' : decide ((20 : Int) < (a1.size : Int)) = false := by simp; omega
        go_enter Try.func6, Try.ntmps6
        go_wp2_with (go_at_call 8; fail)
        refine (T1.out).mono ?_
        rintro e w1 ⟨rfl, hw⟩
        obtain rfl := hw.symm
        go_wp2_with (go_at_call 9; fail)
        refine (T2.out).mono ?_
        rintro e w1 ⟨rfl, hw⟩
        obtain rfl := hw.symm
        go_wp2_with (go_at_call 10; fail)
        refine (T3.out).mono ?_
        rintro e w2 ⟨rfl, hb⟩
        go_wp2_with (go_at_call 11; fail)
        refine (T4.out _ (HS.out.later hb)).mono ?_
        rintro e w3 ⟨v, rfl, hown, hb3⟩
        obtain ⟨av, cv, rfl, -, -, -, -⟩ := owns_cells hown
        have HI3 : Hid (HasInts w3 av (symD ss0)) := HasInts.of_own hown
        have HB3 : Hid (Below w.heap.size w w3) := below_next hb hb3
        have HS3 : Hid (HasStrs w3 ao0 ss0) := HS.out.later HB3.out
        have HCV : Hid ((symD ss0).length ≤ cv) := owns_cap hown
        obtain ⟨n, hn⟩ : ∃ n, n = (symD ss0).length := ⟨_, rfl⟩
        have HN : Hid (n = (symD ss0).length) := hn
        have hn410 : n ≤ 410 := by rw [hn]; exact symD_le HR.out
        rw [← hn]
        clear hown hb3 hb hn T4 HS T1 T2 T3
        have T5 : Hid (∀ (s lo hi : Int) W, HasInts W av (symD ss0) → Calls Try.prog 16 #[.int .i64 s, .int .i64 lo, .int .i64 hi, .slice av n cv] W fun e w' => e = .returned (.tuple #[.int .i64 (stepB (symD ss0) s lo : Nat), .int .i64 (stepB (symD ss0) s hi : Nat)]) ∧ Ext W w') := fun s lo hi W h => by
          have t := step_any s lo hi (symD ss0) av cv W (by have := HN.out; omega) HCV.out h
          rw [← HN.out] at t
          exact t
        have T6 : Hid (∀ W, HasInts W av (symD ss0) → _) := fun W h => range_sym HR.out HN.out a1 av cv W (by omega) h
        have HC : Hid (colB (symD ss0) = true) := symD_right HR.out
        obtain ⟨RES, hRES⟩ : ∃ R, R = rangeB (symD ss0) a1 := ⟨_, rfl⟩
        have HRES : Hid (RES = rangeN (symD ss0) a1.data.toList) := by
          show RES = _
          rw [hRES, rangeB, HC.out, if_pos rfl]
        have HRL : Hid (RES.1 ≤ RES.2 ∧ RES.2 ≤ n) := by
          show RES.1 ≤ RES.2 ∧ RES.2 ≤ n
          rw [HRES.out, HN.out]
          exact range_le _ _
        rw [← hRES] at T6
        have H0 : Hid ((0 < n ∧ goN (symD ss0) (a1.data.toList.take a1.size).reverse 0 n = RES) ∨ (¬ 0 < n ∧ RES = (0, 0))) := by
          by_cases h0 : 0 < n
          · refine Or.inl ⟨h0, ?_⟩
            rw [HRES.out, List.take_of_length_le (show a1.data.toList.length ≤ a1.size from Nat.le_refl _), HN.out]
            rfl
          · refine Or.inr ⟨h0, ?_⟩
            rw [HRES.out]
            exact goN_none (by rw [← HN.out]; omega)
        clear hRES HRES
        go_wp2
        go_loopw [6, 7, 8] (fun a b q wr => ∃ m lo hi : Nat, m ≤ a1.size ∧ q = .int .i64 ((m : Int) - 1) ∧ a = .int .i64 lo ∧ b = .int .i64 hi ∧ lo ≤ n ∧ hi ≤ n ∧ Hid ((lo < hi ∧ goN (symD ss0) (a1.data.toList.take m).reverse lo hi = RES) ∨ (¬ lo < hi ∧ RES = (0, 0))) ∧ Hid (Below w3.heap.size w3 wr)) (fun _ _ q _ => (intOf q + 1).toNat)
        case atStart => exact ⟨a1.size, 0, n, Nat.le_refl _, rfl, rfl, rfl, Nat.zero_le _, Nat.le_refl _, H0, Below.refl _ _⟩
        case round =>
          obtain ⟨m, lo, hi, hm, rfl, rfl, rfl, hlo, hhi, hgo, hbr⟩ := hrel
          rcases hgo.out with ⟨hlh, hg⟩ | ⟨hlh, hres⟩
          · by_cases h0 : m = 0
            · subst h0
              have hres : RES = (lo, hi) := by simp [goN] at hg; exact hg.symm
              subst hres
              have T7 : Hid (Calls _ _ _ _ _) := T6.out wr (HI3.out.later hbr.out)
              clear hg hgo H0 T5 T6
              go_wp2_with (go_at_call 13; fail)
              refine (T7.out).mono ?_
              rintro e w5 ⟨rfl, hb5⟩
              have HB5 : Hid (Below w.heap.size w w5) := below_next HB3.out (below_next hbr.out hb5)
              clear hb5
              go_wp2
              go_ret
              exact ⟨rfl, HB5.out⟩
            · obtain ⟨k, rfl⟩ : ∃ k, m = k + 1 := ⟨m - 1, by omega⟩
              have hk : k < a1.size := by omega
              have ek : ((k + 1 : Nat) : Int) - 1 = (k : Int) := by omega
              rw [ek]
              rw [take_rev hk] at hg
              have hb255 : (a1[k].toNat : Int) ≤ 255 := by have := a1[k].toNat_lt; omega
              have t7 := T5.out ((a1[k].toNat : Int) + 1) lo hi wr (HI3.out.later hbr.out)
              rw [step_low HC.out _ (by have := HN.out; omega), step_low HC.out _ (by have := HN.out; omega)] at t7
              have hl1 := low_le (symD ss0) (symU a1[k]) lo
              have hl2 := low_le (symD ss0) (symU a1[k]) hi
              rw [← HN.out] at hl1 hl2
              have HG : Hid ((lowN (symD ss0) (symU a1[k]) lo < lowN (symD ss0) (symU a1[k]) hi ∧ goN (symD ss0) (a1.data.toList.take k).reverse (lowN (symD ss0) (symU a1[k]) lo) (lowN (symD ss0) (symU a1[k]) hi) = RES) ∨ (¬ lowN (symD ss0) (symU a1[k]) lo < lowN (symD ss0) (symU a1[k]) hi ∧ RES = (0, 0))) := by
                by_cases hc : lowN (symD ss0) (symU a1[k]) lo < lowN (symD ss0) (symU a1[k]) hi
                · rw [goN, if_pos hc] at hg
                  exact Or.inl ⟨hc, hg⟩
                · rw [goN, if_neg hc] at hg
                  exact Or.inr ⟨hc, hg.symm⟩
              have hw1 := w64_byte (x := (a1[k].toNat : Int)) (by omega) hb255
              have T7 : Hid (Calls _ _ _ _ _) := t7
              clear hg hgo H0 T5 T6 t7 ek
              generalize lowN (symD ss0) (symU a1[k]) lo = L at *
              generalize lowN (symD ss0) (symU a1[k]) hi = H at *
              go_wp2_with (go_at_call 16; fail)
              refine (T7.out).mono ?_
              rintro e w5 ⟨rfl, hE5⟩
              have HB5 : Hid (Below w3.heap.size w3 w5) := below_next hbr.out hE5.below
              clear hE5 T7
              go_wp2
              go_roundw
              case rel => exact ⟨k, L, H, by omega, by go_num, rfl, rfl, hl1, hl2, HG, HB5⟩
              case measure => simp [intOf]
          · subst hres
            have T7 : Hid (Calls _ _ _ _ _) := T6.out wr (HI3.out.later hbr.out)
            clear hgo H0 T5 T6
            by_cases h0 : m = 0
            · subst h0
              go_wp2_with (go_at_call 13; fail)
              refine (T7.out).mono ?_
              rintro e w5 ⟨rfl, hb5⟩
              have HB5 : Hid (Below w.heap.size w w5) := below_next HB3.out (below_next hbr.out hb5)
              clear hb5
              go_wp2
              go_ret
              exact ⟨rfl, HB5.out⟩
            · have h1 : 0 ≤ (m : Int) - 1 := by omega
              go_wp2_with (go_at_call 13; fail)
              refine (T7.out).mono ?_
              rintro e w5 ⟨rfl, hb5⟩
              have HB5 : Hid (Below w.heap.size w w5) := below_next HB3.out (below_next hbr.out hb5)
              clear hb5
              go_wp2
              go_ret
              exact ⟨rfl, HB5.out⟩
      · have hp' : decide ((20 : Int) < (a1.size : Int)) = true := by simp; omega
        go_enter Try.func6, Try.ntmps6
        go_wp2_with (go_at_call 8; fail)
        refine (T1.out).mono ?_
        rintro e w1 ⟨rfl, hw⟩
        obtain rfl := hw.symm
        go_wp2_with (go_at_call 9; fail)
        refine (T2.out).mono ?_
        rintro e w1 ⟨rfl, hw⟩
        obtain rfl := hw.symm
        go_wp2_with (go_at_call 10; fail)
        refine (T3.out).mono ?_
        rintro e w2 ⟨rfl, hb⟩
        go_wp2
        go_ret
        exact ⟨rfl, hb⟩

/-! ### The row's step -/
set_option maxRecDepth 100000 in
theorem lifted (os : Os) (started : os.Started) (H : Type) (enc : TypeId × Value → H) :
    ReturnsInHanded {} Try.checked os 6 .any (Rows.backStepsSpec.pre6 enc Try.prog Try.f6 Rows.backStepsRow.domain false) (Rows.backStepsSpec.post enc Try.prog Try.f6 false true false false) := by
  refine returnsInHanded_of_change (C := Try.checked) own started (by kernel_rfl) Try.func6
    (ChangeSpec.witness6 (enc := enc) (C := Try.checked) false ⟨#[], #[.slice none 0 0, .string ByteArray.empty], []⟩ 8 (by kernel_rfl) (by kernel_rfl) (by kernel_rfl) (by kernel_rfl)) ?_
  intro W base args ds gs before hval0 hW hcnd _
  have hval : ∀ (j : Nat) t v, Try.f6.params[j]? = some t → args[j]? = some v → Value.okWide Try.prog W .any base t v := hval0
  have hW' := hW
  obtain ⟨p, q, hA0, hV, rfl, hfz, hnd⟩ := hW
  have hA : DataW.TrodAll enc Try.prog W 0 (fun _ => true) true Try.f6.params.toList args.toList ds p := hA0
  rw [Try.params6] at hA hval
  obtain ⟨v0, vs0, d0, ds0, p0, q0, hargs, rfl, rfl, h0, r0⟩ := trodAll_cons hA
  obtain ⟨v1, vs1, d1, ds1, p1, q1, rfl, rfl, rfl, h1, r1⟩ := trodAll_cons r0
  obtain ⟨rfl, rfl, rfl⟩ := trodAll_nil r1
  obtain rfl : args = #[v0, v1] := by cases args; simp_all
  obtain ⟨rfl, rfl⟩ := trodVars_none hV
  obtain ⟨ao0, ss0, cap0, rfl, hs0, hz0, hl0⟩ := open_texts (hval 0 22 v0 rfl rfl) h0
  obtain ⟨a1, rfl, rfl, rfl, w1⟩ := open_string Try.underlying9 (hval 1 9 v1 rfl rfl) h1
  clear hA0 hval0
  simp only [List.append_nil] at hW'
  refine (walk ao0 ss0 cap0 a1 W hs0 hz0 hl0 w1).mono fun e W' ⟨he, hg⟩ => ?_
  subst he
  exact ⟨_, rfl, post_carry Try.laidOut (by rw [Try.params6]; intro t ht; simp only [List.mem_cons, List.not_mem_nil, or_false] at ht; rcases ht with rfl | rfl <;> exact ⟨by kernel_rfl, of_decide_eq_true (by kernel_rfl)⟩) rfl hW' (fun _ _ _ => (trodAll_cons_mk (shut_bool Try.underlying4 _) trodAll_mk0)) rfl rfl hg⟩

theorem over : Rows.backStepsRow.holds Try.pinned (OpenSpec.ofChange Rows.backStepsSpec) :=
  OpenClaim.holds_of_wide 6 Try.f6 rfl rfl rfl rfl rfl rfl rfl ⟨rfl, rfl, rfl, rfl, rfl⟩ rfl rfl rfl rfl rfl (by kernel_rfl) Try.func6 (by kernel_rfl)
    (of_decide_eq_true (by kernel_rfl)) (by unfold Func.isWrapper; first | (rw [if_pos (by decide +kernel)]; kernel_rfl) | (rw [if_neg (by decide +kernel)]; exact ⟨rfl, rfl⟩))
    (fun os started H enc _ => lifted os started H enc)

end Go.Proofs.Ytcheclhiekdjmaa.backSteps

namespace Go.Proofs.Ytcheclhiekdjmaa
/-- the statement -/
theorem backSteps_holds : Rows.BackStepsSaid := backSteps.over
#print axioms backSteps_holds
end Go.Proofs.Ytcheclhiekdjmaa
