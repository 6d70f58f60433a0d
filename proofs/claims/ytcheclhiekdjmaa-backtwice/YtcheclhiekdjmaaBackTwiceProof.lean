/- BackTwice holds of every documents and pattern: documents that are there twice are found twice as often. -/
import Derived.Test.YtcheclhiekdjmaaBackV
import Derived.Test.YtcheclhiekdjmaaRMore
import Derived.Test.YtcheclhiekdjmaaRows
namespace Go.Proofs.Ytcheclhiekdjmaa.backTwice
open Go.ChangeShapes Go.WideShapes Go.ChangeAt Go.RowKit Go.Sort
open Go.ChangeMaps (open_string shut_string)
set_option linter.unusedVariables false

theorem own : ownKnob Try.prog.godebug = none := by kernel_rfl

theorem right_twice {ss : List ByteArray} (h : rightB ss = true) (h2 : 2 * ss.length ≤ 10) : rightB (ss ++ ss) = true := by
  simp only [rightB, Bool.and_eq_true, decide_eq_true_eq, List.all_append] at h ⊢
  refine ⟨by simp; omega, ?_⟩
  exact ⟨h.2, h.2⟩

theorem cnt_twice (p : ByteArray) (ss : List ByteArray) : cntN' p (ss ++ ss) = 2 * cntN' p ss := by
  have h := naive_twice (docs ss) p.data.toList
  have e : docs ss ++ docs ss = docs (ss ++ ss) := by simp [docs]
  rw [e, len_docs, len_docs] at h
  exact h


/-! ### The walk -/
set_option maxRecDepth 100000 in
set_option maxHeartbeats 2000000 in
theorem walk (ao0 : Option Addr) (ss0 : List ByteArray) (cap0 : Nat) (a1 : ByteArray) (w : World) (hs0 : HasStrs w ao0 ss0) (hz0 : ∀ s ∈ ss0, s.size ≤ 9223372036854775807) (hl0 : ss0.length ≤ 9223372036854775807) (hn0 : ao0 = none → ss0.length = 0 ∧ cap0 = 0) (w1 : a1.size ≤ maxLen) :
    Calls Try.prog 7 #[.slice ao0 ss0.length cap0, .string a1] w fun e w' => e = .returned (.bool true) ∧ Below w.heap.size w w' := by
  have t1 := few_any ss0 ao0 cap0 w hs0 hl0
  have T3 : Hid (Calls _ _ _ _ _) := valive_any w
  clear w1
  cases hf : fewB ss0 with
  | false =>
    rw [hf] at t1
    have T1 : Hid (Calls _ _ _ _ _) := t1
    clear t1
    clear hs0 hz0 hl0 hn0 hf
    go_enter Try.func7, Try.ntmps7
    go_wp2_with (go_at_call 8; fail)
    refine (T1.out).mono ?_
    rintro e w1 ⟨rfl, hw⟩
    obtain rfl := hw.symm
    go_wp2_with (go_at_call 10; fail)
    refine (T3.out).mono ?_
    rintro e w2 ⟨rfl, hb⟩
    go_wp2
    go_ret
    exact ⟨rfl, hb⟩
  | true =>
    rw [hf] at t1
    have T1 : Hid (Calls _ _ _ _ _) := t1
    have h14 := few_len hf
    clear t1 hf
    have hm2 : wrap64 (2 * (ss0.length : Int)) = 2 * (ss0.length : Int) := w64 (by omega) (by omega)
    by_cases h5 : 2 * ss0.length ≤ 10
    · have h5' : decide ((10 : Int) < 2 * (ss0.length : Int)) = false := decide_eq_false (by omega)
      have t2 := right_any ss0 ao0 cap0 w hs0
      cases hr : rightB ss0 with
      | false =>
        rw [hr] at t2
        have T2 : Hid (Calls _ _ _ _ _) := t2
        clear t2
        clear hs0 hz0 hl0 hn0 hr
        go_enter Try.func7, Try.ntmps7
        go_wp2_with (go_at_call 8; fail)
        refine (T1.out).mono ?_
        rintro e w1 ⟨rfl, hw⟩
        obtain rfl := hw.symm
        go_wp2_with (go_at_call 9; fail)
        refine (T2.out).mono ?_
        rintro e w1 ⟨rfl, hw⟩
        obtain rfl := hw.symm
        go_wp2_with (go_at_call 10; fail)
        refine (T3.out).mono ?_
        rintro e w2 ⟨rfl, hb⟩
        go_wp2
        go_ret
        exact ⟨rfl, hb⟩
      | true =>
        rw [hr] at t2
        have T2 : Hid (Calls _ _ _ _ _) := t2
        clear t2
        by_cases hp : a1.size ≤ 20
        · have hp' : decide ((20 : Int) < (a1.size : Int)) = false := decide_eq_false (by omega)
          have HS : Hid (HasStrs w ao0 ss0) := hs0
          have HR : Hid (rightB ss0 = true) := hr
          have HR2 : Hid (rightB (ss0 ++ ss0) = true) := right_twice hr h5
          have HT : Hid (_ = _) := cnt_twice a1 ss0
          have hl10 : (ss0 ++ ss0).length = ss0.length + ss0.length := List.length_append
          have T4 : Hid (∀ (bo : Option Addr) (cb : Nat) W, HasStrs W bo (ss0 ++ ss0) → _) := fun bo cb W h => symbols_any (ss0 ++ ss0) bo cb W h
          have T5 : Hid (∀ (bo : Option Addr) (cb : Nat) W, HasInts W bo (symD (ss0 ++ ss0)) → _) := fun bo cb W h => count_sym HR2.out rfl a1 bo cb W (by omega) h
          have T6 : Hid (∀ (bo : Option Addr) (cb : Nat) W, HasStrs W bo (ss0 ++ ss0) → _) := fun bo cb W h => naive_sym HR2.out a1 bo cb W h
          have T7 : Hid (∀ W, HasStrs W ao0 ss0 → _) := fun W h => symbols_any ss0 ao0 cap0 W h
          have T8 : Hid (∀ (bo : Option Addr) (cb : Nat) W, HasInts W bo (symD ss0) → _) := fun bo cb W h => count_sym HR.out rfl a1 bo cb W (by omega) h
          have T9 : Hid (∀ W, HasStrs W ao0 ss0 → _) := fun W h => naive_sym HR.out a1 ao0 cap0 W h
          rw [hl10] at T4 T6
          have HC410 : cntN' a1 ss0 ≤ 410 := Nat.le_trans (cnt_le _ _) (bytes_right HR.out)
          have hs410 := symD_le HR.out
          have hs410' := symD_le HR2.out
          rw [HT.out] at T5 T6
          have hN1 : Hid (_ = _) := hl10
          clear hs0 hz0 hl0 hr hl10
          generalize hn1 : (symD (ss0 ++ ss0)).length = n1 at *
          generalize hn2 : (symD ss0).length = n2 at *
          have HN1 : Hid (_ = _) := hn1
          have HN2 : Hid (_ = _) := hn2
          clear hn1 hn2
          generalize cntN' a1 ss0 = C at *
          go_enter Try.func7, Try.ntmps7
          go_wp2_with (go_at_call 8; fail)
          refine (T1.out).mono ?_
          rintro e w1 ⟨rfl, hw⟩
          obtain rfl := hw.symm
          go_wp2_with (go_at_call 9; fail)
          refine (T2.out).mono ?_
          rintro e w1 ⟨rfl, hw⟩
          obtain rfl := hw.symm
          go_wp2_with (go_at_call 10; fail)
          refine (T3.out).mono ?_
          rintro e w2 ⟨rfl, hb⟩
          have HB2 : Hid (Below w.heap.size w w2) := hb
          have HS2 : Hid (HasStrs w2 ao0 ss0) := HS.out.later hb
          clear hb T1 T2 T3
          go_wp2_with (first
            | (go_at_call 11; fail)
            | (at_builtin; refine wpList_append_src _ rfl (.const (.slice none 0 0)) (.tmp 30) 22 rfl Try.elemStr w2.heap.size _ 0 [] (by rfl) (World.ownsRow_nil _ _ _ _) ao0 ss0.length cap0 (ss0.map Value.string) (by rfl) hn0 (by simp) HS2.out (strs_one _) (by unfold maxLen; omega) (by omega) (Nat.le_refl _) ?_; intro v3 w3 hown3 hgrow3 _ _; rw [List.nil_append, Nat.zero_add] at hown3; have hb3 := grown_below hgrow3 (Nat.le_refl _) (fun g hg => by simp [Value.ownBlock] at hg); have hs3 := HasCells.later HS2.out hb3; have hz3 := hb3.size)
            | (at_builtin; refine wpList_append_src _ rfl (.tmp 31) (.tmp 32) 22 rfl Try.elemStr w2.heap.size v3 ss0.length (ss0.map Value.string) (by rfl) hown3 ao0 ss0.length cap0 (ss0.map Value.string) (by rfl) hn0 (by simp) hs3 (strs_one _) (by unfold maxLen; omega) (by omega) hz3 ?_; intro v4 w4 hown4 hgrow4 _ _; rw [← List.map_append] at hown4; have hb4 := hb3.trans (grown_below hgrow4 hz3 (fun g hg => (hown3.lt g hg).1)); obtain ⟨a4, c4, rfl, hi4, -, -, -⟩ := owns_cells hown4))
          have HB4 : Hid (Below w.heap.size w w4) := below_next HB2.out hb4
          have HI4 : Hid (HasStrs w4 a4 (ss0 ++ ss0)) := hi4
          clear hb3 hs3 hz3 hb4 hi4 hown3 hown4 hgrow3 hgrow4
          refine (T4.out a4 c4 _ HI4.out).mono ?_
          rintro e w5 ⟨v5, rfl, hown5, hb5⟩
          obtain ⟨a5, c5, rfl, -, -, -, -⟩ := owns_cells hown5
          have HI5 : Hid (HasInts w5 a5 (symD (ss0 ++ ss0))) := by
            refine HasInts.of_own (n := n1) (cap := c5) (base := w4.heap.size) (e := 3) ?_
            exact hown5
          have HB5 : Hid (Below w.heap.size w w5) := below_next HB4.out hb5
          have HI45 : Hid (HasStrs w5 a4 (ss0 ++ ss0)) := HasCells.later HI4.out hb5
          clear hown5 hb5 HI4 HB4
          go_wp2_with (go_at_call 15; fail)
          refine (T5.out a5 c5 _ HI5.out).mono ?_
          rintro e w6 ⟨rfl, hb6⟩
          have HB6 : Hid (Below w.heap.size w w6) := below_next HB5.out hb6
          have HI6 : Hid (HasStrs w6 a4 (ss0 ++ ss0)) := HasCells.later HI45.out hb6
          clear hb6 HI45 HB5 HI5
          go_wp2_with (go_at_call 11; fail)
          refine (T7.out _ (HasCells.later HS.out HB6.out)).mono ?_
          rintro e w7 ⟨v7, rfl, hown7, hb7⟩
          obtain ⟨a7, c7, rfl, -, -, -, -⟩ := owns_cells hown7
          have HI7 : Hid (HasInts w7 a7 (symD ss0)) := by
            refine HasInts.of_own (n := n2) (cap := c7) (base := w6.heap.size) (e := 3) ?_
            exact hown7
          have HB7 : Hid (Below w.heap.size w w7) := below_next HB6.out hb7
          have HI67 : Hid (HasStrs w7 a4 (ss0 ++ ss0)) := HasCells.later HI6.out hb7
          clear hown7 hb7 HI6 HB6
          go_wp2_with (go_at_call 15; fail)
          refine (T8.out a7 c7 _ HI7.out).mono ?_
          rintro e w8 ⟨rfl, hb8⟩
          have HB8 : Hid (Below w.heap.size w w8) := below_next HB7.out hb8
          have HI8 : Hid (HasStrs w8 a4 (ss0 ++ ss0)) := HasCells.later HI67.out hb8
          clear hb8 HI67 HB7 HI7
          go_wp2_with (go_at_call 14; fail)
          refine (T6.out a4 c4 _ HI8.out).mono ?_
          rintro e w9 ⟨v9, rfl, hown9, hb9⟩
          obtain ⟨a9, c9, rfl, -, -, -, -⟩ := owns_cells hown9
          have HB9 : Hid (Below w.heap.size w w9) := below_next HB8.out hb9
          clear hown9 hb9 HI8 HB8
          go_wp2_with (go_at_call 14; fail)
          refine (T9.out _ (HasCells.later HS.out HB9.out)).mono ?_
          rintro e w10 ⟨v10, rfl, hown10, hb10⟩
          obtain ⟨a10, c10, rfl, -, -, -, -⟩ := owns_cells hown10
          have HB10 : Hid (Below w.heap.size w w10) := below_next HB9.out hb10
          clear hown10 hb10 HB9
          go_wp2
          go_ret
          exact ⟨rfl, HB10.out⟩
        · have hp' : decide ((20 : Int) < (a1.size : Int)) = true := decide_eq_true (by omega)
          clear hs0 hz0 hl0 hn0 hr
          go_enter Try.func7, Try.ntmps7
          go_wp2_with (go_at_call 8; fail)
          refine (T1.out).mono ?_
          rintro e w1 ⟨rfl, hw⟩
          obtain rfl := hw.symm
          go_wp2_with (go_at_call 9; fail)
          refine (T2.out).mono ?_
          rintro e w1 ⟨rfl, hw⟩
          obtain rfl := hw.symm
          go_wp2_with (go_at_call 10; fail)
          refine (T3.out).mono ?_
          rintro e w2 ⟨rfl, hb⟩
          go_wp2
          go_ret
          exact ⟨rfl, hb⟩
    · have h5' : decide ((10 : Int) < 2 * (ss0.length : Int)) = true := decide_eq_true (by omega)
      clear hs0 hz0 hl0 hn0 
      go_enter Try.func7, Try.ntmps7
      go_wp2_with (go_at_call 8; fail)
      refine (T1.out).mono ?_
      rintro e w1 ⟨rfl, hw⟩
      obtain rfl := hw.symm
      go_wp2_with (go_at_call 10; fail)
      refine (T3.out).mono ?_
      rintro e w2 ⟨rfl, hb⟩
      go_wp2
      go_ret
      exact ⟨rfl, hb⟩

/-! ### The row's step -/
set_option maxRecDepth 100000 in
theorem lifted (os : Os) (started : os.Started) (H : Type) (enc : TypeId × Value → H) :
    ReturnsInHanded {} Try.checked os 7 .any (Rows.backTwiceSpec.pre6 enc Try.prog Try.f7 Rows.backTwiceRow.domain false) (Rows.backTwiceSpec.post enc Try.prog Try.f7 false true false false) := by
  refine returnsInHanded_of_change (C := Try.checked) own started (by kernel_rfl) Try.func7
    (ChangeSpec.witness6 (enc := enc) (C := Try.checked) false ⟨#[], #[.slice none 0 0, .string ByteArray.empty], []⟩ 8 (by kernel_rfl) (by kernel_rfl) (by kernel_rfl) (by kernel_rfl)) ?_
  intro W base args ds gs before hval0 hW hcnd _
  have hval : ∀ (j : Nat) t v, Try.f7.params[j]? = some t → args[j]? = some v → Value.okWide Try.prog W .any base t v := hval0
  have hW' := hW
  obtain ⟨p, q, hA0, hV, rfl, hfz, hnd⟩ := hW
  have hA : DataW.TrodAll enc Try.prog W 0 (fun _ => true) true Try.f7.params.toList args.toList ds p := hA0
  rw [Try.params7] at hA hval
  obtain ⟨v0, vs0, d0, ds0, p0, q0, hargs, rfl, rfl, h0, r0⟩ := trodAll_cons hA
  obtain ⟨v1, vs1, d1, ds1, p1, q1, rfl, rfl, rfl, h1, r1⟩ := trodAll_cons r0
  obtain ⟨rfl, rfl, rfl⟩ := trodAll_nil r1
  obtain rfl : args = #[v0, v1] := by cases args; simp_all
  obtain ⟨rfl, rfl⟩ := trodVars_none hV
  obtain ⟨ao0, ss0, cap0, rfl, hs0, hz0, hl0⟩ := open_texts (hval 0 22 v0 rfl rfl) h0
  have hn0 := nil_texts h0
  obtain ⟨a1, rfl, rfl, rfl, w1⟩ := open_string Try.underlying9 (hval 1 9 v1 rfl rfl) h1
  clear hA0 hval0
  simp only [List.append_nil] at hW'
  refine (walk ao0 ss0 cap0 a1 W hs0 hz0 hl0 hn0 w1).mono fun e W' ⟨he, hg⟩ => ?_
  subst he
  exact ⟨_, rfl, post_carry Try.laidOut (by rw [Try.params7]; intro t ht; simp only [List.mem_cons, List.not_mem_nil, or_false] at ht; rcases ht with rfl | rfl <;> exact ⟨by kernel_rfl, of_decide_eq_true (by kernel_rfl)⟩) rfl hW' (fun _ _ _ => (trodAll_cons_mk (shut_bool Try.underlying4 _) trodAll_mk0)) rfl rfl hg⟩

theorem over : Rows.backTwiceRow.holds Try.pinned (OpenSpec.ofChange Rows.backTwiceSpec) :=
  OpenClaim.holds_of_wide 7 Try.f7 rfl rfl rfl rfl rfl rfl rfl ⟨rfl, rfl, rfl, rfl, rfl⟩ rfl rfl rfl rfl rfl (by kernel_rfl) Try.func7 (by kernel_rfl)
    (of_decide_eq_true (by kernel_rfl)) (by unfold Func.isWrapper; first | (rw [if_pos (by decide +kernel)]; kernel_rfl) | (rw [if_neg (by decide +kernel)]; exact ⟨rfl, rfl⟩))
    (fun os started H enc _ => lifted os started H enc)

end Go.Proofs.Ytcheclhiekdjmaa.backTwice

namespace Go.Proofs.Ytcheclhiekdjmaa
/-- the statement -/
theorem backTwice_holds : Rows.BackTwiceSaid := backTwice.over
#print axioms backTwice_holds
end Go.Proofs.Ytcheclhiekdjmaa
