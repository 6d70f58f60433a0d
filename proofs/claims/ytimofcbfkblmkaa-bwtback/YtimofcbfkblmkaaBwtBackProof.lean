/- BwtBack: the documents of the symbols of documents, few ones that may be, are these: the law's call returns true, whatever it is handed. -/
import Derived.Test.YtimofcbfkblmkaaBwtK
import Derived.Test.YtimofcbfkblmkaaRows
namespace Go.Proofs.Ytimofcbfkblmkaa.bwtBack
open Go.ChangeShapes Go.WideShapes Go.ChangeAt Go.RowKit Go.Sort
open Go.ChangeMaps (open_string shut_string)
set_option linter.unusedVariables false

theorem own : ownKnob Try.prog.godebug = none := by kernel_rfl


/-! ### The walk -/
set_option maxRecDepth 100000 in
set_option maxHeartbeats 2000000 in
theorem walk (ao0 : Option Addr) (ss0 : List ByteArray) (cap0 : Nat) (w : World) (hs0 : HasStrs w ao0 ss0) (hz0 : ∀ s ∈ ss0, s.size ≤ 9223372036854775807) (hl0 : ss0.length ≤ 9223372036854775807) :
    Calls Try.prog 4 #[.slice ao0 ss0.length cap0] w fun e w' => e = .returned (.bool true) ∧ Below w.heap.size w w' := by
  have t1 := few_any ss0 ao0 cap0 w hs0 hl0
  have T3 : Hid (Calls _ _ _ _ _) := balive_any w
  cases hf : fewB ss0 with
  | false =>
    rw [hf] at t1
    have T1 : Hid (Calls _ _ _ _ _) := t1
    clear t1 hs0 hz0 hl0 hf 
    go_enter Try.func4, Try.ntmps4
    go_wp2_with (go_at_call 8; fail)
    refine (T1.out).mono ?_
    rintro e w1 ⟨rfl, hw⟩
    obtain rfl := hw.symm
    go_wp2_with (go_at_call 25; fail)
    refine (T3.out).mono ?_
    rintro e w2 ⟨rfl, hb⟩
    go_wp2
    go_ret
    exact ⟨rfl, hb⟩
  | true =>
    have t2 := right_any ss0 ao0 cap0 w hs0
    rw [hf] at t1
    have T1 : Hid (Calls _ _ _ _ _) := t1
    clear t1
    cases hr : rightB ss0 with
    | false =>
      rw [hr] at t2
      have T2 : Hid (Calls _ _ _ _ _) := t2
      clear t2 hs0 hz0 hl0 hf hr 
      go_enter Try.func4, Try.ntmps4
      go_wp2_with (go_at_call 8; fail)
      refine (T1.out).mono ?_
      rintro e w1 ⟨rfl, hw⟩
      obtain rfl := hw.symm
      go_wp2_with (go_at_call 21; fail)
      refine (T2.out).mono ?_
      rintro e w1 ⟨rfl, hw⟩
      obtain rfl := hw.symm
      go_wp2_with (go_at_call 25; fail)
      refine (T3.out).mono ?_
      rintro e w2 ⟨rfl, hb⟩
      go_wp2
      go_ret
      exact ⟨rfl, hb⟩
    | true =>
      rw [hr] at t2
      have T2 : Hid (Calls _ _ _ _ _) := t2
      clear t2
      have hl10 : ss0.length ≤ 10 := right_len hr
      have hn : (symD ss0).length ≤ 410 := by rw [len_symD]; exact sortedD_len ss0
      have T4 : Hid (∀ W, HasStrs W ao0 ss0 → _) := fun W h => symbols_any ss0 ao0 cap0 W h
      have t5 := fun av cv W (hc : (symD ss0).length ≤ cv) (h : HasInts W av (symD ss0)) => docs_any (symD ss0) av cv W (by omega) hc h
      rw [symD_docs hr] at t5
      have T5 : Hid (∀ av cv W, _) := t5
      have HS : Hid (HasStrs w ao0 ss0) := hs0
      clear hs0 hz0 hf hr t5
      generalize symD ss0 = xs at *
      go_enter Try.func4, Try.ntmps4
      go_wp2_with (go_at_call 8; fail)
      refine (T1.out).mono ?_
      rintro e w1 ⟨rfl, hw⟩
      obtain rfl := hw.symm
      go_wp2_with (go_at_call 21; fail)
      refine (T2.out).mono ?_
      rintro e w1 ⟨rfl, hw⟩
      obtain rfl := hw.symm
      go_wp2_with (go_at_call 25; fail)
      refine (T3.out).mono ?_
      rintro e w2 ⟨rfl, hb⟩
      have hs2 : HasStrs w2 ao0 ss0 := HasCells.later HS.out hb
      have HB2 : Hid (Below w.heap.size w w2) := hb
      clear hb
      go_wp2_with (go_at_call 12; fail)
      refine (T4.out w2 hs2).mono ?_
      rintro e w3 ⟨v3, rfl, hown3, hb3⟩
      obtain ⟨av, cv, rfl, hi3, -⟩ := ownsRow_ints hown3
      have hcv := owns_cap hown3
      have T6 : Hid (Calls _ _ _ _ _) := T5.out av cv w3 hcv hi3
      have HS3 : Hid (HasStrs w3 ao0 ss0) := HasCells.later hs2 hb3
      have HB3 : Hid (Below w.heap.size w w3) := below_next HB2.out hb3
      clear hown3 hb3 hi3 hs2 HS HB2 T1 T2 T3 T4 T5
      go_wp2_with (go_at_call 26; fail)
      refine (T6.out).mono ?_
      rintro e w4 ⟨v4, rfl, hown4, hb4⟩
      have hown4' : w4.ownsRow w3.heap.size 9 1 v4 ss0.length (ss0.map Value.string) := hown4
      obtain ⟨a4, c4, rfl, hi4, -, -, -⟩ := owns_cells hown4'
      have t7 := sameTexts_any ss0 ss0 a4 ao0 c4 cap0 w4 (by omega) hi4 (HasCells.later HS3.out hb4)
      rw [decide_eq_true (rfl : ss0 = ss0)] at t7
      have T7 : Hid (Calls _ _ _ _ _) := t7
      clear t7
      have HB4 : Hid (Below w.heap.size w w4) := below_next HB3.out hb4
      clear hown4 hown4' hb4 hi4 T6 HS3
      go_wp2_with (go_at_call 27; fail)
      refine (T7.out).mono ?_
      rintro e w5 ⟨rfl, n5, rfl⟩
      go_wp2
      go_ret
      exact ⟨rfl, below_drewN HB4.out _⟩

/-! ### The row's step -/
set_option maxRecDepth 100000 in
theorem lifted (os : Os) (started : os.Started) (H : Type) (enc : TypeId × Value → H) :
    ReturnsInHanded {} Try.checked os 4 .any (Rows.bwtBackSpec.pre6 enc Try.prog Try.f4 Rows.bwtBackRow.domain false) (Rows.bwtBackSpec.post enc Try.prog Try.f4 false true false false) := by
  refine returnsInHanded_of_change (C := Try.checked) own started (by kernel_rfl) Try.func4
    (ChangeSpec.witness6 (enc := enc) (C := Try.checked) false ⟨#[], #[.slice none 0 0], []⟩ 8 (by kernel_rfl) (by kernel_rfl) (by kernel_rfl) (by kernel_rfl)) ?_
  intro W base args ds gs before hval0 hW hcnd _
  have hval : ∀ (j : Nat) t v, Try.f4.params[j]? = some t → args[j]? = some v → Value.okWide Try.prog W .any base t v := hval0
  have hW' := hW
  obtain ⟨p, q, hA0, hV, rfl, hfz, hnd⟩ := hW
  have hA : DataW.TrodAll enc Try.prog W 0 (fun _ => true) true Try.f4.params.toList args.toList ds p := hA0
  rw [Try.params4] at hA hval
  obtain ⟨v0, vs0, d0, ds0, p0, q0, hargs, rfl, rfl, h0, r0⟩ := trodAll_cons hA
  obtain ⟨rfl, rfl, rfl⟩ := trodAll_nil r0
  obtain rfl : args = #[v0] := by cases args; simp_all
  obtain ⟨rfl, rfl⟩ := trodVars_none hV
  obtain ⟨ao0, ss0, cap0, rfl, hs0, hz0, hl0⟩ := open_texts (hval 0 22 v0 rfl rfl) h0
  clear hA0 hval0
  simp only [List.append_nil] at hW'
  refine (walk ao0 ss0 cap0 W hs0 hz0 hl0).mono fun e W' ⟨he, hg⟩ => ?_
  subst he
  exact ⟨_, rfl, post_carry Try.laidOut (by rw [Try.params4]; intro t ht; simp only [List.mem_cons, List.not_mem_nil, or_false] at ht; subst ht; exact ⟨by kernel_rfl, of_decide_eq_true (by kernel_rfl)⟩) rfl hW' (fun _ _ _ => (trodAll_cons_mk (shut_bool Try.underlying4 _) trodAll_mk0)) rfl rfl hg⟩

theorem over : Rows.bwtBackRow.holds Try.pinned (OpenSpec.ofChange Rows.bwtBackSpec) :=
  OpenClaim.holds_of_wide 4 Try.f4 rfl rfl rfl rfl rfl rfl rfl ⟨rfl, rfl, rfl, rfl, rfl⟩ rfl rfl rfl rfl rfl (by kernel_rfl) Try.func4 (by kernel_rfl)
    (of_decide_eq_true (by kernel_rfl)) (by unfold Func.isWrapper; first | (rw [if_pos (by decide +kernel)]; kernel_rfl) | (rw [if_neg (by decide +kernel)]; exact ⟨rfl, rfl⟩))
    (fun os started H enc _ => lifted os started H enc)

end Go.Proofs.Ytimofcbfkblmkaa.bwtBack

namespace Go.Proofs.Ytimofcbfkblmkaa
/-- the statement -/
theorem bwtBack_holds : Rows.BwtBackSaid := bwtBack.over
#print axioms bwtBack_holds
end Go.Proofs.Ytimofcbfkblmkaa
