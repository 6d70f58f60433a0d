/- BackWhole holds of every documents: each document stands at least once, nothing longer than all does, the empty pattern stands at each place. -/
import Derived.Test.YtcheclhiekdjmaaBackV
import Derived.Test.YtcheclhiekdjmaaRMore
import Derived.Test.YtcheclhiekdjmaaRows
namespace Go.Proofs.Ytcheclhiekdjmaa.backWhole
open Go.ChangeShapes Go.WideShapes Go.ChangeAt Go.RowKit Go.Sort
open Go.ChangeMaps (open_string shut_string)
set_option linter.unusedVariables false

theorem own : ownKnob Try.prog.godebug = none := by kernel_rfl


/-! ### The walk -/
set_option maxRecDepth 100000 in
set_option maxHeartbeats 2000000 in
theorem walk (ao0 : Option Addr) (ss0 : List ByteArray) (cap0 : Nat) (w : World) (hs0 : HasStrs w ao0 ss0) (hz0 : ∀ s ∈ ss0, s.size ≤ 9223372036854775807) (hl0 : ss0.length ≤ 9223372036854775807) :
    Calls Try.prog 5 #[.slice ao0 ss0.length cap0] w fun e w' => e = .returned (.bool true) ∧ Below w.heap.size w w' := by
  have t1 := few_any ss0 ao0 cap0 w hs0 hl0
  have T3 : Hid (Calls _ _ _ _ _) := valive_any w
  cases hf : fewB ss0 with
  | false =>
    rw [hf] at t1
    have T1 : Hid (Calls _ _ _ _ _) := t1
    clear t1 hs0 hz0 hl0 hf 
    go_enter Try.func5, Try.ntmps5
    go_wp2_with (go_at_call 8; fail)
    refine (T1.out).mono ?_
    rintro e w1 ⟨rfl, hw⟩
    obtain rfl := hw.symm
    go_wp2_with (go_at_call 10; fail)
    refine (T3.out).mono ?_
    rintro e w2 ⟨rfl, hb⟩
    go_wp2
    go_ret
    exact ⟨rfl, hb⟩
  | true =>
    have t2 := right_any ss0 ao0 cap0 w hs0
    rw [hf] at t1
    have T1 : Hid (Calls _ _ _ _ _) := t1
    clear t1
    cases hr : rightB ss0 with
    | false =>
      rw [hr] at t2
      have T2 : Hid (Calls _ _ _ _ _) := t2
      clear t2 hs0 hz0 hl0 hf hr 
      go_enter Try.func5, Try.ntmps5
      go_wp2_with (go_at_call 8; fail)
      refine (T1.out).mono ?_
      rintro e w1 ⟨rfl, hw⟩
      obtain rfl := hw.symm
      go_wp2_with (go_at_call 9; fail)
      refine (T2.out).mono ?_
      rintro e w1 ⟨rfl, hw⟩
      obtain rfl := hw.symm
      go_wp2_with (go_at_call 10; fail)
      refine (T3.out).mono ?_
      rintro e w2 ⟨rfl, hb⟩
      go_wp2
      go_ret
      exact ⟨rfl, hb⟩
    | true =>
      rw [hr] at t2
      have T2 : Hid (Calls _ _ _ _ _) := t2
      clear t2
      have hl10 : ss0.length ≤ 10 := right_len hr
      have HS : Hid (HasStrs w ao0 ss0) := hs0
      have HR : Hid (rightB ss0 = true) := hr
      have T4 : Hid (∀ W, HasStrs W ao0 ss0 → _) := fun W h => symbols_any ss0 ao0 cap0 W h
      clear hs0 hr hf hl0 hz0
      go_enter Try.func5, Try.ntmps5
      go_wp2_with (go_at_call 8; fail)
      refine (T1.out).mono ?_
      rintro e w1 ⟨rfl, hw⟩
      obtain rfl := hw.symm
      go_wp2_with (go_at_call 9; fail)
      refine (T2.out).mono ?_
      rintro e w1 ⟨rfl, hw⟩
      obtain rfl := hw.symm
      go_wp2_with (go_at_call 10; fail)
      refine (T3.out).mono ?_
      rintro e w2 ⟨rfl, hb⟩
      go_wp2_with (go_at_call 11; fail)
      refine (T4.out _ (HS.out.later hb)).mono ?_
      rintro e w3 ⟨v, rfl, hown, hb3⟩
      obtain ⟨av, cv, rfl, -, -, -, -⟩ := owns_cells hown
      have HI3 : Hid (HasInts w3 av (symD ss0)) := HasInts.of_own hown
      have HB3 : Hid (Below w.heap.size w w3) := below_next hb hb3
      have HS3 : Hid (HasStrs w3 ao0 ss0) := HS.out.later HB3.out
      have HCV : Hid ((symD ss0).length ≤ cv) := owns_cap hown
      obtain ⟨n, hn⟩ : ∃ n, n = (symD ss0).length := ⟨_, rfl⟩
      have HN : Hid (n = (symD ss0).length) := hn
      have hn410 : n ≤ 410 := by rw [hn]; exact symD_le HR.out
      rw [← hn]
      clear hown hb3 hb hn T4 HS T1 T2 T3
      have T5 : Hid (∀ (p : ByteArray) W, p.size ≤ 1000000 → HasInts W av (symD ss0) → _) := fun p W hp h => count_sym HR.out HN.out p av cv W hp h
      go_wp2
      go_loopw [4, 26] (fun v q wr => ∃ (k : Nat) (L : ByteArray), k ≤ ss0.length ∧ q = .int .i64 k ∧ v = .string L ∧ Hid (L.size = 1 + k + bytesTo (docs ss0) k) ∧ Hid (Below w3.heap.size w3 wr)) (fun _ q _ => ss0.length - (intOf q).toNat)
      case atStart => exact ⟨0, ⟨#[120]⟩, Nat.zero_le _, rfl, rfl, rfl, Below.refl _ _⟩
      case round =>
        obtain ⟨k, L, hk, rfl, rfl, hL, hbr⟩ := hrel
        have hLs : L.size ≤ 411 := by
          have h1 := hL.out
          have h2 := bytesTo_mono (docs ss0) hk
          have h3 := bytes_right HR.out
          omega
        by_cases hlt : k < ss0.length
        · obtain ⟨g, o, hao, hc⟩ := HasStrs.at (HS3.out.later hbr.out) hlt
          have hgw := cell_in hc
          have h40 : ss0[k].size ≤ 40 := right_at HR.out hlt
          have T6 : Hid (Calls _ _ _ _ _) := T5.out ss0[k] wr (by omega) (HI3.out.later hbr.out)
          have hge := cnt_self hlt
          have hle : cntN' ss0[k] ss0 ≤ 410 := Nat.le_trans (cnt_le _ _) (bytes_right HR.out)
          have HL2 : Hid ((L ++ (ss0[k] ++ ⟨#[120]⟩)).size = 1 + (k + 1) + bytesTo (docs ss0) (k + 1)) := by
            have h1 := hL.out
            have h2 := bytesTo_succ (docs ss0) k
            rw [docAt_docs hlt] at h2
            have h3 : ss0[k].data.toList.length = ss0[k].size := rfl
            have h4 : (⟨#[120]⟩ : ByteArray).size = 1 := rfl
            show _ = _
            simp only [ByteArray.size_append, h4]
            omega
          have hx1 : (⟨#[120]⟩ : ByteArray).size = 1 := rfl
          have hsum1 : ss0[k].size + (⟨#[120]⟩ : ByteArray).size ≤ 9223372036854775807 := by rw [hx1]; omega
          have hsum2 : L.size + (ss0[k] ++ ⟨#[120]⟩ : ByteArray).size ≤ 9223372036854775807 := by rw [ByteArray.size_append, hx1]; omega
          subst hao
          clear hx1
          generalize cntN' ss0[k] ss0 = C at *
          go_wp2_with (go_at_call 15; fail)
          refine (T6.out).mono ?_
          rintro e w5 ⟨rfl, hb5⟩
          have HB5 : Hid (Below w3.heap.size w3 w5) := below_next hbr.out hb5
          clear hb5 hbr T6 hL
          go_wp2
          go_roundw
          case rel => exact ⟨k + 1, _, by omega, by go_num, rfl, HL2, HB5⟩
          case measure => simp [intOf]; omega
        · obtain rfl : k = ss0.length := by omega
          have t6 := range_sym HR.out HN.out ⟨#[]⟩ av cv wr (by decide) (HI3.out.later hbr.out)
          rw [range_empty HR.out, ← HN.out] at t6
          have T6 : Hid (Calls _ _ _ _ _) := t6
          have hc0 : cntN' L ss0 = 0 := cnt_long (by have := hL.out; omega)
          have T7 : Hid (∀ W, HasInts W av (symD ss0) → Calls Try.prog 15 #[.string L, .slice av n cv] W fun e w' => e = .returned (.int .i64 0) ∧ Below W.heap.size W w') := fun W h => by
            have t := T5.out L W (by omega) h
            rw [hc0] at t
            exact t
          have T8 : Hid (∀ W, HasStrs W ao0 ss0 → Calls Try.prog 14 #[.string ⟨#[]⟩, .slice ao0 ss0.length cap0] W fun e w' => ∃ v, e = .returned v ∧ w'.ownsRow W.heap.size 34 2 v n (cellsR (naiveD ⟨#[]⟩ ss0 ss0.length)) ∧ Below W.heap.size W w') := fun W h => by
            have t := naive_sym HR.out ⟨#[]⟩ ao0 cap0 W h
            rw [cnt_empty, ← symD_len HR.out, ← HN.out] at t
            exact t
          clear t6 hc0 T5 hL
          go_wp2_with (go_at_call 13; fail)
          refine (T6.out).mono ?_
          rintro e w5 ⟨rfl, hb5⟩
          have HB5 : Hid (Below w3.heap.size w3 w5) := below_next hbr.out hb5
          clear hb5 hbr T6
          go_wp2_with (go_at_call 15; fail)
          refine (T7.out _ (HI3.out.later HB5.out)).mono ?_
          rintro e w6 ⟨rfl, hb6⟩
          have HB6 : Hid (Below w3.heap.size w3 w6) := below_next HB5.out hb6
          clear hb6 HB5 T7
          go_wp2_with (go_at_call 14; fail)
          refine (T8.out _ (HS3.out.later HB6.out)).mono ?_
          rintro e w7 ⟨v7, rfl, hown7, hb7⟩
          obtain ⟨a7, c7, rfl, -, -, -, -⟩ := owns_cells hown7
          have HB7 : Hid (Below w.heap.size w w7) := below_next HB3.out (below_next HB6.out hb7)
          clear hb7 HB6 T8 hown7
          go_wp2
          go_ret
          exact ⟨rfl, HB7.out⟩

/-! ### The row's step -/
set_option maxRecDepth 100000 in
theorem lifted (os : Os) (started : os.Started) (H : Type) (enc : TypeId × Value → H) :
    ReturnsInHanded {} Try.checked os 5 .any (Rows.backWholeSpec.pre6 enc Try.prog Try.f5 Rows.backWholeRow.domain false) (Rows.backWholeSpec.post enc Try.prog Try.f5 false true false false) := by
  refine returnsInHanded_of_change (C := Try.checked) own started (by kernel_rfl) Try.func5
    (ChangeSpec.witness6 (enc := enc) (C := Try.checked) false ⟨#[], #[.slice none 0 0], []⟩ 8 (by kernel_rfl) (by kernel_rfl) (by kernel_rfl) (by kernel_rfl)) ?_
  intro W base args ds gs before hval0 hW hcnd _
  have hval : ∀ (j : Nat) t v, Try.f5.params[j]? = some t → args[j]? = some v → Value.okWide Try.prog W .any base t v := hval0
  have hW' := hW
  obtain ⟨p, q, hA0, hV, rfl, hfz, hnd⟩ := hW
  have hA : DataW.TrodAll enc Try.prog W 0 (fun _ => true) true Try.f5.params.toList args.toList ds p := hA0
  rw [Try.params5] at hA hval
  obtain ⟨v0, vs0, d0, ds0, p0, q0, hargs, rfl, rfl, h0, r0⟩ := trodAll_cons hA
  obtain ⟨rfl, rfl, rfl⟩ := trodAll_nil r0
  obtain rfl : args = #[v0] := by cases args; simp_all
  obtain ⟨rfl, rfl⟩ := trodVars_none hV
  obtain ⟨ao0, ss0, cap0, rfl, hs0, hz0, hl0⟩ := open_texts (hval 0 22 v0 rfl rfl) h0
  clear hA0 hval0
  simp only [List.append_nil] at hW'
  refine (walk ao0 ss0 cap0 W hs0 hz0 hl0).mono fun e W' ⟨he, hg⟩ => ?_
  subst he
  exact ⟨_, rfl, post_carry Try.laidOut (by rw [Try.params5]; intro t ht; simp only [List.mem_cons, List.not_mem_nil, or_false] at ht; subst ht; exact ⟨by kernel_rfl, of_decide_eq_true (by kernel_rfl)⟩) rfl hW' (fun _ _ _ => (trodAll_cons_mk (shut_bool Try.underlying4 _) trodAll_mk0)) rfl rfl hg⟩

theorem over : Rows.backWholeRow.holds Try.pinned (OpenSpec.ofChange Rows.backWholeSpec) :=
  OpenClaim.holds_of_wide 5 Try.f5 rfl rfl rfl rfl rfl rfl rfl ⟨rfl, rfl, rfl, rfl, rfl⟩ rfl rfl rfl rfl rfl (by kernel_rfl) Try.func5 (by kernel_rfl)
    (of_decide_eq_true (by kernel_rfl)) (by unfold Func.isWrapper; first | (rw [if_pos (by decide +kernel)]; kernel_rfl) | (rw [if_neg (by decide +kernel)]; exact ⟨rfl, rfl⟩))
    (fun os started H enc _ => lifted os started H enc)

end Go.Proofs.Ytcheclhiekdjmaa.backWhole

namespace Go.Proofs.Ytcheclhiekdjmaa
/-- the statement -/
theorem backWhole_holds : Rows.BackWholeSaid := backWhole.over
#print axioms backWhole_holds
end Go.Proofs.Ytcheclhiekdjmaa
