/- What stands ahead of the terminators' rows is each document's last byte, of whatever documents; an empty one has a terminator there. -/
import Derived.Test.YtpmkgdpojfnppabRMisc
import Derived.Test.YtpmkgdpojfnppabRows
namespace Go.Proofs.Ytpmkgdpojfnppab.rowsFirst
open Go.ChangeShapes Go.WideShapes Go.ChangeAt Go.RowKit Go.Sort
open Go.ChangeMaps (open_string shut_string)
set_option linter.unusedVariables false

theorem own : ownKnob Try.prog.godebug = none := by kernel_rfl

theorem first_sym {ss : List ByteArray} (hD : sortedD ss = sorted (docs ss)) (k : Nat) (hk : k < ss.length) (hx : k < (symD ss).length) :
    (symD ss)[k]? = some (if ss[k].size = 0 then 0 else ((ss[k].data.toList.getD (ss[k].size - 1) 0).toNat : Int) + 1) := by
  have hk2 : k < (sorted (docs ss)).length := by rw [len_symD, hD] at hx; exact hx
  have e := sorted_low (l := docs ss) (i := k) (by rw [len_docs]; exact hk) hk2
  rw [List.getElem?_eq_getElem hx]
  congr 1
  simp only [symD, List.getElem_map]
  have e2 : (sortedD ss)[k]'(by rw [hD]; exact hk2) = (k, (docAt (docs ss) k).length) := by
    simp only [hD]
    exact e
  rw [e2]
  have e3 : (docAt (docs ss) k).length = ss[k].size := by rw [docAt_docs hk]; simp
  simp only [aheadN, e3]
  rw [docAt_docs hk]
  by_cases h0 : ss[k].size = 0
  · simp [h0]
  · rw [if_neg h0, if_neg h0]
    rfl


/-! ### The walk -/
set_option maxHeartbeats 2000000 in
theorem walk (ao0 : Option Addr) (ss0 : List ByteArray) (cap0 : Nat) (w : World) (hs0 : HasStrs w ao0 ss0) (hz0 : ∀ s ∈ ss0, s.size ≤ 9223372036854775807) (hl0 : ss0.length ≤ 9223372036854775807) :
    Calls Try.prog 6 #[.slice ao0 ss0.length cap0] w fun e w' => e = .returned (.bool true) ∧ Below w.heap.size w w' := by
  have t1 := few_any ss0 ao0 cap0 w hs0 hl0
  have t3 := alive_any w
  cases hf : fewB ss0 with
  | false =>
    rw [hf] at t1
    have T1 : Hid (Calls _ _ _ _ _) := t1
    have T3 : Hid (Calls _ _ _ _ _) := t3
    clear t1 t3 hs0 hz0 hf
    go_enter Try.func6, Try.ntmps6
    go_wp2_with (go_at_call 7; fail)
    refine (T1.out).mono ?_
    rintro e w1 ⟨rfl, hw⟩
    obtain rfl := hw.symm
    go_wp2_with (go_at_call 9; fail)
    refine (T3.out).mono ?_
    rintro e w2 ⟨rfl, hb⟩
    go_wp2
    go_ret
    exact ⟨rfl, hb⟩
  | true =>
    have t2 := right_any ss0 ao0 cap0 w hs0
    cases hr : rightB ss0 with
    | false =>
      rw [hf] at t1
      rw [hr] at t2
      have T1 : Hid (Calls _ _ _ _ _) := t1
      have T2 : Hid (Calls _ _ _ _ _) := t2
      have T3 : Hid (Calls _ _ _ _ _) := t3
      clear t1 t2 t3 hs0 hz0 hf hr
      go_enter Try.func6, Try.ntmps6
      go_wp2_with (go_at_call 7; fail)
      refine (T1.out).mono ?_
      rintro e w1 ⟨rfl, hw⟩
      obtain rfl := hw.symm
      go_wp2_with (go_at_call 8; fail)
      refine (T2.out).mono ?_
      rintro e w1 ⟨rfl, hw⟩
      obtain rfl := hw.symm
      go_wp2_with (go_at_call 9; fail)
      refine (T3.out).mono ?_
      rintro e w2 ⟨rfl, hb⟩
      go_wp2
      go_ret
      exact ⟨rfl, hb⟩
    | true =>
      rw [hf] at t1
      rw [hr] at t2
      have hD : sortedD ss0 = sorted (docs ss0) := by simp [sortedD, hr]
      have hlen : ss0.length ≤ (symD ss0).length := by rw [len_symD, hD, len_sorted, len_docs]; omega
      have hsy : ∀ k (hk : k < ss0.length), (symD ss0)[k]? = some (if ss0[k].size = 0 then 0 else ((ss0[k].data.toList.getD (ss0[k].size - 1) 0).toNat : Int) + 1) := fun k hk => first_sym hD k hk (by omega)
      have hl10 : ss0.length ≤ 10 := right_len hr
      have hsz : Hid (∀ k (hk : k < ss0.length), ss0[k].size ≤ 40) := fun k hk => right_at hr hk
      have hn : (symD ss0).length ≤ 410 := by rw [len_symD]; exact sortedD_len ss0
      have T4 : Hid (∀ W, HasStrs W ao0 ss0 → _) := fun W h => symbols_any ss0 ao0 cap0 W h
      have HS : Hid (HasStrs w ao0 ss0) := hs0
      have HY : Hid (∀ k (hk : k < ss0.length), _) := hsy
      have T1 : Hid (Calls _ _ _ _ _) := t1
      have T2 : Hid (Calls _ _ _ _ _) := t2
      have T3 : Hid (Calls _ _ _ _ _) := t3
      clear t1 t2 t3 hs0 hz0 hf hr hsy hD
      generalize symD ss0 = xs at *
      go_enter Try.func6, Try.ntmps6
      go_wp2_with (go_at_call 7; fail)
      refine (T1.out).mono ?_
      rintro e w1 ⟨rfl, hw⟩
      obtain rfl := hw.symm
      go_wp2_with (go_at_call 8; fail)
      refine (T2.out).mono ?_
      rintro e w1 ⟨rfl, hw⟩
      obtain rfl := hw.symm
      go_wp2_with (go_at_call 9; fail)
      refine (T3.out).mono ?_
      rintro e w2 ⟨rfl, hb⟩
      have hs2 : HasStrs w2 ao0 ss0 := HasCells.later HS.out hb
      have HB2 : Hid (Below w.heap.size w w2) := hb
      clear hb
      go_wp2_with (go_at_call 11; fail)
      refine (T4.out w2 hs2).mono ?_
      rintro e w3 ⟨v, rfl, hown, hb3⟩
      obtain ⟨av, cv, rfl, hi, -⟩ := ownsRow_ints hown
      have HI : Hid (HasInts w3 av xs) := hi
      have HS3 : Hid (HasStrs w3 ao0 ss0) := HasCells.later hs2 hb3
      have HB3 : Hid (Below w.heap.size w w3) := below_next HB2.out hb3
      clear hown hb3 hi hs2 HS HB2 T1 T2 T3 T4
      go_wp2
      go_loopw [29] (fun q wr => ∃ k : Nat, k ≤ ss0.length ∧ q = .int .i64 k ∧ wr = w3) (fun q _ => ss0.length - (intOf q).toNat)
      case atStart => exact ⟨0, Nat.zero_le _, rfl, rfl⟩
      case round =>
        obtain ⟨k, hk, rfl, rfl⟩ := hrel
        by_cases hlt : k < ss0.length
        · have hkx : k < xs.length := by omega
          have hy : xs[k] = _ := Option.some.inj ((List.getElem?_eq_getElem hkx).symm.trans (HY.out k hlt))
          have h40 := hsz.out k hlt
          obtain ⟨g1, o1, rfl, hc1⟩ := HS3.out.at hlt
          obtain ⟨g2, o2, rfl, hc2⟩ := HI.out k hkx
          by_cases h0 : ss0[k].size = 0
          · rw [if_pos h0] at hy
            rw [hy] at hc2
            have he : ss0[k] = ⟨#[]⟩ := ba_empty h0
            rw [he] at hc1
            clear he h40 hy
            go_wp2
            go_roundw
            case rel => exact ⟨k + 1, by omega, by go_num, by trivial⟩
            case measure => simp [intOf]; omega
          · rw [if_neg h0] at hy
            have hm : ss0[k].size - 1 < ss0[k].size := by omega
            rw [getD_byte hm] at hy
            rw [hy] at hc2
            have hw1 : wrap64 ((ss0[k].size : Int) - 1) = ((ss0[k].size - 1 : Nat) : Int) := by rw [w64 (by omega) (by omega)]; omega
            have hix : 1 ≤ (ss0[k].size : Int) ∧ (ss0[k].size : Int) - 1 < ss0[k].size := by omega
            have hemp : ss0[k].toList.isEmpty = false := ba_full h0
            obtain ⟨m, hme⟩ : ∃ m, ss0[k].size - 1 = m := ⟨_, rfl⟩
            simp only [hme] at hw1 hc2 hm
            have hbb : (ss0[k][m].toNat : Int) ≤ 255 := by have := ss0[k][m].toNat_lt; omega
            have hwb : wrap64 (wrap64 (ss0[k][m].toNat : Int) + 1) = (ss0[k][m].toNat : Int) + 1 := w64_byte (by omega) hbb
            clear hy
            go_wp2
            go_roundw
            case rel => exact ⟨k + 1, by omega, by go_num, by trivial⟩
            case measure => simp [intOf]; omega
        · obtain rfl : k = ss0.length := by omega
          go_wp2
          go_ret
          exact ⟨rfl, HB3.out⟩

/-! ### The row's step -/
set_option maxRecDepth 100000 in
theorem lifted (os : Os) (started : os.Started) (H : Type) (enc : TypeId × Value → H) :
    ReturnsInHanded {} Try.checked os 6 .any (Rows.rowsFirstSpec.pre6 enc Try.prog Try.f6 Rows.rowsFirstRow.domain false) (Rows.rowsFirstSpec.post enc Try.prog Try.f6 false true false false) := by
  refine returnsInHanded_of_change (C := Try.checked) own started (by kernel_rfl) Try.func6
    (ChangeSpec.witness6 (enc := enc) (C := Try.checked) false ⟨#[], #[.slice none 0 0], []⟩ 8 (by kernel_rfl) (by kernel_rfl) (by kernel_rfl) (by kernel_rfl)) ?_
  intro W base args ds gs before hval0 hW hcnd _
  have hval : ∀ (j : Nat) t v, Try.f6.params[j]? = some t → args[j]? = some v → Value.okWide Try.prog W .any base t v := hval0
  have hW' := hW
  obtain ⟨p, q, hA0, hV, rfl, hfz, hnd⟩ := hW
  have hA : DataW.TrodAll enc Try.prog W 0 (fun _ => true) true Try.f6.params.toList args.toList ds p := hA0
  rw [Try.params6] at hA hval
  obtain ⟨v0, vs0, d0, ds0, p0, q0, hargs, rfl, rfl, h0, r0⟩ := trodAll_cons hA
  obtain ⟨rfl, rfl, rfl⟩ := trodAll_nil r0
  obtain rfl : args = #[v0] := by cases args; simp_all
  obtain ⟨rfl, rfl⟩ := trodVars_none hV
  obtain ⟨ao0, ss0, cap0, rfl, hs0, hz0, hl0⟩ := open_texts (hval 0 22 v0 rfl rfl) h0
  clear hA0 hval0
  simp only [List.append_nil] at hW'
  refine (walk ao0 ss0 cap0 W hs0 hz0 hl0).mono fun e W' ⟨he, hg⟩ => ?_
  subst he
  exact ⟨_, rfl, post_carry Try.laidOut (by rw [Try.params6]; intro t ht; simp only [List.mem_cons, List.not_mem_nil, or_false] at ht; subst ht; exact ⟨by kernel_rfl, of_decide_eq_true (by kernel_rfl)⟩) rfl hW' (fun _ _ _ => (trodAll_cons_mk (shut_bool Try.underlying4 _) trodAll_mk0)) rfl rfl hg⟩

theorem over : Rows.rowsFirstRow.holds Try.pinned (OpenSpec.ofChange Rows.rowsFirstSpec) :=
  OpenClaim.holds_of_wide 6 Try.f6 rfl rfl rfl rfl rfl rfl rfl ⟨rfl, rfl, rfl, rfl, rfl⟩ rfl rfl rfl rfl rfl (by kernel_rfl) Try.func6 (by kernel_rfl)
    (of_decide_eq_true (by kernel_rfl)) (by unfold Func.isWrapper; first | (rw [if_pos (by decide +kernel)]; kernel_rfl) | (rw [if_neg (by decide +kernel)]; exact ⟨rfl, rfl⟩))
    (fun os started H enc _ => lifted os started H enc)

end Go.Proofs.Ytpmkgdpojfnppab.rowsFirst

namespace Go.Proofs.Ytpmkgdpojfnppab
/-- the statement -/
theorem rowsFirst_holds : Rows.RowsFirstSaid := rowsFirst.over
#print axioms rowsFirst_holds
end Go.Proofs.Ytpmkgdpojfnppab
