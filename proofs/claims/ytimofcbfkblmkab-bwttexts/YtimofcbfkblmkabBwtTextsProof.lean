/- BwtTexts: of the symbols of documents that are few and may be, each document is told by itself as it is, and no one more: the law's call returns true, whatever it is handed. -/
import Derived.Test.YtimofcbfkblmkabBwtK
import Derived.Test.YtimofcbfkblmkabRows
namespace Go.Proofs.Ytimofcbfkblmkab.bwtTexts
open Go.ChangeShapes Go.WideShapes Go.ChangeAt Go.RowKit Go.Sort
open Go.ChangeMaps (open_string shut_string)
set_option linter.unusedVariables false

theorem own : ownKnob Try.prog.godebug = none := by kernel_rfl

theorem text_yes {ss : List ByteArray} (hr : rightB ss = true) {d : Nat} (hd : d < ss.length) {av : Option Addr} {cv : Nat} {W : World} (hx : (symD ss).length ≤ 1000000) (hc : (symD ss).length ≤ cv) (h : HasInts W av (symD ss)) :
    Calls Try.prog 14 #[.int .i64 (d : Nat), .slice av (symD ss).length cv] W fun e w' => e = .returned (.tuple #[.string ss[d], .bool true]) ∧ Below W.heap.size W w' := by
  have t := btext_any (symD ss) av cv (d : Int) W hx hc h
  rw [symD_textB hr hd] at t
  have e : (⟨((some ss[d].data.toList : Option (List UInt8)).getD []).toArray⟩ : ByteArray) = ss[d] := ba_back _
  rw [e] at t
  exact t

theorem text_no {ss : List ByteArray} (hr : rightB ss = true) {d : Int} (hd : d < 0 ∨ (ss.length : Int) ≤ d) {av : Option Addr} {cv : Nat} {W : World} (hx : (symD ss).length ≤ 1000000) (hc : (symD ss).length ≤ cv) (h : HasInts W av (symD ss)) :
    Calls Try.prog 14 #[.int .i64 d, .slice av (symD ss).length cv] W fun e w' => e = .returned (.tuple #[.string ⟨#[]⟩, .bool false]) ∧ Below W.heap.size W w' := by
  have t := btext_any (symD ss) av cv d W hx hc h
  rw [symD_textB_no hr hd] at t
  exact t


/-! ### The walk -/
set_option maxRecDepth 100000 in
set_option maxHeartbeats 2000000 in
theorem walk (ao0 : Option Addr) (ss0 : List ByteArray) (cap0 : Nat) (w : World) (hs0 : HasStrs w ao0 ss0) (hz0 : ∀ s ∈ ss0, s.size ≤ 9223372036854775807) (hl0 : ss0.length ≤ 9223372036854775807) :
    Calls Try.prog 4 #[.slice ao0 ss0.length cap0] w fun e w' => e = .returned (.bool true) ∧ Below w.heap.size w w' := by
  have t1 := few_any ss0 ao0 cap0 w hs0 hl0
  have T3 : Hid (Calls _ _ _ _ _) := balive_any w
  cases hf : fewB ss0 with
  | false =>
    rw [hf] at t1
    have T1 : Hid (Calls _ _ _ _ _) := t1
    clear t1 hs0 hz0 hl0 hf 
    go_enter Try.func4, Try.ntmps4
    go_wp2_with (go_at_call 11; fail)
    refine (T1.out).mono ?_
    rintro e w1 ⟨rfl, hw⟩
    obtain rfl := hw.symm
    go_wp2_with (go_at_call 9; fail)
    refine (T3.out).mono ?_
    rintro e w2 ⟨rfl, hb⟩
    go_wp2
    go_ret
    exact ⟨rfl, hb⟩
  | true =>
    have t2 := right_any ss0 ao0 cap0 w hs0
    rw [hf] at t1
    have T1 : Hid (Calls _ _ _ _ _) := t1
    clear t1
    cases hr : rightB ss0 with
    | false =>
      rw [hr] at t2
      have T2 : Hid (Calls _ _ _ _ _) := t2
      clear t2 hs0 hz0 hl0 hf hr 
      go_enter Try.func4, Try.ntmps4
      go_wp2_with (go_at_call 11; fail)
      refine (T1.out).mono ?_
      rintro e w1 ⟨rfl, hw⟩
      obtain rfl := hw.symm
      go_wp2_with (go_at_call 12; fail)
      refine (T2.out).mono ?_
      rintro e w1 ⟨rfl, hw⟩
      obtain rfl := hw.symm
      go_wp2_with (go_at_call 9; fail)
      refine (T3.out).mono ?_
      rintro e w2 ⟨rfl, hb⟩
      go_wp2
      go_ret
      exact ⟨rfl, hb⟩
    | true =>
      rw [hr] at t2
      have T2 : Hid (Calls _ _ _ _ _) := t2
      clear t2
      have hl10 : ss0.length ≤ 10 := right_len hr
      have hn : (symD ss0).length ≤ 410 := by rw [len_symD]; exact sortedD_len ss0
      have T4 : Hid (∀ W, HasStrs W ao0 ss0 → _) := fun W h => symbols_any ss0 ao0 cap0 W h
      have T5 : Hid (∀ d (hd : d < ss0.length) av cv W, (symD ss0).length ≤ cv → HasInts W av (symD ss0) → Calls Try.prog 14 #[.int .i64 (d : Nat), .slice av (symD ss0).length cv] W fun e w' => e = .returned (.tuple #[.string ss0[d], .bool true]) ∧ Below W.heap.size W w') := fun d hd av cv W hc h => text_yes hr hd (by omega) hc h
      have T6 : Hid (∀ (d : Int), d < 0 ∨ (ss0.length : Int) ≤ d → ∀ av cv W, (symD ss0).length ≤ cv → HasInts W av (symD ss0) → Calls Try.prog 14 #[.int .i64 d, .slice av (symD ss0).length cv] W fun e w' => e = .returned (.tuple #[.string ⟨#[]⟩, .bool false]) ∧ Below W.heap.size W w') := fun d hd av cv W hc h => text_no hr hd (by omega) hc h
      have HS : Hid (HasStrs w ao0 ss0) := hs0
      clear hs0 hz0 hf hr
      generalize symD ss0 = xs at *
      go_enter Try.func4, Try.ntmps4
      go_wp2_with (go_at_call 11; fail)
      refine (T1.out).mono ?_
      rintro e w1 ⟨rfl, hw⟩
      obtain rfl := hw.symm
      go_wp2_with (go_at_call 12; fail)
      refine (T2.out).mono ?_
      rintro e w1 ⟨rfl, hw⟩
      obtain rfl := hw.symm
      go_wp2_with (go_at_call 9; fail)
      refine (T3.out).mono ?_
      rintro e w2 ⟨rfl, hb⟩
      have hs2 : HasStrs w2 ao0 ss0 := HasCells.later HS.out hb
      have HB2 : Hid (Below w.heap.size w w2) := hb
      clear hb
      go_wp2_with (go_at_call 13; fail)
      refine (T4.out w2 hs2).mono ?_
      rintro e w3 ⟨v3, rfl, hown3, hb3⟩
      obtain ⟨av, cv, rfl, hi3, -⟩ := ownsRow_ints hown3
      have hcv := owns_cap hown3
      have HI : Hid (HasInts w3 av xs) := hi3
      have HS3 : Hid (HasStrs w3 ao0 ss0) := HasCells.later hs2 hb3
      have HB3 : Hid (Below w.heap.size w w3) := below_next HB2.out hb3
      clear hown3 hb3 hi3 hs2 HS HB2 T1 T2 T3 T4
      go_wp2
      go_loopw [28] (fun q wr => ∃ k : Nat, k ≤ ss0.length ∧ q = .int .i64 k ∧ Hid (Below w3.heap.size w3 wr)) (fun q _ => ss0.length - (intOf q).toNat)
      case atStart => exact ⟨0, Nat.zero_le _, rfl, Below.refl _ _⟩
      case round =>
        obtain ⟨k, hk, rfl, hbr⟩ := hrel
        by_cases hlt : k < ss0.length
        · have t := T5.out k hlt av cv wr hcv (HI.out.later hbr.out)
          have T : Hid (Calls _ _ _ _ _) := t
          have hsr : HasStrs wr ao0 ss0 := HS3.out.later hbr.out
          obtain ⟨g, o, rfl, hc⟩ := hsr.at hlt
          have hI1 : (k : Int) < (ss0.length : Int) := by omega
          have HCB : Hid (∀ W, Below wr.heap.size wr W → W.cell? ⟨g, o + k, none⟩ = some (.string ss0[k])) := fun W hW => by rw [World.cell?_of_block (w := wr) (hW.block _ (cell_in hc))]; exact hc
          clear t hsr
          go_wp2_with (go_at_call 14; fail)
          refine (T.out).mono ?_
          rintro e w5 ⟨rfl, hb5⟩
          have hc5 := HCB.out w5 hb5
          have HB5 : Hid (Below w3.heap.size w3 w5) := below_next hbr.out hb5
          clear hb5 T HCB hc
          generalize ss0[k] = s at *
          go_wp2
          go_roundw
          case rel => exact ⟨k + 1, by omega, by go_num, HB5⟩
          case measure => simp [intOf]; omega
        · obtain rfl : k = ss0.length := by omega
          have T : Hid (Calls _ _ _ _ _) := T6.out (ss0.length : Int) (Or.inr (Int.le_refl _)) av cv wr hcv (HI.out.later hbr.out)
          go_wp2_with (go_at_call 14; fail)
          refine (T.out).mono ?_
          rintro e w5 ⟨rfl, hb5⟩
          have hB5 : Below w3.heap.size w3 w5 := below_next hbr.out hb5
          have T' : Hid (Calls _ _ _ _ _) := T6.out (-1) (Or.inl (by omega)) av cv w5 hcv (HI.out.later hB5)
          have HB5 : Hid (Below w3.heap.size w3 w5) := hB5
          clear hb5 hB5 T
          go_wp2_with (go_at_call 14; fail)
          refine (T'.out).mono ?_
          rintro e w6 ⟨rfl, hb6⟩
          have HB6 : Hid (Below w.heap.size w w6) := below_next HB3.out (below_next HB5.out hb6)
          clear hb6
          go_wp2
          go_ret
          exact ⟨rfl, HB6.out⟩

/-! ### The row's step -/
set_option maxRecDepth 100000 in
theorem lifted (os : Os) (started : os.Started) (H : Type) (enc : TypeId × Value → H) :
    ReturnsInHanded {} Try.checked os 4 .any (Rows.bwtTextsSpec.pre6 enc Try.prog Try.f4 Rows.bwtTextsRow.domain false) (Rows.bwtTextsSpec.post enc Try.prog Try.f4 false true false false) := by
  refine returnsInHanded_of_change (C := Try.checked) own started (by kernel_rfl) Try.func4
    (ChangeSpec.witness6 (enc := enc) (C := Try.checked) false ⟨#[], #[.slice none 0 0], []⟩ 8 (by kernel_rfl) (by kernel_rfl) (by kernel_rfl) (by kernel_rfl)) ?_
  intro W base args ds gs before hval0 hW hcnd _
  have hval : ∀ (j : Nat) t v, Try.f4.params[j]? = some t → args[j]? = some v → Value.okWide Try.prog W .any base t v := hval0
  have hW' := hW
  obtain ⟨p, q, hA0, hV, rfl, hfz, hnd⟩ := hW
  have hA : DataW.TrodAll enc Try.prog W 0 (fun _ => true) true Try.f4.params.toList args.toList ds p := hA0
  rw [Try.params4] at hA hval
  obtain ⟨v0, vs0, d0, ds0, p0, q0, hargs, rfl, rfl, h0, r0⟩ := trodAll_cons hA
  obtain ⟨rfl, rfl, rfl⟩ := trodAll_nil r0
  obtain rfl : args = #[v0] := by cases args; simp_all
  obtain ⟨rfl, rfl⟩ := trodVars_none hV
  obtain ⟨ao0, ss0, cap0, rfl, hs0, hz0, hl0⟩ := open_texts (hval 0 29 v0 rfl rfl) h0
  clear hA0 hval0
  simp only [List.append_nil] at hW'
  refine (walk ao0 ss0 cap0 W hs0 hz0 hl0).mono fun e W' ⟨he, hg⟩ => ?_
  subst he
  exact ⟨_, rfl, post_carry Try.laidOut (by rw [Try.params4]; intro t ht; simp only [List.mem_cons, List.not_mem_nil, or_false] at ht; subst ht; exact ⟨by kernel_rfl, of_decide_eq_true (by kernel_rfl)⟩) rfl hW' (fun _ _ _ => (trodAll_cons_mk (shut_bool Try.underlying4 _) trodAll_mk0)) rfl rfl hg⟩

theorem over : Rows.bwtTextsRow.holds Try.pinned (OpenSpec.ofChange Rows.bwtTextsSpec) :=
  OpenClaim.holds_of_wide 4 Try.f4 rfl rfl rfl rfl rfl rfl rfl ⟨rfl, rfl, rfl, rfl, rfl⟩ rfl rfl rfl rfl rfl (by kernel_rfl) Try.func4 (by kernel_rfl)
    (of_decide_eq_true (by kernel_rfl)) (by unfold Func.isWrapper; first | (rw [if_pos (by decide +kernel)]; kernel_rfl) | (rw [if_neg (by decide +kernel)]; exact ⟨rfl, rfl⟩))
    (fun os started H enc _ => lifted os started H enc)

end Go.Proofs.Ytimofcbfkblmkab.bwtTexts

namespace Go.Proofs.Ytimofcbfkblmkab
/-- the statement -/
theorem bwtTexts_holds : Rows.BwtTextsSaid := bwtTexts.over
#print axioms bwtTexts_holds
end Go.Proofs.Ytimofcbfkblmkab
