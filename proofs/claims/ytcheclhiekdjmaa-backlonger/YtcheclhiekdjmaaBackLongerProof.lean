/- BackLonger holds of every documents and pattern: with a byte ahead it stands nowhere where it does not without; all these together, and the documents that begin with it, are as many as it. -/
import Derived.Test.YtcheclhiekdjmaaBackV
import Derived.Test.YtcheclhiekdjmaaRMore
import Derived.Test.YtcheclhiekdjmaaOne
import Derived.Test.YtcheclhiekdjmaaRows
namespace Go.Proofs.Ytcheclhiekdjmaa.backLonger
open Go.ChangeShapes Go.WideShapes Go.ChangeAt Go.RowKit Go.Sort
open Go.ChangeMaps (open_string shut_string)
set_option linter.unusedVariables false

theorem own : ownKnob Try.prog.godebug = none := by kernel_rfl

/-- how often it stands with one of the first n bytes ahead; how many of the first d documents begin with it -/
def aftD (p : ByteArray) (ss : List ByteArray) (n : Nat) : Nat := afterN (docs ss) p.data.toList n
def hedD (p : ByteArray) (ss : List ByteArray) (d : Nat) : Nat := headsN (docs ss) p.data.toList d

theorem aft_succ (p : ByteArray) (ss : List ByteArray) {k : Nat} (hk : k < 256) : aftD p ss (k + 1) = aftD p ss k + cntN' (⟨#[UInt8.ofNat k]⟩ ++ p) ss ∧ cntN' (⟨#[UInt8.ofNat k]⟩ ++ p) ss ≤ cntN' p ss := by
  have hb : (UInt8.ofNat k).toNat = k := by simp; omega
  have e : cntN' (⟨#[UInt8.ofNat k]⟩ ++ p) ss = (naive (docs ss) (UInt8.ofNat k :: p.data.toList) (docs ss).length).length := by
    unfold cntN' naiveD
    rw [front_text (b := UInt8.ofNat k) (S := p) rfl, len_docs]
  have h1 := after_succ (docs ss) (UInt8.ofNat k) p.data.toList
  rw [hb] at h1
  refine ⟨?_, ?_⟩
  · rw [e]
    exact h1
  · rw [e]
    have h2 := naive_ahead_le (docs ss) (UInt8.ofNat k) p.data.toList
    unfold cntN' naiveD
    rw [len_docs] at h2 ⊢
    exact h2

theorem aft_le (p : ByteArray) (ss : List ByteArray) (n : Nat) : aftD p ss n ≤ cntN' p ss := by
  unfold aftD afterN cntN' naiveD naive
  rw [← List.countP_eq_length_filter, len_docs]
  apply List.countP_mono_left
  intro r _ h
  rw [Bool.and_eq_true] at h
  exact h.2

theorem hed_succ (p : ByteArray) (ss : List ByteArray) {k : Nat} (hk : k < ss.length) : hedD p ss (k + 1) = hedD p ss k + (if p.data.toList.isPrefixOf ss[k].data.toList then 1 else 0) := by
  unfold hedD
  rw [heads_succ, docAt_docs hk]

theorem hed_le (p : ByteArray) (ss : List ByteArray) : ∀ {d : Nat}, d ≤ ss.length → hedD p ss d ≤ d
  | 0, _ => Nat.le_refl _
  | d + 1, h => by
    have := hed_le p ss (d := d) (by omega)
    rw [hed_succ p ss (by omega)]
    split <;> omega

theorem aft_all (p : ByteArray) (ss : List ByteArray) : aftD p ss 256 + hedD p ss ss.length = cntN' p ss := by
  have h := after_all (docs ss) p.data.toList
  rw [len_docs] at h
  exact h


/-! ### The walk -/
set_option maxRecDepth 100000 in
set_option maxHeartbeats 2000000 in
theorem walk (ao0 : Option Addr) (ss0 : List ByteArray) (cap0 : Nat) (a1 : ByteArray) (w : World) (hs0 : HasStrs w ao0 ss0) (hz0 : ∀ s ∈ ss0, s.size ≤ 9223372036854775807) (hl0 : ss0.length ≤ 9223372036854775807) (w1 : a1.size ≤ maxLen) :
    Calls Try.prog 4 #[.slice ao0 ss0.length cap0, .string a1] w fun e w' => e = .returned (.bool true) ∧ Below w.heap.size w w' := by
  have t1 := few_any ss0 ao0 cap0 w hs0 hl0
  have T3 : Hid (Calls _ _ _ _ _) := valive_any w
  cases hf : fewB ss0 with
  | false =>
    rw [hf] at t1
    have T1 : Hid (Calls _ _ _ _ _) := t1
    clear t1 hs0 hz0 hl0 hf 
    go_enter Try.func4, Try.ntmps4
    go_wp2_with (go_at_call 8; fail)
    refine (T1.out).mono ?_
    rintro e w1 ⟨rfl, hw⟩
    obtain rfl := hw.symm
    go_wp2_with (go_at_call 10; fail)
    refine (T3.out).mono ?_
    rintro e w2 ⟨rfl, hb⟩
    go_wp2
    go_ret
    exact ⟨rfl, hb⟩
  | true =>
    have t2 := right_any ss0 ao0 cap0 w hs0
    rw [hf] at t1
    have T1 : Hid (Calls _ _ _ _ _) := t1
    clear t1
    cases hr : rightB ss0 with
    | false =>
      rw [hr] at t2
      have T2 : Hid (Calls _ _ _ _ _) := t2
      clear t2 hs0 hz0 hl0 hf hr 
      go_enter Try.func4, Try.ntmps4
      go_wp2_with (go_at_call 8; fail)
      refine (T1.out).mono ?_
      rintro e w1 ⟨rfl, hw⟩
      obtain rfl := hw.symm
      go_wp2_with (go_at_call 9; fail)
      refine (T2.out).mono ?_
      rintro e w1 ⟨rfl, hw⟩
      obtain rfl := hw.symm
      go_wp2_with (go_at_call 10; fail)
      refine (T3.out).mono ?_
      rintro e w2 ⟨rfl, hb⟩
      go_wp2
      go_ret
      exact ⟨rfl, hb⟩
    | true =>
      rw [hr] at t2
      have T2 : Hid (Calls _ _ _ _ _) := t2
      clear t2
      have hl10 : ss0.length ≤ 10 := right_len hr
      have HS : Hid (HasStrs w ao0 ss0) := hs0
      have HR : Hid (rightB ss0 = true) := hr
      have T4 : Hid (∀ W, HasStrs W ao0 ss0 → _) := fun W h => symbols_any ss0 ao0 cap0 W h
      clear hs0 hr hf hl0 hz0
      by_cases hp : a1.size ≤ 20
      · have hp' : decide ((20 : Int) < (a1.size : Int)) = false := by simp; omega
        go_enter Try.func4, Try.ntmps4
        go_wp2_with (go_at_call 8; fail)
        refine (T1.out).mono ?_
        rintro e w1 ⟨rfl, hw⟩
        obtain rfl := hw.symm
        go_wp2_with (go_at_call 9; fail)
        refine (T2.out).mono ?_
        rintro e w1 ⟨rfl, hw⟩
        obtain rfl := hw.symm
        go_wp2_with (go_at_call 10; fail)
        refine (T3.out).mono ?_
        rintro e w2 ⟨rfl, hb⟩
        go_wp2_with (go_at_call 11; fail)
        refine (T4.out _ (HS.out.later hb)).mono ?_
        rintro e w3 ⟨v, rfl, hown, hb3⟩
        obtain ⟨av, cv, rfl, -, -, -, -⟩ := owns_cells hown
        have HI3 : Hid (HasInts w3 av (symD ss0)) := HasInts.of_own hown
        have HB3 : Hid (Below w.heap.size w w3) := below_next hb hb3
        have HS3 : Hid (HasStrs w3 ao0 ss0) := HS.out.later HB3.out
        have HCV : Hid ((symD ss0).length ≤ cv) := owns_cap hown
        obtain ⟨n, hn⟩ : ∃ n, n = (symD ss0).length := ⟨_, rfl⟩
        have HN : Hid (n = (symD ss0).length) := hn
        have hn410 : n ≤ 410 := by rw [hn]; exact symD_le HR.out
        rw [← hn]
        clear hown hb3 hb hn T4 HS T1 T2 T3
        have T5 : Hid (∀ (p : ByteArray) W, p.size ≤ 1000000 → HasInts W av (symD ss0) → _) := fun p W hp h => count_sym HR.out HN.out p av cv W hp h
        have HC410 : Hid (cntN' a1 ss0 ≤ 410) := Nat.le_trans (cnt_le _ _) (bytes_right HR.out)
        have T6 : Hid (Calls _ _ _ _ _) := T5.out a1 w3 (by omega) HI3.out
        go_wp2_with (go_at_call 15; fail)
        refine (T6.out).mono ?_
        rintro e w4 ⟨rfl, hb4⟩
        have HB4 : Hid (Below w3.heap.size w3 w4) := hb4
        clear hb4 T6
        go_wp2
        go_loopw [7, 8] (fun v q wr => ∃ k : Nat, k ≤ 256 ∧ q = .int .i64 k ∧ v = .int .i64 (aftD a1 ss0 k : Nat) ∧ Hid (Below w3.heap.size w3 wr)) (fun _ q _ => 256 - (intOf q).toNat)
        case atStart => exact ⟨0, Nat.zero_le _, rfl, by rw [aftD, after_zero]; rfl, HB4⟩
        case round =>
          obtain ⟨k, hk, rfl, rfl, hbr⟩ := hrel
          have hal := Nat.le_trans (aft_le a1 ss0 k) HC410.out
          have hC := HC410.out
          by_cases hlt : k < 256
          · obtain ⟨hs1, hs2⟩ := aft_succ a1 ss0 hlt
            have hb8 : (k : Int) = ((UInt8.ofNat k).toNat : Int) := by simp; omega
            have hcv := conv_one (UInt8.ofNat k) wr (k : Int) hb8
            have hwk : IntKind.u8.wrap (k : Int) = (k : Int) := by show (k : Int) % 256 = _; omega
            have h1s : (⟨#[UInt8.ofNat k]⟩ : ByteArray).size = 1 := rfl
            have hsum : (⟨#[UInt8.ofNat k]⟩ : ByteArray).size + a1.size ≤ 9223372036854775807 := by rw [h1s]; omega
            have HB5 : Hid (Below w3.heap.size w3 (wr.alloc (.cells #[.int .u8 (k : Int)] 5))) := below_alloc hbr.out _
            have T6 : Hid (Calls _ _ _ _ _) := T5.out (⟨#[UInt8.ofNat k]⟩ ++ a1) _ (by rw [ByteArray.size_append, h1s]; omega) (HI3.out.later HB5.out)
            have HS1 : Hid (_ = _) := hs1
            clear hs1 h1s hb8
            generalize cntN' (⟨#[UInt8.ofNat k]⟩ ++ a1) ss0 = K at *
            generalize cntN' a1 ss0 = C at *
            generalize aftD a1 ss0 k = A at *
            go_wp2_with (go_at_call 15; fail)
            with_reducible refine (T6.out).mono ?_
            rintro e w6 ⟨rfl, hb6⟩
            have HB6 : Hid (Below w3.heap.size w3 w6) := below_next HB5.out hb6
            clear T6 hb6 hcv hwk hsum
            go_wp2
            go_roundw
            case rel => exact ⟨k + 1, by omega, by go_num, by rw [HS1.out]; go_num, HB6⟩
            case measure => simp [intOf]; omega
          · obtain rfl : k = 256 := by omega
            have HBW : Hid (Below w3.heap.size w3 wr) := hbr
            have HSW : Hid (HasStrs wr ao0 ss0) := HS3.out.later hbr.out
            clear hbr T5
            obtain ⟨w5, hw5⟩ : ∃ w5, w5 = wr := ⟨_, rfl⟩
            go_wp2
            go_loopw [7, 59] (fun v q wr2 => ∃ k : Nat, k ≤ ss0.length ∧ q = .int .i64 k ∧ v = .int .i64 (aftD a1 ss0 256 + hedD a1 ss0 k : Nat) ∧ wr2 = w5) (fun _ q _ => ss0.length - (intOf q).toNat)
            case atStart => exact ⟨0, Nat.zero_le _, rfl, rfl, hw5.symm⟩
            case round =>
              subst hw5
              obtain ⟨k, hk2, rfl, rfl, hwr⟩ := hrel
              obtain rfl := hwr.symm
              have hhl := hed_le a1 ss0 hk2
              by_cases hlt2 : k < ss0.length
              · obtain ⟨g, o, hao, hc⟩ := HasStrs.at HSW.out hlt2
                have hgw := cell_in hc
                have h40 : ss0[k].size ≤ 40 := right_at HR.out hlt2
                have hs1 := hed_succ a1 ss0 hlt2
                subst hao
                by_cases hsz : a1.size ≤ ss0[k].size
                · have hpre := ba_le ss0[k] a1 hsz
                  cases hpp : a1.data.toList.isPrefixOf ss0[k].data.toList with
                  | true =>
                    rw [hpp] at hpre
                    rw [hpp, if_pos rfl] at hs1
                    have HS1 : Hid (_ = _) := hs1
                    clear hs1 hpp
                    generalize aftD a1 ss0 256 = A at *
                    generalize hedD a1 ss0 k = E at *
                    go_wp2
                    go_roundw
                    case rel => exact ⟨k + 1, by omega, by go_num, by rw [HS1.out]; go_num, by first | rfl | trivial⟩
                    case measure => simp [intOf]; omega
                  | false =>
                    rw [hpp] at hpre
                    replace hs1 : hedD a1 ss0 (k + 1) = hedD a1 ss0 k := by rw [hs1, hpp]; simp
                    have HS1 : Hid (_ = _) := hs1
                    clear hs1 hpp
                    go_wp2
                    go_roundw
                    case rel => exact ⟨k + 1, by omega, by go_num, by rw [HS1.out], by first | rfl | trivial⟩
                    case measure => simp [intOf]; omega
                · have hpp := ba_no ss0[k] a1 hsz
                  replace hs1 : hedD a1 ss0 (k + 1) = hedD a1 ss0 k := by rw [hs1, hpp]; simp
                  have HS1 : Hid (_ = _) := hs1
                  clear hs1 hpp
                  go_wp2
                  go_roundw
                  case rel => exact ⟨k + 1, by omega, by go_num, by rw [HS1.out], by first | rfl | trivial⟩
                  case measure => simp [intOf]; omega
              · obtain rfl : k = ss0.length := by omega
                rw [aft_all]
                have HBE : Hid (Below w.heap.size w w5) := below_next HB3.out HBW.out
                go_wp2
                go_ret
                exact ⟨rfl, HBE.out⟩
      · have hp' : decide ((20 : Int) < (a1.size : Int)) = true := by simp; omega
        go_enter Try.func4, Try.ntmps4
        go_wp2_with (go_at_call 8; fail)
        refine (T1.out).mono ?_
        rintro e w1 ⟨rfl, hw⟩
        obtain rfl := hw.symm
        go_wp2_with (go_at_call 9; fail)
        refine (T2.out).mono ?_
        rintro e w1 ⟨rfl, hw⟩
        obtain rfl := hw.symm
        go_wp2_with (go_at_call 10; fail)
        refine (T3.out).mono ?_
        rintro e w2 ⟨rfl, hb⟩
        go_wp2
        go_ret
        exact ⟨rfl, hb⟩

/-! ### The row's step -/
set_option maxRecDepth 100000 in
theorem lifted (os : Os) (started : os.Started) (H : Type) (enc : TypeId × Value → H) :
    ReturnsInHanded {} Try.checked os 4 .any (Rows.backLongerSpec.pre6 enc Try.prog Try.f4 Rows.backLongerRow.domain false) (Rows.backLongerSpec.post enc Try.prog Try.f4 false true false false) := by
  refine returnsInHanded_of_change (C := Try.checked) own started (by kernel_rfl) Try.func4
    (ChangeSpec.witness6 (enc := enc) (C := Try.checked) false ⟨#[], #[.slice none 0 0, .string ByteArray.empty], []⟩ 8 (by kernel_rfl) (by kernel_rfl) (by kernel_rfl) (by kernel_rfl)) ?_
  intro W base args ds gs before hval0 hW hcnd _
  have hval : ∀ (j : Nat) t v, Try.f4.params[j]? = some t → args[j]? = some v → Value.okWide Try.prog W .any base t v := hval0
  have hW' := hW
  obtain ⟨p, q, hA0, hV, rfl, hfz, hnd⟩ := hW
  have hA : DataW.TrodAll enc Try.prog W 0 (fun _ => true) true Try.f4.params.toList args.toList ds p := hA0
  rw [Try.params4] at hA hval
  obtain ⟨v0, vs0, d0, ds0, p0, q0, hargs, rfl, rfl, h0, r0⟩ := trodAll_cons hA
  obtain ⟨v1, vs1, d1, ds1, p1, q1, rfl, rfl, rfl, h1, r1⟩ := trodAll_cons r0
  obtain ⟨rfl, rfl, rfl⟩ := trodAll_nil r1
  obtain rfl : args = #[v0, v1] := by cases args; simp_all
  obtain ⟨rfl, rfl⟩ := trodVars_none hV
  obtain ⟨ao0, ss0, cap0, rfl, hs0, hz0, hl0⟩ := open_texts (hval 0 22 v0 rfl rfl) h0
  obtain ⟨a1, rfl, rfl, rfl, w1⟩ := open_string Try.underlying9 (hval 1 9 v1 rfl rfl) h1
  clear hA0 hval0
  simp only [List.append_nil] at hW'
  refine (walk ao0 ss0 cap0 a1 W hs0 hz0 hl0 w1).mono fun e W' ⟨he, hg⟩ => ?_
  subst he
  exact ⟨_, rfl, post_carry Try.laidOut (by rw [Try.params4]; intro t ht; simp only [List.mem_cons, List.not_mem_nil, or_false] at ht; rcases ht with rfl | rfl <;> exact ⟨by kernel_rfl, of_decide_eq_true (by kernel_rfl)⟩) rfl hW' (fun _ _ _ => (trodAll_cons_mk (shut_bool Try.underlying4 _) trodAll_mk0)) rfl rfl hg⟩

theorem over : Rows.backLongerRow.holds Try.pinned (OpenSpec.ofChange Rows.backLongerSpec) :=
  OpenClaim.holds_of_wide 4 Try.f4 rfl rfl rfl rfl rfl rfl rfl ⟨rfl, rfl, rfl, rfl, rfl⟩ rfl rfl rfl rfl rfl (by kernel_rfl) Try.func4 (by kernel_rfl)
    (of_decide_eq_true (by kernel_rfl)) (by unfold Func.isWrapper; first | (rw [if_pos (by decide +kernel)]; kernel_rfl) | (rw [if_neg (by decide +kernel)]; exact ⟨rfl, rfl⟩))
    (fun os started H enc _ => lifted os started H enc)

end Go.Proofs.Ytcheclhiekdjmaa.backLonger

namespace Go.Proofs.Ytcheclhiekdjmaa
/-- the statement -/
theorem backLonger_holds : Rows.BackLongerSaid := backLonger.over
#print axioms backLonger_holds
end Go.Proofs.Ytcheclhiekdjmaa
