/- BackBytes holds of every documents and byte: each byte by itself is found as often as it stands in the documents. -/
import Derived.Test.YtcheclhiekdjmabBackV
import Derived.Test.YtcheclhiekdjmabRMore
import Derived.Test.YtcheclhiekdjmabOne
import Derived.Test.YtcheclhiekdjmabRows
namespace Go.Proofs.Ytcheclhiekdjmab.backBytes
open Go.ChangeShapes Go.WideShapes Go.ChangeAt Go.RowKit Go.Sort
open Go.ChangeMaps (open_string shut_string)
set_option linter.unusedVariables false

theorem own : ownKnob Try.prog.godebug = none := by kernel_rfl

/-- how often a byte stands in the first k documents -/
def cK (c : UInt8) (ss : List ByteArray) (k : Nat) : Nat := (naiveD ⟨#[c]⟩ ss k).length

theorem cK_succ {c : UInt8} {ss : List ByteArray} {k : Nat} (h : k < ss.length) : cK c ss (k + 1) = cK c ss k + ss[k].data.toList.countP (· == c) := by
  unfold cK naiveD
  rw [len_naive_succ, docAt_docs h, ← occ_byte]

theorem take_count {c : UInt8} {s : ByteArray} {i : Nat} (h : i < s.size) : (s.data.toList.take (i + 1)).countP (· == c) = (s.data.toList.take i).countP (· == c) + (if s[i] = c then 1 else 0) := by
  have h' : i < s.data.toList.length := h
  rw [List.take_succ_eq_append_getElem h', List.countP_append, List.countP_singleton]
  congr 1
  have : s.data.toList[i] = s[i] := rfl
  rw [this]
  simp

theorem count_le' (c : UInt8) (l : List UInt8) (i : Nat) : (l.take i).countP (· == c) ≤ i := Nat.le_trans List.countP_le_length (by simp; omega)

theorem cK_le {c : UInt8} {ss : List ByteArray} {k : Nat} (hr : rightB ss = true) (hk : k ≤ ss.length) : cK c ss k ≤ 410 := by
  have h1 := len_naiveD ⟨#[c]⟩ ss k
  have h2 := bytesTo_mono (docs ss) hk
  have h3 := bytes_right hr
  unfold cK
  omega


/-! ### The walk -/
set_option maxRecDepth 100000 in
set_option maxHeartbeats 2000000 in
theorem walk (ao0 : Option Addr) (ss0 : List ByteArray) (cap0 : Nat) (a1 : Int) (w : World) (hs0 : HasStrs w ao0 ss0) (hz0 : ∀ s ∈ ss0, s.size ≤ 9223372036854775807) (hl0 : ss0.length ≤ 9223372036854775807) (w1 : (Lit.int .u8 a1).wf = true) :
    Calls Try.prog 4 #[.slice ao0 ss0.length cap0, .int .u8 a1] w fun e w' => e = .returned (.bool true) ∧ Below w.heap.size w w' := by
  obtain ⟨c, rfl⟩ := byte_of a1 w1
  clear w1
  have t1 := few_any ss0 ao0 cap0 w hs0 hl0
  have T3 : Hid (Calls _ _ _ _ _) := valive_any w
  cases hf : fewB ss0 with
  | false =>
    rw [hf] at t1
    have T1 : Hid (Calls _ _ _ _ _) := t1
    clear t1 hs0 hz0 hl0 hf 
    go_enter Try.func4, Try.ntmps4
    go_wp2_with (go_at_call 5; fail)
    refine (T1.out).mono ?_
    rintro e w1 ⟨rfl, hw⟩
    obtain rfl := hw.symm
    go_wp2_with (go_at_call 6; fail)
    refine (T3.out).mono ?_
    rintro e w2 ⟨rfl, hb⟩
    go_wp2
    go_ret
    exact ⟨rfl, hb⟩
  | true =>
    have t2 := right_any ss0 ao0 cap0 w hs0
    rw [hf] at t1
    have T1 : Hid (Calls _ _ _ _ _) := t1
    clear t1
    cases hr : rightB ss0 with
    | false =>
      rw [hr] at t2
      have T2 : Hid (Calls _ _ _ _ _) := t2
      clear t2 hs0 hz0 hl0 hf hr 
      go_enter Try.func4, Try.ntmps4
      go_wp2_with (go_at_call 5; fail)
      refine (T1.out).mono ?_
      rintro e w1 ⟨rfl, hw⟩
      obtain rfl := hw.symm
      go_wp2_with (go_at_call 8; fail)
      refine (T2.out).mono ?_
      rintro e w1 ⟨rfl, hw⟩
      obtain rfl := hw.symm
      go_wp2_with (go_at_call 6; fail)
      refine (T3.out).mono ?_
      rintro e w2 ⟨rfl, hb⟩
      go_wp2
      go_ret
      exact ⟨rfl, hb⟩
    | true =>
      rw [hr] at t2
      have T2 : Hid (Calls _ _ _ _ _) := t2
      clear t2
      have hl10 : ss0.length ≤ 10 := right_len hr
      have HS : Hid (HasStrs w ao0 ss0) := hs0
      have HR : Hid (rightB ss0 = true) := hr
      have T4 : Hid (∀ W, HasStrs W ao0 ss0 → _) := fun W h => symbols_any ss0 ao0 cap0 W h
      clear hs0 hr hf hl0 hz0
      go_enter Try.func4, Try.ntmps4
      go_wp2_with (go_at_call 5; fail)
      refine (T1.out).mono ?_
      rintro e w1 ⟨rfl, hw⟩
      obtain rfl := hw.symm
      go_wp2_with (go_at_call 8; fail)
      refine (T2.out).mono ?_
      rintro e w1 ⟨rfl, hw⟩
      obtain rfl := hw.symm
      go_wp2_with (go_at_call 6; fail)
      refine (T3.out).mono ?_
      rintro e w2 ⟨rfl, hb⟩
      have HB2 : Hid (Below w.heap.size w w2) := hb
      have HS2 : Hid (HasStrs w2 ao0 ss0) := HS.out.later hb
      clear hb T1 T2 T3
      go_wp2
      go_loopw [5, 27] (fun v q wr => ∃ k : Nat, k ≤ ss0.length ∧ q = .int .i64 k ∧ v = .int .i64 (cK c ss0 k : Nat) ∧ wr = w2) (fun _ q _ => ss0.length - (intOf q).toNat)
      case atStart => exact ⟨0, Nat.zero_le _, rfl, rfl, rfl⟩
      case round =>
        obtain ⟨k, hk, rfl, rfl, hwr⟩ := hrel
        obtain rfl := hwr.symm
        have hck : cK c ss0 k ≤ 410 := cK_le HR.out hk
        by_cases hlt : k < ss0.length
        · obtain ⟨g, o, hao, hc⟩ := HasStrs.at HS2.out hlt
          have hgw := cell_in hc
          have h40 : ss0[k].size ≤ 40 := right_at HR.out hlt
          subst hao
          go_wp2
          go_loopw [5, 8] (fun v q wr => ∃ i : Nat, i ≤ ss0[k].size ∧ q = .int .i64 i ∧ v = .int .i64 (cK c ss0 k + (ss0[k].data.toList.take i).countP (· == c) : Nat) ∧ wr = w2) (fun _ q _ => ss0[k].size - (intOf q).toNat)
          case atStart => exact ⟨0, Nat.zero_le _, rfl, by simp, rfl⟩
          case round =>
            obtain ⟨i, hi, rfl, rfl, hwr⟩ := hrel
            obtain rfl := hwr.symm
            have hcl := count_le' c ss0[k].data.toList i
            by_cases hit : i < ss0[k].size
            · have htc := take_count (c := c) hit
              by_cases he : ss0[k][i] = c
              · rw [if_pos he] at htc
                have HTC : Hid (_ = _) := htc
                have he2 : ((ss0[k][i].toNat : Int) == (c.toNat : Int)) = true := by rw [he]; simp
                clear htc he
                generalize (ss0[k].data.toList.take i).countP (· == c) = M at *
                generalize cK c ss0 k = C at *
                go_wp2
                go_roundw
                case rel => exact ⟨i + 1, by omega, by go_num, by rw [HTC.out]; go_num, by first | rfl | trivial⟩
                case measure => simp [intOf]; omega
              · rw [if_neg he, Nat.add_zero] at htc
                have HTC : Hid (_ = _) := htc
                have he2 : ((ss0[k][i].toNat : Int) == (c.toNat : Int)) = false := by
                  rw [beq_eq_false_iff_ne]
                  intro h
                  exact he (UInt8.toNat_inj.1 (by omega))
                clear htc he
                go_wp2
                go_roundw
                case rel => exact ⟨i + 1, by omega, by go_num, by rw [HTC.out]; go_num, by first | rfl | trivial⟩
                case measure => simp [intOf]; omega
            · obtain rfl : i = ss0[k].size := by omega
              have HKS : Hid (_ = _) := cK_succ (c := c) hlt
              have HTA : Hid (ss0[k].data.toList.take ss0[k].size = ss0[k].data.toList) := List.take_of_length_le (Nat.le_refl _)
              go_wp2
              go_roundw
              case rel => exact ⟨k + 1, by omega, by go_num, by rw [HKS.out, HTA.out], by first | rfl | trivial⟩
              case measure => simp [intOf]; omega
        · obtain rfl : k = ss0.length := by omega
          have hb : Below w.heap.size w w2 := HB2.out
          have T1 : Hid True := trivial
          have T2 : Hid True := trivial
          have T3 : Hid True := trivial
          go_wp2_with (go_at_call 9; fail)
          refine (T4.out _ (HS.out.later hb)).mono ?_
          rintro e w3 ⟨v, rfl, hown, hb3⟩
          obtain ⟨av, cv, rfl, -, -, -, -⟩ := owns_cells hown
          have HI3 : Hid (HasInts w3 av (symD ss0)) := HasInts.of_own hown
          have HB3 : Hid (Below w.heap.size w w3) := below_next hb hb3
          have HS3 : Hid (HasStrs w3 ao0 ss0) := HS.out.later HB3.out
          have HCV : Hid ((symD ss0).length ≤ cv) := owns_cap hown
          obtain ⟨n, hn⟩ : ∃ n, n = (symD ss0).length := ⟨_, rfl⟩
          have HN : Hid (n = (symD ss0).length) := hn
          have hn410 : n ≤ 410 := by rw [hn]; exact symD_le HR.out
          rw [← hn]
          clear hown hb3 hb hn T4 HS T1 T2 T3
          have hcv1 := conv_one c w3 (c.toNat : Int) rfl
          have hB4 : Below w3.heap.size w3 (w3.alloc (.cells #[.int .u8 c.toNat] 5)) := (Below.refl _ _).alloc (Nat.le_refl _) _
          obtain ⟨w4, hw4⟩ : ∃ w4, w4 = w3.alloc (.cells #[.int .u8 c.toNat] 5) := ⟨_, rfl⟩
          rw [← hw4] at hB4
          have t5 := range_sym HR.out HN.out ⟨#[c]⟩ av cv w4 (show (1 : Nat) ≤ 1000000 by omega) (HI3.out.later hB4)
          have T6 : Hid (∀ W, HasInts W av (symD ss0) → _) := fun W h => count_sym HR.out HN.out ⟨#[c]⟩ av cv W (show (1 : Nat) ≤ 1000000 by omega) h
          have hle := rangeB_le (symD ss0) ⟨#[c]⟩
          have hcd := count_docs HR.out ⟨#[c]⟩
          unfold countB at hcd
          rw [← HN.out] at hle
          have eC : cntN' ⟨#[c]⟩ ss0 = cK c ss0 ss0.length := rfl
          rw [eC] at hcd T6
          have T5 : Hid (Calls _ _ _ _ _) := t5
          have HW4 : Hid (w4 = _) := hw4
          have HB4 : Hid (Below w3.heap.size w3 w4) := hB4
          clear t5 hB4 hw4 eC
          generalize (rangeB (symD ss0) ⟨#[c]⟩).1 = L at *
          generalize (rangeB (symD ss0) ⟨#[c]⟩).2 = H at *
          generalize cK c ss0 ss0.length = C at *
          go_wp2_with (go_at_call 10; fail)
          rw [← HW4.out]
          clear hcv1 HW4
          with_reducible refine (T5.out).mono ?_
          rintro e w5 ⟨rfl, hb5⟩
          have HB5 : Hid (Below w3.heap.size w3 w5) := below_next HB4.out hb5
          have hcv2 := conv_one c w5 (c.toNat : Int) rfl
          have HB6 : Hid (Below w3.heap.size w3 (w5.alloc (.cells #[.int .u8 c.toNat] 5))) := below_alloc HB5.out _
          clear T5 hb5
          go_wp2_with (go_at_call 11; fail)
          with_reducible refine (T6.out _ (HI3.out.later HB6.out)).mono ?_
          rintro e w7 ⟨rfl, hb7⟩
          have HB7 : Hid (Below w.heap.size w w7) := below_next HB3.out (below_next HB6.out hb7)
          clear hb7 hcv2 T6
          go_wp2
          go_ret
          exact ⟨rfl, HB7.out⟩

/-! ### The row's step -/
set_option maxRecDepth 100000 in
theorem lifted (os : Os) (started : os.Started) (H : Type) (enc : TypeId × Value → H) :
    ReturnsInHanded {} Try.checked os 4 .any (Rows.backBytesSpec.pre6 enc Try.prog Try.f4 Rows.backBytesRow.domain false) (Rows.backBytesSpec.post enc Try.prog Try.f4 false true false false) := by
  refine returnsInHanded_of_change (C := Try.checked) own started (by kernel_rfl) Try.func4
    (ChangeSpec.witness6 (enc := enc) (C := Try.checked) false ⟨#[], #[.slice none 0 0, .int .u8 0], []⟩ 8 (by kernel_rfl) (by kernel_rfl) (by kernel_rfl) (by kernel_rfl)) ?_
  intro W base args ds gs before hval0 hW hcnd _
  have hval : ∀ (j : Nat) t v, Try.f4.params[j]? = some t → args[j]? = some v → Value.okWide Try.prog W .any base t v := hval0
  have hW' := hW
  obtain ⟨p, q, hA0, hV, rfl, hfz, hnd⟩ := hW
  have hA : DataW.TrodAll enc Try.prog W 0 (fun _ => true) true Try.f4.params.toList args.toList ds p := hA0
  rw [Try.params4] at hA hval
  obtain ⟨v0, vs0, d0, ds0, p0, q0, hargs, rfl, rfl, h0, r0⟩ := trodAll_cons hA
  obtain ⟨v1, vs1, d1, ds1, p1, q1, rfl, rfl, rfl, h1, r1⟩ := trodAll_cons r0
  obtain ⟨rfl, rfl, rfl⟩ := trodAll_nil r1
  obtain rfl : args = #[v0, v1] := by cases args; simp_all
  obtain ⟨rfl, rfl⟩ := trodVars_none hV
  obtain ⟨ao0, ss0, cap0, rfl, hs0, hz0, hl0⟩ := open_texts (hval 0 22 v0 rfl rfl) h0
  obtain ⟨a1, rfl, rfl, rfl, w1⟩ := open_int Try.underlying5 (hval 1 5 v1 rfl rfl) h1
  clear hA0 hval0
  simp only [List.append_nil] at hW'
  refine (walk ao0 ss0 cap0 a1 W hs0 hz0 hl0 w1).mono fun e W' ⟨he, hg⟩ => ?_
  subst he
  exact ⟨_, rfl, post_carry Try.laidOut (by rw [Try.params4]; intro t ht; simp only [List.mem_cons, List.not_mem_nil, or_false] at ht; rcases ht with rfl | rfl <;> exact ⟨by kernel_rfl, of_decide_eq_true (by kernel_rfl)⟩) rfl hW' (fun _ _ _ => (trodAll_cons_mk (shut_bool Try.underlying4 _) trodAll_mk0)) rfl rfl hg⟩

theorem over : Rows.backBytesRow.holds Try.pinned (OpenSpec.ofChange Rows.backBytesSpec) :=
  OpenClaim.holds_of_wide 4 Try.f4 rfl rfl rfl rfl rfl rfl rfl ⟨rfl, rfl, rfl, rfl, rfl⟩ rfl rfl rfl rfl rfl (by kernel_rfl) Try.func4 (by kernel_rfl)
    (of_decide_eq_true (by kernel_rfl)) (by unfold Func.isWrapper; first | (rw [if_pos (by decide +kernel)]; kernel_rfl) | (rw [if_neg (by decide +kernel)]; exact ⟨rfl, rfl⟩))
    (fun os started H enc _ => lifted os started H enc)

end Go.Proofs.Ytcheclhiekdjmab.backBytes

namespace Go.Proofs.Ytcheclhiekdjmab
/-- the statement -/
theorem backBytes_holds : Rows.BackBytesSaid := backBytes.over
#print axioms backBytes_holds
end Go.Proofs.Ytcheclhiekdjmab
