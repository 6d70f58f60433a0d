/- The first rows are the terminators', in the documents' order, and there are as many terminators among the symbols, of whatever documents. -/
import Derived.Test.YtpmkgdpojfnppaaRMisc
import Derived.Test.YtpmkgdpojfnppaaRows
namespace Go.Proofs.Ytpmkgdpojfnppaa.rowsTerminators
open Go.ChangeShapes Go.WideShapes Go.ChangeAt Go.RowKit Go.Sort
open Go.ChangeMaps (open_string shut_string)
set_option linter.unusedVariables false

theorem own : ownKnob Try.prog.godebug = none := by kernel_rfl

/-- what stands at a place of the rising rows -/
structure RowAt (ss : List ByteArray) (k : Nat) (r : Nat × Nat) : Prop where
  d : r.1 < ss.length
  a : r.2 ≤ ss[r.1].size
  i : k < ss.length ↔ r.2 = ss[r.1].size
  e : k < ss.length → r.1 = k

theorem rowAt_of {ss : List ByteArray} (hD : sortedD ss = sorted (docs ss)) (k : Nat) (hk : k < (sortedD ss).length) : RowAt ss k (sortedD ss)[k] := by
  obtain ⟨h1, h2, -⟩ := sortedD_ok (List.getElem_mem hk)
  have hk2 : k < (sorted (docs ss)).length := by rw [← hD]; exact hk
  have e : (sortedD ss)[k] = (sorted (docs ss))[k] := by simp only [hD]
  refine ⟨h1, h2, ?_, ?_⟩
  · constructor
    · intro hlt
      have e2 := sorted_low (l := docs ss) (i := k) (by rw [len_docs]; exact hlt) hk2
      have e3 : (sortedD ss)[k] = (k, (docAt (docs ss) k).length) := e.trans e2
      simp only [e3, docAt_docs hlt]
      simp
    · intro ha
      by_cases hlt : k < ss.length
      · exact hlt
      · have h3 := sorted_high (l := docs ss) (i := k) (by rw [len_docs]; omega) hk2
        rw [← e] at h3
        simp only [isTerm, docAt_docs h1] at h3
        rw [ha] at h3
        simp at h3
  · intro hlt
    have e2 := sorted_low (l := docs ss) (i := k) (by rw [len_docs]; exact hlt) hk2
    rw [e, e2]

theorem zeros_of {ss : List ByteArray} (hD : sortedD ss = sorted (docs ss)) : (symD ss).countP (· == 0) = ss.length := by
  have h := count_zeros (docs ss)
  rw [len_docs, symbols, List.countP_map] at h
  rw [symD, hD, List.countP_map]
  rw [← h]
  apply List.countP_congr
  intro r _
  simp [Function.comp]


/-! ### The walk -/
set_option maxRecDepth 100000 in
set_option maxHeartbeats 2000000 in
theorem walk (ao0 : Option Addr) (ss0 : List ByteArray) (cap0 : Nat) (w : World) (hs0 : HasStrs w ao0 ss0) (hz0 : ∀ s ∈ ss0, s.size ≤ 9223372036854775807) (hl0 : ss0.length ≤ 9223372036854775807) :
    Calls Try.prog 5 #[.slice ao0 ss0.length cap0] w fun e w' => e = .returned (.bool true) ∧ Below w.heap.size w w' := by
  have t1 := few_any ss0 ao0 cap0 w hs0 hl0
  have t3 := alive_any w
  cases hf : fewB ss0 with
  | false =>
    rw [hf] at t1
    have T1 : Hid (Calls _ _ _ _ _) := t1
    have T3 : Hid (Calls _ _ _ _ _) := t3
    clear t1 t3 hs0 hz0 hf
    go_enter Try.func5, Try.ntmps5
    go_wp2_with (go_at_call 9; fail)
    refine (T1.out).mono ?_
    rintro e w1 ⟨rfl, hw⟩
    obtain rfl := hw.symm
    go_wp2_with (go_at_call 10; fail)
    refine (T3.out).mono ?_
    rintro e w2 ⟨rfl, hb⟩
    go_wp2
    go_ret
    exact ⟨rfl, hb⟩
  | true =>
    have t2 := right_any ss0 ao0 cap0 w hs0
    cases hr : rightB ss0 with
    | false =>
      rw [hf] at t1
      rw [hr] at t2
      have T1 : Hid (Calls _ _ _ _ _) := t1
      have T2 : Hid (Calls _ _ _ _ _) := t2
      have T3 : Hid (Calls _ _ _ _ _) := t3
      clear t1 t2 t3 hs0 hz0 hf hr
      go_enter Try.func5, Try.ntmps5
      go_wp2_with (go_at_call 9; fail)
      refine (T1.out).mono ?_
      rintro e w1 ⟨rfl, hw⟩
      obtain rfl := hw.symm
      go_wp2_with (go_at_call 22; fail)
      refine (T2.out).mono ?_
      rintro e w1 ⟨rfl, hw⟩
      obtain rfl := hw.symm
      go_wp2_with (go_at_call 10; fail)
      refine (T3.out).mono ?_
      rintro e w2 ⟨rfl, hb⟩
      go_wp2
      go_ret
      exact ⟨rfl, hb⟩
    | true =>
      rw [hf] at t1
      rw [hr] at t2
      have T1 : Hid (Calls _ _ _ _ _) := t1
      have T2 : Hid (Calls _ _ _ _ _) := t2
      have T3 : Hid (Calls _ _ _ _ _) := t3
      have hD : sortedD ss0 = sorted (docs ss0) := by simp [sortedD, hr]
      have hl10 : ss0.length ≤ 10 := right_len hr
      have hxl : (symD ss0).length = (sortedD ss0).length := len_symD ss0
      have hn : (sortedD ss0).length ≤ 410 := sortedD_len ss0
      have HN2 : Hid ((sortedD ss0).length = ss0.length + bytesTo (docs ss0) ss0.length) := by rw [hD, len_sorted, len_docs]; exact rfl
      have HBT : Hid (∀ d, d ≤ ss0.length → bytesTo (docs ss0) d ≤ 400) := fun d hd => by have := bytes_le hr d hd; omega
      have H40 : Hid (∀ k (hk : k < ss0.length), ss0[k].size ≤ 40) := fun k hk => right_at hr hk
      have HR : Hid (∀ k (hk : k < (sortedD ss0).length), RowAt ss0 k (sortedD ss0)[k]) := fun k hk => rowAt_of hD k hk
      have HZ : Hid ((symD ss0).countP (· == 0) = ss0.length) := zeros_of hD
      have T4 : Hid (∀ W, HasStrs W ao0 ss0 → _) := fun W h => sorted_any ss0 ao0 cap0 W h
      have T5 : Hid (∀ W, HasStrs W ao0 ss0 → _) := fun W h => symbols_any ss0 ao0 cap0 W h
      have HS : Hid (HasStrs w ao0 ss0) := hs0
      clear t1 t2 t3 hs0 hz0 hf hr hD
      generalize symD ss0 = xs at *
      generalize sortedD ss0 = rs at *
      go_enter Try.func5, Try.ntmps5
      go_wp2_with (go_at_call 9; fail)
      refine (T1.out).mono ?_
      rintro e w1 ⟨rfl, hw⟩
      obtain rfl := hw.symm
      go_wp2_with (go_at_call 22; fail)
      refine (T2.out).mono ?_
      rintro e w1 ⟨rfl, hw⟩
      obtain rfl := hw.symm
      go_wp2_with (go_at_call 10; fail)
      refine (T3.out).mono ?_
      rintro e w2 ⟨rfl, hb⟩
      have hs2 : HasStrs w2 ao0 ss0 := HasCells.later HS.out hb
      have HB2 : Hid (Below w.heap.size w w2) := hb
      clear hb
      go_wp2_with (go_at_call 12; fail)
      refine (T4.out w2 hs2).mono ?_
      rintro e w3 ⟨v3, rfl, hown3, hb3⟩
      obtain ⟨a3, c3, rfl, -, -, -, -⟩ := owns_cells hown3
      have hs3 : HasStrs w3 ao0 ss0 := HasCells.later hs2 hb3
      go_wp2_with (go_at_call 13; fail)
      refine (T5.out w3 hs3).mono ?_
      rintro e w4 ⟨v4, rfl, hown4, hb4⟩
      obtain ⟨a4, c4, rfl, hi4, -⟩ := ownsRow_ints hown4
      have hown34 := owns_same (w' := w4) hown3 (fun g hg => hb4.block g (hown3.lt g hg).2)
      obtain ⟨a', c', e', hcells, -, -, -⟩ := owns_cells hown34
      cases e'
      have HC : Hid (HasCells w4 a3 (cellsR rs)) := hcells
      have HI : Hid (HasInts w4 a4 xs) := hi4
      have HS4 : Hid (HasStrs w4 ao0 ss0) := HasCells.later hs3 hb4
      have HB4 : Hid (Below w.heap.size w w4) := below_next (below_next HB2.out hb3) hb4
      clear hown3 hown4 hown34 hb3 hb4 hi4 hcells hs2 hs3 HS HB2 T1 T2 T3 T4 T5
      go_wp2
      go_loopw [5, 30] (fun n q wr => ∃ k : Nat, k ≤ ss0.length ∧ q = .int .i64 k ∧ n = .int .i64 ((ss0.length : Int) + (bytesTo (docs ss0) k : Nat)) ∧ wr = w4) (fun _ q _ => ss0.length - (intOf q).toNat)
      case atStart => exact ⟨0, Nat.zero_le _, rfl, by simp [bytesTo], rfl⟩
      case round =>
        obtain ⟨k, hk, rfl, rfl, hw4⟩ := hrel
        obtain rfl := hw4.symm
        by_cases hlt : k < ss0.length
        · obtain ⟨g, o, rfl, hc⟩ := HS4.out.at hlt
          have hbt := HBT.out (k + 1) (by omega)
          have hsu : bytesTo (docs ss0) (k + 1) = bytesTo (docs ss0) k + ss0[k].size := by rw [bytesTo_succ, docAt_docs hlt]; simp
          rw [hsu] at hbt
          have HSU : Hid (_ = _) := hsu
          clear hsu
          go_wp2
          go_roundw
          case rel => exact ⟨k + 1, by omega, by go_num, by rw [HSU.out]; congr 1; rw [Int.natCast_add]; omega, by trivial⟩
          case measure => simp [intOf]; omega
        · obtain rfl : k = ss0.length := by omega
          have hsum : (ss0.length : Int) + (bytesTo (docs ss0) ss0.length : Nat) = (rs.length : Int) := by rw [HN2.out]; simp
          rw [hsum]
          clear HN2 hsum
          have hne1 : ((rs.length : Int) != (rs.length : Int)) = false := by simp
          have hne2 : ((xs.length : Int) != (rs.length : Int)) = false := by rw [hxl]; simp
          go_wp2
          clear hne1 hne2
          go_loopw [7, 53] (fun z q wr => ∃ k : Nat, k ≤ rs.length ∧ q = .int .i64 k ∧ z = .int .i64 ((xs.take k).countP (· == 0) : Nat) ∧ ∃ n, wr = w4.drewN n) (fun _ q _ => rs.length - (intOf q).toNat)
          case atStart => exact ⟨0, Nat.zero_le _, rfl, rfl, 0, rfl⟩
          case round =>
            obtain ⟨k, hk, rfl, rfl, n, rfl⟩ := hrel
            by_cases hlt2 : k < rs.length
            · have hkx : k < xs.length := by omega
              have hra := HR.out k hlt2
              obtain ⟨hc1, hc2⟩ := cellsR_at rs k hlt2
              obtain ⟨gv, ov, rfl, hr1⟩ := HC.out _ _ hc1
              obtain ⟨gv', ov', e2, hr2⟩ := HC.out _ _ hc2
              cases e2
              rw [← Nat.add_assoc] at hr2
              generalize rs[k] = r at *
              obtain ⟨d, a⟩ := r
              obtain ⟨hd, ha, hiff, hdk⟩ := hra
              simp only at hd ha hiff hdk hr1 hr2
              obtain ⟨g, o, rfl, hcd⟩ := HS4.out.at hd
              obtain ⟨g2, o2, rfl, hcx⟩ := HI.out k hkx
              have hct : (xs.take k).countP (· == 0) ≤ k := Nat.le_trans List.countP_le_length (by simp; omega)
              have hcs : (xs.take (k + 1)).countP (· == 0) = (xs.take k).countP (· == 0) + (if xs[k] == 0 then 1 else 0) := by
                rw [List.take_succ_eq_append_getElem hkx, List.countP_append]
                simp [List.countP_cons]
              have HCS : Hid (_ = _) := hcs
              have HA : Hid (k < ss0.length ↔ a = ss0[d].size) := hiff
              have HDK : Hid (k < ss0.length → d = k) := hdk
              clear hc1 hc2 hcs hiff hdk
              generalize (xs.take k).countP (· == 0) = Zk at *
              by_cases hA : k < ss0.length
              · obtain rfl : d = k := HDK.out hA
                obtain rfl : a = ss0[d].size := HA.out.1 hA
                have q1 : decide ((d : Int) < (ss0.length : Int)) = true := by simp; omega
                have q2 : ((ss0[d].size : Int) == (ss0[d].size : Int)) = true := by simp
                have q3 : ((d : Int) != (d : Int)) = false := by simp
                by_cases hz : xs[d] = 0
                · rw [hz] at hcx HCS
                  go_wp2
                  go_quiet (fail)
                  go_wp2
                  go_roundw
                  case rel => exact ⟨d + 1, by omega, by go_num, by rw [HCS.out]; simp, _, rfl⟩
                  case measure => simp [intOf]; omega
                · have hzf : (xs[d] == 0) = false := by simpa using hz
                  rw [hzf] at HCS
                  go_wp2
                  go_quiet (fail)
                  go_wp2
                  go_roundw
                  case rel => exact ⟨d + 1, by omega, by go_num, by rw [HCS.out]; simp, _, rfl⟩
                  case measure => simp [intOf]; omega
              · have q1 : decide ((k : Int) < (ss0.length : Int)) = false := by simp; omega
                have q2 : ((a : Int) == (ss0[d].size : Int)) = false := by
                  rw [beq_eq_false_iff_ne]
                  intro e
                  exact hA (HA.out.2 (by omega))
                by_cases hz : xs[k] = 0
                · rw [hz] at hcx HCS
                  go_wp2
                  go_quiet (fail)
                  go_wp2
                  go_roundw
                  case rel => exact ⟨k + 1, by omega, by go_num, by rw [HCS.out]; simp, _, rfl⟩
                  case measure => simp [intOf]; omega
                · have hzf : (xs[k] == 0) = false := by simpa using hz
                  rw [hzf] at HCS
                  go_wp2
                  go_quiet (fail)
                  go_wp2
                  go_roundw
                  case rel => exact ⟨k + 1, by omega, by go_num, by rw [HCS.out]; simp, _, rfl⟩
                  case measure => simp [intOf]; omega
            · obtain rfl : k = rs.length := by omega
              have hzz : (xs.take rs.length).countP (· == 0) = ss0.length := by rw [← hxl, List.take_length]; exact HZ.out
              rw [hzz]
              have heq : ((ss0.length : Int) == (ss0.length : Int)) = true := by simp
              go_wp2
              go_ret
              exact ⟨rfl, below_drewN HB4.out _⟩

/-! ### The row's step -/
set_option maxRecDepth 100000 in
theorem lifted (os : Os) (started : os.Started) (H : Type) (enc : TypeId × Value → H) :
    ReturnsInHanded {} Try.checked os 5 .any (Rows.rowsTerminatorsSpec.pre6 enc Try.prog Try.f5 Rows.rowsTerminatorsRow.domain false) (Rows.rowsTerminatorsSpec.post enc Try.prog Try.f5 false true false false) := by
  refine returnsInHanded_of_change (C := Try.checked) own started (by kernel_rfl) Try.func5
    (ChangeSpec.witness6 (enc := enc) (C := Try.checked) false ⟨#[], #[.slice none 0 0], []⟩ 8 (by kernel_rfl) (by kernel_rfl) (by kernel_rfl) (by kernel_rfl)) ?_
  intro W base args ds gs before hval0 hW hcnd _
  have hval : ∀ (j : Nat) t v, Try.f5.params[j]? = some t → args[j]? = some v → Value.okWide Try.prog W .any base t v := hval0
  have hW' := hW
  obtain ⟨p, q, hA0, hV, rfl, hfz, hnd⟩ := hW
  have hA : DataW.TrodAll enc Try.prog W 0 (fun _ => true) true Try.f5.params.toList args.toList ds p := hA0
  rw [Try.params5] at hA hval
  obtain ⟨v0, vs0, d0, ds0, p0, q0, hargs, rfl, rfl, h0, r0⟩ := trodAll_cons hA
  obtain ⟨rfl, rfl, rfl⟩ := trodAll_nil r0
  obtain rfl : args = #[v0] := by cases args; simp_all
  obtain ⟨rfl, rfl⟩ := trodVars_none hV
  obtain ⟨ao0, ss0, cap0, rfl, hs0, hz0, hl0⟩ := open_texts (hval 0 22 v0 rfl rfl) h0
  clear hA0 hval0
  simp only [List.append_nil] at hW'
  refine (walk ao0 ss0 cap0 W hs0 hz0 hl0).mono fun e W' ⟨he, hg⟩ => ?_
  subst he
  exact ⟨_, rfl, post_carry Try.laidOut (by rw [Try.params5]; intro t ht; simp only [List.mem_cons, List.not_mem_nil, or_false] at ht; subst ht; exact ⟨by kernel_rfl, of_decide_eq_true (by kernel_rfl)⟩) rfl hW' (fun _ _ _ => (trodAll_cons_mk (shut_bool Try.underlying4 _) trodAll_mk0)) rfl rfl hg⟩

theorem over : Rows.rowsTerminatorsRow.holds Try.pinned (OpenSpec.ofChange Rows.rowsTerminatorsSpec) :=
  OpenClaim.holds_of_wide 5 Try.f5 rfl rfl rfl rfl rfl rfl rfl ⟨rfl, rfl, rfl, rfl, rfl⟩ rfl rfl rfl rfl rfl (by kernel_rfl) Try.func5 (by kernel_rfl)
    (of_decide_eq_true (by kernel_rfl)) (by unfold Func.isWrapper; first | (rw [if_pos (by decide +kernel)]; kernel_rfl) | (rw [if_neg (by decide +kernel)]; exact ⟨rfl, rfl⟩))
    (fun os started H enc _ => lifted os started H enc)

end Go.Proofs.Ytpmkgdpojfnppaa.rowsTerminators

namespace Go.Proofs.Ytpmkgdpojfnppaa
/-- the statement -/
theorem rowsTerminators_holds : Rows.RowsTerminatorsSaid := rowsTerminators.over
#print axioms rowsTerminators_holds
end Go.Proofs.Ytpmkgdpojfnppaa
