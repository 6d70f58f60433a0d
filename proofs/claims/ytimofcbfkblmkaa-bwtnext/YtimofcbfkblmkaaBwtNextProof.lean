/- BwtNext: the row that is one byte longer is that of the same document, one byte earlier: the law's call returns true, whatever it is handed. -/
import Derived.Test.YtimofcbfkblmkaaBwtK
import Derived.Test.YtimofcbfkblmkaaRows
namespace Go.Proofs.Ytimofcbfkblmkaa.bwtNext
open Go.ChangeShapes Go.WideShapes Go.ChangeAt Go.RowKit Go.Sort
open Go.ChangeMaps (open_string shut_string)
set_option linter.unusedVariables false

theorem own : ownKnob Try.prog.godebug = none := by kernel_rfl

/-- what Next tells at a place of the rising rows: of a first byte's row nothing; else the row one byte earlier -/
def NextAt (rs : List (Nat × Nat)) (xs : List Int) (k : Nat) (r : Nat × Nat) : Prop :=
  (r.2 = 0 ∧ nextV xs (k : Int) = 0 ∧ nextOk xs (k : Int) = false) ∨
  (0 < r.2 ∧ ∃ hN : lfN xs k < rs.length, nextV xs (k : Int) = (lfN xs k : Nat) ∧ nextOk xs (k : Int) = true ∧ rs[lfN xs k] = (r.1, r.2 - 1) ∧ r.2 ≤ 1000)

theorem nextAt_of {ss : List ByteArray} (hr : rightB ss = true) (k : Nat) (hk : k < (sortedD ss).length) : NextAt (sortedD ss) (symD ss) k (sortedD ss)[k] := by
  have hD : sortedD ss = sorted (docs ss) := by simp [sortedD, hr]
  have hX := symD_col hr
  have hcol := symD_right hr
  obtain ⟨hd, ha, -⟩ := sortedD_ok (List.getElem_mem hk)
  have h40 := right_at hr hd
  simp only [hD] at hk ha h40 ⊢
  rw [hX] at hcol ⊢
  have hx : k < (colI (docs ss)).length := by rw [len_colI]; exact hk
  have hxk : (colI (docs ss))[k] = (aheadN (docs ss) (sorted (docs ss))[k] : Int) := colI_at hk
  by_cases h0 : (sorted (docs ss))[k].2 = 0
  · left
    have e : nextOk (colI (docs ss)) (k : Int) = false := by
      simp only [nextOk, hcol, Bool.true_and, decide_eq_false_iff_not, Int.toNat_natCast, getD_at hx, hxk]
      simp [aheadN, h0]
    exact ⟨h0, next_no e, e⟩
  · right
    have e : nextOk (colI (docs ss)) (k : Int) = true := by
      simp only [nextOk, hcol, Bool.true_and, decide_eq_true_eq, Int.toNat_natCast, getD_at hx, hxk]
      refine ⟨by omega, by omega, ?_⟩
      simp only [aheadN, h0, if_false]
      omega
    obtain ⟨h1, h2⟩ := lf_row hk h0
    refine ⟨by omega, h1, by rw [nextV, e, if_pos rfl, Int.toNat_natCast], e, h2, by omega⟩


/-! ### The walk -/
set_option maxRecDepth 100000 in
set_option maxHeartbeats 2000000 in
theorem walk (ao0 : Option Addr) (ss0 : List ByteArray) (cap0 : Nat) (w : World) (hs0 : HasStrs w ao0 ss0) (hz0 : ∀ s ∈ ss0, s.size ≤ 9223372036854775807) (hl0 : ss0.length ≤ 9223372036854775807) :
    Calls Try.prog 5 #[.slice ao0 ss0.length cap0] w fun e w' => e = .returned (.bool true) ∧ Below w.heap.size w w' := by
  have t1 := few_any ss0 ao0 cap0 w hs0 hl0
  have T3 : Hid (Calls _ _ _ _ _) := balive_any w
  cases hf : fewB ss0 with
  | false =>
    rw [hf] at t1
    have T1 : Hid (Calls _ _ _ _ _) := t1
    clear t1 hs0 hz0 hl0 hf 
    go_enter Try.func5, Try.ntmps5
    go_wp2_with (go_at_call 8; fail)
    refine (T1.out).mono ?_
    rintro e w1 ⟨rfl, hw⟩
    obtain rfl := hw.symm
    go_wp2_with (go_at_call 25; fail)
    refine (T3.out).mono ?_
    rintro e w2 ⟨rfl, hb⟩
    go_wp2
    go_ret
    exact ⟨rfl, hb⟩
  | true =>
    have t2 := right_any ss0 ao0 cap0 w hs0
    rw [hf] at t1
    have T1 : Hid (Calls _ _ _ _ _) := t1
    clear t1
    cases hr : rightB ss0 with
    | false =>
      rw [hr] at t2
      have T2 : Hid (Calls _ _ _ _ _) := t2
      clear t2 hs0 hz0 hl0 hf hr 
      go_enter Try.func5, Try.ntmps5
      go_wp2_with (go_at_call 8; fail)
      refine (T1.out).mono ?_
      rintro e w1 ⟨rfl, hw⟩
      obtain rfl := hw.symm
      go_wp2_with (go_at_call 21; fail)
      refine (T2.out).mono ?_
      rintro e w1 ⟨rfl, hw⟩
      obtain rfl := hw.symm
      go_wp2_with (go_at_call 25; fail)
      refine (T3.out).mono ?_
      rintro e w2 ⟨rfl, hb⟩
      go_wp2
      go_ret
      exact ⟨rfl, hb⟩
    | true =>
      rw [hr] at t2
      have T2 : Hid (Calls _ _ _ _ _) := t2
      clear t2
      have hl10 : ss0.length ≤ 10 := right_len hr
      have hD : sortedD ss0 = sorted (docs ss0) := by simp [sortedD, hr]
      have hn : (sortedD ss0).length ≤ 410 := sortedD_len ss0
      have hxl : (symD ss0).length = (sortedD ss0).length := len_symD ss0
      have HR : Hid (∀ k (hk : k < (sortedD ss0).length), NextAt (sortedD ss0) (symD ss0) k (sortedD ss0)[k]) := fun k hk => nextAt_of hr k hk
      have T4 : Hid (∀ W, HasStrs W ao0 ss0 → _) := fun W h => sorted_any ss0 ao0 cap0 W h
      have T5 : Hid (∀ W, HasStrs W ao0 ss0 → _) := fun W h => symbols_any ss0 ao0 cap0 W h
      have hcol := symD_right hr
      have T6 : Hid (∀ (k : Nat) av cv W, (symD ss0).length ≤ cv → HasInts W av (symD ss0) → Calls Try.prog 28 #[.int .i64 (k : Nat), .slice av (symD ss0).length cv] W fun e w' => e = .returned (.tuple #[.int .i64 (nextV (symD ss0) (k : Int)), .bool (nextOk (symD ss0) (k : Int))]) ∧ Ext W w') := fun k av cv W hc h => next_any (symD ss0) av cv (k : Int) W (by omega) hc h
      have HS : Hid (HasStrs w ao0 ss0) := hs0
      clear hs0 hz0 hf hr hD hcol
      generalize symD ss0 = xs at *
      generalize sortedD ss0 = rs at *
      go_enter Try.func5, Try.ntmps5
      go_wp2_with (go_at_call 8; fail)
      refine (T1.out).mono ?_
      rintro e w1 ⟨rfl, hw⟩
      obtain rfl := hw.symm
      go_wp2_with (go_at_call 21; fail)
      refine (T2.out).mono ?_
      rintro e w1 ⟨rfl, hw⟩
      obtain rfl := hw.symm
      go_wp2_with (go_at_call 25; fail)
      refine (T3.out).mono ?_
      rintro e w2 ⟨rfl, hb⟩
      have hs2 : HasStrs w2 ao0 ss0 := HasCells.later HS.out hb
      have HB2 : Hid (Below w.heap.size w w2) := hb
      clear hb
      go_wp2_with (go_at_call 11; fail)
      refine (T4.out w2 hs2).mono ?_
      rintro e w3 ⟨v3, rfl, hown3, hb3⟩
      obtain ⟨a3, c3, rfl, -, -, -, -⟩ := owns_cells hown3
      have hs3 : HasStrs w3 ao0 ss0 := HasCells.later hs2 hb3
      go_wp2_with (go_at_call 12; fail)
      refine (T5.out w3 hs3).mono ?_
      rintro e w4 ⟨v4, rfl, hown4, hb4⟩
      obtain ⟨a4, c4, rfl, hi4, -⟩ := ownsRow_ints hown4
      have hcv := owns_cap hown4
      have hown34 := owns_same (w' := w4) hown3 (fun g hg => hb4.block g (hown3.lt g hg).2)
      obtain ⟨a', c', e', hcells, -, -, -⟩ := owns_cells hown34
      cases e'
      have HC : Hid (HasCells w4 a3 (cellsR rs)) := hcells
      have HI : Hid (HasInts w4 a4 xs) := hi4
      have HB4 : Hid (Below w.heap.size w w4) := below_next (below_next HB2.out hb3) hb4
      have hne1 : ((rs.length : Int) != (xs.length : Int)) = false := by rw [hxl]; simp
      have HXL : Hid (xs.length = rs.length) := hxl
      clear hown3 hown4 hown34 hb3 hb4 hi4 hcells hs2 hs3 HS HB2 T1 T2 T3 T4 T5 hxl
      go_wp2
      clear hne1
      go_loopw [32] (fun q wr => ∃ k : Nat, k ≤ rs.length ∧ q = .int .i64 k ∧ Hid (Ext w4 wr)) (fun q _ => rs.length - (intOf q).toNat)
      case atStart => exact ⟨0, Nat.zero_le _, rfl, Ext.refl _⟩
      case round =>
        obtain ⟨k, hk, rfl, hE⟩ := hrel
        by_cases hlt : k < rs.length
        · have hra := HR.out k hlt
          have t := T6.out k a4 c4 wr hcv (HI.out.ext hE.out)
          have hCr : HasCells wr a3 (cellsR rs) := HC.out.ext hE.out
          obtain ⟨hc1, hc2⟩ := cellsR_at rs k hlt
          obtain ⟨gv, ov, hav, hr1⟩ := hCr _ _ hc1
          obtain ⟨gv', ov', e2, hr2⟩ := hCr _ _ hc2
          rw [hav] at e2
          cases e2
          rw [← Nat.add_assoc] at hr2
          have hI1 : (k : Int) < (rs.length : Int) := by omega
          generalize rs[k] = r at *
          obtain ⟨d, a⟩ := r
          simp only at hr1 hr2
          rcases hra with ⟨h0, ev, eo⟩ | ⟨h0, hN, ev, eo, eR, ha40⟩
          · simp only at h0
            subst h0
            rw [ev, eo] at t
            have HCB : Hid (∀ W, Ext wr W → W.cell? ⟨gv, ov + k * 2, none⟩ = some (.int .i64 (d : Nat)) ∧ W.cell? ⟨gv, ov + k * 2 + 1, none⟩ = some (.int .i64 ((0 : Nat) : Int))) := fun W hW => ⟨Ext.cell hW hr1, Ext.cell hW hr2⟩
            have T : Hid (Calls _ _ _ _ _) := t
            subst hav
            clear t hCr hc1 hc2 hr1 hr2
            go_wp2_with (go_at_call 28; fail)
            refine (T.out).mono ?_
            rintro e w5 ⟨rfl, hE5⟩
            obtain ⟨z1, z2⟩ := HCB.out w5 hE5
            have HE5 : Hid (Ext w4 w5) := hE.out.trans hE5
            clear hE5 T HCB
            go_wp2
            go_quiet (fail)
            go_wp2
            go_roundw
            case rel => exact ⟨k + 1, by omega, by go_num, HE5.out.drewN _⟩
            case measure => simp [intOf]; omega
          · simp only at h0 eR ha40
            obtain ⟨m, rfl⟩ : ∃ m, a = m + 1 := ⟨a - 1, by omega⟩
            rw [Nat.add_sub_cancel] at eR
            rw [ev, eo] at t
            obtain ⟨N, hNN⟩ : ∃ N, lfN xs k = N := ⟨_, rfl⟩
            rw [hNN] at t
            have hN' : N < rs.length := by rw [← hNN]; exact hN
            have eR' : rs[N] = (d, m) := by simp only [← hNN]; exact eR
            obtain ⟨hc3, hc4⟩ := cellsR_at rs N hN'
            rw [eR'] at hc3 hc4
            obtain ⟨gv', ov', e2, hr3⟩ := hCr _ _ hc3
            rw [hav] at e2
            cases e2
            obtain ⟨gv', ov', e2, hr4⟩ := hCr _ _ hc4
            rw [hav] at e2
            cases e2
            rw [← Nat.add_assoc] at hr4
            have HCB : Hid (∀ W, Ext wr W → W.cell? ⟨gv, ov + k * 2, none⟩ = some (.int .i64 (d : Nat)) ∧ W.cell? ⟨gv, ov + k * 2 + 1, none⟩ = some (.int .i64 ((m + 1 : Nat) : Int)) ∧ W.cell? ⟨gv, ov + N * 2, none⟩ = some (.int .i64 (d : Nat)) ∧ W.cell? ⟨gv, ov + N * 2 + 1, none⟩ = some (.int .i64 (m : Nat))) := fun W hW => ⟨Ext.cell hW hr1, Ext.cell hW hr2, Ext.cell hW hr3, Ext.cell hW hr4⟩
            have T : Hid (Calls _ _ _ _ _) := t
            subst hav
            clear t hCr hc1 hc2 hc3 hc4 hr1 hr2 hr3 hr4 eR' eR hN hNN ev eo
            have hI2 : (N : Int) < (rs.length : Int) := by omega
            have hq1 : decide ((N : Int) < 0) = false := decide_eq_false (by omega)
            have hq2 : decide ((rs.length : Int) ≤ (N : Int)) = false := by simp; omega
            have hq3 : decide (rs.length ≤ N) = false := by simp; omega
            have hw3 : wrap64 (m : Int) = (m : Int) := w64 (by omega) (by omega)
            have hw4 : IntKind.i64.wrap (m : Int) = (m : Int) := by rw [IntKind.wrap_i64]; omega
            have hw1 : wrap64 (((m + 1 : Nat) : Int) - 1) = (m : Int) := by rw [w64 (by omega) (by omega)]; omega
            have hw2 : IntKind.i64.wrap (((m + 1 : Nat) : Int) - 1) = (m : Int) := by rw [IntKind.wrap_i64]; omega
            go_wp2_with (go_at_call 28; fail)
            refine (T.out).mono ?_
            rintro e w5 ⟨rfl, hE5⟩
            obtain ⟨z1, z2, z3, z4⟩ := HCB.out w5 hE5
            have HE5 : Hid (Ext w4 w5) := hE.out.trans hE5
            clear hE5 T HCB
            go_wp2
            go_big_quiet (fail)
            go_wp2
            go_roundw
            case rel => exact ⟨k + 1, by omega, by go_num, HE5.out.drewN _⟩
            case measure => simp [intOf]; omega
        · obtain rfl : k = rs.length := by omega
          have HB5 : Hid (Below w.heap.size w wr) := below_next HB4.out hE.out.below
          go_wp2
          go_ret
          exact ⟨rfl, HB5.out⟩

/-! ### The row's step -/
set_option maxRecDepth 100000 in
theorem lifted (os : Os) (started : os.Started) (H : Type) (enc : TypeId × Value → H) :
    ReturnsInHanded {} Try.checked os 5 .any (Rows.bwtNextSpec.pre6 enc Try.prog Try.f5 Rows.bwtNextRow.domain false) (Rows.bwtNextSpec.post enc Try.prog Try.f5 false true false false) := by
  refine returnsInHanded_of_change (C := Try.checked) own started (by kernel_rfl) Try.func5
    (ChangeSpec.witness6 (enc := enc) (C := Try.checked) false ⟨#[], #[.slice none 0 0], []⟩ 8 (by kernel_rfl) (by kernel_rfl) (by kernel_rfl) (by kernel_rfl)) ?_
  intro W base args ds gs before hval0 hW hcnd _
  have hval : ∀ (j : Nat) t v, Try.f5.params[j]? = some t → args[j]? = some v → Value.okWide Try.prog W .any base t v := hval0
  have hW' := hW
  obtain ⟨p, q, hA0, hV, rfl, hfz, hnd⟩ := hW
  have hA : DataW.TrodAll enc Try.prog W 0 (fun _ => true) true Try.f5.params.toList args.toList ds p := hA0
  rw [Try.params5] at hA hval
  obtain ⟨v0, vs0, d0, ds0, p0, q0, hargs, rfl, rfl, h0, r0⟩ := trodAll_cons hA
  obtain ⟨rfl, rfl, rfl⟩ := trodAll_nil r0
  obtain rfl : args = #[v0] := by cases args; simp_all
  obtain ⟨rfl, rfl⟩ := trodVars_none hV
  obtain ⟨ao0, ss0, cap0, rfl, hs0, hz0, hl0⟩ := open_texts (hval 0 22 v0 rfl rfl) h0
  clear hA0 hval0
  simp only [List.append_nil] at hW'
  refine (walk ao0 ss0 cap0 W hs0 hz0 hl0).mono fun e W' ⟨he, hg⟩ => ?_
  subst he
  exact ⟨_, rfl, post_carry Try.laidOut (by rw [Try.params5]; intro t ht; simp only [List.mem_cons, List.not_mem_nil, or_false] at ht; subst ht; exact ⟨by kernel_rfl, of_decide_eq_true (by kernel_rfl)⟩) rfl hW' (fun _ _ _ => (trodAll_cons_mk (shut_bool Try.underlying4 _) trodAll_mk0)) rfl rfl hg⟩

theorem over : Rows.bwtNextRow.holds Try.pinned (OpenSpec.ofChange Rows.bwtNextSpec) :=
  OpenClaim.holds_of_wide 5 Try.f5 rfl rfl rfl rfl rfl rfl rfl ⟨rfl, rfl, rfl, rfl, rfl⟩ rfl rfl rfl rfl rfl (by kernel_rfl) Try.func5 (by kernel_rfl)
    (of_decide_eq_true (by kernel_rfl)) (by unfold Func.isWrapper; first | (rw [if_pos (by decide +kernel)]; kernel_rfl) | (rw [if_neg (by decide +kernel)]; exact ⟨rfl, rfl⟩))
    (fun os started H enc _ => lifted os started H enc)

end Go.Proofs.Ytimofcbfkblmkaa.bwtNext

namespace Go.Proofs.Ytimofcbfkblmkaa
/-- the statement -/
theorem bwtNext_holds : Rows.BwtNextSaid := bwtNext.over
#print axioms bwtNext_holds
end Go.Proofs.Ytimofcbfkblmkaa
