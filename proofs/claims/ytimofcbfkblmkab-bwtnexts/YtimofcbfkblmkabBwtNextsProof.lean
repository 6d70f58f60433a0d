/- BwtNexts: no two rows have the same next one, and a terminator's has none: the law's call returns true, whatever it is handed. -/
import Derived.Test.YtimofcbfkblmkabIMap
import Derived.Test.YtimofcbfkblmkabRows
namespace Go.Proofs.Ytimofcbfkblmkab.bwtNexts
open Go.ChangeShapes Go.WideShapes Go.ChangeAt Go.RowKit Go.Sort
open Go.ChangeMaps (open_string shut_string)
set_option linter.unusedVariables false

theorem own : ownKnob Try.prog.godebug = none := by kernel_rfl


/-! ### The walk -/
set_option maxRecDepth 100000 in
set_option maxHeartbeats 2000000 in
theorem walk (ao0 : Option Addr) (xs0 : List Int) (cap0 : Nat) (w : World) (hs0 : HasInts w ao0 xs0) (hz0 : ∀ x ∈ xs0, (Lit.int .i64 x).wf = true) (hl0 : xs0.length ≤ cap0) (hm0 : cap0 ≤ 9223372036854775807) (hn0 : ao0 = none → xs0.length = 0 ∧ cap0 = 0) :
    Calls Try.prog 3 #[.slice ao0 xs0.length cap0] w fun e w' => e = .returned (.bool true) ∧ Below w.heap.size w w' := by
  have t1 := bright_any xs0 ao0 cap0 w (by omega) hs0
  have T3 : Hid (Calls _ _ _ _ _) := balive_any w
  by_cases hlen : xs0.length ≤ 120
  · cases hr : colB xs0 with
    | false =>
      rw [hr] at t1
      have T1 : Hid (Calls _ _ _ _ _) := t1
      clear t1 hr hs0 hz0 hn0
      go_enter Try.func3, Try.ntmps3
      go_wp2_with (go_at_call 8; fail)
      refine (T1.out).mono ?_
      rintro e w1 ⟨rfl, hw⟩
      obtain rfl := hw.symm
      go_wp2_with (go_at_call 9; fail)
      refine (T3.out).mono ?_
      rintro e w2 ⟨rfl, hb⟩
      go_wp2
      go_ret
      exact ⟨rfl, hb⟩
    | true =>
      rw [hr] at t1
      have T1 : Hid (Calls _ _ _ _ _) := t1
      have T4 : Hid (∀ (k : Nat) (hk : k < xs0.length) W, xs0[k] ≠ 0 → HasInts W ao0 xs0 → Calls Try.prog 10 #[.int .i64 (k : Nat), .slice ao0 xs0.length cap0] W fun e w' => e = .returned (.tuple #[.int .i64 (lfN xs0 k : Nat), .bool true]) ∧ Ext W w') := fun k hk W hz h => by
        have t := next_any xs0 ao0 cap0 (k : Int) W (by omega) hl0 h
        have e : nextOk xs0 (k : Int) = true := by
          simp only [nextOk, hr, Bool.true_and, decide_eq_true_eq, Int.toNat_natCast, getD_at hk]
          exact ⟨by omega, by omega, hz⟩
        have e2 : nextV xs0 (k : Int) = (lfN xs0 k : Nat) := by rw [nextV, e, if_pos rfl, Int.toNat_natCast]
        rw [e2, e] at t
        exact t
      have T5 : Hid (∀ (i : Int) W, (i < 0 ∨ (xs0.length : Int) ≤ i ∨ xs0.getD i.toNat 0 = 0) → HasInts W ao0 xs0 → Calls Try.prog 10 #[.int .i64 i, .slice ao0 xs0.length cap0] W fun e w' => e = .returned (.tuple #[.int .i64 0, .bool false]) ∧ Ext W w') := fun i W hz h => by
        have t := next_any xs0 ao0 cap0 i W (by omega) hl0 h
        have e : nextOk xs0 i = false := by
          simp only [nextOk, hr, Bool.true_and, decide_eq_false_iff_not]
          rintro ⟨h1, h2, h3⟩
          rcases hz with hz | hz | hz
          · omega
          · omega
          · exact h3 hz
        rw [next_no e, e] at t
        exact t
      have HCOL : Hid (∀ k (hk : k < xs0.length), 0 ≤ xs0[k] ∧ xs0[k] < 257) := fun k hk => col_at hr hk
      have HA : Hid (HasInts w ao0 xs0) := hs0
      clear t1 hr hs0 hz0 hn0
      go_enter Try.func3, Try.ntmps3
      go_wp2_with (go_at_call 8; fail)
      refine (T1.out).mono ?_
      rintro e w1 ⟨rfl, hw⟩
      obtain rfl := hw.symm
      go_wp2_with (go_at_call 9; fail)
      refine (T3.out).mono ?_
      rintro e w2 ⟨rfl, hb⟩
      have HB2 : Hid (Below w.heap.size w w2) := hb
      have HA2 : Hid (HasInts w2 ao0 xs0) := HA.out.later hb
      have hmk := make_nums w2
      clear hb T1 T3 HA
      go_wp2
      clear hmk
      obtain ⟨w4, hw4⟩ : ∃ w4, w4 = w2.alloc (.map #[] 0) := ⟨_, rfl⟩
      obtain ⟨m, hm⟩ : ∃ m, m = w2.heap.size := ⟨_, rfl⟩
      have hset0 : NumsAt w4 m (seenL xs0 0) := by
        rw [hw4, hm]
        exact heap_alloc_new w2 _
      have h41 : Below w2.heap.size w2 w4 := by rw [hw4]; exact (Below.refl _ _).alloc (Nat.le_refl _) _
      rw [← hw4, ← hm]
      have HA4 : Hid (HasInts w4 ao0 xs0) := HA2.out.later h41
      have HB4 : Hid (Below w.heap.size w w4) := below_next HB2.out h41
      have HM : Hid (w.heap.size ≤ m) := by rw [hm]; exact HB2.out.size
      have HSZ : Hid (m < w4.heap.size) := by rw [hw4, hm]; show _ < _; simp
      have HBL : Hid (∀ j (hj : j < xs0.length) g o, ao0 = some ⟨g, o, none⟩ → g < m) := fun j hj g o e => by
        obtain ⟨g', o', e', hc⟩ := HA2.out.at hj
        rw [e] at e'
        cases e'
        rw [hm]
        exact cell_in hc
      have HSET0 : Hid (NumsAt w4 m (seenL xs0 0)) := hset0
      clear hw4 hm hset0 h41 HA2 HB2
      go_loopw [25] (fun q wr => ∃ k : Nat, k ≤ xs0.length ∧ q = .int .i64 k ∧ Hid (NumsAt wr m (seenL xs0 k)) ∧ Hid (Fr (fun g => g = m) w4 wr)) (fun q _ => xs0.length - (intOf q).toNat)
      case atStart => exact ⟨0, Nat.zero_le _, rfl, HSET0, Fr.refl _ _⟩
      case round =>
        obtain ⟨k, hk, rfl, hset, hfr⟩ := hrel
        have hAr : HasInts wr ao0 xs0 := fun j hj => by
          obtain ⟨g, o, e, hc⟩ := HA4.out.at hj
          have hgm := HBL.out j hj g o e
          refine ⟨g, o, e, ?_⟩
          rw [World.cell?_of_block (w := w4) (hfr.out.block g (by have := HSZ.out; omega) (by omega))]
          exact hc
        have hmr : m < wr.heap.size := by have := HSZ.out; have := hfr.out.size; omega
        by_cases hlt : k < xs0.length
        · have hxc := HCOL.out k hlt
          obtain ⟨g, o, hao, hc⟩ := hAr.at hlt
          have hI1 : (k : Int) < (xs0.length : Int) := by omega
          have HCB : Hid (∀ W, Ext wr W → W.cell? ⟨g, o + k, none⟩ = some (.int .i64 xs0[k])) := fun W hW => Ext.cell hW hc
          have HST : Hid (∀ W, Ext wr W → NumsAt W m (seenL xs0 k)) := fun W hW => by
            show W.heap[m]? = _
            rw [hW.heap hmr]
            exact hset.out
          by_cases hx : xs0[k] = 0
          · have T : Hid (Calls _ _ _ _ _) := T5.out (k : Int) wr (Or.inr (Or.inr (by rw [Int.toNat_natCast, getD_at hlt]; exact hx))) hAr
            have hsz := seen_zero (xs := xs0) (k := k) (by rw [getD_at hlt]; exact hx)
            have HSN : Hid (_ = _) := hsz
            rw [hx] at HCB
            subst hao
            clear hsz hx hAr hxc hc
            go_wp2_with (go_at_call 10; fail)
            refine (T.out).mono ?_
            rintro e w5 ⟨rfl, hE5⟩
            have hc5 := HCB.out w5 hE5
            have HN1 : Hid (NumsAt w5 m (seenL xs0 (k + 1))) := by rw [HSN.out]; exact HST.out w5 hE5
            have HN2 : Hid (Fr (fun g => g = m) w4 w5) := hfr.out.trans (Fr.of_below hE5.below)
            clear hE5 T HCB HST HSN
            go_wp2
            go_roundw
            case rel => exact ⟨k + 1, by omega, by go_num, HN1, HN2⟩
            case measure => simp [intOf]; omega
          · have T : Hid (Calls _ _ _ _ _) := T4.out k hlt wr hx hAr
            have hsz := seen_more (xs := xs0) (k := k) (by rw [getD_at hlt]; exact hx)
            have HSN : Hid (_ = _) := hsz
            have hnew := seen_new hlt
            have hlf := lf_lt hlt
            have hxp : 0 < xs0[k] := by omega
            have HLK : Hid (∀ W, Ext wr W → (Instr.lookup 25 (.map (some m)) (.int .i64 (lfN xs0 k : Nat)) false).run Try.prog W = .ok (.bool false) W) := fun W hW => lookI_no (HST.out W hW) _ hnew
            have HLY : Hid (∀ W, Ext wr W → ∃ w', (Instr.mapUpdate 25 (.map (some m)) (.int .i64 (lfN xs0 k : Nat)) (.bool true)).run Try.prog W = .ok () w' ∧ NumsAt w' m (seenL xs0 (k + 1)) ∧ Fr (fun g => g = m) W w') := fun W hW => by rw [HSN.out]; exact layI_new (HST.out W hW) _ hnew
            subst hao
            clear hsz hx hAr hxc hc hnew HSN HST
            generalize lfN xs0 k = N at *
            generalize xs0[k] = x at *
            go_wp2_with (go_at_call 10; fail)
            refine (T.out).mono ?_
            rintro e w5 ⟨rfl, hE5⟩
            have hc5 := HCB.out w5 hE5
            have hlk := HLK.out w5 hE5
            obtain ⟨w6, hly, hn6, hf6⟩ := HLY.out w5 hE5
            have HN1 : Hid (NumsAt w6 m (seenL xs0 (k + 1))) := hn6
            have HN2 : Hid (Fr (fun g => g = m) w4 w6) := (hfr.out.trans (Fr.of_below hE5.below)).trans hf6
            clear hE5 T HCB HLK HLY hn6 hf6
            go_wp2
            go_roundw
            case rel => exact ⟨k + 1, by omega, by go_num, HN1, HN2⟩
            case measure => simp [intOf]; omega
        · obtain rfl : k = xs0.length := by omega
          have T : Hid (Calls _ _ _ _ _) := T5.out (xs0.length : Int) wr (Or.inr (Or.inl (Int.le_refl _))) hAr
          have HBr : Hid (Below w.heap.size w wr) := HB4.out.trans (hfr.out.below (by have := HM.out; have := HSZ.out; omega) (fun k hk => by have := HM.out; omega))
          clear hAr
          go_wp2_with (go_at_call 10; fail)
          refine (T.out).mono ?_
          rintro e w5 ⟨rfl, hE5⟩
          have HB5 : Hid (Below w.heap.size w w5) := below_next HBr.out hE5.below
          clear hE5
          go_wp2
          go_ret
          exact ⟨rfl, HB5.out⟩
  · have hlen' : 120 < xs0.length := by omega
    clear t1 hs0 hz0 hn0 hlen
    go_enter Try.func3, Try.ntmps3
    go_wp2_with (go_at_call 9; fail)
    refine (T3.out).mono ?_
    rintro e w2 ⟨rfl, hb⟩
    go_wp2
    go_ret
    exact ⟨rfl, hb⟩

/-! ### The row's step -/
set_option maxRecDepth 100000 in
theorem lifted (os : Os) (started : os.Started) (H : Type) (enc : TypeId × Value → H) :
    ReturnsInHanded {} Try.checked os 3 .any (Rows.bwtNextsSpec.pre6 enc Try.prog Try.f3 Rows.bwtNextsRow.domain false) (Rows.bwtNextsSpec.post enc Try.prog Try.f3 false true false false) := by
  refine returnsInHanded_of_change (C := Try.checked) own started (by kernel_rfl) Try.func3
    (ChangeSpec.witness6 (enc := enc) (C := Try.checked) false ⟨#[], #[.slice none 0 0], []⟩ 8 (by kernel_rfl) (by kernel_rfl) (by kernel_rfl) (by kernel_rfl)) ?_
  intro W base args ds gs before hval0 hW hcnd _
  have hval : ∀ (j : Nat) t v, Try.f3.params[j]? = some t → args[j]? = some v → Value.okWide Try.prog W .any base t v := hval0
  have hW' := hW
  obtain ⟨p, q, hA0, hV, rfl, hfz, hnd⟩ := hW
  have hA : DataW.TrodAll enc Try.prog W 0 (fun _ => true) true Try.f3.params.toList args.toList ds p := hA0
  rw [Try.params3] at hA hval
  obtain ⟨v0, vs0, d0, ds0, p0, q0, hargs, rfl, rfl, h0, r0⟩ := trodAll_cons hA
  obtain ⟨rfl, rfl, rfl⟩ := trodAll_nil r0
  obtain rfl : args = #[v0] := by cases args; simp_all
  obtain ⟨rfl, rfl⟩ := trodVars_none hV
  obtain ⟨ao0, xs0, cap0, rfl, hs0, hz0, hl0, hm0, hn0⟩ := open_nums (hval 0 22 v0 rfl rfl) h0
  clear hA0 hval0
  simp only [List.append_nil] at hW'
  refine (walk ao0 xs0 cap0 W hs0 hz0 hl0 hm0 hn0).mono fun e W' ⟨he, hg⟩ => ?_
  subst he
  exact ⟨_, rfl, post_carry Try.laidOut (by rw [Try.params3]; intro t ht; simp only [List.mem_cons, List.not_mem_nil, or_false] at ht; subst ht; exact ⟨by kernel_rfl, of_decide_eq_true (by kernel_rfl)⟩) rfl hW' (fun _ _ _ => (trodAll_cons_mk (shut_bool Try.underlying4 _) trodAll_mk0)) rfl rfl hg⟩

theorem over : Rows.bwtNextsRow.holds Try.pinned (OpenSpec.ofChange Rows.bwtNextsSpec) :=
  OpenClaim.holds_of_wide 3 Try.f3 rfl rfl rfl rfl rfl rfl rfl ⟨rfl, rfl, rfl, rfl, rfl⟩ rfl rfl rfl rfl rfl (by kernel_rfl) Try.func3 (by kernel_rfl)
    (of_decide_eq_true (by kernel_rfl)) (by unfold Func.isWrapper; first | (rw [if_pos (by decide +kernel)]; kernel_rfl) | (rw [if_neg (by decide +kernel)]; exact ⟨rfl, rfl⟩))
    (fun os started H enc _ => lifted os started H enc)

end Go.Proofs.Ytimofcbfkblmkab.bwtNexts

namespace Go.Proofs.Ytimofcbfkblmkab
/-- the statement -/
theorem bwtNexts_holds : Rows.BwtNextsSaid := bwtNexts.over
#print axioms bwtNexts_holds
end Go.Proofs.Ytimofcbfkblmkab
