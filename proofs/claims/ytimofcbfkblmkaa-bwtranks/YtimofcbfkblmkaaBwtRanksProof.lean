/- BwtRanks: from place to place a rank rises by one just where the symbol stands: the law's call returns true, whatever it is handed. -/
import Derived.Test.YtimofcbfkblmkaaBwtK
import Derived.Test.YtimofcbfkblmkaaRows
namespace Go.Proofs.Ytimofcbfkblmkaa.bwtRanks
open Go.ChangeShapes Go.WideShapes Go.ChangeAt Go.RowKit Go.Sort
open Go.ChangeMaps (open_string shut_string)
set_option linter.unusedVariables false

theorem own : ownKnob Try.prog.godebug = none := by kernel_rfl


/-! ### The walk -/
set_option maxRecDepth 100000 in
set_option maxHeartbeats 2000000 in
theorem walk (ao0 : Option Addr) (xs0 : List Int) (cap0 : Nat) (a1 : Int) (w : World) (hs0 : HasInts w ao0 xs0) (hz0 : ∀ x ∈ xs0, (Lit.int .i64 x).wf = true) (hl0 : xs0.length ≤ cap0) (hm0 : cap0 ≤ 9223372036854775807) (hn0 : ao0 = none → xs0.length = 0 ∧ cap0 = 0) (w1 : (Lit.int .i64 a1).wf = true) :
    Calls Try.prog 7 #[.slice ao0 xs0.length cap0, .int .i64 a1] w fun e w' => e = .returned (.bool true) ∧ Below w.heap.size w w' := by
  have t1 := bright_any xs0 ao0 cap0 w (by omega) hs0
  have T3 : Hid (Calls _ _ _ _ _) := balive_any w
  by_cases hlen : xs0.length ≤ 120
  · cases hr : colB xs0 with
    | false =>
      rw [hr] at t1
      have T1 : Hid (Calls _ _ _ _ _) := t1
      clear t1 hr hs0 hz0 hn0
      go_enter Try.func7, Try.ntmps7
      go_wp2_with (go_at_call 29; fail)
      refine (T1.out).mono ?_
      rintro e w1 ⟨rfl, hw⟩
      obtain rfl := hw.symm
      go_wp2_with (go_at_call 25; fail)
      refine (T3.out).mono ?_
      rintro e w2 ⟨rfl, hb⟩
      go_wp2
      go_ret
      exact ⟨rfl, hb⟩
    | true =>
      rw [hr] at t1
      have T1 : Hid (Calls _ _ _ _ _) := t1
      have T4 : Hid (∀ (i : Nat) W, i ≤ xs0.length → HasInts W ao0 xs0 → Calls Try.prog 32 #[.int .i64 a1, .int .i64 (i : Nat), .slice ao0 xs0.length cap0] W fun e w' => e = .returned (.int .i64 (rankI xs0 a1 i : Nat)) ∧ Ext W w') := fun i W hi h => by
        have t := rank_any xs0 ao0 cap0 a1 (i : Int) W (by omega) hl0 h
        have e : rankB xs0 a1 (i : Int) = rankI xs0 a1 i := by simp [rankB, hr, cutI_nat hi]
        rw [e] at t
        exact t
      have T5 : Hid (∀ W, HasInts W ao0 xs0 → Calls Try.prog 32 #[.int .i64 a1, .int .i64 ((xs0.length : Int) + 5), .slice ao0 xs0.length cap0] W fun e w' => e = .returned (.int .i64 (rankI xs0 a1 xs0.length : Nat)) ∧ Ext W w') := fun W h => by
        have t := rank_any xs0 ao0 cap0 a1 ((xs0.length : Int) + 5) W (by omega) hl0 h
        have e : rankB xs0 a1 ((xs0.length : Int) + 5) = rankI xs0 a1 xs0.length := by
          have : cutI ((xs0.length : Int) + 5) xs0.length = xs0.length := by unfold cutI; omega
          simp [rankB, hr, this]
        rw [e] at t
        exact t
      have T6 : Hid (∀ W, HasInts W ao0 xs0 → Calls Try.prog 32 #[.int .i64 a1, .int .i64 (-5), .slice ao0 xs0.length cap0] W fun e w' => e = .returned (.int .i64 0) ∧ Ext W w') := fun W h => by
        have t := rank_any xs0 ao0 cap0 a1 (-5) W (by omega) hl0 h
        have e : rankB xs0 a1 (-5) = 0 := by
          have : cutI (-5) xs0.length = 0 := by unfold cutI; omega
          simp [rankB, hr, this, rank_zero]
        rw [e] at t
        exact t
      have HA : Hid (HasInts w ao0 xs0) := hs0
      clear t1 hr hs0 hz0 hn0
      go_enter Try.func7, Try.ntmps7
      go_wp2_with (go_at_call 29; fail)
      refine (T1.out).mono ?_
      rintro e w1 ⟨rfl, hw⟩
      obtain rfl := hw.symm
      go_wp2_with (go_at_call 25; fail)
      refine (T3.out).mono ?_
      rintro e w2 ⟨rfl, hb⟩
      have HB2 : Hid (Below w.heap.size w w2) := hb
      have HA2 : Hid (HasInts w2 ao0 xs0) := HA.out.later hb
      clear hb T1 T3 HA
      go_wp2
      go_loopw [5, 22] (fun n q wr => ∃ k : Nat, k ≤ xs0.length ∧ q = .int .i64 k ∧ n = .int .i64 (rankI xs0 a1 k : Nat) ∧ Hid (Ext w2 wr)) (fun _ q _ => xs0.length - (intOf q).toNat)
      case atStart => exact ⟨0, Nat.zero_le _, rfl, by rw [rank_zero]; rfl, Ext.refl _⟩
      case round =>
        obtain ⟨k, hk, rfl, rfl, hE⟩ := hrel
        have hAr : HasInts wr ao0 xs0 := HA2.out.ext hE.out
        by_cases hlt : k < xs0.length
        · have T : Hid (Calls _ _ _ _ _) := T4.out k wr hk hAr
          obtain ⟨g, o, rfl, hc⟩ := hAr.at hlt
          have hI1 : (k : Int) < (xs0.length : Int) := by omega
          have hrk : rankI xs0 a1 k ≤ k := rank_le _ _ _
          have HRS : Hid (_ = _) := rank_succ a1 hlt
          have HCB : Hid (∀ W, Ext wr W → W.cell? ⟨g, o + k, none⟩ = some (.int .i64 xs0[k])) := fun W hW => Ext.cell hW hc
          clear hAr
          generalize rankI xs0 a1 k = Z at *
          go_wp2_with (go_at_call 32; fail)
          refine (T.out).mono ?_
          rintro e w5 ⟨rfl, hE5⟩
          have hc5 := HCB.out w5 hE5
          have HE5 : Hid (Ext w2 w5) := hE.out.trans hE5
          clear hE5 T HCB hc
          by_cases hx : xs0[k] = a1
          · have hq : (xs0[k] == a1) = true := by simpa using hx
            rw [if_pos hx] at HRS
            clear hx
            generalize xs0[k] = x at *
            go_wp2
            go_roundw
            case rel => exact ⟨k + 1, by omega, by go_num, by rw [HRS.out]; go_num, HE5⟩
            case measure => simp [intOf]; omega
          · have hq : (xs0[k] == a1) = false := by simpa using hx
            rw [if_neg hx] at HRS
            clear hx
            generalize xs0[k] = x at *
            go_wp2
            go_roundw
            case rel => exact ⟨k + 1, by omega, by go_num, by rw [HRS.out, Nat.add_zero], HE5⟩
            case measure => simp [intOf]; omega
        · obtain rfl : k = xs0.length := by omega
          have T : Hid (Calls _ _ _ _ _) := T5.out wr hAr
          have HAr : Hid (HasInts wr ao0 xs0) := hAr
          clear hAr
          generalize rankI xs0 a1 xs0.length = Z at *
          go_wp2_with (go_at_call 32; fail)
          refine (T.out).mono ?_
          rintro e w5 ⟨rfl, hE5⟩
          have T' : Hid (Calls _ _ _ _ _) := T6.out w5 (HAr.out.ext hE5)
          have HE5 : Hid (Ext w2 w5) := hE.out.trans hE5
          clear hE5
          go_wp2_with (go_at_call 32; fail)
          refine (T'.out).mono ?_
          rintro e w6 ⟨rfl, hE6⟩
          have HB6 : Hid (Below w.heap.size w w6) := below_next HB2.out (HE5.out.trans hE6).below
          clear hE6
          go_wp2
          go_ret
          exact ⟨rfl, HB6.out⟩
  · have hlen' : 120 < xs0.length := by omega
    clear t1 hs0 hz0 hn0 hlen
    go_enter Try.func7, Try.ntmps7
    go_wp2_with (go_at_call 25; fail)
    refine (T3.out).mono ?_
    rintro e w2 ⟨rfl, hb⟩
    go_wp2
    go_ret
    exact ⟨rfl, hb⟩

/-! ### The row's step -/
set_option maxRecDepth 100000 in
theorem lifted (os : Os) (started : os.Started) (H : Type) (enc : TypeId × Value → H) :
    ReturnsInHanded {} Try.checked os 7 .any (Rows.bwtRanksSpec.pre6 enc Try.prog Try.f7 Rows.bwtRanksRow.domain false) (Rows.bwtRanksSpec.post enc Try.prog Try.f7 false true false false) := by
  refine returnsInHanded_of_change (C := Try.checked) own started (by kernel_rfl) Try.func7
    (ChangeSpec.witness6 (enc := enc) (C := Try.checked) false ⟨#[], #[.slice none 0 0, .int .i64 0], []⟩ 8 (by kernel_rfl) (by kernel_rfl) (by kernel_rfl) (by kernel_rfl)) ?_
  intro W base args ds gs before hval0 hW hcnd _
  have hval : ∀ (j : Nat) t v, Try.f7.params[j]? = some t → args[j]? = some v → Value.okWide Try.prog W .any base t v := hval0
  have hW' := hW
  obtain ⟨p, q, hA0, hV, rfl, hfz, hnd⟩ := hW
  have hA : DataW.TrodAll enc Try.prog W 0 (fun _ => true) true Try.f7.params.toList args.toList ds p := hA0
  rw [Try.params7] at hA hval
  obtain ⟨v0, vs0, d0, ds0, p0, q0, hargs, rfl, rfl, h0, r0⟩ := trodAll_cons hA
  obtain ⟨v1, vs1, d1, ds1, p1, q1, rfl, rfl, rfl, h1, r1⟩ := trodAll_cons r0
  obtain ⟨rfl, rfl, rfl⟩ := trodAll_nil r1
  obtain rfl : args = #[v0, v1] := by cases args; simp_all
  obtain ⟨rfl, rfl⟩ := trodVars_none hV
  obtain ⟨ao0, xs0, cap0, rfl, hs0, hz0, hl0, hm0, hn0⟩ := open_nums (hval 0 30 v0 rfl rfl) h0
  obtain ⟨a1, rfl, rfl, rfl, w1⟩ := open_int Try.underlying3 (hval 1 3 v1 rfl rfl) h1
  clear hA0 hval0
  simp only [List.append_nil] at hW'
  refine (walk ao0 xs0 cap0 a1 W hs0 hz0 hl0 hm0 hn0 w1).mono fun e W' ⟨he, hg⟩ => ?_
  subst he
  exact ⟨_, rfl, post_carry Try.laidOut (by rw [Try.params7]; intro t ht; simp only [List.mem_cons, List.not_mem_nil, or_false] at ht; rcases ht with rfl | rfl <;> exact ⟨by kernel_rfl, of_decide_eq_true (by kernel_rfl)⟩) rfl hW' (fun _ _ _ => (trodAll_cons_mk (shut_bool Try.underlying4 _) trodAll_mk0)) rfl rfl hg⟩

theorem over : Rows.bwtRanksRow.holds Try.pinned (OpenSpec.ofChange Rows.bwtRanksSpec) :=
  OpenClaim.holds_of_wide 7 Try.f7 rfl rfl rfl rfl rfl rfl rfl ⟨rfl, rfl, rfl, rfl, rfl⟩ rfl rfl rfl rfl rfl (by kernel_rfl) Try.func7 (by kernel_rfl)
    (of_decide_eq_true (by kernel_rfl)) (by unfold Func.isWrapper; first | (rw [if_pos (by decide +kernel)]; kernel_rfl) | (rw [if_neg (by decide +kernel)]; exact ⟨rfl, rfl⟩))
    (fun os started H enc _ => lifted os started H enc)

end Go.Proofs.Ytimofcbfkblmkaa.bwtRanks

namespace Go.Proofs.Ytimofcbfkblmkaa
/-- the statement -/
theorem bwtRanks_holds : Rows.BwtRanksSaid := bwtRanks.over
#print axioms bwtRanks_holds
end Go.Proofs.Ytimofcbfkblmkaa
