/- BwtCounts: all symbols together are all, and before one more there are as many more as of it: the law's call returns true, whatever it is handed. -/
import Derived.Test.YtimofcbfkblmkaaBwtK
import Derived.Test.YtimofcbfkblmkaaRows
namespace Go.Proofs.Ytimofcbfkblmkaa.bwtCounts
open Go.ChangeShapes Go.WideShapes Go.ChangeAt Go.RowKit Go.Sort
open Go.ChangeMaps (open_string shut_string)
set_option linter.unusedVariables false

theorem own : ownKnob Try.prog.godebug = none := by kernel_rfl

theorem bef_all {xs : List Int} (h : colB xs = true) : befI xs 257 = xs.length := by
  unfold befI
  rw [List.countP_eq_length]
  intro x hx
  simp [colB] at h
  have := h x hx
  simp
  omega

theorem held {w4 W : World} {a : Addr} {v : Value} {f : FuncId} {args : Array Value} {r : Value} (h : W.cell? a = some v ∧ Ext w4 W) (t : Calls Try.prog f args W fun e w' => e = .returned r ∧ Ext W w') :
    Calls Try.prog f args W fun e w' => e = .returned r ∧ w'.cell? a = some v ∧ Ext w4 w' :=
  t.mono (fun _ _ q => ⟨q.1, Ext.cell q.2 h.1, h.2.trans q.2⟩)


/-! ### The walk -/
set_option maxRecDepth 100000 in
set_option maxHeartbeats 2000000 in
theorem walk (ao0 : Option Addr) (xs0 : List Int) (cap0 : Nat) (a1 : Int) (w : World) (hs0 : HasInts w ao0 xs0) (hz0 : ∀ x ∈ xs0, (Lit.int .i64 x).wf = true) (hl0 : xs0.length ≤ cap0) (hm0 : cap0 ≤ 9223372036854775807) (hn0 : ao0 = none → xs0.length = 0 ∧ cap0 = 0) (w1 : (Lit.int .i64 a1).wf = true) :
    Calls Try.prog 6 #[.slice ao0 xs0.length cap0, .int .i64 a1] w fun e w' => e = .returned (.bool true) ∧ Below w.heap.size w w' := by
  have T3 : Hid (Calls _ _ _ _ _) := balive_any w
  by_cases hlen : xs0.length ≤ 160
  · by_cases hs1 : a1 < 0
    · clear hs0 hz0 hn0
      go_enter Try.func6, Try.ntmps6
      go_wp2_with (go_at_call 25; fail)
      refine (T3.out).mono ?_
      rintro e w2 ⟨rfl, hb⟩
      go_wp2
      go_ret
      exact ⟨rfl, hb⟩
    · by_cases hs2 : 257 ≤ a1
      · clear hs0 hz0 hn0
        go_enter Try.func6, Try.ntmps6
        go_wp2_with (go_at_call 25; fail)
        refine (T3.out).mono ?_
        rintro e w2 ⟨rfl, hb⟩
        go_wp2
        go_ret
        exact ⟨rfl, hb⟩
      · have t1 := bright_any xs0 ao0 cap0 w (by omega) hs0
        cases hr : colB xs0 with
        | false =>
          rw [hr] at t1
          have T1 : Hid (Calls _ _ _ _ _) := t1
          clear t1 hr hs0 hz0 hn0
          go_enter Try.func6, Try.ntmps6
          go_wp2_with (go_at_call 29; fail)
          refine (T1.out).mono ?_
          rintro e w1 ⟨rfl, hw⟩
          obtain rfl := hw.symm
          go_wp2_with (go_at_call 25; fail)
          refine (T3.out).mono ?_
          rintro e w2 ⟨rfl, hb⟩
          go_wp2
          go_ret
          exact ⟨rfl, hb⟩
        | true =>
          rw [hr] at t1
          have T1 : Hid (Calls _ _ _ _ _) := t1
          obtain ⟨s, rfl⟩ := Int.eq_ofNat_of_zero_le (by omega : 0 ≤ a1)
          have t4 := fun W (h : HasInts W ao0 xs0) => counts_any xs0 ao0 cap0 W (by omega) h
          have e4 : cntD xs0 = cntL xs0 xs0.length := by simp [cntD, hr]
          rw [e4, len_cntL] at t4
          have T4 : Hid (∀ W, _) := t4
          have TB : Hid (∀ (b : Int) W, HasInts W ao0 xs0 → Calls Try.prog 31 #[.int .i64 b, .slice ao0 xs0.length cap0] W fun e w' => e = .returned (.int .i64 (befI xs0 b : Nat)) ∧ Ext W w') := fun b W h => by
            have t := before_any xs0 ao0 cap0 b W (by omega) h
            have e : befB xs0 b = befI xs0 b := by simp [befB, hr]
            rw [e] at t
            exact t
          have TK : Hid (∀ W, HasInts W ao0 xs0 → Calls Try.prog 32 #[.int .i64 (s : Nat), .int .i64 xs0.length, .slice ao0 xs0.length cap0] W fun e w' => e = .returned (.int .i64 (rankI xs0 (s : Int) xs0.length : Nat)) ∧ Ext W w') := fun W h => by
            have t := rank_any xs0 ao0 cap0 (s : Int) (xs0.length : Int) W (by omega) hl0 h
            have e : rankB xs0 (s : Int) (xs0.length : Int) = rankI xs0 (s : Int) xs0.length := by simp [rankB, hr, cutI_nat (Nat.le_refl _)]
            rw [e] at t
            exact t
          have HB0 : Hid (befI xs0 0 = 0) := bef_zero hr
          have HB257 : Hid (befI xs0 257 = xs0.length) := bef_all hr
          have HBS : Hid (∀ k : Nat, befI xs0 ((k : Int) + 1) = befI xs0 (k : Int) + rankI xs0 (k : Int) xs0.length) := fun k => by rw [bef_succ, rank_all _ _ (Nat.le_refl _)]
          have HA : Hid (HasInts w ao0 xs0) := hs0
          clear t1 t4 e4 hr hs0 hz0 hn0
          go_enter Try.func6, Try.ntmps6
          go_wp2_with (go_at_call 29; fail)
          refine (T1.out).mono ?_
          rintro e w1 ⟨rfl, hw⟩
          obtain rfl := hw.symm
          go_wp2_with (go_at_call 25; fail)
          refine (T3.out).mono ?_
          rintro e w2 ⟨rfl, hb⟩
          have HB2 : Hid (Below w.heap.size w w2) := hb
          have T5 : Hid (Calls _ _ _ _ _) := T4.out w2 (HA.out.later hb)
          clear hb T1 T3
          go_wp2_with (go_at_call 30; fail)
          refine (T5.out).mono ?_
          rintro e w4 ⟨v4, rfl, hown4, hb4⟩
          obtain ⟨ac, cc, rfl, -, -, -, -⟩ := owns_cells hown4
          have hIc : HasInts w4 ac (cntL xs0 xs0.length) := HasInts.of_own hown4
          have HB4 : Hid (Below w.heap.size w w4) := below_next HB2.out hb4
          have HA4 : Hid (HasInts w4 ao0 xs0) := HA.out.later HB4.out
          have HIC : Hid (∀ k (hk : k < 257), ∃ g o, ac = some ⟨g, o, none⟩ ∧ w4.cell? ⟨g, o + k, none⟩ = some (.int .i64 (rankI xs0 (k : Int) xs0.length : Nat))) := fun k hk => by
            obtain ⟨g, o, e, hc⟩ := hIc.at (j := k) (by rw [len_cntL]; exact hk)
            rw [cntL_at xs0 xs0.length hk] at hc
            exact ⟨g, o, e, hc⟩
          clear hown4 hb4 hIc T4 T5 HB2 HA
          go_wp2
          go_loopw [6, 37] (fun n q wr => ∃ k : Nat, k ≤ 257 ∧ q = .int .i64 k ∧ n = .int .i64 (befI xs0 (k : Int) : Nat) ∧ wr = w4) (fun _ q _ => 257 - (intOf q).toNat)
          case atStart => exact ⟨0, Nat.zero_le _, rfl, by rw [show ((0 : Nat) : Int) = 0 from rfl, HB0.out]; rfl, rfl⟩
          case round =>
            obtain ⟨k, hk, rfl, rfl, hw4⟩ := hrel
            obtain rfl := hw4.symm
            by_cases hlt : k < 257
            · obtain ⟨g, o, rfl, hc⟩ := HIC.out k hlt
              have hbl := bef_le xs0 (k : Int)
              have hrl := rank_le xs0 (k : Int) xs0.length
              have HBK : Hid (_ = _) := HBS.out k
              generalize befI xs0 (k : Int) = B at *
              generalize rankI xs0 (k : Int) xs0.length = R at *
              go_wp2
              go_roundw
              case rel => exact ⟨k + 1, by omega, by go_num, by rw [Int.natCast_add, Int.natCast_one, HBK.out]; go_num, by trivial⟩
              case measure => simp [intOf]; omega
            · obtain rfl : k = 257 := by omega
              have hs257 : s < 257 := by omega
              obtain ⟨gc, oc, rfl, hc⟩ := HIC.out s hs257
              have hbl := bef_le xs0 (s : Int)
              have hrl := rank_le xs0 (s : Int) xs0.length
              have t1 := fun W (h : W.cell? ⟨gc, oc + s, none⟩ = some (.int .i64 (rankI xs0 (s : Int) xs0.length : Nat)) ∧ Ext w4 W) => held h (TB.out ((s : Int) + 1) W (HA4.out.ext h.2))
              have t2 := fun W (h : W.cell? ⟨gc, oc + s, none⟩ = some (.int .i64 (rankI xs0 (s : Int) xs0.length : Nat)) ∧ Ext w4 W) => held h (TB.out (s : Int) W (HA4.out.ext h.2))
              have t3 := fun W (h : W.cell? ⟨gc, oc + s, none⟩ = some (.int .i64 (rankI xs0 (s : Int) xs0.length : Nat)) ∧ Ext w4 W) => held h (TB.out 0 W (HA4.out.ext h.2))
              have t4 := fun W (h : W.cell? ⟨gc, oc + s, none⟩ = some (.int .i64 (rankI xs0 (s : Int) xs0.length : Nat)) ∧ Ext w4 W) => held h (TB.out 257 W (HA4.out.ext h.2))
              have t5 := fun W (h : W.cell? ⟨gc, oc + s, none⟩ = some (.int .i64 (rankI xs0 (s : Int) xs0.length : Nat)) ∧ Ext w4 W) => held h (TK.out W (HA4.out.ext h.2))
              rw [HBS.out s] at t1
              rw [HB0.out] at t3
              rw [HB257.out] at t4
              have e257 : ((befI xs0 ((257 : Nat) : Int) : Nat) : Int) = (xs0.length : Int) := by
                have h := HB257.out
                rw [show ((257 : Nat) : Int) = 257 from rfl, h]
              rw [e257]
              have T1 : Hid (∀ W, _) := t1
              have T2 : Hid (∀ W, _) := t2
              have T3 : Hid (∀ W, _) := t3
              have T4 : Hid (∀ W, _) := t4
              have T5 : Hid (∀ W, _) := t5
              clear t1 t2 t3 t4 t5 TB TK HBS HB0 HB257 HIC e257
              generalize befI xs0 (s : Int) = B at *
              generalize rankI xs0 (s : Int) xs0.length = R at *
              have hw64 : wrap64 ((B : Int) + (R : Int)) = (B : Int) + (R : Int) := w64 (by omega) (by omega)
              have hwi : IntKind.i64.wrap ((B : Int) + (R : Int)) = (B : Int) + (R : Int) := by rw [IntKind.wrap_i64]; omega
              have hws : wrap64 ((s : Int) + 1) = (s : Int) + 1 := w64 (by omega) (by omega)
              have hwsi : IntKind.i64.wrap ((s : Int) + 1) = (s : Int) + 1 := by rw [IntKind.wrap_i64]; omega
              have hgw := cell_in hc
              have q1 : ((xs0.length : Int) == (xs0.length : Int)) = true := by simp
              have q2 : (((B + R : Nat) : Int) == (B : Int) + (R : Int)) = true := by simp
              have hI1 : (s : Int) < 257 := by omega
              go_wp2
              go_region_held3 (fun W => W.cell? ⟨gc, oc + s, none⟩ = some (.int .i64 (R : Nat)) ∧ Ext w4 W) (first | (exact ⟨hc, (Ext.refl _).drew⟩) | (assumption)) ((first | (go_at_call 31; with_reducible refine (T1.out _ (by assumption)).mono ?_; rintro e w5 ⟨rfl, hS1⟩) | (go_at_call 31; with_reducible refine (T2.out _ (by assumption)).mono ?_; rintro e w6 ⟨rfl, hS2⟩) | (go_at_call 31; with_reducible refine (T3.out _ (by assumption)).mono ?_; rintro e w7 ⟨rfl, hS3⟩) | (go_at_call 31; with_reducible refine (T4.out _ (by assumption)).mono ?_; rintro e w8 ⟨rfl, hS4⟩) | (go_at_call 32; with_reducible refine (T5.out _ (by assumption)).mono ?_; rintro e w9 ⟨rfl, hS5⟩)))
              have HB9 : Hid (Below w.heap.size w w9) := below_next HB4.out hS5.2.below
              clear hS1 hS2 hS3 hS4 hS5 hc T1 T2 T3 T4 T5
              go_wp2
              go_ret
              exact ⟨rfl, HB9.out⟩
  · have hlen' : 160 < xs0.length := by omega
    clear hs0 hz0 hn0 hlen
    go_enter Try.func6, Try.ntmps6
    go_wp2_with (go_at_call 25; fail)
    refine (T3.out).mono ?_
    rintro e w2 ⟨rfl, hb⟩
    go_wp2
    go_ret
    exact ⟨rfl, hb⟩

/-! ### The row's step -/
set_option maxRecDepth 100000 in
theorem lifted (os : Os) (started : os.Started) (H : Type) (enc : TypeId × Value → H) :
    ReturnsInHanded {} Try.checked os 6 .any (Rows.bwtCountsSpec.pre6 enc Try.prog Try.f6 Rows.bwtCountsRow.domain false) (Rows.bwtCountsSpec.post enc Try.prog Try.f6 false true false false) := by
  refine returnsInHanded_of_change (C := Try.checked) own started (by kernel_rfl) Try.func6
    (ChangeSpec.witness6 (enc := enc) (C := Try.checked) false ⟨#[], #[.slice none 0 0, .int .i64 0], []⟩ 8 (by kernel_rfl) (by kernel_rfl) (by kernel_rfl) (by kernel_rfl)) ?_
  intro W base args ds gs before hval0 hW hcnd _
  have hval : ∀ (j : Nat) t v, Try.f6.params[j]? = some t → args[j]? = some v → Value.okWide Try.prog W .any base t v := hval0
  have hW' := hW
  obtain ⟨p, q, hA0, hV, rfl, hfz, hnd⟩ := hW
  have hA : DataW.TrodAll enc Try.prog W 0 (fun _ => true) true Try.f6.params.toList args.toList ds p := hA0
  rw [Try.params6] at hA hval
  obtain ⟨v0, vs0, d0, ds0, p0, q0, hargs, rfl, rfl, h0, r0⟩ := trodAll_cons hA
  obtain ⟨v1, vs1, d1, ds1, p1, q1, rfl, rfl, rfl, h1, r1⟩ := trodAll_cons r0
  obtain ⟨rfl, rfl, rfl⟩ := trodAll_nil r1
  obtain rfl : args = #[v0, v1] := by cases args; simp_all
  obtain ⟨rfl, rfl⟩ := trodVars_none hV
  obtain ⟨ao0, xs0, cap0, rfl, hs0, hz0, hl0, hm0, hn0⟩ := open_nums (hval 0 30 v0 rfl rfl) h0
  obtain ⟨a1, rfl, rfl, rfl, w1⟩ := open_int Try.underlying3 (hval 1 3 v1 rfl rfl) h1
  clear hA0 hval0
  simp only [List.append_nil] at hW'
  refine (walk ao0 xs0 cap0 a1 W hs0 hz0 hl0 hm0 hn0 w1).mono fun e W' ⟨he, hg⟩ => ?_
  subst he
  exact ⟨_, rfl, post_carry Try.laidOut (by rw [Try.params6]; intro t ht; simp only [List.mem_cons, List.not_mem_nil, or_false] at ht; rcases ht with rfl | rfl <;> exact ⟨by kernel_rfl, of_decide_eq_true (by kernel_rfl)⟩) rfl hW' (fun _ _ _ => (trodAll_cons_mk (shut_bool Try.underlying4 _) trodAll_mk0)) rfl rfl hg⟩

theorem over : Rows.bwtCountsRow.holds Try.pinned (OpenSpec.ofChange Rows.bwtCountsSpec) :=
  OpenClaim.holds_of_wide 6 Try.f6 rfl rfl rfl rfl rfl rfl rfl ⟨rfl, rfl, rfl, rfl, rfl⟩ rfl rfl rfl rfl rfl (by kernel_rfl) Try.func6 (by kernel_rfl)
    (of_decide_eq_true (by kernel_rfl)) (by unfold Func.isWrapper; first | (rw [if_pos (by decide +kernel)]; kernel_rfl) | (rw [if_neg (by decide +kernel)]; exact ⟨rfl, rfl⟩))
    (fun os started H enc _ => lifted os started H enc)

end Go.Proofs.Ytimofcbfkblmkaa.bwtCounts

namespace Go.Proofs.Ytimofcbfkblmkaa
/-- the statement -/
theorem bwtCounts_holds : Rows.BwtCountsSaid := bwtCounts.over
#print axioms bwtCounts_holds
end Go.Proofs.Ytimofcbfkblmkaa
