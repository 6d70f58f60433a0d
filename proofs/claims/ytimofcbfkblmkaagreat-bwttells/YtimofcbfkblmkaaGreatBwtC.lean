/- Package bwt: Next; and the library's Equal at numbers. -/
import Derived.Test.YtimofcbfkblmkaaGreatBwtB
namespace Go.Proofs.YtimofcbfkblmkaaGreat
open Go.RowKit Go.Sort

theorem Ext.cell {w w' : World} (h : Ext w w') {a : Addr} {v : Value} (hc : w.cell? a = some v) : w'.cell? a = some v := by
  rw [World.cell?_of_block (w := w) (h.heap (cell_in hc))]
  exact hc

/-- has a row a next one? -/
def nextOk (xs : List Int) (i : Int) : Bool := colB xs && decide (0 ≤ i ∧ i < xs.length ∧ xs.getD i.toNat 0 ≠ 0)

/-- what Next tells -/
def nextV (xs : List Int) (i : Int) : Int := if nextOk xs i then (lfN xs i.toNat : Int) else 0

theorem next_no {xs : List Int} {i : Int} (h : nextOk xs i = false) : nextV xs i = 0 := by simp [nextV, h]

set_option maxRecDepth 100000 in
set_option maxHeartbeats 1000000 in
theorem next_any (xs : List Int) (ao : Option Addr) (cap : Nat) (i : Int) (w : World) (hx : xs.length ≤ 1000000) (hcp : xs.length ≤ cap) (ha : HasInts w ao xs) :
    Calls Tryz.prog 11 #[.int .i64 i, .slice ao xs.length cap] w fun e w' => e = .returned (.tuple #[.int .i64 (nextV xs i), .bool (nextOk xs i)]) ∧ Ext w w' := by
  have t1 := bright_any xs ao cap w (by omega) ha
  by_cases hr : colB xs = true
  · by_cases h1 : 0 ≤ i
    · by_cases h2 : i < xs.length
      · obtain ⟨k, rfl⟩ := Int.eq_ofNat_of_zero_le h1
        have hk : k < xs.length := by omega
        obtain ⟨g, o, hao, hc⟩ := ha.at hk
        by_cases h3 : xs[k] = 0
        · have e : nextOk xs (k : Int) = false := by
            simp only [nextOk, hr, Bool.true_and, decide_eq_false_iff_not, Int.toNat_natCast, getD_at hk, h3]
            simp
          rw [next_no e, e]
          rw [hr] at t1
          rw [h3] at hc
          subst hao
          have T1 : Hid (Calls _ _ _ _ _) := t1
          clear t1 ha hr e h3
          go_enter Tryz.func11, Tryz.ntmps11
          go_wp2_with (go_at_call 16; fail)
          refine (T1.out).mono ?_
          rintro e w1 ⟨rfl, hw⟩
          obtain rfl := hw.symm
          go_wp2
          go_ret2
          exact ⟨rfl, Ext.refl _⟩
        · have e : nextOk xs (k : Int) = true := by
            simp only [nextOk, hr, Bool.true_and, decide_eq_true_eq, Int.toNat_natCast, getD_at hk]
            exact ⟨h1, h2, h3⟩
          have e2 : nextV xs (k : Int) = (befI xs xs[k] : Int) + (rankI xs xs[k] k : Int) := by
            rw [nextV, e, if_pos rfl, Int.toNat_natCast, lf_at hk]
            simp
          have hbl : befI xs xs[k] ≤ xs.length := bef_le _ _
          have hrl : rankI xs xs[k] k ≤ k := rank_le _ _ _
          rw [e2, e]
          have t2 := fun W (h : W.cell? ⟨g, o + k, none⟩ = some (.int .i64 xs[k]) ∧ Ext w W) => (before_any xs ao cap xs[k] W hx (ha.ext h.2)).mono (fun e w' (q : e = _ ∧ Ext W w') => (⟨q.1, Ext.cell q.2 h.1, h.2.trans q.2⟩ : e = .returned (.int .i64 (befB xs xs[k] : Nat)) ∧ w'.cell? ⟨g, o + k, none⟩ = some (.int .i64 xs[k]) ∧ Ext w w'))
          have t3 := fun W (h : W.cell? ⟨g, o + k, none⟩ = some (.int .i64 xs[k]) ∧ Ext w W) => (rank_any xs ao cap xs[k] (k : Int) W hx hcp (ha.ext h.2)).mono (fun e w' (q : e = _ ∧ Ext W w') => (⟨q.1, Ext.cell q.2 h.1, h.2.trans q.2⟩ : e = .returned (.int .i64 (rankB xs xs[k] (k : Int) : Nat)) ∧ w'.cell? ⟨g, o + k, none⟩ = some (.int .i64 xs[k]) ∧ Ext w w'))
          have e3 : befB xs xs[k] = befI xs xs[k] := by simp [befB, hr]
          have e4 : rankB xs xs[k] (k : Int) = rankI xs xs[k] k := by simp [rankB, hr, cutI_nat (Nat.le_of_lt hk)]
          rw [e3] at t2
          rw [e4] at t3
          rw [hr] at t1
          subst hao
          have T1 : Hid (Calls _ _ _ _ _) := t1
          have T2 : Hid (∀ W, _) := t2
          have T3 : Hid (∀ W, _) := t3
          clear t1 t2 t3 ha hr e e2 e3 e4
          have hne : (xs[k] == 0) = false := by simpa using h3
          generalize befI xs xs[k] = B at *
          generalize rankI xs xs[k] k = R at *
          generalize xs[k] = x at *
          have hw64 : IntKind.i64.wrap ((B : Int) + (R : Int)) = (B : Int) + (R : Int) := by rw [IntKind.wrap_i64]; omega
          go_enter Tryz.func11, Tryz.ntmps11
          go_wp2_with (go_at_call 16; fail)
          refine (T1.out).mono ?_
          rintro e w1 ⟨rfl, hw⟩
          obtain rfl := hw.symm
          go_wp2
          go_region_held3 (fun W => W.cell? ⟨g, o + k, none⟩ = some (.int .i64 x) ∧ Ext w W) (first | (exact ⟨hc, (Ext.refl _).drew⟩) | (assumption)) ((first | (go_at_call 19; with_reducible refine (T2.out _ (by assumption)).mono ?_; rintro e w4 ⟨rfl, hS4⟩) | (go_at_call 18; with_reducible refine (T3.out _ (by assumption)).mono ?_; rintro e w5 ⟨rfl, hS5⟩)))
          all_goals
            go_wp2
            go_ret2
            refine ⟨rfl, ?_⟩
            first | exact hS5.2 | exact hS4.2
      · have e : nextOk xs i = false := by simp [nextOk, hr]; omega
        rw [next_no e, e]
        rw [hr] at t1
        have T1 : Hid (Calls _ _ _ _ _) := t1
        clear t1 ha hr e
        go_enter Tryz.func11, Tryz.ntmps11
        go_wp2_with (go_at_call 16; fail)
        refine (T1.out).mono ?_
        rintro e w1 ⟨rfl, hw⟩
        obtain rfl := hw.symm
        go_wp2
        go_ret2
        exact ⟨rfl, Ext.refl _⟩
    · have e : nextOk xs i = false := by simp [nextOk, hr]; omega
      rw [next_no e, e]
      rw [hr] at t1
      have T1 : Hid (Calls _ _ _ _ _) := t1
      clear t1 ha hr e
      go_enter Tryz.func11, Tryz.ntmps11
      go_wp2_with (go_at_call 16; fail)
      refine (T1.out).mono ?_
      rintro e w1 ⟨rfl, hw⟩
      obtain rfl := hw.symm
      go_wp2
      go_ret2
      exact ⟨rfl, Ext.refl _⟩
  · have hr' : colB xs = false := by simpa using hr
    have e : nextOk xs i = false := by simp [nextOk, hr']
    rw [next_no e, e]
    rw [hr'] at t1
    have T1 : Hid (Calls _ _ _ _ _) := t1
    clear t1 ha hr hr' e
    go_enter Tryz.func11, Tryz.ntmps11
    go_wp2_with (go_at_call 16; fail)
    refine (T1.out).mono ?_
    rintro e w1 ⟨rfl, hw⟩
    obtain rfl := hw.symm
    go_wp2
    go_ret2
    exact ⟨rfl, Ext.refl _⟩

set_option maxHeartbeats 400000 in
/-- the library's Equal at numbers -/
theorem equal_any (xs ys : List Int) (ao bo : Option Addr) (ca cb : Nat) (w : World) (hx : xs.length ≤ 1000000) (ha : HasInts w ao xs) (hb : HasInts w bo ys) :
    Calls Tryz.prog 27 #[.slice ao xs.length ca, .slice bo ys.length cb] w fun e w' => e = .returned (.bool (decide (xs = ys))) ∧ ∃ n, w' = w.drewN n := by
  by_cases hl : xs.length = ys.length
  · have hne : ((xs.length : Int) != (ys.length : Int)) = false := by simp [hl]
    have HL : Hid (xs.length = ys.length) := hl
    have HA : Hid (HasInts w ao xs) := ha
    have HB : Hid (HasInts w bo ys) := hb
    have hle : ys.length ≤ xs.length := by omega
    have hge : xs.length ≤ ys.length := by omega
    clear hl ha hb
    go_enter Tryz.func27, Tryz.ntmps27
    go_wp2
    go_loopw [13] (fun i wr => ∃ k : Nat, k ≤ xs.length ∧ i = .int .i64 k ∧ Hid (xs.take k = ys.take k) ∧ ∃ n, wr = w.drewN n) (fun i _ => xs.length - (intOf i).toNat)
    case atStart => exact ⟨0, Nat.zero_le _, rfl, rfl, 0, rfl⟩
    case round =>
      obtain ⟨k, hk, rfl, ht, n, rfl⟩ := hrel
      by_cases hlt : k < xs.length
      · have hly : k < ys.length := by omega
        obtain ⟨b, o, rfl, hc⟩ := HA.out k hlt
        obtain ⟨b2, o2, rfl, hc2⟩ := HB.out k hly
        by_cases he : xs[k] = ys[k]
        · have heq : (xs[k] != ys[k]) = false := by simp [he]
          have HE : Hid (xs[k] = ys[k]) := he
          clear he
          go_wp2
          go_quiet (fail)
          go_wp2
          go_roundw
          case rel => exact ⟨k + 1, by omega, by go_num, take_eq_step hlt hly ht HE.out, _, rfl⟩
          case measure => simp [intOf]; omega
        · have heq : (xs[k] != ys[k]) = true := by simp [he]
          have HF : Hid (decide (xs = ys) = false) := ne_of_at hlt hly he
          clear he
          go_wp2
          go_quiet (fail)
          go_wp2
          go_ret
          exact ⟨ret_b HF.out.symm, _, World.drewN_drewN ..⟩
      · obtain rfl : k = xs.length := by omega
        have HF : Hid (decide (xs = ys) = true) := eq_of_take HL.out ht
        go_wp2
        go_ret
        exact ⟨ret_b HF.out.symm, _, rfl⟩
  · have hne : ((xs.length : Int) != (ys.length : Int)) = true := by simp; omega
    have HF : Hid (decide (xs = ys) = false) := by
      show _ = false
      apply decide_eq_false
      intro e; exact hl (by rw [e])
    clear ha hb
    go_enter Tryz.func27, Tryz.ntmps27
    go_wp2
    go_ret
    exact ⟨ret_b HF.out.symm, 0, rfl⟩

end Go.Proofs.YtimofcbfkblmkaaGreat
