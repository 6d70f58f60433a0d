/- Two lists of texts held against each other; the first call of the laws on columns, told true. -/
import Derived.Test.YtimofcbfkblmkaaGreatBwtI
namespace Go.Proofs.YtimofcbfkblmkaaGreat
open Go.RowKit Go.Sort

theorem list_take_eq {α : Type} {xs ys : List α} {k : Nat} (hx : k < xs.length) (hy : k < ys.length) (h : xs.take k = ys.take k) (he : xs[k] = ys[k]) : xs.take (k + 1) = ys.take (k + 1) := by
  rw [List.take_succ_eq_append_getElem hx, List.take_succ_eq_append_getElem hy, h, he]

theorem list_eq_take {α : Type} {xs ys : List α} (h : xs.length = ys.length) (ht : xs.take xs.length = ys.take xs.length) : xs = ys := by
  rw [List.take_length] at ht
  rw [ht, h, List.take_length]

theorem ba_beq (s t : ByteArray) : (s.toList == t.toList) = decide (s = t) := by
  rw [Bool.eq_iff_iff]
  simp only [beq_iff_eq, decide_eq_true_eq, ByteArray.toList_eq]
  constructor
  · intro h
    obtain ⟨a⟩ := s
    obtain ⟨b⟩ := t
    simp at h
    rw [h]
  · rintro rfl
    rfl

set_option maxHeartbeats 400000 in
/-- two lists of texts held against each other -/
theorem sameTexts_any (ss ts : List ByteArray) (ao bo : Option Addr) (ca cb : Nat) (w : World) (hx : ss.length ≤ 1000000) (ha : HasStrs w ao ss) (hb : HasStrs w bo ts) :
    Calls Tryz.prog 21 #[.slice ao ss.length ca, .slice bo ts.length cb] w fun e w' => e = .returned (.bool (decide (ss = ts))) ∧ ∃ n, w' = w.drewN n := by
  obtain ⟨R, hR⟩ : ∃ R, decide (ss = ts) = R := ⟨_, rfl⟩
  rw [hR]
  have HR : Hid (decide (ss = ts) = R) := hR
  clear hR
  by_cases hl : ss.length = ts.length
  · have hne : ((ss.length : Int) != (ts.length : Int)) = false := by simp [hl]
    have HL : Hid (ss.length = ts.length) := hl
    have HA : Hid (HasStrs w ao ss) := ha
    have HB : Hid (HasStrs w bo ts) := hb
    have hle : ts.length ≤ ss.length := by omega
    have hge : ss.length ≤ ts.length := by omega
    clear hl ha hb
    go_enter Tryz.func21, Tryz.ntmps21
    go_wp2
    go_loopw [5] (fun i wr => ∃ k : Nat, k ≤ ss.length ∧ i = .int .i64 k ∧ Hid (ss.take k = ts.take k) ∧ ∃ n, wr = w.drewN n) (fun i _ => ss.length - (intOf i).toNat)
    case atStart => exact ⟨0, Nat.zero_le _, rfl, rfl, 0, rfl⟩
    case round =>
      obtain ⟨k, hk, rfl, ht, n, rfl⟩ := hrel
      by_cases hlt : k < ss.length
      · have hly : k < ts.length := by omega
        obtain ⟨b, o, rfl, hc⟩ := HA.out.at hlt
        obtain ⟨b2, o2, rfl, hc2⟩ := HB.out.at hly
        have hbq := ba_beq ss[k] ts[k]
        have hI1 : (k : Int) < (ss.length : Int) := by omega
        have hI2 : (k : Int) < (ts.length : Int) := by omega
        by_cases he : ss[k] = ts[k]
        · have HN : Hid (ss.take (k + 1) = ts.take (k + 1)) := list_take_eq hlt hly ht.out he
          rw [decide_eq_true he] at hbq
          rw [← he] at hc2
          clear he hbq
          generalize ss[k] = s at *
          go_wp2
          go_quiet (fail)
          go_wp2
          go_roundw
          case rel => exact ⟨k + 1, by omega, by go_num, HN, _, rfl⟩
          case measure => simp [intOf]; omega
        · have hr : false = R := by rw [← HR.out]; exact (decide_eq_false (fun e => he (by subst e; rfl))).symm
          subst hr
          rw [decide_eq_false he] at hbq
          generalize ss[k] = s at *
          generalize ts[k] = t at *
          clear he
          go_wp2
          go_quiet (fail)
          go_wp2
          go_ret
          exact ⟨rfl, _, World.drewN_drewN ..⟩
      · obtain rfl : k = ss.length := by omega
        have hr : true = R := by rw [← HR.out]; exact (decide_eq_true (list_eq_take HL.out ht.out)).symm
        subst hr
        go_wp2
        go_ret
        exact ⟨rfl, _, rfl⟩
  · have hne : ((ss.length : Int) != (ts.length : Int)) = true := by simp; omega
    have hr : false = R := by rw [← HR.out]; exact (decide_eq_false (fun e => hl (by rw [e]))).symm
    subst hr
    clear ha hb
    go_enter Tryz.func21, Tryz.ntmps21
    go_wp2
    go_ret
    exact ⟨rfl, 0, rfl⟩

theorem docs_ab : docsB [99, 0, 98] = some [bAB] := by kernel_rfl
theorem next_ab : nextV [99, 0, 98] 0 = 2 := by kernel_rfl
theorem nextOk_ab : nextOk [99, 0, 98] 0 = true := by kernel_rfl
theorem rank_ab : rankB [99, 0, 98] 0 3 = 1 := by kernel_rfl

set_option maxRecDepth 100000 in
set_option maxHeartbeats 1000000 in
theorem balive_any (w : World) : Calls Tryz.prog 4 #[] w fun e w' => e = .returned (.bool true) ∧ Below w.heap.size w w' := by
  go_enter Tryz.func4, Tryz.ntmps4
  go_wp2_with (go_at_call 7; fail)
  refine (docs_any [99, 0, 98] _ _ _ (by decide) (by decide) (ints_new w [99, 0, 98] _ _ rfl _ rfl)).mono ?_
  rintro e w1 ⟨v1, rfl, hown1, hb1⟩
  rw [docs_ab] at hown1
  rw [docs_ab]
  have hB1 : Hid (Below w.heap.size w w1) := below_next (below_alloc (Below.refl _ _) _) hb1
  obtain ⟨a1, c1, rfl, hi1, -, -, -⟩ := owns_cells hown1
  have HI1 : Hid (HasStrs w1 a1 [bAB]) := hi1
  clear hown1 hb1 hi1
  go_wp2_with (go_at_call 11; fail)
  refine (next_any [99, 0, 98] _ _ 0 _ (by decide) (by decide) (ints_new w1 [99, 0, 98] _ _ rfl _ rfl)).mono ?_
  rintro e w2 ⟨rfl, hE2⟩
  rw [next_ab, nextOk_ab]
  have hB2 : Hid (Below w.heap.size w w2) := below_next (below_alloc hB1.out _) hE2.below
  have HI2 : Hid (HasStrs w2 a1 [bAB]) := (HI1.out.later (below_alloc (Below.refl _ _) _)).later hE2.below
  clear hE2 HI1 hB1
  go_wp2_with (go_at_call 21; fail)
  refine (sameTexts_any [bAB] [bAB] _ _ _ _ _ (by decide) (HI2.out.later (below_alloc (Below.refl _ _) _)) (strs_new w2 [bAB] _ _ rfl _ rfl)).mono ?_
  rintro e w3 ⟨rfl, hn3⟩
  have hB3 : Hid (Below w.heap.size w w3) := by
    obtain ⟨n3, rfl⟩ := hn3
    exact below_drewN (below_alloc hB2.out _) n3
  clear HI2 hB2 hn3
  rw [show decide (([bAB] : List ByteArray) = [bAB]) = true from decide_eq_true rfl]
  go_wp2_with (go_at_call 18; fail)
  refine (rank_any [99, 0, 98] _ _ 0 3 _ (by decide) (by decide) (ints_new w3 [99, 0, 98] _ _ rfl _ rfl)).mono ?_
  rintro e w4 ⟨rfl, hE4⟩
  rw [rank_ab]
  have hB4 : Hid (Below w.heap.size w w4) := below_next (below_alloc hB3.out _) hE4.below
  clear hE4 hB3
  go_wp2_with (go_at_call 6; fail)
  refine (counts_any [1] _ _ _ (by decide) (ints_new w4 [1] _ _ rfl _ rfl)).mono ?_
  rintro e w5 ⟨v5, rfl, hown5, hb5⟩
  have e5 : (cntD [1]).length = 257 := by
    have : colB [1] = true := by decide
    rw [cntD, this, if_pos rfl]
    exact len_cntL _ _
  rw [e5] at hown5
  obtain ⟨a5, c5, rfl, -, -, -, -⟩ := owns_cells hown5
  have hB5 : Hid (Below w.heap.size w w5) := below_next (below_alloc hB4.out _) hb5
  clear hown5 hb5 hB4
  go_wp2
  go_ret
  exact ⟨rfl, hB5.out⟩

end Go.Proofs.YtimofcbfkblmkaaGreat
