/- A leaf, right or not, as a list of bits: each call's answer in one sentence. -/
import Derived.Test.YtgddapefghcphaaDoorLeU
namespace Go.Proofs.YtgddapefghcphaaDoor
open Go.RowKit

/-- the bits that a leaf has, if it is right; none, else -/
structure Nrm (x : Nat) (n : Int) (ok : Bool) (X N : Nat) : Prop where
  r : rightB x n = ok
  le : N ≤ 64
  lt : X < 2 ^ N
  yes : ok = true → x = X ∧ n = (N : Int)
  no : ok = false → X = 0 ∧ N = 0

theorem nrm_any (x : Nat) (n : Int) : ∃ ok X N, Nrm x n ok X N := by
  cases h : rightB x n
  · exact ⟨false, 0, 0, ⟨h, by omega, by simp, (fun e => by cases e), (fun _ => ⟨rfl, rfl⟩)⟩⟩
  · obtain ⟨k, rfl, h1, h2⟩ := right_nat h
    exact ⟨true, x, k, ⟨h, h1, h2, (fun _ => ⟨rfl, rfl⟩), (fun e => by cases e)⟩⟩

def getN (X N : Nat) (i : Int) : Bool := decide (0 ≤ i) && (decide (i < (N : Int)) && X.testBit i.toNat)

theorem getB_nrm {x : Nat} {n : Int} {ok : Bool} {X N : Nat} (h : Nrm x n ok X N) (i : Int) : getB x n i = getN X N i := by
  unfold getB hasB getN
  rw [h.r]
  cases ok
  · obtain ⟨rfl, rfl⟩ := h.no rfl
    simp
  · obtain ⟨rfl, rfl⟩ := h.yes rfl
    simp [Bool.and_assoc]

theorem getN_zero (X : Nat) (i : Int) : getN X 0 i = false := by
  unfold getN
  by_cases h : 0 ≤ i
  · rw [decide_eq_false (show ¬(i < ((0 : Nat) : Int)) by omega)]; simp
  · rw [decide_eq_false h]; simp

theorem getN_at (X k : Nat) : getN X (k + 1) (k : Nat) = X.testBit k := by
  unfold getN
  rw [decide_eq_true (show (0 : Int) ≤ (k : Int) by omega), decide_eq_true (show (k : Int) < ((k + 1 : Nat) : Int) by omega)]
  simp

theorem getN_off {X k : Nat} {i : Int} (h : (k : Int) ≠ i) : getN X (k + 1) i = getN X k i := by
  unfold getN
  by_cases h1 : i < (k : Int)
  · rw [decide_eq_true h1, decide_eq_true (show i < ((k + 1 : Nat) : Int) by omega)]
  · rw [decide_eq_false h1, decide_eq_false (show ¬ i < ((k + 1 : Nat) : Int) by omega)]

theorem clampN_zero (i : Int) : clampN i 0 = 0 := by have := clampN_le i 0; omega

theorem clampN_up {i : Int} {k : Nat} (h : (k : Int) < i) : clampN i (k + 1) = clampN i k + 1 := by
  have h0 : ¬ i < 0 := by omega
  unfold clampN
  simp only [if_neg h0, if_pos h]
  by_cases h1 : ((k + 1 : Nat) : Int) < i
  · rw [if_pos h1]
  · rw [if_neg h1]; omega

theorem clampN_same {i : Int} {k : Nat} (h : ¬ (k : Int) < i) : clampN i (k + 1) = clampN i k := by
  unfold clampN
  by_cases h0 : i < 0
  · rw [if_pos h0, if_pos h0]
  · rw [if_neg h0, if_neg h0, if_neg (by omega), if_neg h]

theorem clampN_at {i : Int} {k : Nat} (h : (k : Int) < i) : clampN i k = k := by
  unfold clampN
  rw [if_neg (by omega), if_pos h]

theorem rank_up {i : Int} {k X : Nat} (h : (k : Int) < i) : popN (clampN i (k + 1)) X = popN (clampN i k) X + if X.testBit k then 1 else 0 := by
  rw [clampN_up h, clampN_at h, popN_succ]

theorem want_test {X N : Nat} (hX : X < 2 ^ N) (one : Bool) {k : Nat} (hk : k < N) : (wantN X N one).testBit k = (X.testBit k == one) := by
  unfold wantN
  cases one
  · rw [if_neg (by simp), show 2 ^ N - 1 - X = 2 ^ N - (X + 1) by omega, Nat.testBit_two_pow_sub_succ hX]
    cases X.testBit k <;> simp [hk]
  · rw [if_pos rfl]
    cases X.testBit k <;> rfl

theorem selI_up (W k : Nat) (q : Int) : selI W (k + 1) q = if W.testBit k = true ∧ (popN k W : Int) = q then (k : Int) else selI W k q := rfl

theorem list_nrm {x : Nat} {n : Int} {ok : Bool} {X N : Nat} (h : Nrm x n ok X N) (hx : x < 18446744073709551616) (w : World) :
    Calls Tryd.prog 5 #[.agg #[.int .u64 ((x : Nat) : Int), .int .i64 n]] w fun e w' => ∃ v, e = .returned (.tuple #[v, .bool ok]) ∧ w'.ownsRow (w.heap.size + 1) 4 1 v N ((bitsL X N).map Value.bool) ∧ Below w.heap.size w w' := by
  cases ok
  · obtain ⟨rfl, rfl⟩ := h.no rfl
    exact (list_no hx h.r w).mono fun e w' ⟨h1, h2⟩ => ⟨_, h1, World.ownsRow_nil _ _ _ _, h2⟩
  · obtain ⟨rfl, rfl⟩ := h.yes rfl
    exact list_yes h.lt h.le w

theorem rank_nrm {x : Nat} {n : Int} {ok : Bool} {X N : Nat} (h : Nrm x n ok X N) (hx : x < 18446744073709551616) (i : Int) (w : World) :
    Calls Tryd.prog 8 #[.agg #[.int .u64 ((x : Nat) : Int), .int .i64 n], .int .i64 i] w fun e w' => e = .returned (.int .i64 ((popN (clampN i N) X : Nat) : Int)) ∧ Below w.heap.size w w' := by
  cases ok
  · obtain ⟨rfl, rfl⟩ := h.no rfl
    rw [popN_zero]
    exact rank_no hx h.r w
  · obtain ⟨rfl, rfl⟩ := h.yes rfl
    exact rank_yes h.lt h.le i w

theorem select_nrm {x : Nat} {n : Int} {ok : Bool} {X N : Nat} (h : Nrm x n ok X N) (hx : x < 18446744073709551616) (one : Bool) (k : Int) (w : World) (hT : Tab w) :
    Calls Tryd.prog 9 #[.agg #[.int .u64 ((x : Nat) : Int), .int .i64 n], .bool one, .int .i64 k] w fun e w' => e = .returned (.int .i64 (selI (wantN X N one) N k)) ∧ Below w.heap.size w w' := by
  cases ok
  · obtain ⟨rfl, rfl⟩ := h.no rfl
    exact select_no hx h.r w
  · obtain ⟨rfl, rfl⟩ := h.yes rfl
    exact select_yes h.lt h.le one k w hT

/-- may one be put in there? -/
def mayI (ok : Bool) (N : Nat) (i : Int) : Bool := ok && (decide (0 ≤ i) && (decide (i ≤ (N : Int)) && decide ((N : Int) < 64)))
/-- may it be taken out there? -/
def mayD (ok : Bool) (N : Nat) (i : Int) : Bool := ok && (decide (0 ≤ i) && decide (i < (N : Int)))
/-- may they be put together? -/
def mayJ (ok is : Bool) (N M : Nat) : Bool := ok && (is && decide ((N : Int) + (M : Int) ≤ 64))

theorem insert_nrm {x : Nat} {n : Int} {ok : Bool} {X N : Nat} (h : Nrm x n ok X N) (hx : x < 18446744073709551616) (i : Int) (b : Bool) (w : World) :
    Calls Tryd.prog 10 #[.agg #[.int .u64 ((x : Nat) : Int), .int .i64 n], .int .i64 i, .bool b] w fun e w' => e = .returned (.tuple #[.agg #[.int .u64 (((if mayI ok N i then insN X i.toNat b else 0 : Nat)) : Int), .int .i64 (((if mayI ok N i then N + 1 else 0 : Nat)) : Int)], .bool (mayI ok N i)]) ∧ Below w.heap.size w w' := by
  cases ok
  · exact insert_no1 hx h.r w
  · obtain ⟨rfl, rfl⟩ := h.yes rfl
    unfold mayI
    by_cases h64 : N = 64
    · subst h64
      rw [decide_eq_false (show ¬(((64 : Nat) : Int) < 64) by omega)]
      simpa using insert_no2 h.lt w
    have hlt : N < 64 := by have := h.le; omega
    by_cases h0 : 0 ≤ i
    · by_cases h1 : i ≤ (N : Int)
      · obtain ⟨j, rfl⟩ : ∃ j : Nat, i = j := ⟨i.toNat, by omega⟩
        rw [decide_eq_true h0, decide_eq_true h1, decide_eq_true (show (N : Int) < 64 by omega)]
        simpa using insert_yes (b := b) h.lt hlt (show j ≤ N by omega) w
      · rw [decide_eq_false h1]
        simpa using insert_no4 (b := b) h.lt hlt (show (N : Int) < i by omega) w
    · rw [decide_eq_false h0]
      simpa using insert_no3 (b := b) h.lt hlt (show i < 0 by omega) w

theorem delete_nrm {x : Nat} {n : Int} {ok : Bool} {X N : Nat} (h : Nrm x n ok X N) (hx : x < 18446744073709551616) (i : Int) (w : World) :
    Calls Tryd.prog 12 #[.agg #[.int .u64 ((x : Nat) : Int), .int .i64 n], .int .i64 i] w fun e w' => e = .returned (.tuple #[.agg #[.int .u64 (((if mayD ok N i then delN X i.toNat else 0 : Nat)) : Int), .int .i64 (((if mayD ok N i then N - 1 else 0 : Nat)) : Int)], .bool (mayD ok N i)]) ∧ Below w.heap.size w w' := by
  have hh : hasB x n i = mayD ok N i := by
    unfold hasB mayD
    rw [h.r]
    cases ok
    · rfl
    · rw [(h.yes rfl).2]
  cases hm : mayD ok N i
  · exact delete_no hx (hh.trans hm) w
  · unfold mayD at hm
    cases ok
    · exact absurd hm (by simp)
    · obtain ⟨rfl, rfl⟩ := h.yes rfl
      simp at hm
      obtain ⟨j, rfl⟩ : ∃ j : Nat, i = j := ⟨i.toNat, by omega⟩
      simpa using delete_yes h.lt h.le (show j < N by omega) w

theorem split_nrm {x : Nat} {n : Int} {ok : Bool} {X N : Nat} (h : Nrm x n ok X N) (hx : x < 18446744073709551616) (i : Int) (w : World) :
    Calls Tryd.prog 13 #[.agg #[.int .u64 ((x : Nat) : Int), .int .i64 n], .int .i64 i] w fun e w' => e = .returned (.tuple #[.agg #[.int .u64 ((X % 2 ^ clampN i N : Nat) : Int), .int .i64 (clampN i N : Nat)], .agg #[.int .u64 ((X / 2 ^ clampN i N : Nat) : Int), .int .i64 ((N - clampN i N : Nat) : Int)]]) ∧ Below w.heap.size w w' := by
  cases ok
  · obtain ⟨rfl, rfl⟩ := h.no rfl
    rw [clampN_zero]
    exact split_no hx h.r w
  · obtain ⟨rfl, rfl⟩ := h.yes rfl
    exact split_any h.lt h.le i w

theorem join_nrm {x y : Nat} {n m : Int} {ok is : Bool} {X N Y M : Nat} (h : Nrm x n ok X N) (g : Nrm y m is Y M) (hx : x < 18446744073709551616) (hy : y < 18446744073709551616) (w : World) :
    Calls Tryd.prog 14 #[.agg #[.int .u64 ((x : Nat) : Int), .int .i64 n], .agg #[.int .u64 ((y : Nat) : Int), .int .i64 m]] w fun e w' => e = .returned (.tuple #[.agg #[.int .u64 (((if mayJ ok is N M then X ||| Y * 2 ^ N else 0 : Nat)) : Int), .int .i64 (((if mayJ ok is N M then N + M else 0 : Nat)) : Int)], .bool (mayJ ok is N M)]) ∧ Below w.heap.size w w' := by
  unfold mayJ
  cases ok
  · exact join_no1 hx h.r w
  cases is
  · exact join_no2 hx hy h.r g.r w
  obtain ⟨rfl, rfl⟩ := h.yes rfl
  obtain ⟨rfl, rfl⟩ := g.yes rfl
  by_cases hs : N + M ≤ 64
  · rw [decide_eq_true (show (N : Int) + (M : Int) ≤ 64 by omega)]
    exact join_yes h.lt g.lt hs w
  · rw [decide_eq_false (show ¬ (N : Int) + (M : Int) ≤ 64 by omega)]
    exact join_no3 h.lt g.lt h.le g.le (by omega) w

/-! ### The leaf of a list that was put together out of parts -/

theorem pack_ins {X N j : Nat} {b : Bool} (hX : X < 2 ^ N) (hj : j ≤ N) : packT (((bitsL X N).take j ++ [b]) ++ (bitsL X N).drop j) (N + 1) = insN X j b := by
  have hl : (((bitsL X N).take j ++ [b]) ++ (bitsL X N).drop j).length = N + 1 := by simp [bitsL_length]; omega
  have h := packT_eq (bs := ((bitsL X N).take j ++ [b]) ++ (bitsL X N).drop j) (x := insN X j b) (by rw [hl]; exact insN_lt hX hj b) (fun i hi => by
    rw [hl] at hi
    rw [insN_test, List.getD_eq_getElem?_getD]
    have ht : ((bitsL X N).take j).length = j := by simp [bitsL_length]; omega
    by_cases h1 : i < j
    · rw [if_pos h1, List.getElem?_append_left (by simp [ht]; omega), List.getElem?_append_left (by omega), List.getElem?_take_of_lt h1, bitsL_get?, if_pos (by omega)]
      rfl
    · rw [if_neg h1]
      by_cases h2 : i = j
      · subst h2
        rw [if_pos rfl, List.getElem?_append_left (by simp [ht]), List.getElem?_append_right (by omega), ht]
        simp
      · rw [if_neg h2, List.getElem?_append_right (by simp [ht]; omega), List.getElem?_drop, bitsL_get?, if_pos (by simp [ht]; omega)]
        have : j + (i - ((bitsL X N).take j ++ [b]).length) = i - 1 := by simp [ht]; omega
        rw [this]
        rfl)
  rw [hl] at h
  exact h

theorem pack_del {X N j : Nat} (hX : X < 2 ^ N) (hj : j < N) : packT ((bitsL X N).take j ++ (bitsL X N).drop (j + 1)) (N - 1) = delN X j := by
  have hl : ((bitsL X N).take j ++ (bitsL X N).drop (j + 1)).length = N - 1 := by simp [bitsL_length]; omega
  have h := packT_eq (bs := (bitsL X N).take j ++ (bitsL X N).drop (j + 1)) (x := delN X j) (by rw [hl]; exact delN_lt hX hj) (fun i hi => by
    rw [hl] at hi
    rw [delN_test, List.getD_eq_getElem?_getD]
    have ht : ((bitsL X N).take j).length = j := by simp [bitsL_length]; omega
    by_cases h1 : i < j
    · rw [if_pos h1, List.getElem?_append_left (by omega), List.getElem?_take_of_lt h1, bitsL_get?, if_pos (by omega)]
      rfl
    · rw [if_neg h1, List.getElem?_append_right (by omega), List.getElem?_drop, ht, bitsL_get?, if_pos (by omega)]
      have : j + 1 + (i - j) = i + 1 := by omega
      rw [this]
      rfl)
  rw [hl] at h
  exact h

theorem pack_low {X N c : Nat} (hc : c ≤ N) : packT ((bitsL X N).take c) c = X % 2 ^ c := by
  have hl : ((bitsL X N).take c).length = c := by simp [bitsL_length]; omega
  have h := packT_eq (bs := (bitsL X N).take c) (x := X % 2 ^ c) (by rw [hl]; exact Nat.mod_lt _ (Nat.two_pow_pos c)) (fun i hi => by
    rw [hl] at hi
    rw [List.getD_eq_getElem?_getD, List.getElem?_take_of_lt hi, bitsL_get?, if_pos (by omega), Nat.testBit_mod_two_pow, decide_eq_true hi]
    simp)
  rw [hl] at h
  exact h

theorem pack_high {X N c : Nat} (hX : X < 2 ^ N) (hN : N ≤ 64) (hc : c ≤ N) : packT ((bitsL X N).drop c) (N - c) = X / 2 ^ c := by
  have hl : ((bitsL X N).drop c).length = N - c := by simp [bitsL_length]
  have h := packT_eq (bs := (bitsL X N).drop c) (x := X / 2 ^ c) (by rw [hl]; exact (split_word hX hN hc).2.2.2) (fun i hi => by
    rw [hl] at hi
    rw [List.getD_eq_getElem?_getD, List.getElem?_drop, bitsL_get?, if_pos (by omega), div_test, Nat.add_comm]
    rfl)
  rw [hl] at h
  exact h

theorem pack_both {X N Y M : Nat} (hX : X < 2 ^ N) (hY : Y < 2 ^ M) (hs : N + M ≤ 64) : packT (bitsL X N ++ bitsL Y M) (N + M) = X ||| Y * 2 ^ N := by
  have hl : (bitsL X N ++ bitsL Y M).length = N + M := by simp [bitsL_length]
  have h := packT_eq (bs := bitsL X N ++ bitsL Y M) (x := X ||| Y * 2 ^ N) (by rw [hl]; exact (join_word hX hY hs).2) (fun i hi => by
    rw [hl] at hi
    rw [join_test hX, List.getD_eq_getElem?_getD]
    by_cases h1 : i < N
    · rw [if_pos h1, List.getElem?_append_left (by rw [bitsL_length]; exact h1), bitsL_get?, if_pos h1]
      rfl
    · rw [if_neg h1, List.getElem?_append_right (by rw [bitsL_length]; omega), bitsL_length, bitsL_get?, if_pos (by omega)]
      rfl)
  rw [hl] at h
  exact h

end Go.Proofs.YtgddapefghcphaaDoor
