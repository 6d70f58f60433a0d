/- The statements on searches: their first call; of the symbols of documents a pattern is found as often as it stands in them. -/
import Derived.Test.YtcheclhiekdjmaaGreatBackR
import Derived.Test.YtcheclhiekdjmaaGreatBackN
namespace Go.Proofs.YtcheclhiekdjmaaGreat
open Go.RowKit Go.Sort

def bABA : ByteArray := ⟨#[97, 98, 97]⟩
def bX : ByteArray := ⟨#[120]⟩

theorem sym_aba : symD [bABA] = [98, 99, 0, 98] := by kernel_rfl
theorem range_aba : rangeB [98, 99, 0, 98] bA = (1, 3) := by kernel_rfl
theorem range_abx : rangeB [98, 99, 0, 98] bX = (0, 0) := by kernel_rfl
theorem naive_aba : (naiveD bA [bABA] [bABA].length).length = 2 := by kernel_rfl
theorem bytes_aba : [bABA].length + bytesTo (docs [bABA]) [bABA].length = 4 := by kernel_rfl

set_option maxRecDepth 100000 in
set_option maxHeartbeats 1000000 in
theorem valive_any (w : World) : Calls Tryz.prog 5 #[] w fun e w' => e = .returned (.bool true) ∧ Below w.heap.size w w' := by
  go_enter Tryz.func5, Tryz.ntmps5
  go_wp2_with (go_at_call 18; fail)
  refine (symbols_any [bABA] _ _ _ (strs_new w [bABA] _ _ rfl _ rfl)).mono ?_
  rintro e w1 ⟨v1, rfl, hown1, hb1⟩
  rw [sym_aba] at hown1
  have hB1 : Hid (Below w.heap.size w w1) := below_next (below_alloc (Below.refl _ _) _) hb1
  obtain ⟨a1, c1, rfl, hi1, -⟩ := ownsRow_ints hown1
  have HI1 : Hid (HasInts w1 a1 [98, 99, 0, 98]) := hi1
  clear hown1 hb1 hi1
  go_wp2_with (go_at_call 13; fail)
  refine (count_any bA [98, 99, 0, 98] _ _ _ (by decide) (by decide) HI1.out).mono ?_
  rintro e w2 ⟨rfl, hb2⟩
  rw [countB, range_aba]
  have hB2 : Hid (Below w.heap.size w w2) := below_next hB1.out hb2
  have HI2 : Hid (HasInts w2 a1 [98, 99, 0, 98]) := HI1.out.later hb2
  clear HI1 hB1 hb2
  go_wp2_with (go_at_call 13; fail)
  refine (count_any bX [98, 99, 0, 98] _ _ _ (by decide) (by decide) HI2.out).mono ?_
  rintro e w3 ⟨rfl, hb3⟩
  rw [countB, range_abx]
  have hB3 : Hid (Below w.heap.size w w3) := below_next hB2.out hb3
  clear HI2 hB2 hb3
  go_wp2_with (go_at_call 11; fail)
  refine (naive_any bA [bABA] _ _ _ (strs_new w3 [bABA] _ _ rfl _ rfl) (by rw [bytes_aba]; decide)).mono ?_
  rintro e w4 ⟨v4, rfl, hown4, hb4⟩
  have hB4 : Hid (Below w.heap.size w w4) := below_next (below_alloc hB3.out _) hb4
  rw [naive_aba] at hown4
  obtain ⟨a4, c4, rfl, -, -, -, -⟩ := owns_cells hown4
  clear hB3 hb4 hown4
  go_wp2
  go_ret
  exact ⟨rfl, hB4.out⟩

/-! ### Of the symbols of documents -/

/-- how often a pattern stands in documents -/
def cntN' (p : ByteArray) (ss : List ByteArray) : Nat := (naiveD p ss ss.length).length

theorem range_docs {ss : List ByteArray} (h : rightB ss = true) (p : ByteArray) : rangeB (symD ss) p = rangeN (colI (docs ss)) p.data.toList := by
  unfold rangeB
  rw [symD_right h, if_pos rfl, symD_col h]

theorem count_docs {ss : List ByteArray} (h : rightB ss = true) (p : ByteArray) : countB (symD ss) p = (cntN' p ss : Nat) := by
  have h1 := range_count (docs ss) p.data.toList
  have h2 := range_le (colI (docs ss)) p.data.toList
  rw [len_docs] at h1
  unfold countB
  rw [range_docs h, cntN', naiveD, ← h1]
  omega

theorem cnt_le (p : ByteArray) (ss : List ByteArray) : cntN' p ss ≤ ss.length + bytesTo (docs ss) ss.length := len_naiveD p ss ss.length

theorem bytes_right {ss : List ByteArray} (h : rightB ss = true) : ss.length + bytesTo (docs ss) ss.length ≤ 410 := by
  have h1 := bytes_le h ss.length (Nat.le_refl _)
  have h2 := right_len h
  omega

theorem symD_le {ss : List ByteArray} (h : rightB ss = true) : (symD ss).length ≤ 410 := by
  rw [symD_len h]
  exact bytes_right h

/-- Count, of the symbols of documents -/
theorem count_sym {ss : List ByteArray} {n : Nat} (hr : rightB ss = true) (hn : n = (symD ss).length) (p : ByteArray) (bo : Option Addr) (cb : Nat) (W : World) (hp : p.size ≤ 1000000) (h : HasInts W bo (symD ss)) :
    Calls Tryz.prog 13 #[.string p, .slice bo n cb] W fun e w' => e = .returned (.int .i64 (cntN' p ss : Nat)) ∧ Below W.heap.size W w' := by
  subst hn
  have t := count_any p (symD ss) bo cb W (by have := symD_le hr; omega) (by omega) h
  rw [count_docs hr] at t
  exact t

/-- Range, of the symbols of documents -/
theorem range_sym {ss : List ByteArray} {n : Nat} (hr : rightB ss = true) (hn : n = (symD ss).length) (p : ByteArray) (bo : Option Addr) (cb : Nat) (W : World) (hp : p.size ≤ 1000000) (h : HasInts W bo (symD ss)) :
    Calls Tryz.prog 7 #[.string p, .slice bo n cb] W fun e w' => e = .returned (.tuple #[.int .i64 (rangeB (symD ss) p).1, .int .i64 (rangeB (symD ss) p).2]) ∧ Below W.heap.size W w' := by
  subst hn
  exact range_any p (symD ss) bo cb W (by have := symD_le hr; omega) (by omega) h

/-- Naive, of documents that may be -/
theorem naive_sym {ss : List ByteArray} (hr : rightB ss = true) (p : ByteArray) (ao : Option Addr) (cap : Nat) (W : World) (h : HasStrs W ao ss) :
    Calls Tryz.prog 11 #[.string p, .slice ao ss.length cap] W fun e w' => ∃ v, e = .returned v ∧ w'.ownsRow W.heap.size 64 2 v (cntN' p ss) (cellsR (naiveD p ss ss.length)) ∧ Below W.heap.size W w' :=
  naive_any p ss ao cap W h (by have := bytes_right hr; omega)

/-- each document stands at least once -/
theorem cnt_self {ss : List ByteArray} {d : Nat} (h : d < ss.length) : 1 ≤ cntN' ss[d] ss := by
  have h1 := naive_self (l := docs ss) (d := d) (by rw [len_docs]; exact h)
  rw [docAt_docs h, len_docs] at h1
  exact h1

/-- what is longer than all documents stands nowhere -/
theorem cnt_long {ss : List ByteArray} {p : ByteArray} (h : bytesTo (docs ss) ss.length < p.size) : cntN' p ss = 0 := by
  unfold cntN' naiveD
  refine naive_long (fun d hd => ?_) ss.length (by rw [len_docs]; exact Nat.le_refl _)
  rw [len_docs] at hd
  have h1 := doc_bytes (docs ss) (d := d) ss.length hd
  have h2 : p.data.toList.length = p.size := rfl
  omega

/-- the empty pattern stands at each place -/
theorem cnt_empty (ss : List ByteArray) : cntN' ⟨#[]⟩ ss = ss.length + bytesTo (docs ss) ss.length := by
  show (naive (docs ss) [] ss.length).length = _
  rw [naive_nil, len_allTo]

theorem range_empty {ss : List ByteArray} (h : rightB ss = true) : rangeB (symD ss) ⟨#[]⟩ = (0, (symD ss).length) := by
  rw [rangeB, symD_right h, if_pos rfl]
  rfl

end Go.Proofs.YtcheclhiekdjmaaGreat
