/- The first call: what the document fixes, told true. -/
import Derived.Test.YtimofcbfkblmkaaRSame
namespace Go.Proofs.Ytimofcbfkblmkaa
open Go.RowKit Go.Sort

def bAB : ByteArray := ⟨#[97, 98]⟩
def bA : ByteArray := ⟨#[97]⟩
def bB : ByteArray := ⟨#[98]⟩

theorem sym_ab : symD [bAB] = [99, 0, 98] := by kernel_rfl
theorem sorted_ab : (sortedD [bAB]).length = 3 := by kernel_rfl
theorem less_ab : lessI [bA, bB] 0 1 1 1 = true := by kernel_rfl
theorem right_a : rightB [bA] = true := by kernel_rfl

/-- texts that are laid anew -/
theorem strs_new (W : World) (ss : List ByteArray) (e : TypeId) (g : Nat) (hg : g = W.heap.size) (cs : Array Value) (hc : cs = (ss.map Value.string).toArray) : HasStrs (W.alloc (.cells cs e)) (some ⟨g, 0, none⟩) ss := by
  subst hc
  exact cells_new W (ss.map Value.string) e g hg

theorem ints_new (W : World) (xs : List Int) (e : TypeId) (g : Nat) (hg : g = W.heap.size) (cs : Array Value) (hc : cs = (xs.map (Value.int .i64)).toArray) : HasInts (W.alloc (.cells cs e)) (some ⟨g, 0, none⟩) xs := by
  subst hc hg
  exact hasInts_alloc_new W xs e

theorem HasInts.later {w w' : World} {ao : Option Addr} {xs : List Int} (h : HasInts w ao xs) (hb : Below w.heap.size w w') : HasInts w' ao xs := HasInts.of_cells (h.cells.later hb)

theorem below_alloc {w w' : World} (h : Below w.heap.size w w') (o : Obj) : Below w.heap.size w (w'.alloc o) := h.alloc h.size o

theorem below_drewN {w w' : World} {B : Nat} (h : Below B w w') (n : Nat) : Below B w (w'.drewN n) := ⟨h.os, h.tape, h.output, h.size, h.block⟩

theorem below_next {w w' w'' : World} (h : Below w.heap.size w w') (k : Below w'.heap.size w' w'') : Below w.heap.size w w'' := h.trans (k.mono h.size)

set_option maxHeartbeats 1000000 in
theorem alive_any (w : World) : Calls Try.prog 9 #[] w fun e w' => e = .returned (.bool true) ∧ Below w.heap.size w w' := by
  go_enter Try.func9, Try.ntmps9
  go_wp2_with (go_at_call 12; fail)
  refine (symbols_any [bAB] _ _ _ (strs_new w [bAB] _ _ rfl _ rfl)).mono ?_
  rintro e w1 ⟨v1, rfl, hown1, hb1⟩
  rw [sym_ab] at hown1
  have hB1 : Hid (Below w.heap.size w w1) := below_next (below_alloc (Below.refl _ _) _) hb1
  obtain ⟨a1, c1, rfl, hi1, -⟩ := ownsRow_ints hown1
  have HI1 : Hid (HasInts w1 a1 [99, 0, 98]) := hi1
  clear hown1 hb1 hi1
  go_wp2_with (go_at_call 17; fail)
  refine (same_any [99, 0, 98] [99, 0, 98] _ _ _ _ _ (by decide) (HI1.out.later (below_alloc (Below.refl _ _) _)) (ints_new w1 [99, 0, 98] _ _ rfl _ rfl)).mono ?_
  rintro e w2 ⟨rfl, hn2⟩
  have hB2 : Hid (Below w.heap.size w w2) := by
    obtain ⟨n2, rfl⟩ := hn2
    exact below_drewN (below_alloc hB1.out _) n2
  clear HI1 hB1 hn2
  rw [show decide (([99, 0, 98] : List Int) = [99, 0, 98]) = true from rfl]
  go_wp2_with (go_at_call 19; fail)
  refine (less_any [bA, bB] _ _ 0 1 1 1 _ (strs_new w2 [bA, bB] _ _ rfl _ rfl) (by intro s hs; simp at hs; rcases hs with rfl | rfl <;> decide)).mono ?_
  rintro e w3 ⟨rfl, hx3⟩
  have hB3 : Hid (Below w.heap.size w w3) := below_next (below_alloc hB2.out _) hx3.below
  clear hB2 hx3
  rw [less_ab]
  go_wp2_with (go_at_call 11; fail)
  refine (sorted_any [bAB] _ _ _ (strs_new w3 [bAB] _ _ rfl _ rfl)).mono ?_
  rintro e w4 ⟨v4, rfl, hown4, hb4⟩
  have hB4 : Hid (Below w.heap.size w w4) := below_next (below_alloc hB3.out _) hb4
  rw [sorted_ab] at hown4
  obtain ⟨a4, c4, rfl, -, -, -, -⟩ := owns_cells hown4
  clear hB3 hb4 hown4
  go_wp2_with (go_at_call 21; fail)
  refine (right_any [bA] _ _ _ (strs_new w4 [bA] _ _ rfl _ rfl)).mono ?_
  rintro e w5 ⟨rfl, rfl⟩
  rw [right_a]
  go_wp2
  go_ret
  exact ⟨rfl, below_alloc hB4.out _⟩

end Go.Proofs.Ytimofcbfkblmkaa
