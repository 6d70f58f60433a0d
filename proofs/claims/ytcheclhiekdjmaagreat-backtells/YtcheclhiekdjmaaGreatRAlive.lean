/- The first call: what the document fixes, told true. -/
import Derived.Test.YtcheclhiekdjmaaGreatRSame
namespace Go.Proofs.YtcheclhiekdjmaaGreat
open Go.RowKit Go.Sort

def bAB : ByteArray := ⟨#[97, 98]⟩
def bA : ByteArray := ⟨#[97]⟩
def bB : ByteArray := ⟨#[98]⟩

theorem sym_ab : symD [bAB] = [99, 0, 98] := by kernel_rfl
theorem sorted_ab : (sortedD [bAB]).length = 3 := by kernel_rfl
theorem less_ab : lessI [bA, bB] 0 1 1 1 = true := by kernel_rfl
theorem right_a : rightB [bA] = true := by kernel_rfl

/-- texts that are laid anew -/
theorem strs_new (W : World) (ss : List ByteArray) (e : TypeId) (g : Nat) (hg : g = W.heap.size) (cs : Array Value) (hc : cs = (ss.map Value.string).toArray) : HasStrs (W.alloc (.cells cs e)) (some ⟨g, 0, none⟩) ss := by
  subst hc
  exact cells_new W (ss.map Value.string) e g hg

theorem ints_new (W : World) (xs : List Int) (e : TypeId) (g : Nat) (hg : g = W.heap.size) (cs : Array Value) (hc : cs = (xs.map (Value.int .i64)).toArray) : HasInts (W.alloc (.cells cs e)) (some ⟨g, 0, none⟩) xs := by
  subst hc hg
  exact hasInts_alloc_new W xs e

theorem HasInts.later {w w' : World} {ao : Option Addr} {xs : List Int} (h : HasInts w ao xs) (hb : Below w.heap.size w w') : HasInts w' ao xs := HasInts.of_cells (h.cells.later hb)

theorem below_alloc {w w' : World} (h : Below w.heap.size w w') (o : Obj) : Below w.heap.size w (w'.alloc o) := h.alloc h.size o

theorem below_drewN {w w' : World} {B : Nat} (h : Below B w w') (n : Nat) : Below B w (w'.drewN n) := ⟨h.os, h.tape, h.output, h.size, h.block⟩

theorem below_next {w w' w'' : World} (h : Below w.heap.size w w') (k : Below w'.heap.size w' w'') : Below w.heap.size w w'' := h.trans (k.mono h.size)


end Go.Proofs.YtcheclhiekdjmaaGreat
