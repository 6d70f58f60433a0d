/- The contract of SameInts: of two lists whose elements are known it tells whether they are alike; the world stands, but for draws. -/
import Derived.Test.YtcheclhiekdjmaaSymb
namespace Go.Proofs.Ytcheclhiekdjmaa
open Go.RowKit

/-- at this address these numbers lie, one behind the other -/
def HasInts (w : World) (ao : Option Addr) (xs : List Int) : Prop :=
  ∀ j (hj : j < xs.length), ∃ b o, ao = some ⟨b, o, none⟩ ∧ w.cell? ⟨b, o + j, none⟩ = some (.int .i64 xs[j])

theorem HasInts.cells {w : World} {ao : Option Addr} {xs : List Int} (h : HasInts w ao xs) : HasCells w ao (xs.map (Value.int .i64)) := by
  intro j u hu
  have hj : j < xs.length := by simpa using (List.getElem?_eq_some_iff.1 hu).1
  obtain ⟨b, o, he, hc⟩ := h j hj
  refine ⟨b, o, he, ?_⟩
  rw [hc]
  simpa [hj] using hu

theorem HasInts.of_cells {w : World} {ao : Option Addr} {xs : List Int} (h : HasCells w ao (xs.map (Value.int .i64))) : HasInts w ao xs :=
  fun j hj => h j _ (by simp [hj])

theorem take_snoc_int (xs : List Int) (k : Nat) (h : k < xs.length) : xs.take (k + 1) = xs.take k ++ [xs[k]] := List.take_succ_eq_append_getElem h

theorem take_eq_step {xs ys : List Int} {k : Nat} (hx : k < xs.length) (hy : k < ys.length) (h : xs.take k = ys.take k) (he : xs[k] = ys[k]) : xs.take (k + 1) = ys.take (k + 1) := by
  rw [take_snoc_int xs k hx, take_snoc_int ys k hy, h, he]

theorem ne_of_at {xs ys : List Int} {k : Nat} (hx : k < xs.length) (hy : k < ys.length) (he : xs[k] ≠ ys[k]) : decide (xs = ys) = false := by
  apply decide_eq_false
  intro e
  subst e
  exact he rfl

theorem eq_of_take {xs ys : List Int} (h : xs.length = ys.length) (ht : xs.take xs.length = ys.take xs.length) : decide (xs = ys) = true := by
  apply decide_eq_true
  rw [List.take_length] at ht
  rw [ht, h, List.take_length]

theorem ret_b {a b : Bool} (h : a = b) : Ending.returned (.bool a) = .returned (.bool b) := by rw [h]


theorem hasInts_of_block {w : World} {g : Nat} {cs : Array Value} {e : TypeId} {r : Nat × Nat} {xs : List Int} (h : w.heap[g]? = some (.cells cs e r)) (hc : cs.toList.take xs.length = xs.map (Value.int .i64)) :
    HasInts w (some ⟨g, 0, none⟩) xs := by
  intro j hj
  refine ⟨g, 0, rfl, ?_⟩
  rw [Nat.zero_add, cell_of_row w g j cs e r h]
  have h1 : (cs.toList.take xs.length)[j]? = (xs.map (Value.int .i64))[j]? := by rw [hc]
  rw [List.getElem?_take, if_pos hj] at h1
  simpa [hj] using h1

theorem ownsRow_ints {w : World} {base : Nat} {e : TypeId} {v : Value} {n : Nat} {xs : List Int} (h : w.ownsRow base e 1 v n (xs.map (Value.int .i64))) :
    ∃ ao cap, v = .slice ao xs.length cap ∧ HasInts w ao xs ∧ n = xs.length := by
  have hn : n = xs.length := by have := h.1; simpa using this.symm
  subst hn
  rcases h.2 with ⟨hv, h0⟩ | ⟨g, cap, cur, hv, hb, hg, h1, h2, h3, h4⟩
  · obtain rfl : xs = [] := List.eq_nil_of_length_eq_zero h0
    exact ⟨none, 0, hv, fun j hj => absurd hj (by simp), rfl⟩
  · refine ⟨some ⟨g, 0, none⟩, cap, hv, hasInts_of_block hg ?_, rfl⟩
    simpa using h4

theorem HasInts.drewN {w : World} {ao : Option Addr} {xs : List Int} (h : HasInts w ao xs) (n : Nat) : HasInts (w.drewN n) ao xs := h

theorem hasInts_alloc_new (w : World) (xs : List Int) (e : TypeId) : HasInts (w.alloc (.cells (xs.map (Value.int .i64)).toArray e)) (some ⟨w.heap.size, 0, none⟩) xs :=
  hasInts_of_block (heap_alloc_new w _) (by simp only []; exact List.take_of_length_le (by simp))



end Go.Proofs.Ytcheclhiekdjmaa
