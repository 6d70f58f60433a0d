/- Package arena: a node is made. -/
import Derived.Test.YtgimehldhibmjaaDoorArF
namespace Go.Proofs.YtgimehldhibmjaaDoor
open Go.RowKit

/-- a slot is written, cell by cell -/
def put8 (cs : List Value) (i : Nat) (s : Sl) : List Value := (((((((cs.set (i * 8) (.int .i64 s.nd.tag)).set (i * 8 + 1) (.int .i64 s.nd.k0)).set (i * 8 + 2) (.int .i64 s.nd.k1)).set (i * 8 + 3) (.int .i64 s.nd.k2)).set (i * 8 + 4) (.int .i64 s.nd.k3)).set (i * 8 + 5) (.int .u64 s.nd.a)).set (i * 8 + 6) (.int .u64 s.nd.b)).set (i * 8 + 7) (.int .i64 (s.c : Int))

theorem put8_eq (l : List Sl) {i : Nat} (hi : i < l.length) (s : Sl) : put8 (slotsC l) i s = slotsC (l.set i s) := by
  apply List.ext_getElem?
  intro j
  have hl := len_slotsC l
  rw [slotsC_put l hi, show i * 8 + 8 = i * 8 + (slotC s).length from rfl, getElem?_put _ _ _ (by rw [len_slotC]; omega), len_slotC]
  unfold put8
  simp only [List.getElem?_set, List.length_set]
  by_cases h1 : j < i * 8
  · rw [if_pos h1, if_neg (by omega), if_neg (by omega), if_neg (by omega), if_neg (by omega), if_neg (by omega), if_neg (by omega), if_neg (by omega), if_neg (by omega)]
  · by_cases h2 : j < i * 8 + 8
    · rw [if_neg h1, if_pos h2]
      rcases (show j = i * 8 ∨ j = i * 8 + 1 ∨ j = i * 8 + 2 ∨ j = i * 8 + 3 ∨ j = i * 8 + 4 ∨ j = i * 8 + 5 ∨ j = i * 8 + 6 ∨ j = i * 8 + 7 by omega) with rfl | rfl | rfl | rfl | rfl | rfl | rfl | rfl
      all_goals
        simp [slotC, ndC]
        try omega
    · rw [if_neg h1, if_neg h2, if_neg (by omega), if_neg (by omega), if_neg (by omega), if_neg (by omega), if_neg (by omega), if_neg (by omega), if_neg (by omega), if_neg (by omega)]

/-- an arena: in memory, its words, its invariant, the library's table beside it -/
def ArAt (w : World) (o : Own) (q : Nat) (S : St) (md : Nat) : Prop :=
  Inv S ∧ Tab w ∧ (¬ o.has q 0) ∧ ∃ fw wv, Raw w o q S fw wv (usedN S.sl : Int) (md : Int) ∧ BitsOf fw S

def St.mkM (S : St) (md : Nat) (n : Nd) : Nat := if S.mkE n = 0 then md + 1 else md

theorem tab_pos {w : World} (h : Tab w) : 0 < w.heap.size := by
  have := h 0 (by decide)
  exact World.block_lt_of_cell? _ _ this

theorem tab_step {w w' : World} {o : Own} {q q' : Nat} (h : Tab w) (hs : Step o q q' w w') (h0 : ¬ o.has q 0) : Tab w' ∧ ¬ o.has q' 0 := by
  obtain ⟨h1, h2⟩ := hs.keeps (tab_pos h) h0
  exact ⟨fun j hj => by rw [World.cell?_of_block (w := w) h1]; exact h j hj, h2⟩

/-- the cells of a node that was boxed -/
theorem box_cells {w : World} {g : Nat} {n : Nd} (h : BlkAt w g 34 (ndC n)) :
    w.cell? ⟨g, 0, none⟩ = some (.int .i64 n.tag) ∧ w.cell? ⟨g, 1, none⟩ = some (.int .i64 n.k0) ∧ w.cell? ⟨g, 2, none⟩ = some (.int .i64 n.k1) ∧ w.cell? ⟨g, 3, none⟩ = some (.int .i64 n.k2) ∧ w.cell? ⟨g, 4, none⟩ = some (.int .i64 n.k3) ∧ w.cell? ⟨g, 5, none⟩ = some (.int .u64 n.a) ∧ w.cell? ⟨g, 6, none⟩ = some (.int .u64 n.b) :=
  ⟨h.cell rfl, h.cell rfl, h.cell rfl, h.cell rfl, h.cell rfl, h.cell rfl, h.cell rfl⟩

end Go.Proofs.YtgimehldhibmjaaDoor
