/- Lists of whole numbers: where they lie, how one that was handed in is opened. -/
import Derived.Test.YtidpkflgibpldaaDoorSh
import Derived.ChangeSlices
namespace Go.Proofs.YtidpkflgibpldaaDoor
open Go.ChangeShapes Go.WideShapes Go.ChangeAt Go.RowKit Go.Sort

/-- at this address these numbers lie, one behind the other -/
def HasInts (w : World) (ao : Option Addr) (xs : List Int) : Prop :=
  ∀ j (hj : j < xs.length), ∃ b o, ao = some ⟨b, o, none⟩ ∧ w.cell? ⟨b, o + j, none⟩ = some (.int .i64 xs[j])

theorem HasInts.cells {w : World} {ao : Option Addr} {xs : List Int} (h : HasInts w ao xs) : HasCells w ao (xs.map (Value.int .i64)) := by
  intro j u hu
  have hj : j < xs.length := by simpa using (List.getElem?_eq_some_iff.1 hu).1
  obtain ⟨b, o, he, hc⟩ := h j hj
  refine ⟨b, o, he, ?_⟩
  rw [hc]
  simpa [hj] using hu

theorem HasInts.of_cells {w : World} {ao : Option Addr} {xs : List Int} (h : HasCells w ao (xs.map (Value.int .i64))) : HasInts w ao xs :=
  fun j hj => h j _ (by simp [hj])

theorem HasInts.later {w w' : World} {ao : Option Addr} {xs : List Int} (h : HasInts w ao xs) (hb : Below w.heap.size w w') : HasInts w' ao xs := fun j hj => by
  obtain ⟨b, o, e, hc⟩ := h j hj
  exact ⟨b, o, e, (World.cell?_of_block (w := w) (hb.block b (World.block_lt_of_cell? _ _ hc))).trans hc⟩

theorem Tryd.cellsInt : Tryd.prog.cellsOf 3 = 1 := by kernel_rfl

set_option maxRecDepth 100000 in
/-- a list of whole numbers that was handed in -/
theorem open_nums {H : Type} {enc : TypeId × Value → H} {W : World} {base : Nat} {v : Value} {d : DataW H} {p : List MemPlace} (hv : Value.okWide Tryd.prog W .any base 26 v) (h : DataW.Trod enc Tryd.prog W 0 (fun _ => true) true 26 v d p) :
    ∃ (ao : Option Addr) (xs : List Int) (cap : Nat), v = .slice ao xs.length cap ∧ HasInts W ao xs ∧ (∀ x ∈ xs, (Lit.int .i64 x).wf = true) ∧ xs.length ≤ cap ∧ cap ≤ 9223372036854775807 ∧ (ao = none → xs.length = 0 ∧ cap = 0) := by
  obtain ⟨a0, len, cap, rfl⟩ := okWide_slice Tryd.underlying26 hv
  obtain ⟨fuel, hf⟩ := h
  rcases open_ints Tryd.underlying26 Tryd.underlying3 Tryd.cellsInt hf with ⟨hcs, _⟩ | ⟨a, len', cap', zs, hcs, _, hl, hm, hz, _, hcell, hwf⟩
  · simp [Value.cells] at hcs
    obtain ⟨rfl, rfl, rfl⟩ := hcs
    exact ⟨none, [], 0, rfl, fun j hj => absurd hj (by simp), fun s hs => by simp at hs, by simp, by simp, fun _ => ⟨rfl, rfl⟩⟩
  · simp [Value.cells] at hcs
    obtain ⟨rfl, rfl, rfl⟩ := hcs
    simp only [if_true] at hz
    unfold maxLen at hm
    have hlen : (zs.take len).length = len := by simp; omega
    refine ⟨some a, zs.take len, cap, by rw [hlen], ?_, fun s hs => hwf s (List.mem_of_mem_take hs), by omega, by omega, fun h => nomatch h⟩
    intro j hj
    have hj' : j < len := by omega
    have hc := hcell j (by omega)
    have hspot : a.spot = none := by simpa [Addr.add] using World.cell?_spot (hcell 0 (by omega))
    obtain ⟨b, off, spot⟩ := a
    simp only at hspot
    subst hspot
    refine ⟨b, off, rfl, ?_⟩
    rw [add_plain] at hc
    rw [hc]
    have hj2 : j < zs.length := by omega
    simp [List.getD, hj2]

end Go.Proofs.YtidpkflgibpldaaDoor
