/- A list of bits that was handed in. -/
import Derived.Test.YtgddapefghcphaaDoorLists
import Derived.Test.YtgddapefghcphaaDoorFrame
import Derived.Test.YtgddapefghcphaaDoorChecked
import Derived.Deep.Slices
import Derived.WalkKit
import Derived.ProofKit
import Derived.OpenShut
namespace Go.Proofs.YtgddapefghcphaaDoor
open Go.ChangeShapes Go.WideShapes Go.ChangeAt Go.RowKit

/-- a list of bits -/
structure HasBools (w : World) (ao : Option Addr) (bs : List Bool) : Prop where
  cell : ∀ j (hj : j < bs.length), ∃ g o, ao = some ⟨g, o, none⟩ ∧ w.cell? ⟨g, o + j, none⟩ = some (.bool bs[j])

theorem HasBools.later {w w' : World} {ao : Option Addr} {bs : List Bool} (h : HasBools w ao bs) (hb : Below w.heap.size w w') : HasBools w' ao bs :=
  ⟨fun j hj => by
    obtain ⟨g, o, h1, h2⟩ := h.cell j hj
    exact ⟨g, o, h1, (World.cell?_of_block (w := w) (hb.block g (World.block_lt_of_cell? _ _ h2))).trans h2⟩⟩

theorem Tryd.cellsBool : Tryd.prog.cellsOf 4 = 1 := by kernel_rfl

set_option maxRecDepth 100000 in
theorem open_bools {H : Type} {enc : TypeId × Value → H} {W : World} {base : Nat} {v : Value} {d : DataW H} {p : List MemPlace} (hv : Value.okWide Tryd.prog W .any base 26 v) (h : DataW.Trod enc Tryd.prog W 0 (fun _ => true) true 26 v d p) :
    ∃ (ao : Option Addr) (bs : List Bool) (cap : Nat), v = .slice ao bs.length cap ∧ HasBools W ao bs ∧ bs.length ≤ cap ∧ cap ≤ 9223372036854775807 := by
  obtain ⟨a0, len, cap, rfl⟩ := okWide_slice Tryd.underlying26 hv
  obtain ⟨fuel, hf⟩ := h
  rcases Go.Deep.open_slice1 Tryd.underlying26 Tryd.cellsBool hf with ⟨hcs, _⟩ | ⟨a, len', cap', m, n, V, D, Pl, hcs, _, hl, hm, hme, _, hel⟩
  · simp [Value.cells] at hcs
    obtain ⟨rfl, rfl, rfl⟩ := hcs
    exact ⟨none, [], 0, rfl, ⟨fun i hi => absurd hi (by simp)⟩, by simp, by simp⟩
  · simp [Value.cells] at hcs
    obtain ⟨rfl, rfl, rfl⟩ := hcs
    simp only [if_true] at hme
    unfold maxLen at hm
    have each : ∀ i, i < len → ∃ b : Bool, V i = .bool b := fun i hi => by
      obtain ⟨b, h1, _⟩ := DataW.trod_bool Tryd.underlying4 (hel i (by omega)).2
      exact ⟨b, by simpa using h1⟩
    obtain ⟨f, hfn⟩ : ∃ f : Nat → Bool, ∀ i, i < len → V i = .bool (f i) := by
      refine ⟨fun i => if hi : i < len then Classical.choose (each i hi) else false, fun i hi => ?_⟩
      have e : (if hi : i < len then Classical.choose (each i hi) else false : Bool) = Classical.choose (each i hi) := dif_pos hi
      show V i = .bool (if hi : i < len then Classical.choose (each i hi) else false : Bool)
      rw [e]
      exact Classical.choose_spec (each i hi)
    have hlen : ((List.range len).map f).length = len := by simp
    refine ⟨some a, (List.range len).map f, cap, by rw [hlen], ⟨fun i hi => ?_⟩, by omega, by omega⟩
    have hi2 : i < len := by rw [hlen] at hi; exact hi
    have hsp : a.spot = none := by
      have h6 := World.cell?_spot (hel 0 (by omega)).1
      simpa [Addr.add] using h6
    obtain ⟨bk, off, spot⟩ := a
    simp only at hsp
    subst hsp
    refine ⟨bk, off, rfl, ?_⟩
    have h7 := (hel i (by omega)).1
    rw [add_plain, hfn i hi2] at h7
    rw [h7]
    simp

end Go.Proofs.YtgddapefghcphaaDoor
