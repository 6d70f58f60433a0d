/- Opening a list of things that are done, which was handed in. -/
import Derived.Test.YtgimehldhibmjaaDoorASh
import Derived.Deep.Slices
import Derived.Lib.SmallJoins
import Derived.Laws.IdiomArrays
namespace Go.Proofs.YtgimehldhibmjaaDoor
open Go.ChangeShapes Go.WideShapes Go.ChangeAt Go.RowKit

/-- something that is done -/
structure OpR where
  kind : Int
  n : Int
  nd : Nd
  raw : Bool

def opC (o : OpR) : List Value := [.int .i64 o.kind, .int .i64 o.n, .int .i64 o.nd.tag, .int .i64 o.nd.k0, .int .i64 o.nd.k1, .int .i64 o.nd.k2, .int .i64 o.nd.k3, .int .u64 o.nd.a, .int .u64 o.nd.b, .bool o.raw]

def HasOps (w : World) (ao : Option Addr) (ops : List OpR) : Prop := ∀ i (hi : i < ops.length), ∃ g o, ao = some ⟨g, o, none⟩ ∧ ∀ j u, (opC ops[i])[j]? = some u → w.cell? ⟨g, o + i * 10 + j, none⟩ = some u

theorem HasOps.below {w w' : World} {ao : Option Addr} {ops : List OpR} (h : HasOps w ao ops) (hb : Below w.heap.size w w') : HasOps w' ao ops := by
  intro i hi
  obtain ⟨g, o, e, hc⟩ := h i hi
  exact ⟨g, o, e, fun j u hu => by rw [World.cell?_of_block (w := w) (hb.block g (World.block_lt_of_cell? _ _ (hc j u hu)))]; exact hc j u hu⟩

theorem Tryd.cellsOp : Tryd.prog.cellsOf 54 = 10 := by kernel_rfl
theorem Tryd.cellsNode : Tryd.prog.cellsOf 34 = 7 := by kernel_rfl
theorem Tryd.cellsKids : Tryd.prog.cellsOf 31 = 4 := by kernel_rfl
theorem Tryd.cellsI : Tryd.prog.cellsOf 3 = 1 := by kernel_rfl
theorem Tryd.cellsU : Tryd.prog.cellsOf 32 = 1 := by kernel_rfl
theorem Tryd.cellsB : Tryd.prog.cellsOf 4 = 1 := by kernel_rfl

theorem ten {α : Type} : ∀ (cs : List α), cs.length = 10 → ∃ c0 c1 c2 c3 c4 c5 c6 c7 c8 c9, cs = [c0, c1, c2, c3, c4, c5, c6, c7, c8, c9]
  | [c0, c1, c2, c3, c4, c5, c6, c7, c8, c9], _ => ⟨c0, c1, c2, c3, c4, c5, c6, c7, c8, c9, rfl⟩

set_option maxRecDepth 100000 in
/-- the cells of one -/
theorem op_cells {H : Type} {enc : TypeId × Value → H} {W : World} {base : Nat} {spare : Nat → Bool} {held : Bool} {m : Nat} {cs : List Value} {x : DataW H × List MemPlace} (h : DataW.trod enc Tryd.prog W base spare held m 54 cs = some x) : ∃ o : OpR, cs = opC o := by
  obtain ⟨y0, y1, y2, y3, n, -, hl, h0, h1, h2, h3⟩ := Joins.trod_struct4 Tryd.underlying54 h
  rw [Tryd.cellsOp] at hl
  obtain ⟨c0, c1, c2, c3, c4, c5, c6, c7, c8, c9, rfl⟩ := ten cs hl
  simp only [Tryd.cellsI, Tryd.cellsNode, Tryd.cellsB, List.drop_zero, List.drop_succ_cons, List.take_succ_cons, List.take_zero] at h0 h1 h2 h3
  obtain ⟨k, e0, -, -⟩ := DataW.trod_int Tryd.underlying3 h0
  obtain ⟨nn, e1, -, -⟩ := DataW.trod_int Tryd.underlying3 h1
  obtain ⟨rw_, e3, -⟩ := DataW.trod_bool Tryd.underlying4 h3
  obtain ⟨z0, z1, z2, z3, n2, -, -, g0, g1, g2, g3⟩ := Joins.trod_struct4 Tryd.underlying34 h2
  simp only [Tryd.cellsI, Tryd.cellsKids, Tryd.cellsU, List.drop_zero, List.drop_succ_cons, List.take_succ_cons, List.take_zero] at g0 g1 g2 g3
  obtain ⟨tag, f0, -, -⟩ := DataW.trod_int Tryd.underlying3 g0
  obtain ⟨a, f2, -, -⟩ := DataW.trod_int Tryd.underlying32 g2
  obtain ⟨b, f3, -, -⟩ := DataW.trod_int Tryd.underlying32 g3
  obtain ⟨v0, v1, v2, v3, n3, -, p0, p1, p2, p3⟩ := trod_array4 Tryd.underlying31 Tryd.cellsI g1
  obtain ⟨k0, q0, -, -⟩ := DataW.trod_int Tryd.underlying3 p0
  obtain ⟨k1, q1, -, -⟩ := DataW.trod_int Tryd.underlying3 p1
  obtain ⟨k2, q2, -, -⟩ := DataW.trod_int Tryd.underlying3 p2
  obtain ⟨k3, q3, -, -⟩ := DataW.trod_int Tryd.underlying3 p3
  simp at e0 e1 e3 f0 f2 f3 q0 q1 q2 q3
  subst e0 e1 e3 f0 f2 f3 q0 q1 q2 q3
  exact ⟨⟨k, nn, ⟨tag, k0, k1, k2, k3, a, b⟩, rw_⟩, rfl⟩

set_option maxRecDepth 100000 in
/-- a list of things that are done, which was handed in -/
theorem open_ops {H : Type} {enc : TypeId × Value → H} {W : World} {base : Nat} {v : Value} {d : DataW H} {p : List MemPlace} (hv : Value.okWide Tryd.prog W .any base 22 v) (h : DataW.Trod enc Tryd.prog W 0 (fun _ => true) true 22 v d p) :
    ∃ (ao : Option Addr) (ops : List OpR) (cap : Nat), v = .slice ao ops.length cap ∧ HasOps W ao ops ∧ ops.length ≤ 9223372036854775807 ∧ (ao = none → ops.length = 0 ∧ cap = 0) := by
  obtain ⟨a0, len, cap, rfl⟩ := okWide_slice Tryd.underlying22 hv
  obtain ⟨fuel, hf⟩ := h
  rcases Go.Deep.open_slice Tryd.underlying22 hf with ⟨hcs, _⟩ | ⟨a, len', cap', m, n, D, Pl, hcs, _, hl, hm, hme, _, hel⟩
  · simp [Value.cells] at hcs
    obtain ⟨rfl, rfl, rfl⟩ := hcs
    exact ⟨none, [], 0, rfl, fun i hi => absurd hi (by simp), by simp, fun _ => ⟨rfl, rfl⟩⟩
  · simp [Value.cells] at hcs
    obtain ⟨rfl, rfl, rfl⟩ := hcs
    simp only [if_true] at hme
    unfold maxLen at hm
    have key : ∀ i, i < len → ∃ o : OpR, ∀ j u, (opC o)[j]? = some u → W.cell? (a.add (i * 10 + j)) = some u := by
      intro i hi
      obtain ⟨cs', hc, ht⟩ := hel i (by omega)
      obtain ⟨o, rfl⟩ := op_cells ht
      rw [Tryd.cellsOp] at hc
      obtain ⟨_, hl2, hcc⟩ := World.cells?_some hc
      refine ⟨o, fun j u hu => ?_⟩
      have hj : j < 10 := (List.getElem?_eq_some_iff.1 hu).1
      have h5 := hcc j hj
      rw [hu, Go.Deep.add_add] at h5
      exact h5
    obtain ⟨f, hfn⟩ : ∃ f : Nat → OpR, ∀ i, i < len → ∀ j u, (opC (f i))[j]? = some u → W.cell? (a.add (i * 10 + j)) = some u := by
      refine ⟨fun i => if hi : i < len then Classical.choose (key i hi) else ⟨0, 0, nd0, false⟩, fun i hi => ?_⟩
      have e : (if hi : i < len then Classical.choose (key i hi) else ⟨0, 0, nd0, false⟩ : OpR) = Classical.choose (key i hi) := dif_pos hi
      show ∀ j u, (opC (if hi : i < len then Classical.choose (key i hi) else ⟨0, 0, nd0, false⟩ : OpR))[j]? = some u → W.cell? (a.add (i * 10 + j)) = some u
      rw [e]
      exact Classical.choose_spec (key i hi)
    have hlen : ((List.range len).map f).length = len := by simp
    refine ⟨some a, (List.range len).map f, cap, by rw [hlen], fun i hi => ?_, by omega, fun h => nomatch h⟩
    have hi2 : i < len := by rw [hlen] at hi; exact hi
    have hsp : a.spot = none := by
      have := hfn 0 (by omega) 0 _ rfl
      have h6 := World.cell?_spot this
      simpa [Addr.add] using h6
    obtain ⟨bk, off, spot⟩ := a
    simp only at hsp
    subst hsp
    refine ⟨bk, off, rfl, fun j u hu => ?_⟩
    have e : ((List.range len).map f)[i] = f i := by simp
    rw [e] at hu
    have h7 := hfn i hi2 j u hu
    rw [add_plain] at h7
    rw [Nat.add_assoc]
    exact h7

end Go.Proofs.YtgimehldhibmjaaDoor
