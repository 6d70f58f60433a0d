/- Tables of documents: things that are done to a table, and the plain lists of its documents beside it. -/
import Derived.Test.YtidpkflgibpldaaDoorTbD
import Derived.Test.YtidpkflgibpldaaDoorLsR2
import Derived.Deep.Slices
import Derived.Deep.Strs
namespace Go.Proofs.YtidpkflgibpldaaDoor.Ls
open Go.ChangeShapes Go.WideShapes Go.ChangeAt Go.RowKit

/-- something that is done -/
structure Op3 where
  kind : Int
  id : Int
  n : Int

def opC3 (o : Op3) : List Value := [.int .i64 o.kind, .int .i64 o.id, .int .i64 o.n]

def HasOp3 (w : World) (ao : Option Addr) (ops : List Op3) : Prop := ∀ i (hi : i < ops.length), ∃ g o, ao = some ⟨g, o, none⟩ ∧ w.cell? ⟨g, o + i * 3, none⟩ = some (.int .i64 ops[i].kind) ∧ w.cell? ⟨g, o + i * 3 + 1, none⟩ = some (.int .i64 ops[i].id) ∧ w.cell? ⟨g, o + i * 3 + 2, none⟩ = some (.int .i64 ops[i].n)

theorem HasOp3.below {w w' : World} {ao : Option Addr} {ops : List Op3} (h : HasOp3 w ao ops) (hb : Below w.heap.size w w') : HasOp3 w' ao ops := by
  intro i hi
  obtain ⟨g, o, e, h0, h1, h2⟩ := h i hi
  exact ⟨g, o, e, cell_later hb h0, cell_later hb h1, cell_later hb h2⟩

theorem cellsOp3 : Tryd.prog.cellsOf 28 = 3 := by kernel_rfl

theorem three_cells {α : Type} : ∀ (cs : List α), cs.length = 3 → ∃ c0 c1 c2, cs = [c0, c1, c2]
  | [c0, c1, c2], _ => ⟨c0, c1, c2, rfl⟩

set_option maxRecDepth 100000 in
/-- the cells of one -/
theorem op3_cells {H : Type} {enc : TypeId × Value → H} {W : World} {base : Nat} {spare : Nat → Bool} {held : Bool} {m : Nat} {cs : List Value} {x : DataW H × List MemPlace} (h : DataW.trod enc Tryd.prog W base spare held m 28 cs = some x) : ∃ o : Op3, cs = opC3 o ∧ inR o.id ∧ inR o.n := by
  obtain ⟨y0, y1, y2, n, -, hl, h0, h1, h2⟩ := Go.Deep.trod_struct3 Tryd.underlying28 h
  rw [cellsOp3] at hl
  obtain ⟨c0, c1, c2, rfl⟩ := three_cells cs hl
  simp only [cellsI1, List.drop_zero, List.drop_succ_cons, List.take_succ_cons, List.take_zero] at h0 h1 h2
  obtain ⟨a, e0, -, -⟩ := DataW.trod_int Tryd.underlying3 h0
  obtain ⟨b, e1, -, w1⟩ := DataW.trod_int Tryd.underlying3 h1
  obtain ⟨c, e2, -, w2⟩ := DataW.trod_int Tryd.underlying3 h2
  simp at e0 e1 e2
  subst e0 e1 e2
  exact ⟨⟨a, b, c⟩, rfl, wf_i64 w1, wf_i64 w2⟩

set_option maxRecDepth 100000 in
/-- a list of things that are done, which was handed in -/
theorem open_op3 {H : Type} {enc : TypeId × Value → H} {W : World} {base : Nat} {v : Value} {d : DataW H} {p : List MemPlace} (hv : Value.okWide Tryd.prog W .any base 22 v) (h : DataW.Trod enc Tryd.prog W 0 (fun _ => true) true 22 v d p) :
    ∃ (ao : Option Addr) (ops : List Op3) (cap : Nat), v = .slice ao ops.length cap ∧ HasOp3 W ao ops ∧ (∀ x ∈ ops, inR x.id ∧ inR x.n) ∧ ops.length ≤ 9223372036854775807 := by
  obtain ⟨a0, len, cap, rfl⟩ := okWide_slice Tryd.underlying22 hv
  obtain ⟨fuel, hf⟩ := h
  rcases Go.Deep.open_slice Tryd.underlying22 hf with ⟨hcs, _⟩ | ⟨a, len', cap', m, n, D, Pl, hcs, _, hl, hm, hme, _, hel⟩
  · simp [Value.cells] at hcs
    obtain ⟨rfl, rfl, rfl⟩ := hcs
    exact ⟨none, [], 0, rfl, fun i hi => absurd hi (by simp), (fun _ h => nomatch h), by simp⟩
  · simp [Value.cells] at hcs
    obtain ⟨rfl, rfl, rfl⟩ := hcs
    simp only [if_true] at hme
    unfold maxLen at hm
    have key : ∀ i, i < len → ∃ o : Op3, W.cell? (a.add (i * 3)) = some (.int .i64 o.kind) ∧ W.cell? (a.add (i * 3 + 1)) = some (.int .i64 o.id) ∧ W.cell? (a.add (i * 3 + 2)) = some (.int .i64 o.n) ∧ inR o.id ∧ inR o.n := by
      intro i hi
      obtain ⟨cs', hc, ht⟩ := hel i (by omega)
      obtain ⟨o, rfl, ho⟩ := op3_cells ht
      rw [cellsOp3] at hc
      obtain ⟨_, hl2, hcc⟩ := World.cells?_some hc
      have h0 := hcc 0 (by omega)
      have h1 := hcc 1 (by omega)
      have h2 := hcc 2 (by omega)
      rw [Go.Deep.add_add] at h0 h1 h2
      exact ⟨o, h0, h1, h2, ho⟩
    obtain ⟨f, hfn⟩ : ∃ f : Nat → Op3, ∀ i, i < len → W.cell? (a.add (i * 3)) = some (.int .i64 (f i).kind) ∧ W.cell? (a.add (i * 3 + 1)) = some (.int .i64 (f i).id) ∧ W.cell? (a.add (i * 3 + 2)) = some (.int .i64 (f i).n) ∧ inR (f i).id ∧ inR (f i).n := by
      refine ⟨fun i => if hi : i < len then Classical.choose (key i hi) else ⟨0, 0, 0⟩, fun i hi => ?_⟩
      have e : (if hi : i < len then Classical.choose (key i hi) else ⟨0, 0, 0⟩ : Op3) = Classical.choose (key i hi) := dif_pos hi
      simp only [e]
      exact Classical.choose_spec (key i hi)
    have hlen : ((List.range len).map f).length = len := by simp
    refine ⟨some a, (List.range len).map f, cap, by rw [hlen], fun i hi => ?_, fun x hx => ?_, by omega⟩
    · have hi2 : i < len := by rw [hlen] at hi; exact hi
      have hsp : a.spot = none := by
        have := (hfn 0 (by omega)).1
        have h6 := World.cell?_spot this
        simpa [Addr.add] using h6
      obtain ⟨bk, off, spot⟩ := a
      simp only at hsp
      subst hsp
      have e : ((List.range len).map f)[i] = f i := by simp
      obtain ⟨h0, h1, h2, -⟩ := hfn i hi2
      rw [add_plain] at h0 h1 h2
      refine ⟨bk, off, rfl, ?_⟩
      rw [e]
      exact ⟨h0, h1, h2⟩
    · obtain ⟨i, hi, rfl⟩ := List.mem_map.1 hx
      exact (hfn i (List.mem_range.1 hi)).2.2.2

/-! ### Two lists that grow beside an arena -/

theorem AB.ne_G {w0 w : World} {G : Nat} {S : St} {md k g : Nat} (h : AB w0 G w S md k) (hl : Loose G w g) : g ≠ G := by
  obtain ⟨o, q, rfl, ⟨I, hT, h0, fw, wv, hR, hBt⟩, hh, hb, hc, hq⟩ := h.norm
  obtain ⟨⟨cur, r, h1⟩, -⟩ := hl
  exact num_ne hR.ar h1 (by decide)

theorem Loose.beside {w w' : World} {G g g2 : Nat} (h : Loose G w g2) (hg : w.grownBy w' (some g)) (h1 : g ≠ g2) (h2 : g ≠ G) : Loose G w' g2 ∧ w'.heap[g2]? = w.heap[g2]? := by
  obtain ⟨⟨cur, r, hc⟩, ao, n, c, hq, hz⟩ := h
  have e2 : w'.heap[g2]? = w.heap[g2]? := hg.block g2 (Array.getElem?_eq_some_iff.1 hc).1 (fun e => h1 (Option.some.inj e).symm)
  have eG : w'.heap[G]? = w.heap[G]? := hg.block G (World.block_lt_of_cell? _ _ hq) (fun e => h2 (Option.some.inj e).symm)
  exact ⟨⟨⟨cur, r, e2.trans hc⟩, ao, n, c, (World.cell?_of_block eG).trans hq, hz⟩, e2⟩

theorem RootsAt.appendN {w0 w w' : World} {G B : Nat} {S : St} {md k : Nat} {v v' : Value} {hs ks : List Int} {m : Nat} (hA : AB w0 G w S md k) (h : RootsAt G w B v hs) (h00 : 0 < w0.heap.size) (hB : w0.heap.size ≤ B) (hm : m = ks.length)
    (hown : w'.ownsRow B 3 1 v' (hs.length + m) (hs.map (Value.int .i64) ++ ks.map (Value.int .i64))) (hg : w.grownBy w' v.ownBlock) (hv : v'.ownBlock = v.ownBlock ∨ v'.ownBlock = some w.heap.size) :
    AB w0 G w' S md k ∧ RootsAt G w' B v' (hs ++ ks) := by
  subst hm
  have ho : w'.ownsRow B 3 1 v' (hs ++ ks).length ((hs ++ ks).map (Value.int .i64)) := by
    rw [List.length_append, List.map_append]
    exact hown
  have hint : ∀ g, v'.ownBlock = some g → B ≤ g ∧ ∃ cur r, w'.heap[g]? = some (.cells cur 3 r) := fun g e => by
    rcases hown.2 with ⟨e1, e2⟩ | ⟨g1, cap, cur, e1, e2, e3, -⟩
    · rw [e1] at e; cases e
    · rw [e1] at e
      have : g1 = g := by simpa [Value.ownBlock] using e
      subst this
      exact ⟨e2, cur, _, e3⟩
  cases hvb : v.ownBlock with
  | none =>
    rw [hvb] at hg hv
    have hb : Below w.heap.size w w' := (Below.refl w.heap.size w).grown hg (Nat.le_refl _) (fun k e => (nomatch e))
    refine ⟨hA.grow hb, ho, fun g e => ?_⟩
    rcases hv with hv | hv
    · rw [hv] at e; cases e
    · rw [hv] at e
      obtain rfl := Option.some.inj e
      obtain ⟨-, cur, r, hc⟩ := hint w.heap.size hv
      exact hA.loose hb (Nat.le_refl _) hc
  | some g =>
    rw [hvb] at hg hv
    have hgB : B ≤ g := by
      rcases h.own.2 with ⟨e1, -⟩ | ⟨g1, cap, cur, e1, e2, -⟩
      · rw [e1] at hvb; cases hvb
      · rw [e1] at hvb
        have : g1 = g := by simpa [Value.ownBlock] using hvb
        omega
    obtain ⟨hA', hl⟩ := hA.beside (h.loose g hvb) h00 (by omega) hg
    refine ⟨hA', ho, fun g' e => hl g' ?_ (hint g' e).2⟩
    rcases hv with hv | hv
    · rw [hv] at e
      exact Or.inl (Option.some.inj e).symm
    · rw [hv] at e
      exact Or.inr (by rw [Option.some.inj e]; exact Nat.le_refl _)

structure Two (w0 : World) (G B : Nat) (S : St) (md c : Nat) (W w : World) (v1 : Value) (l1 : List Int) (v2 : Value) (l2 : List Int) : Prop where
  ar : AB w0 G w S md c
  lo : w0.heap.size ≤ B
  pos : 0 < w0.heap.size
  hi : B ≤ W.heap.size
  one : RootsAt G w B v1 l1
  two : RootsAt G w B v2 l2
  apart : ∀ g, v1.ownBlock = some g → v2.ownBlock = some g → False
  bl : Below B W w

theorem RootsAt.none (G : Nat) (w : World) (B : Nat) : RootsAt G w B (.slice none 0 0) [] := ⟨World.ownsRow_nil _ _ _ _, fun g h => by simp [Value.ownBlock] at h⟩

theorem Two.swap {w0 : World} {G B : Nat} {S : St} {md c : Nat} {W w : World} {v1 v2 : Value} {l1 l2 : List Int} (h : Two w0 G B S md c W w v1 l1 v2 l2) : Two w0 G B S md c W w v2 l2 v1 l1 := ⟨h.ar, h.lo, h.pos, h.hi, h.two, h.one, fun g a b => h.apart g b a, h.bl⟩

theorem Two.start {w0 : World} {G B : Nat} {S : St} {md c : Nat} {w : World} (h : AB w0 G w S md c) (h0 : 0 < w0.heap.size) (hB : B = w.heap.size) : Two w0 G B S md c w w (.slice none 0 0) [] (.slice none 0 0) [] := by
  subst hB
  exact ⟨h, h.below.size, h0, Nat.le_refl _, RootsAt.none _ _ _, RootsAt.none _ _ _, fun g e => by simp [Value.ownBlock] at e, Below.refl _ _⟩

theorem Two.later {w0 : World} {G B : Nat} {S : St} {md c : Nat} {W w w' : World} {v1 v2 : Value} {l1 l2 : List Int} (h : Two w0 G B S md c W w v1 l1 v2 l2) (hb : Below w.heap.size w w') : Two w0 G B S md c W w' v1 l1 v2 l2 :=
  ⟨h.ar.grow hb, h.lo, h.pos, h.hi, h.one.later hb, h.two.later hb, h.apart, h.bl.trans (hb.mono (Nat.le_trans h.hi h.bl.size))⟩

theorem Two.dr {w0 : World} {G B : Nat} {S : St} {md c : Nat} {W w : World} {v1 v2 : Value} {l1 l2 : List Int} (h : Two w0 G B S md c W w v1 l1 v2 l2) (n : Nat) : Two w0 G B S md c W (w.drewN n) v1 l1 v2 l2 :=
  h.later ⟨rfl, rfl, rfl, Nat.le_refl _, fun _ _ => rfl⟩
theorem Two.al {w0 : World} {G B : Nat} {S : St} {md c : Nat} {W w : World} {v1 v2 : Value} {l1 l2 : List Int} (h : Two w0 G B S md c W w v1 l1 v2 l2) (o : Obj) : Two w0 G B S md c W (w.alloc o) v1 l1 v2 l2 :=
  h.later ((Below.refl _ _).alloc (Nat.le_refl _) _)

theorem Two.app {w0 : World} {G B : Nat} {S : St} {md c : Nat} {W w w' : World} {v1 v2 v' : Value} {l1 l2 ks : List Int} {m : Nat} (h : Two w0 G B S md c W w v1 l1 v2 l2) (hm : m = ks.length)
    (hown : w'.ownsRow B 3 1 v' (l1.length + m) (l1.map (Value.int .i64) ++ ks.map (Value.int .i64))) (hg : w.grownBy w' v1.ownBlock) (hv : v'.ownBlock = v1.ownBlock ∨ v'.ownBlock = some w.heap.size) :
    Two w0 G B S md c W w' v' (l1 ++ ks) v2 l2 := by
  obtain ⟨hA, hR⟩ := RootsAt.appendN h.ar h.one h.pos h.lo hm hown hg hv
  have hsz := h.bl.size
  have hlow : Below B w w' := (Below.refl B w).grown hg (Nat.le_trans h.hi hsz) (fun k e => (h.one.own.lt k e).1)
  have h2 : ∀ g, v2.ownBlock = some g → Loose G w' g ∧ w'.heap[g]? = w.heap[g]? := fun g e => by
    cases hvb : v1.ownBlock with
    | none =>
      rw [hvb] at hg
      have hb : Below w.heap.size w w' := (Below.refl w.heap.size w).grown hg (Nat.le_refl _) (fun k e => (nomatch e))
      have := (h.two.loose g e).later hb
      exact ⟨this.2, this.1⟩
    | some k =>
      rw [hvb] at hg
      exact Loose.beside (h.two.loose g e) hg (fun e2 => h.apart g (by rw [hvb, e2]) e) (AB.ne_G h.ar (h.one.loose k hvb))
  refine ⟨hA, h.lo, h.pos, h.hi, hR, ⟨owns_same h.two.own (fun g e => (h2 g e).2), fun g e => (h2 g e).1⟩, fun g e1 e2 => ?_, h.bl.trans hlow⟩
  rcases hv with e | e
  · exact h.apart g (e.symm.trans e1) e2
  · rw [e] at e1
    have h5 := (h.two.own.lt g e2).2
    have h6 := Option.some.inj e1
    omega

/-- another state of the arena, from a call that leaves the lists -/
theorem Two.sp {w0 : World} {G B : Nat} {S S' : St} {md md' c c' : Nat} {W w w' : World} {v1 v2 : Value} {l1 l2 : List Int} (h : Two w0 G B S md c W w v1 l1 v2 l2) (hA : AB w0 G w' S' md' c') (hS : Sp G w w') : Two w0 G B S' md' c' w' w' v1 l1 v2 l2 :=
  ⟨hA, h.lo, h.pos, Nat.le_trans h.hi (Nat.le_trans h.bl.size hS.size), h.one.sp hS, h.two.sp hS, h.apart, Below.refl _ _⟩

theorem Two.base {w0 : World} {G B : Nat} {S : St} {md c : Nat} {W w : World} {v1 v2 : Value} {l1 l2 : List Int} (h : Two w0 G B S md c W w v1 l1 v2 l2) : B ≤ w.heap.size := Nat.le_trans h.hi h.bl.size

/-- a box that a region makes stays where a list grows -/
theorem box_grown {w w' : World} {r : Option Nat} {a : Nat} {cs : List Value} (h : HasCells w (some ⟨a, 0, none⟩) cs) (hg : w.grownBy w' r) (hne : r ≠ some a) : HasCells w' (some ⟨a, 0, none⟩) cs := fun j u hu => by
  obtain ⟨g, o, e, hc⟩ := h j u hu
  cases e
  exact ⟨_, _, rfl, by rw [World.cell?_of_block (hg.block _ (World.block_lt_of_cell? _ _ hc) (fun e => hne e.symm))]; exact hc⟩

end Go.Proofs.YtidpkflgibpldaaDoor.Ls
