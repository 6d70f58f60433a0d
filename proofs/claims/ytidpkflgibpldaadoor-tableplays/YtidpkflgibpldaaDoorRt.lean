/- Lists of handles beside an arena: they stay where the arena changes, and the arena stays where they grow. -/
import Derived.Test.YtidpkflgibpldaaDoorGr
namespace Go.Proofs.YtidpkflgibpldaaDoor
open Go Go.RowKit Go.Shelf

/-- a list of numbers that is not the arena's own -/
structure RootsAt (G : Nat) (w : World) (B : Nat) (v : Value) (hs : List Int) : Prop where
  own : w.ownsRow B 3 1 v hs.length (hs.map (Value.int .i64))
  loose : ∀ g, v.ownBlock = some g → Loose G w g

theorem RootsAt.sp {G B : Nat} {w w' : World} {v : Value} {hs : List Int} (h : RootsAt G w B v hs) (hS : Sp G w w') : RootsAt G w' B v hs :=
  ⟨owns_same h.own (fun g hg => (hS.num g (h.loose g hg)).1), fun g hg => (hS.num g (h.loose g hg)).2⟩
theorem RootsAt.later {G B : Nat} {w w' : World} {v : Value} {hs : List Int} (h : RootsAt G w B v hs) (hb : Below w.heap.size w w') : RootsAt G w' B v hs := h.sp (Sp.of hb)

theorem RootsAt.cells {G B : Nat} {w : World} {v : Value} {hs : List Int} (h : RootsAt G w B v hs) : ∃ ao cap, v = .slice ao hs.length cap ∧ HasCells w ao (hs.map (Value.int .i64)) := by
  obtain ⟨ao, cap, e, hc, -⟩ := owns_cells h.own
  exact ⟨ao, cap, e, hc⟩

theorem AB.beside {w0 w w' : World} {G g : Nat} {S : St} {md k : Nat} (h : AB w0 G w S md k) (hl : Loose G w g) (h00 : 0 < w0.heap.size) (hB : w0.heap.size ≤ g) (hg : w.grownBy w' (some g)) :
    AB w0 G w' S md k ∧ ∀ g', (g' = g ∨ w.heap.size ≤ g') → (∃ cur r, w'.heap[g']? = some (.cells cur 3 r)) → Loose G w' g' := by
  obtain ⟨o, q, rfl, ⟨I, hT, h0, fw, wv, hR, hBt⟩, hh, hb, hc, hq⟩ := h.norm
  obtain ⟨⟨cur, r, h1⟩, ao, n, c, h2, h3⟩ := hl
  have n1 : g ≠ o.G := num_ne hR.ar h1 (by decide)
  have nq : g ≠ q := by
    rcases hq with hq | ⟨cur2, off, n2, c2, hq, hc2, hz⟩
    · rw [hq]; exact n1
    · rw [hc2] at h2
      simp at h2
      obtain ⟨rfl, rfl, rfl⟩ := h2
      rcases h3 with h3 | h3
      · exact absurd h3 hz
      · exact fun e => h3 off (by rw [e])
  have hf : Fr (fun b => b = g) w w' := Fr.of_grown hg (fun k e => (Option.some.inj e).symm)
  have hX : ∀ b, o.has q b → ¬ b = g := by
    rintro b (e | e | e | e) e2
    · exact n1 (e2.symm.trans e)
    · exact num_ne hR.sl h1 (by decide) (e2.symm.trans e)
    · exact num_ne hR.fr h1 (by decide) (e2.symm.trans e)
    · exact nq (e2.symm.trans e)
  have hT' : Tab w' := fun j hj => by
    rw [World.cell?_of_block (w := w) (hf.block 0 (tab_pos hT) (by omega))]
    exact hT j hj
  have hR' := hR.off hf hX
  refine ⟨⟨o, q, rfl, ⟨I, hT', h0, fw, wv, hR', hBt⟩, hh, hb.grown hg hb.size (fun k e => by cases e; exact hB), hc⟩, fun g' hg' hcur => ?_⟩
  obtain ⟨ao', cap', f1, -, -, f4⟩ := hR'.qu
  have hcell : w'.cell? ⟨o.G, 2, none⟩ = some wv := hR'.ar.cell rfl
  refine ⟨hcur, ao', _, cap', by rw [hcell, f1], ?_⟩
  rcases f4 with f4 | ⟨off, cur', f5, -⟩
  · exact Or.inl f4
  · refine Or.inr (fun o' e => ?_)
    rw [f5] at e
    cases e
    have := hR.ql
    rcases hg' with e | e
    · exact nq e.symm
    · omega

theorem RootsAt.append {w0 w w' : World} {G B : Nat} {S : St} {md k : Nat} {v v' : Value} {hs : List Int} {x : Int} (hA : AB w0 G w S md k) (h : RootsAt G w B v hs) (h00 : 0 < w0.heap.size) (hB : w0.heap.size ≤ B)
    (hown : w'.ownsRow B 3 1 v' (hs.length + 1) (hs.map (Value.int .i64) ++ [.int .i64 x])) (hg : w.grownBy w' v.ownBlock) (hv : v'.ownBlock = v.ownBlock ∨ v'.ownBlock = some w.heap.size) :
    AB w0 G w' S md k ∧ RootsAt G w' B v' (hs ++ [x]) := by
  have ho : w'.ownsRow B 3 1 v' (hs ++ [x]).length ((hs ++ [x]).map (Value.int .i64)) := by
    rw [List.length_append, List.map_append]
    exact hown
  have hint : ∀ g, v'.ownBlock = some g → B ≤ g ∧ ∃ cur r, w'.heap[g]? = some (.cells cur 3 r) := fun g e => by
    rcases hown.2 with ⟨e1, e2⟩ | ⟨g1, cap, cur, e1, e2, e3, -⟩
    · omega
    · rw [e1] at e
      have : g1 = g := by simpa [Value.ownBlock] using e
      subst this
      exact ⟨e2, cur, _, e3⟩
  cases hvb : v.ownBlock with
  | none =>
    rw [hvb] at hg hv
    have hb : Below w.heap.size w w' := (Below.refl w.heap.size w).grown hg (Nat.le_refl _) (fun k e => (nomatch e))
    refine ⟨hA.grow hb, ho, fun g e => ?_⟩
    rcases hv with hv | hv
    · rw [hv] at e; cases e
    · rw [hv] at e
      obtain rfl := Option.some.inj e
      obtain ⟨-, cur, r, hc⟩ := hint w.heap.size hv
      exact hA.loose hb (Nat.le_refl _) hc
  | some g =>
    rw [hvb] at hg hv
    have hgB : B ≤ g := by
      rcases h.own.2 with ⟨e1, -⟩ | ⟨g1, cap, cur, e1, e2, -⟩
      · rw [e1] at hvb; cases hvb
      · rw [e1] at hvb
        have : g1 = g := by simpa [Value.ownBlock] using hvb
        omega
    obtain ⟨hA', hl⟩ := hA.beside (h.loose g hvb) h00 (by omega) hg
    refine ⟨hA', ho, fun g' e => hl g' ?_ (hint g' e).2⟩
    rcases hv with hv | hv
    · rw [hv] at e
      exact Or.inl (Option.some.inj e).symm
    · rw [hv] at e
      exact Or.inr (by rw [Option.some.inj e]; exact Nat.le_refl _)

/-- a list that is made -/
theorem RootsAt.new {w0 w : World} {G : Nat} {S : St} {md k : Nat} (hA : AB w0 G w S md k) (x : Int) : RootsAt G (w.alloc (.cells #[.int .i64 x] 3)) w.heap.size (.slice (some ⟨w.heap.size, 0, none⟩) 1 1) [x] := by
  have hh : (w.alloc (.cells #[.int .i64 x] 3)).heap[w.heap.size]? = some (.cells #[.int .i64 x] 3 (0, 0)) := heap_alloc_new w _
  refine ⟨⟨rfl, Or.inr ⟨w.heap.size, 1, _, rfl, Nat.le_refl _, hh, Nat.le_refl _, by unfold maxLen; omega, rfl, rfl⟩⟩, fun g hg => ?_⟩
  have : w.heap.size = g := by simpa [Value.ownBlock] using hg
  subst this
  exact hA.loose ((Below.refl _ _).alloc (Nat.le_refl _) _) (Nat.le_refl _) hh

end Go.Proofs.YtidpkflgibpldaaDoor
