/- The book's keeping: Ints puts a list, and a copy of it, into the book. -/
import Derived.Test.YtfajenfdcpepjaaPtGrow
import Derived.Deep.RegionLaw
namespace Go.Proofs.Ytfajenfdcpepjaa
open Go.RowKit

theorem set_block {w : World} {g i : Nat} {cs : Array Value} {e : TypeId} {r : Nat × Nat} (h : w.heap[g]? = some (.cells cs e r)) (u : Value) : (w.setCell ⟨g, i, none⟩ u).heap[g]? = some (.cells (cs.setIfInBounds i u) e r) := by
  simp only [World.setCell, Array.getElem?_modify, h]
  simp

/-- the book's two rows of lists of places -/
structure BookAt (Bk B : Nat) (fs : Array Value) (f0 f1 : Value) (vs cs : List Value) (w : World) : Prop where
  blk : w.heap[Bk]? = some (.cells fs 35 (0, 0))
  at0 : fs[10]? = some f0
  at1 : fs[11]? = some f1
  own0 : w.ownsRow B 23 1 f0 vs.length vs
  own1 : w.ownsRow B 23 1 f1 cs.length cs
  apart : ∀ g, f0.ownBlock = some g → f1.ownBlock ≠ some g

theorem cell_ne {w : World} {base : Nat} {e : TypeId} {size n Bk : Nat} {v : Value} {xs : List Value} {fs : Array Value} {T : TypeId} (h : w.ownsRow base e size v n xs) (hb : w.heap[Bk]? = some (.cells fs T (0, 0))) (hne : e ≠ T) : ∀ g, v.ownBlock = some g → g ≠ Bk := by
  intro g hg he
  subst he
  obtain ⟨c, hc⟩ := owns_block h hg
  rw [hb] at hc
  simp at hc
  exact hne hc.2.symm

/-- behind the first append -/
theorem book_first {Bk B : Nat} {fs : Array Value} {f0 f1 f0' l : Value} {vs cs : List Value} {w w1 : World} {xs : List Pt} {A : Array Value} (h : BookAt Bk B fs f0 f1 vs cs w) (hl : w.ownsRow B 37 1 l xs.length (xs.map ptV))
    (hown : w1.ownsRow B 23 1 f0' (vs.length + 1) (vs ++ [l])) (hgrow : (w.alloc (.cells A 23)).grownBy w1 f0.ownBlock) (hat : f0'.ownBlock = f0.ownBlock ∨ f0'.ownBlock = some (w.alloc (.cells A 23)).heap.size) :
    w1.heap[Bk]? = some (.cells fs 35 (0, 0)) ∧ BookAt Bk B (fs.setIfInBounds 10 f0') f0' f1 (vs ++ [l]) cs (w1.setCell ⟨Bk, 10, none⟩ f0') ∧
      (w1.setCell ⟨Bk, 10, none⟩ f0').ownsRow B 37 1 l xs.length (xs.map ptV) ∧ Fr (fun g => g = Bk ∨ f0.ownBlock = some g) w (w1.setCell ⟨Bk, 10, none⟩ f0') := by
  have hlt : Bk < w.heap.size := (Array.getElem?_eq_some_iff.1 h.blk).1
  have ne0 := cell_ne h.own0 h.blk (by decide)
  have ne1 := cell_ne h.own1 h.blk (by decide)
  have nel := cell_ne hl h.blk (by decide)
  have old : ∀ g, g < w.heap.size → f0.ownBlock ≠ some g → w1.heap[g]? = w.heap[g]? := fun g hg hne => by
    rw [hgrow.block g (by simp; omega) (fun e => hne e.symm), Below.heap_alloc _ _ _ hg]
  have hb1 : w1.heap[Bk]? = some (.cells fs 35 (0, 0)) := by rw [old Bk hlt (fun e => ne0 Bk e rfl)]; exact h.blk
  have oth : ∀ g, g ≠ Bk → (w1.setCell ⟨Bk, 10, none⟩ f0').heap[g]? = w1.heap[g]? := fun g hg => Below.heap_setCell _ _ _ _ hg
  have n0' : ∀ g, f0'.ownBlock = some g → g ≠ Bk := cell_ne hown hb1 (by decide)
  refine ⟨hb1, ⟨set_block hb1 _, ?_, ?_, ?_, ?_, ?_⟩, ?_, ?_⟩
  · have := (Array.getElem?_eq_some_iff.1 h.at0).1
    simp [this]
  · have := h.at1
    simp [this]
  · have := owns_same hown (fun g hg => oth g (n0' g hg))
    simpa using this
  · refine owns_same h.own1 (fun g hg => ?_)
    rw [oth g (ne1 g hg), old g (h.own1.lt g hg).2 (fun e => h.apart g e hg)]
  · intro g hg hg1
    rcases hat with e | e
    · exact h.apart g (by rw [← e]; exact hg) hg1
    · rw [e] at hg
      cases hg
      have := (h.own1.lt _ hg1).2
      simp at this
      omega
  · refine owns_same hl (fun g hg => ?_)
    rw [oth g (nel g hg), old g (hl.lt g hg).2 (fun e => owns_apart h.own0 hl (by decide) g e hg)]
  · refine ⟨hgrow.os, hgrow.tape, hgrow.output, ?_, ?_⟩
    · have := hgrow.size
      simp [World.setCell] at this ⊢
      omega
    · intro g hg hs
      rw [oth g (fun e => hs (Or.inl e)), old g hg (fun e => hs (Or.inr e))]

/-- behind the second append -/
theorem book_second {Bk B m : Nat} {fs : Array Value} {f0 f1 f1' c l : Value} {vs cs : List Value} {w w2 w3 : World} {xs : List Pt} {X : List Value} {A : Array Value} (h : BookAt Bk B fs f0 f1 vs cs w) (hl : w.ownsRow B 37 1 l xs.length (xs.map ptV))
    (hc : w2.ownsRow w.heap.size 37 1 c m X) (hb : Below w.heap.size w w2)
    (hown : w3.ownsRow B 23 1 f1' (cs.length + 1) (cs ++ [c])) (hgrow : (w2.alloc (.cells A 23)).grownBy w3 f1.ownBlock) (hat : f1'.ownBlock = f1.ownBlock ∨ f1'.ownBlock = some (w2.alloc (.cells A 23)).heap.size) :
    w3.heap[Bk]? = some (.cells fs 35 (0, 0)) ∧ BookAt Bk B (fs.setIfInBounds 11 f1') f0 f1' vs (cs ++ [c]) (w3.setCell ⟨Bk, 11, none⟩ f1') ∧
      (w3.setCell ⟨Bk, 11, none⟩ f1').ownsRow B 37 1 l xs.length (xs.map ptV) ∧ (w3.setCell ⟨Bk, 11, none⟩ f1').ownsRow w.heap.size 37 1 c m X ∧ Fr (fun g => g = Bk ∨ f1.ownBlock = some g) w (w3.setCell ⟨Bk, 11, none⟩ f1') := by
  have hlt : Bk < w.heap.size := (Array.getElem?_eq_some_iff.1 h.blk).1
  have hsz := hb.size
  have ne0 := cell_ne h.own0 h.blk (by decide)
  have ne1 := cell_ne h.own1 h.blk (by decide)
  have nel := cell_ne hl h.blk (by decide)
  have own2 : w2.ownsRow B 23 1 f1 cs.length cs := owns_same h.own1 (fun g hg => hb.block g (h.own1.lt g hg).2)
  have old2 : ∀ g, g < w2.heap.size → f1.ownBlock ≠ some g → w3.heap[g]? = w2.heap[g]? := fun g hg hne => by
    rw [hgrow.block g (by simp; omega) (fun e => hne e.symm), Below.heap_alloc _ _ _ hg]
  have old : ∀ g, g < w.heap.size → f1.ownBlock ≠ some g → w3.heap[g]? = w.heap[g]? := fun g hg hne => by
    rw [old2 g (by omega) hne, hb.block g hg]
  have hb1 : w3.heap[Bk]? = some (.cells fs 35 (0, 0)) := by rw [old Bk hlt (fun e => ne1 Bk e rfl)]; exact h.blk
  have oth : ∀ g, g ≠ Bk → (w3.setCell ⟨Bk, 11, none⟩ f1').heap[g]? = w3.heap[g]? := fun g hg => Below.heap_setCell _ _ _ _ hg
  have n1' : ∀ g, f1'.ownBlock = some g → g ≠ Bk := cell_ne hown hb1 (by decide)
  refine ⟨hb1, ⟨set_block hb1 _, ?_, ?_, ?_, ?_, ?_⟩, ?_, ?_, ?_⟩
  · have := h.at0
    simp [this]
  · have := (Array.getElem?_eq_some_iff.1 h.at1).1
    simp [this]
  · refine owns_same h.own0 (fun g hg => ?_)
    rw [oth g (ne0 g hg), old g (h.own0.lt g hg).2 (fun e => h.apart g hg e)]
  · have := owns_same hown (fun g hg => oth g (n1' g hg))
    simpa using this
  · intro g hg hg1
    rcases hat with e | e
    · exact h.apart g hg (by rw [← e]; exact hg1)
    · rw [e] at hg1
      cases hg1
      have := (h.own0.lt _ hg).2
      simp at this
      omega
  · refine owns_same hl (fun g hg => ?_)
    rw [oth g (nel g hg), old g (hl.lt g hg).2 (fun e => owns_apart h.own1 hl (by decide) g e hg)]
  · refine owns_same hc (fun g hg => ?_)
    have h1 := hc.lt g hg
    rw [oth g (by omega), old2 g h1.2 (fun e => owns_apart own2 hc (by decide) g e hg)]
  · refine ⟨hgrow.os.trans hb.os, hgrow.tape.trans hb.tape, hgrow.output.trans hb.output, ?_, ?_⟩
    · have := hgrow.size
      simp [World.setCell] at this ⊢
      omega
    · intro g hg hs
      rw [oth g (fun e => hs (Or.inl e)), old g hg (fun e => hs (Or.inr e))]

theorem reads_drew {w : World} {v : Value} {cs : List Value} (h : Reads w v cs) : Reads w.drew v cs := h

theorem cell_alloc_of {w : World} {a : Addr} {v : Value} (o : Obj) (h : w.cell? a = some v) : (w.alloc o).cell? a = some v := by rw [World.cell?_alloc_lt (h := block_lt_of_cell h)]; exact h

theorem set_two (fs : Array Value) (a b : Value) : ∀ i, i ≠ 10 → i ≠ 11 → ((fs.setIfInBounds 10 a).setIfInBounds 11 b)[i]? = fs[i]? := by
  intro i h0 h1
  rw [Array.getElem?_setIfInBounds_ne (by omega), Array.getElem?_setIfInBounds_ne (by omega)]

theorem hid {p : Prop} (h : p) : Hid p := h

theorem frozen_of_block {w : World} {g i : Nat} {cs : Array Value} {e : TypeId} (h : w.heap[g]? = some (.cells cs e (0, 0))) : w.frozen? ⟨g, i, none⟩ = false := by
  simp [World.frozen?, h]

set_option maxRecDepth 100000 in
set_option maxHeartbeats 2000000 in
theorem ints_any (Bk B : Nat) (fs : Array Value) (f0 f1 l : Value) (vs cs : List Value) (xs : List Pt) (w : World) (h : BookAt Bk B fs f0 f1 vs cs w) (hl : w.ownsRow B 37 1 l xs.length (xs.map ptV))
    (hB : B ≤ w.heap.size) (hn : vs.length < 250) (hcs : cs.length < 250) (hx : xs.length ≤ 900000) :
    Calls Try.prog 12 #[.pointer (some ⟨Bk, 0, none⟩), l] w fun e w' => ∃ fs' f0' f1' c, e = .returned (.tuple #[]) ∧ BookAt Bk B fs' f0' f1' (vs ++ [l]) (cs ++ [c]) w' ∧
      w'.ownsRow B 37 1 l xs.length (xs.map ptV) ∧ w'.ownsRow w.heap.size 37 1 c xs.length (xs.map ptV) ∧ (∀ i, i ≠ 10 → i ≠ 11 → fs'[i]? = fs[i]?) ∧ Fr (fun g => g = Bk ∨ f0.ownBlock = some g ∨ f1.ownBlock = some g) w w' := by
  obtain ⟨a0, cap0, rfl, -, -, -, -⟩ := owns_cells h.own0
  obtain ⟨a1, cap1, rfl, -, -, -, -⟩ := owns_cells h.own1
  obtain ⟨al, capl, rfl, -, -, -, -⟩ := owns_cells hl
  have hcb : w.cell? ⟨Bk, 10, none⟩ = some (.slice a0 vs.length cap0) := by rw [cell_of_row w Bk 10 fs _ _ h.blk]; exact h.at0
  have H : Hid (BookAt Bk B fs (.slice a0 vs.length cap0) (.slice a1 cs.length cap1) vs cs w) := h
  have HL : Hid (w.ownsRow B 37 1 (.slice al xs.length capl) xs.length (xs.map ptV)) := hl
  clear h hl
  go_enter Try.func12, Try.ntmps12
  go_wp2_with (at_builtin; refine wpList_append_src _ rfl (.tmp 14) (.tmp 16) 31 rfl Try.elemInts B _ _ _ (by rfl) (H.out.own0.alloc _) (some ⟨w.heap.size, 0, none⟩) 1 1 [.slice al xs.length capl] rfl (fun h => nomatch h) rfl (cells_new _ _ _ _ rfl) (fun u hu => by simp at hu; subst hu; rfl) (by unfold maxLen; omega) (by omega) (by simp; omega) ?_; intro f0' w1 hown1 hgrow1 hat1 _; obtain ⟨a0', cap0', rfl, -, -, -, -⟩ := owns_cells hown1; have FIRST := book_first H.out HL.out hown1 hgrow1 hat1; have cb1 := cell_of_row w1 Bk 10 fs _ _ FIRST.1; rw [H.out.at0] at cb1; have fz1 := frozen_of_block (i := 10) FIRST.1; have F1 := hid FIRST; clear hown1 hgrow1 hat1 FIRST)
  obtain ⟨-, hbk2, hl2, hfr2⟩ := F1.out
  clear F1 cb1 fz1
  generalize w1.setCell ⟨Bk, 10, none⟩ (.slice a0' (vs.length + 1) cap0') = W at *
  have cb : W.cell? ⟨Bk, 11, none⟩ = some (.slice a1 cs.length cap1) := by rw [cell_of_row W Bk 11 _ _ _ hbk2.blk]; exact hbk2.at1
  have B2 := hid hbk2
  have L2 := hid hl2
  have R2 := hid hfr2
  have hW : w.heap.size ≤ W.heap.size := hfr2.size
  clear hbk2 hl2 hfr2
  go_region_law (first
    | (refine step_append_src _ (by rfl) (.tmp 24) (.tmp 27) 31 (by rfl) Try.elemInts B (.slice a1 cs.length cap1) cs.length cs (by rfl) (O2.out.alloc _) (some ⟨w2.heap.size, 0, none⟩) 1 1 [.slice ac xs.length capc] (by rfl) (fun h => nomatch h) rfl (cells_new _ _ _ _ rfl) (fun u hu => by simp at hu; subst hu; rfl) (by unfold maxLen; omega) (by omega) (by simp; omega) ?_; intro f1' w3 hown3 hgrow3 hat3 _; obtain ⟨a1', cap1', rfl, -, -, -, -⟩ := owns_cells hown3; have SECOND := book_second B2.out L2.out HC.out HB.out hown3 hgrow3 hat3; have cb3 := cell_of_row w3 Bk 11 _ _ _ SECOND.1; rw [B2.out.at1] at cb3; have fz3 := frozen_of_block (i := 11) SECOND.1; have S2 := hid SECOND; clear hown3 hgrow3 hat3 SECOND)
    | (go_simp; refine (copy_any _ xs _ (by omega) (reads_drew (reads_of_owns L2.out))).mono ?_; rintro e w2 ⟨c, rfl, hc, hb0⟩; have hb := below_undrew hb0; obtain ⟨ac, capc, rfl, -, -, -, -⟩ := owns_cells hc; have cb2 : w2.cell? ⟨Bk, 11, none⟩ = some (.slice a1 cs.length cap1) := (hb.cell (block_lt_of_cell cb)).trans cb; have cb2' := fun o => cell_alloc_of o cb2; have O2 := hid (owns_same B2.out.own1 (fun g hg => hb.block g (B2.out.own1.lt g hg).2)); have HC := hid hc; have HB := hid hb; have hs2 := hb.size; clear hc hb hb0))
  all_goals
    go_wp2
    go_end0
    obtain ⟨-, k1, k2, k3, k4⟩ := S2.out
    exact ⟨_, _, _, _, rfl, k1, k2, owns_mono k3 hW, set_two _ _ _, (R2.out.mono (fun k _ h => h.elim Or.inl (fun h => Or.inr (Or.inl h)))).trans (k4.mono (fun k _ h => h.elim Or.inl (fun h => Or.inr (Or.inr h))))⟩

end Go.Proofs.Ytfajenfdcpepjaa
