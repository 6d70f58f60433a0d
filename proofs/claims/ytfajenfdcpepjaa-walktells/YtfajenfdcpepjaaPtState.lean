/- The book as it is made, and as it stands behind two kept paths: what is kept beside it, and that its last question is told true. -/
import Derived.Test.YtfajenfdcpepjaaPtTold
namespace Go.Proofs.Ytfajenfdcpepjaa
open Go.RowKit

/-- the book as it is made -/
def newBook : Array Value := #[.slice none 0 0, .slice none 0 0, .slice none 0 0, .slice none 0 0, .slice none 0 0, .slice none 0 0, .slice none 0 0, .slice none 0 0, .slice none 0 0, .slice none 0 0, .slice none 0 0, .slice none 0 0, .slice none 0 0, .slice none 0 0, .slice none 0 0, .slice none 0 0]

theorem new_nil : ∀ i, i < 16 → newBook[i]? = some (.slice none 0 0) := by
  intro i h16
  have e : newBook = Array.replicate 16 (.slice none 0 0) := rfl
  rw [e]
  simp [h16]

theorem book_new (w : World) (B : Nat) : BookAt w.heap.size B newBook (.slice none 0 0) (.slice none 0 0) [] [] (w.alloc (.cells newBook 35)) :=
  ⟨heap_alloc_new w _, rfl, rfl, World.ownsRow_nil _ _ _ _, World.ownsRow_nil _ _ _ _, fun g hg => by simp [Value.ownBlock] at hg⟩

/-- a list of places stays, where the book alone is written -/
theorem kept_pts {Bk B b n : Nat} {fs : Array Value} {f0 f1 v : Value} {vs cs X : List Value} {w w' : World} (h : BookAt Bk B fs f0 f1 vs cs w) (hfr : Fr (fun g => g = Bk ∨ f0.ownBlock = some g ∨ f1.ownBlock = some g) w w') (hl : w.ownsRow b 37 1 v n X) : w'.ownsRow b 37 1 v n X :=
  hfr.owns hl (fun g hg e => by
    rcases e with e | e | e
    · exact cell_ne hl h.blk (by decide) g hg e
    · exact owns_apart h.own0 hl (by decide) g e hg
    · exact owns_apart h.own1 hl (by decide) g e hg)

/-- .. and all that lies below the call's own memory -/
theorem below_book {Bk B B0 : Nat} {fs : Array Value} {f0 f1 : Value} {vs cs : List Value} {w w' : World} (h : BookAt Bk B fs f0 f1 vs cs w) (hfr : Fr (fun g => g = Bk ∨ f0.ownBlock = some g ∨ f1.ownBlock = some g) w w') (hB0 : B0 ≤ B) (hBk : B0 ≤ Bk) (hw : B0 ≤ w.heap.size) : Below B0 w w' :=
  hfr.below hw (fun g e => by
    rcases e with e | e | e
    · omega
    · have := (h.own0.lt g e).1; omega
    · have := (h.own1.lt g e).1; omega)

theorem owns_below {w w' : World} {b n : Nat} {e : TypeId} {v : Value} {X : List Value} (hl : w.ownsRow b e 1 v n X) (hb : Below w.heap.size w w') : w'.ownsRow b e 1 v n X :=
  owns_same hl (fun g hg => hb.block g (hl.lt g hg).2)

theorem BookAt.below {Bk B : Nat} {fs : Array Value} {f0 f1 : Value} {vs cs : List Value} {w w' : World} (h : BookAt Bk B fs f0 f1 vs cs w) (hb : Below w.heap.size w w') : BookAt Bk B fs f0 f1 vs cs w' :=
  ⟨(hb.block Bk (Array.getElem?_eq_some_iff.1 h.blk).1).trans h.blk, h.at0, h.at1, owns_below h.own0 hb, owns_below h.own1 hb, h.apart⟩

theorem at_world {P : Program} {f : FuncId} {args : Array Value} {w W : World} {Q : Ending → World → Prop} (h : W = w) (k : Calls P f args W Q) : Calls P f args w Q := by
  subst h; exact k

/-- the state behind both lists: the book keeps them, and Apart tells true -/
theorem tells_apart {Bk B g1 g2 : Nat} {fs : Array Value} {f0 f1 c1 c2 : Value} {w5 w9 : World} {X : List Pt} {k b1 b2 : Nat} (hX : X.length = k) (hk : k ≤ 400) (hg : g1 ≠ g2) (hB : B ≤ w5.heap.size)
    (bk : BookAt Bk B fs f0 f1 [.slice (some ⟨g1, 0, none⟩) k k, .slice (some ⟨g2, 0, none⟩) k k] [c1, c2] w5) (hnil : ∀ i, i ≠ 10 → i ≠ 11 → i < 16 → fs[i]? = some (.slice none 0 0))
    (l1 : w5.ownsRow B 37 1 (.slice (some ⟨g1, 0, none⟩) k k) X.length (X.map ptV)) (l2 : w5.ownsRow B 37 1 (.slice (some ⟨g2, 0, none⟩) k k) X.length (X.map ptV))
    (r1 : w5.ownsRow b1 37 1 c1 X.length (X.map ptV)) (r2 : w5.ownsRow b2 37 1 c2 X.length (X.map ptV)) (bl : Below w5.heap.size w5 w9) :
    Calls Try.prog 21 #[.pointer (some ⟨Bk, 0, none⟩)] w9 fun e w' => e = .returned (.bool true) ∧ Below B w9 w' := by
  have two : ∀ {α : Type} (a b : α) (i : Nat) (v : α), [a, b][i]? = some v → (i = 0 ∧ v = a) ∨ (i = 1 ∧ v = b) := by
    intro α a b i v h
    match i, h with
    | 0, h => simp at h; exact Or.inl ⟨rfl, h.symm⟩
    | 1, h => simp at h; exact Or.inr ⟨rfl, h.symm⟩
    | j + 2, h => simp at h
  have own : OwnBy w9 B [.slice (some ⟨g1, 0, none⟩) k k, .slice (some ⟨g2, 0, none⟩) k k] (fun _ => X) := by
    intro i v h
    rcases two _ _ i v h with ⟨_, rfl⟩ | ⟨_, rfl⟩
    · exact owns_below l1 bl
    · exact owns_below l2 bl
  have hs := bl.size
  refine (apart_ints Bk B fs f0 f1 _ [c1, c2] (fun _ => X) w9 (bk.below bl) hnil own rfl ?_ ?_ (by omega) (by simp) (fun _ => by omega)).mono ?_
  · intro i v h
    rcases two _ _ i v h with ⟨_, rfl⟩ | ⟨_, rfl⟩
    · exact reads_of_owns (owns_below r1 bl)
    · exact reads_of_owns (owns_below r2 bl)
  · intro i j vi vj g hij hi hj e1 e2
    rcases two _ _ i vi hi with ⟨a, rfl⟩ | ⟨a, rfl⟩ <;> rcases two _ _ j vj hj with ⟨b, rfl⟩ | ⟨b, rfl⟩
    · omega
    · simp [Value.ownBlock] at e1 e2; omega
    · simp [Value.ownBlock] at e1 e2; omega
    · omega
  · rintro e w' ⟨rfl, fr⟩
    refine ⟨rfl, fr.below (by omega) ?_⟩
    rintro g ⟨i, v, hi, hgv⟩
    exact ((own i v hi).lt g hgv).1

/-- the world behind the new book: both paths and the document's lie as they lay -/
theorem told_start {w w1 w2 w3 w4 : World} {s : ByteArray} {v : Value} {n : Nat} {X : List Value} (h01 : Below w.heap.size w w1) (h12 : Below w1.heap.size w1 w2) (h23 : Below w2.heap.size w2 w3) (h34 : Below w3.heap.size w3 w4)
    (o1 : w2.ownsRow w1.heap.size 37 1 (.slice (some ⟨w1.heap.size, 0, none⟩) (s.size + 1) (s.size + 1)) n X) (o2 : w3.ownsRow w2.heap.size 37 1 (.slice (some ⟨w2.heap.size, 0, none⟩) (s.size + 1) (s.size + 1)) n X) (o3 : w4.ownsRow w3.heap.size 37 1 v n X) :
    ∃ W : World, W = w4.alloc (.cells newBook 35) ∧ BookAt w4.heap.size w.heap.size newBook (.slice none 0 0) (.slice none 0 0) [] [] W ∧
      W.ownsRow w.heap.size 37 1 (.slice (some ⟨w1.heap.size, 0, none⟩) (s.size + 1) (s.size + 1)) n X ∧ W.ownsRow w.heap.size 37 1 (.slice (some ⟨w2.heap.size, 0, none⟩) (s.size + 1) (s.size + 1)) n X ∧ W.ownsRow w.heap.size 37 1 v n X ∧
      Below w.heap.size w W ∧ w.heap.size ≤ W.heap.size ∧ w.heap.size ≤ w4.heap.size := by
  have s1 := h01.size
  have s2 := h12.size
  have s3 := h23.size
  have s4 := h34.size
  refine ⟨_, rfl, book_new w4 _, ?_, ?_, ?_, ?_, ?_, by omega⟩
  · exact (owns_mono (owns_below (owns_below o1 h23) h34) (by omega)).alloc _
  · exact (owns_mono (owns_below o2 h34) (by omega)).alloc _
  · exact (owns_mono o3 (by omega)).alloc _
  · exact ((h01.trans ((h12.mono (by omega)).trans ((h23.mono (by omega)).trans (h34.mono (by omega))))).alloc (by omega) _)
  · simp; omega

end Go.Proofs.Ytfajenfdcpepjaa
