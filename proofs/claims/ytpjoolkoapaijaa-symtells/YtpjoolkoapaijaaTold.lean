/- What SymTells stands on: the document's own bit; the state behind its two lists. -/
import Derived.Test.YtpjoolkoapaijaaBookApart
import Derived.Test.YtpjoolkoapaijaaAlive
namespace Go.Proofs.Ytpjoolkoapaijaa
open Go.RowKit

theorem refbit_any (s l : Int) (w : World) :
    Calls Try.prog 15 #[.int .i64 s, .int .i64 l] w fun e w' => e = .returned (.bool (bitB s l)) ∧ w' = w := by
  by_cases h0 : 0 ≤ s
  · by_cases h1 : s < 257
    · by_cases h2 : 0 ≤ l
      · by_cases h3 : l < 9
        · have hb : bitB s l = (bits BinOp.and IntKind.i64 (s / 2 ^ (8 - l).toNat) 1 == 1) := by
            rw [and_one]; simp only [bitB, h0, h1, h2, h3, and_self, decide_true, Bool.true_and]
          rw [hb]; clear hb
          go_enter Try.func15, Try.ntmps15
          go_wp2
          go_ret
          exact ⟨rfl, rfl⟩
        · have hb : bitB s l = false := by simp [bitB]; omega
          rw [hb]; clear hb
          go_enter Try.func15, Try.ntmps15
          go_wp2
          go_ret
          exact ⟨rfl, rfl⟩
      · have hb : bitB s l = false := by simp [bitB]; omega
        rw [hb]; clear hb
        go_enter Try.func15, Try.ntmps15
        go_wp2
        go_ret
        exact ⟨rfl, rfl⟩
    · have hb : bitB s l = false := by simp [bitB]; omega
      rw [hb]; clear hb
      go_enter Try.func15, Try.ntmps15
      go_wp2
      go_ret
      exact ⟨rfl, rfl⟩
  · have hb : bitB s l = false := by simp [bitB]; omega
    rw [hb]; clear hb
    go_enter Try.func15, Try.ntmps15
    go_wp2
    go_ret
    exact ⟨rfl, rfl⟩

/-- the book as it is made -/
def newBook : Array Value := #[.slice none 0 0, .slice none 0 0, .slice none 0 0, .slice none 0 0, .slice none 0 0, .slice none 0 0, .slice none 0 0, .slice none 0 0, .slice none 0 0, .slice none 0 0, .slice none 0 0, .slice none 0 0, .slice none 0 0, .slice none 0 0, .slice none 0 0, .slice none 0 0]

theorem new_nil : ∀ i, 2 ≤ i → i < 16 → newBook[i]? = some (.slice none 0 0) := by
  intro i _ h16
  have e : newBook = Array.replicate 16 (.slice none 0 0) := rfl
  rw [e]
  simp [h16]

theorem book_new (w : World) (B : Nat) : BookAt w.heap.size B newBook (.slice none 0 0) (.slice none 0 0) [] [] (w.alloc (.cells newBook 37)) :=
  ⟨heap_alloc_new w _, rfl, rfl, World.ownsRow_nil _ _ _ _, World.ownsRow_nil _ _ _ _, fun g hg => by simp [Value.ownBlock] at hg⟩

/-- a list of numbers stays, where the book alone is written -/
theorem kept_int {Bk B b n : Nat} {fs : Array Value} {f0 f1 v : Value} {vs cs X : List Value} {w w' : World} (h : BookAt Bk B fs f0 f1 vs cs w) (hfr : Fr (fun g => g = Bk ∨ f0.ownBlock = some g ∨ f1.ownBlock = some g) w w') (hl : w.ownsRow b 3 1 v n X) : w'.ownsRow b 3 1 v n X :=
  hfr.owns hl (fun g hg e => by
    rcases e with e | e | e
    · exact cell_ne hl h.blk (by decide) g hg e
    · exact owns_apart h.own0 hl (by decide) g e hg
    · exact owns_apart h.own1 hl (by decide) g e hg)

/-- .. and all that lies below the call's own memory -/
theorem below_book {Bk B B0 : Nat} {fs : Array Value} {f0 f1 : Value} {vs cs : List Value} {w w' : World} (h : BookAt Bk B fs f0 f1 vs cs w) (hfr : Fr (fun g => g = Bk ∨ f0.ownBlock = some g ∨ f1.ownBlock = some g) w w') (hB0 : B0 ≤ B) (hBk : B0 ≤ Bk) (hw : B0 ≤ w.heap.size) : Below B0 w w' :=
  hfr.below hw (fun g e => by
    rcases e with e | e | e
    · omega
    · have := (h.own0.lt g e).1; omega
    · have := (h.own1.lt g e).1; omega)

/-- the world behind the two lists and the new book -/
theorem two_lists {w wr : World} {T : ByteArray} {v : Value} (hs : T.size ≤ 300) (hv : wr.ownsRow w.heap.size 3 1 v T.size ((symI T.data.toList).map (Value.int .i64))) (hb : Below w.heap.size w wr) :
    ∃ W : World, W = ((wr.alloc (.cells (symsOf T.data.toList).toArray 3)).alloc (.cells (symsOf T.data.toList).toArray 3)).alloc (.cells newBook 37) ∧ BookAt (wr.heap.size + 1 + 1) w.heap.size newBook (.slice none 0 0) (.slice none 0 0) [] [] W ∧
      W.ownsRow w.heap.size 3 1 (.slice (some ⟨wr.heap.size, 0, none⟩) T.size T.size) (symI T.data.toList).length ((symI T.data.toList).map (Value.int .i64)) ∧
      W.ownsRow w.heap.size 3 1 (.slice (some ⟨wr.heap.size + 1, 0, none⟩) T.size T.size) (symI T.data.toList).length ((symI T.data.toList).map (Value.int .i64)) ∧
      W.ownsRow w.heap.size 3 1 v T.size ((symI T.data.toList).map (Value.int .i64)) ∧ Below w.heap.size w W ∧ w.heap.size ≤ W.heap.size ∧ w.heap.size ≤ wr.heap.size := by
  have hsz := hb.size
  have hn : (symI T.data.toList).length = T.size := by rw [len_symI]; simp
  have hc : (symsOf T.data.toList).toArray.size = T.size * 1 := by simp [len_syms]
  have hm : T.size ≤ maxLen := by unfold maxLen; omega
  have l1 := World.ownsRow_lit (base := w.heap.size) (e := 3) (size := 1) wr (symsOf T.data.toList).toArray T.size hsz hm hc
  have l2 := World.ownsRow_lit (base := w.heap.size) (e := 3) (size := 1) (wr.alloc (.cells (symsOf T.data.toList).toArray 3)) (symsOf T.data.toList).toArray T.size (by simp; omega) hm hc
  refine ⟨_, rfl, ?_, ?_, ?_, ?_, ?_, ?_, hsz⟩
  · have := book_new ((wr.alloc (.cells (symsOf T.data.toList).toArray 3)).alloc (.cells (symsOf T.data.toList).toArray 3)) w.heap.size
    simpa using this
  · rw [hn, ← syms_int]; exact (l1.alloc _).alloc _
  · rw [hn, ← syms_int]
    have := l2.alloc (.cells newBook 37)
    simpa using this
  · exact ((hv.alloc _).alloc _).alloc _
  · exact ((hb.alloc hsz _).alloc (by simp; omega) _).alloc (by simp; omega) _
  · simp; omega

theorem cells_of_owns {w : World} {b n k c : Nat} {ao : Option Addr} {X : List Value} (h : w.ownsRow b 3 1 (.slice ao k c) n X) : HasCells w ao X := by
  obtain ⟨ao', cap, e, h1, -, -, -⟩ := owns_cells h
  cases e
  exact h1

theorem at_world {P : Program} {f : FuncId} {args : Array Value} {w W : World} {Q : Ending → World → Prop} (h : W = w) (k : Calls P f args W Q) : Calls P f args w Q := by
  subst h; exact k

theorem text_int (s : ByteArray) (w : World) (hs : s.size ≤ 1000000) :
    Calls Try.prog 16 #[.string s] w fun e w' => e = .returned (.bool (decide ((s.size : Int) ≤ 40))) ∧ w' = w := by
  refine (text_any s w hs).mono ?_
  rintro e w' ⟨rfl, h⟩
  refine ⟨?_, h⟩
  congr 2
  rw [Bool.eq_iff_iff]
  simp
  omega

/-- the state behind both lists: the book keeps them, and Apart tells true -/
theorem tells_apart {Bk g1 g2 : Nat} {fs : Array Value} {f0 f1 c1 c2 : Value} {w w5 : World} {X : List Int} {n k b1 b2 : Nat} (hX : X.length = k) (hk : k ≤ 300) (hg : g1 ≠ g2)
    (bk : BookAt Bk w.heap.size fs f0 f1 [.slice (some ⟨g1, 0, none⟩) k k, .slice (some ⟨g2, 0, none⟩) k k] [c1, c2] w5) (hnil : ∀ i, 2 ≤ i → i < 16 → fs[i]? = some (.slice none 0 0))
    (l1 : w5.ownsRow w.heap.size 3 1 (.slice (some ⟨g1, 0, none⟩) k k) X.length (X.map (Value.int .i64))) (l2 : w5.ownsRow w.heap.size 3 1 (.slice (some ⟨g2, 0, none⟩) k k) X.length (X.map (Value.int .i64)))
    (r1 : w5.ownsRow b1 3 1 c1 X.length (X.map (Value.int .i64))) (r2 : w5.ownsRow b2 3 1 c2 X.length (X.map (Value.int .i64))) (bl : Below w.heap.size w w5) :
    Calls Try.prog 18 #[.pointer (some ⟨Bk, 0, none⟩)] (w5.drewN n) fun e w' => e = .returned (.bool true) ∧ Below w.heap.size w w' := by
  have two : ∀ {α : Type} (a b : α) (i : Nat) (v : α), [a, b][i]? = some v → (i = 0 ∧ v = a) ∨ (i = 1 ∧ v = b) := by
    intro α a b i v h
    match i, h with
    | 0, h => simp at h; exact Or.inl ⟨rfl, h.symm⟩
    | 1, h => simp at h; exact Or.inr ⟨rfl, h.symm⟩
    | j + 2, h => simp at h
  have own : OwnBy w5 w.heap.size [.slice (some ⟨g1, 0, none⟩) k k, .slice (some ⟨g2, 0, none⟩) k k] (fun _ => X) := by
    intro i v h
    rcases two _ _ i v h with ⟨_, rfl⟩ | ⟨_, rfl⟩
    · exact l1
    · exact l2
  refine (apart_ints Bk w.heap.size fs f0 f1 _ [c1, c2] (fun _ => X) (w5.drewN n) ⟨bk.blk, bk.at0, bk.at1, bk.own0, bk.own1, bk.apart⟩ hnil own rfl ?_ ?_ bl.size (by simp) (fun _ => by omega)).mono ?_
  · intro i v h
    rcases two _ _ i v h with ⟨_, rfl⟩ | ⟨_, rfl⟩
    · exact reads_of_owns r1
    · exact reads_of_owns r2
  · intro i j vi vj g hij hi hj e1 e2
    rcases two _ _ i vi hi with ⟨a, rfl⟩ | ⟨a, rfl⟩ <;> rcases two _ _ j vj hj with ⟨b, rfl⟩ | ⟨b, rfl⟩
    · omega
    · simp [Value.ownBlock] at e1 e2; omega
    · simp [Value.ownBlock] at e1 e2; omega
    · omega
  · rintro e w' ⟨rfl, fr⟩
    refine ⟨rfl, (below_drewN bl n).trans (fr.below bl.size ?_)⟩
    rintro g ⟨i, v, hi, hgv⟩
    exact ((own i v hi).lt g hgv).1

end Go.Proofs.Ytpjoolkoapaijaa
