/- The book with lists of several kinds: what turns of one kind leaves the others as they were. -/
import Derived.Test.YtcheclhiekdjmaaGreatBkBase
import Derived.Test.YtcheclhiekdjmaaGreatBookNil
namespace Go.Proofs.YtcheclhiekdjmaaGreat
open Go.RowKit Go.Sort

/-- the lists of one kind that are kept, and what they hold -/
structure Kept {α : Type} (K : Kind α) (Bk B : Nat) (fs : Array Value) (f0 f1 : Value) (vs cs : List Value) (f : Nat → List α) (w : World) : Prop where
  book : BookAt K Bk B fs f0 f1 vs cs w
  own : OwnBy K w B vs f
  len : cs.length = vs.length
  copy : ∀ (i : Nat) v, cs[i]? = some v → ∃ b, w.ownsRow b K.e K.size v (f i).length (K.cells (f i))
  apart : ApartAll vs
  few : vs.length ≤ 250
  short : ∀ i, (f i).length ≤ 900000

theorem Kept.read {α : Type} {K : Kind α} {Bk B : Nat} {fs : Array Value} {f0 f1 : Value} {vs cs : List Value} {f : Nat → List α} {w : World} (h : Kept K Bk B fs f0 f1 vs cs f w) : ∀ (i : Nat) v, cs[i]? = some v → Reads w v (f i).length (K.cells (f i)) := fun i v hi => by
  obtain ⟨b, hb⟩ := h.copy i v hi
  exact reads_of_owns hb

/-- what is owned stays where no block of its type turns -/
theorem owns_fr {S : Nat → Prop} {w w' : World} (h : Fr S w w') {base : Nat} {e : TypeId} {size : Nat} {v : Value} {n : Nat} {xs : List Value} (ho : w.ownsRow base e size v n xs) (hS : ∀ g cur, w.heap[g]? = some (.cells cur e (0, 0)) → ¬ S g) : w'.ownsRow base e size v n xs :=
  h.owns ho (fun g hg => by obtain ⟨cur, hc⟩ := owns_block ho hg; exact hS g cur hc)

theorem ownBy_fr {α : Type} {K : Kind α} {S : Nat → Prop} {w w' : World} (h : Fr S w w') {B : Nat} {vs : List Value} {f : Nat → List α} (ho : OwnBy K w B vs f) (hS : ∀ g cur, w.heap[g]? = some (.cells cur K.e (0, 0)) → ¬ S g) : OwnBy K w' B vs f :=
  fun i v hi => owns_fr h (ho i v hi) hS

/-- blocks of another type are none of these lists' -/
theorem types_apart {α : Type} {K : Kind α} {w : World} {B : Nat} {vs : List Value} {f : Nat → List α} (ho : OwnBy K w B vs f) {T : TypeId} (hne : T ≠ K.e) : ∀ g cur, w.heap[g]? = some (.cells cur T (0, 0)) → ¬ InAny vs g := by
  rintro g cur hg ⟨i, v, hi, hv⟩
  obtain ⟨c, hc⟩ := owns_block (ho i v hi) hv
  rw [hg] at hc
  simp at hc
  exact hne hc.2

theorem types_apart2 {α : Type} {K : Kind α} {w : World} {B : Nat} {vs : List Value} {f : Nat → List α} (ho : OwnBy K w B vs f) {T : TypeId} (hne : T ≠ K.e) : ∀ g cur, w.heap[g]? = some (.cells cur T (0, 0)) → ¬ (InAny vs g ∨ w.heap.size ≤ g) := by
  rintro g cur hg (h | h)
  · exact types_apart ho hne g cur hg h
  · have := (Array.getElem?_eq_some_iff.1 hg).1
    omega

theorem block_fr {S : Nat → Prop} {w w' : World} (h : Fr S w w') {g : Nat} {cur : Array Value} {T : TypeId} (hg : w.heap[g]? = some (.cells cur T (0, 0))) (hS : ¬ S g) : w'.heap[g]? = some (.cells cur T (0, 0)) := by
  rw [h.block g (Array.getElem?_eq_some_iff.1 hg).1 hS]
  exact hg

/-- lists of two kinds lie in other blocks -/
theorem any_apart {α β : Type} {K : Kind α} {L : Kind β} {w : World} {B C : Nat} {vs us : List Value} {f : Nat → List α} {h : Nat → List β} (ho : OwnBy K w B vs f) (hp : OwnBy L w C us h) (hne : K.e ≠ L.e) : ∀ g, InAny vs g → ¬ InAny us g := by
  rintro g ⟨i, v, hi, hv⟩
  obtain ⟨c, hc⟩ := owns_block (ho i v hi) hv
  exact types_apart hp hne g c hc

theorem any_lt {α : Type} {K : Kind α} {w : World} {B : Nat} {vs : List Value} {f : Nat → List α} (ho : OwnBy K w B vs f) : ∀ g, InAny vs g → g < w.heap.size := by
  rintro g ⟨i, v, hi, hv⟩
  exact ((ho i v hi).lt g hv).2

theorem reads_any {S : Nat → Prop} {w w' : World} (h : Fr S w w') {vs : List Value} {v : Value} {i n : Nat} {cs : List Value} (hi : vs[i]? = some v) (hr : Reads w v n cs) (hl : ∀ g, InAny vs g → g < w.heap.size) (hS : ∀ g, InAny vs g → ¬ S g) : Reads w' v n cs :=
  reads_kept hr (fun g hg => h.block g (hl g ⟨i, v, hi, hg⟩) (hS g ⟨i, v, hi, hg⟩))

/-! ### A book that is made, and one list more -/

theorem owns_later {w w' : World} {b n size : Nat} {e : TypeId} {v : Value} {X : List Value} (hl : w.ownsRow b e size v n X) (hb : Below w.heap.size w w') : w'.ownsRow b e size v n X :=
  owns_same hl (fun g hg => hb.block g (hl.lt g hg).2)

theorem Kept.later {α : Type} {K : Kind α} {Bk B : Nat} {fs : Array Value} {f0 f1 : Value} {vs cs : List Value} {f : Nat → List α} {w w' : World} (h : Kept K Bk B fs f0 f1 vs cs f w) (hb : Below w.heap.size w w') : Kept K Bk B fs f0 f1 vs cs f w' :=
  ⟨⟨(hb.block Bk (Array.getElem?_eq_some_iff.1 h.book.blk).1).trans h.book.blk, h.book.at0, h.book.at1, owns_later h.book.own0 hb, owns_later h.book.own1 hb, h.book.apart⟩,
    fun i v hi => owns_later (h.own i v hi) hb, h.len, fun i v hi => by obtain ⟨b, ho⟩ := h.copy i v hi; exact ⟨b, owns_later ho hb⟩, h.apart, h.few, h.short⟩

/-- the book as it is made -/
def newBook : Array Value := #[.slice none 0 0, .slice none 0 0, .slice none 0 0, .slice none 0 0, .slice none 0 0, .slice none 0 0, .slice none 0 0, .slice none 0 0, .slice none 0 0, .slice none 0 0, .slice none 0 0, .slice none 0 0, .slice none 0 0, .slice none 0 0, .slice none 0 0, .slice none 0 0]

theorem new_nil : ∀ i, i < 16 → newBook[i]? = some (.slice none 0 0) := by
  intro i h16
  have e : newBook = Array.replicate 16 (.slice none 0 0) := rfl
  rw [e]
  simp [h16]

theorem kept_new {α : Type} (K : Kind α) (w : World) (B : Nat) (ho : K.o + 1 < 16) : Kept K w.heap.size B newBook (.slice none 0 0) (.slice none 0 0) [] [] (fun _ => []) (w.alloc (.cells newBook 44)) :=
  ⟨⟨heap_alloc_new w _, new_nil _ (by omega), new_nil _ ho, World.ownsRow_nil _ _ _ _, World.ownsRow_nil _ _ _ _, fun g hg => by simp [Value.ownBlock] at hg⟩,
    fun i v hi => by simp at hi, rfl, fun i v hi => by simp at hi, fun i j vi vj g _ hi => by simp at hi, by simp, fun _ => by simp⟩

/-- what is of another type stays, where the book's rows of one kind are written -/
theorem keep_fr {α : Type} {K : Kind α} {Bk B : Nat} {fs : Array Value} {f0 f1 : Value} {vs cs : List Value} {w w' : World} (h : BookAt K Bk B fs f0 f1 vs cs w) (hfr : Fr (fun g => g = Bk ∨ f0.ownBlock = some g ∨ f1.ownBlock = some g) w w')
    {b n size : Nat} {T : TypeId} {v : Value} {X : List Value} (hl : w.ownsRow b T size v n X) (h1 : T ≠ K.te) (h2 : T ≠ 44) : w'.ownsRow b T size v n X :=
  hfr.owns hl (fun g hg e => by
    rcases e with e | e | e
    · exact cell_ne hl h.blk h2 g hg e
    · exact owns_apart h.own0 hl (fun e => h1 e.symm) g e hg
    · exact owns_apart h.own1 hl (fun e => h1 e.symm) g e hg)

/-- .. and all that lies below the call's own memory -/
theorem keep_below {α : Type} {K : Kind α} {Bk B B0 : Nat} {fs : Array Value} {f0 f1 : Value} {vs cs : List Value} {w w' : World} (h : BookAt K Bk B fs f0 f1 vs cs w) (hfr : Fr (fun g => g = Bk ∨ f0.ownBlock = some g ∨ f1.ownBlock = some g) w w') (hB0 : B0 ≤ B) (hBk : B0 ≤ Bk) (hw : B0 ≤ w.heap.size) : Below B0 w w' :=
  hfr.below hw (fun g e => by
    rcases e with e | e | e
    · omega
    · have := (h.own0.lt g e).1; omega
    · have := (h.own1.lt g e).1; omega)

theorem snoc_at {β : Type} {xs : List β} {y z : β} {i : Nat} (h : (xs ++ [y])[i]? = some z) : (i < xs.length ∧ xs[i]? = some z) ∨ (i = xs.length ∧ z = y) := by
  by_cases hi : i < xs.length
  · exact Or.inl ⟨hi, by rwa [List.getElem?_append_left hi] at h⟩
  · have hlt := (List.getElem?_eq_some_iff.1 h).1
    simp at hlt
    have e : i = xs.length := by omega
    subst e
    rw [List.getElem?_append_right (Nat.le_refl _), Nat.sub_self] at h
    simp at h
    exact Or.inr ⟨rfl, h.symm⟩

/-- one list more is kept -/
theorem Kept.add {α : Type} {K : Kind α} (G : K.Good) {Bk B : Nat} {fs fs' : Array Value} {f0 f1 f0' f1' l c : Value} {vs cs : List Value} {f : Nat → List α} {xs : List α} {w w' : World} {b : Nat} (h : Kept K Bk B fs f0 f1 vs cs f w)
    (hbk : BookAt K Bk B fs' f0' f1' (vs ++ [l]) (cs ++ [c]) w') (hl : w'.ownsRow B K.e K.size l xs.length (K.cells xs)) (hc : w'.ownsRow b K.e K.size c xs.length (K.cells xs)) (hfr : Fr (fun g => g = Bk ∨ f0.ownBlock = some g ∨ f1.ownBlock = some g) w w')
    (ha : ∀ g, l.ownBlock = some g → ¬ InAny vs g) (hn : vs.length < 250) (hx : xs.length ≤ 900000) :
    Kept K Bk B fs' f0' f1' (vs ++ [l]) (cs ++ [c]) (fun i => if i < vs.length then f i else xs) w' := by
  refine ⟨hbk, ?_, by simp [h.len], ?_, ?_, by simp; omega, ?_⟩
  · intro i v hi
    rcases snoc_at hi with ⟨hlt, hv⟩ | ⟨rfl, rfl⟩
    · simp only [hlt, if_true]
      exact keep_fr h.book hfr (h.own i v hv) G.ne G.eb
    · simp only [Nat.lt_irrefl, if_false]
      exact hl
  · intro i v hi
    rcases snoc_at hi with ⟨hlt, hv⟩ | ⟨e, rfl⟩
    · rw [h.len] at hlt
      simp only [hlt, if_true]
      obtain ⟨b', ho⟩ := h.copy i v hv
      exact ⟨b', keep_fr h.book hfr ho G.ne G.eb⟩
    · rw [h.len] at e
      subst e
      simp only [Nat.lt_irrefl, if_false]
      exact ⟨b, hc⟩
  · intro i j vi vj g hij hi hj e1 e2
    rcases snoc_at hi with ⟨hlt, hv⟩ | ⟨rfl, rfl⟩
    · rcases snoc_at hj with ⟨hlt2, hv2⟩ | ⟨rfl, rfl⟩
      · exact h.apart i j vi vj g hij hv hv2 e1 e2
      · exact ha g e2 ⟨i, vi, hv, e1⟩
    · rcases snoc_at hj with ⟨hlt2, hv2⟩ | ⟨e, rfl⟩
      · exact ha g e1 ⟨j, vj, hv2, e2⟩
      · exact hij e.symm
  · intro i
    by_cases hi : i < vs.length
    · simp only [hi, if_true]; exact h.short i
    · simp only [hi, if_false]; exact hx

/-- what is kept of another kind stays -/
theorem Kept.other {α β : Type} {K : Kind α} {L : Kind β} (GL : L.Good) {Bk B : Nat} {fs fs' : Array Value} {f0 f1 g0 g1 : Value} {vs cs us ds : List Value} {f : Nat → List β} {w w' : World} (h : Kept L Bk B fs g0 g1 us ds f w)
    (hk : BookAt K Bk B fs f0 f1 vs cs w) (hb' : w'.heap[Bk]? = some (.cells fs' 44 (0, 0))) (hfr : Fr (fun g => g = Bk ∨ f0.ownBlock = some g ∨ f1.ownBlock = some g) w w') (hfs : ∀ i, i ≠ K.o → i ≠ K.o + 1 → fs'[i]? = fs[i]?)
    (h1 : L.e ≠ K.te) (h2 : L.te ≠ K.te) (ho : L.o ≠ K.o ∧ L.o ≠ K.o + 1 ∧ L.o + 1 ≠ K.o) : Kept L Bk B fs' g0 g1 us ds f w' :=
  ⟨⟨hb', by rw [hfs _ ho.1 ho.2.1]; exact h.book.at0, by rw [hfs _ ho.2.2 (by omega)]; exact h.book.at1, keep_fr hk hfr h.book.own0 h2 GL.teb, keep_fr hk hfr h.book.own1 h2 GL.teb, h.book.apart⟩,
    fun i v hi => keep_fr hk hfr (h.own i v hi) h1 GL.eb, h.len, fun i v hi => by obtain ⟨b, hb⟩ := h.copy i v hi; exact ⟨b, keep_fr hk hfr hb h1 GL.eb⟩, h.apart, h.few, h.short⟩

end Go.Proofs.YtcheclhiekdjmaaGreat
