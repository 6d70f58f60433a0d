/- An arena in memory: its slots, the words of its free handles, those that wait. -/
import Derived.Test.YtgimehldhibmjaaDoorProg
import Derived.WalkLawsBesides
import Derived.Test.YtgimehldhibmjaaDoorFrame
import Derived.Test.YtgimehldhibmjaaDoorAr
import Derived.Test.YtgimehldhibmjaaDoorArBits
import Derived.Deep.AppendSrc
namespace Go.Proofs.YtgimehldhibmjaaDoor
open Go.RowKit

/-- a block holds just these cells -/
def BlkAt (w : World) (g : Nat) (e : TypeId) (cs : List Value) : Prop := w.heap[g]? = some (.cells cs.toArray e (0, 0))

theorem BlkAt.lt {w : World} {g : Nat} {e : TypeId} {cs : List Value} (h : BlkAt w g e cs) : g < w.heap.size := (Array.getElem?_eq_some_iff.1 h).1

theorem BlkAt.cell {w : World} {g : Nat} {e : TypeId} {cs : List Value} (h : BlkAt w g e cs) {j : Nat} {u : Value} (hj : cs[j]? = some u) : w.cell? ⟨g, j, none⟩ = some u := by
  rw [cell_of_row w g j _ e (0, 0) h]
  simpa using hj

theorem BlkAt.frozen {w : World} {g : Nat} {e : TypeId} {cs : List Value} (h : BlkAt w g e cs) (j : Nat) : w.frozen? ⟨g, j, none⟩ = false := by
  unfold BlkAt at h
  simp [World.frozen?, h]

theorem BlkAt.set {w : World} {g : Nat} {e : TypeId} {cs : List Value} (h : BlkAt w g e cs) (k : Nat) (u : Value) : BlkAt (w.setCell ⟨g, k, none⟩ u) g e (cs.set k u) := by
  have := heap_setCell_same w g k cs.toArray e u h
  unfold BlkAt
  rw [this]
  simp

theorem fr_set (w : World) (g k : Nat) (u : Value) : Fr (fun b => b = g) w (w.setCell ⟨g, k, none⟩ u) :=
  ⟨rfl, rfl, rfl, by simp, fun b _ hb => heap_setCell_other w ⟨g, k, none⟩ b u hb⟩

theorem fr_alloc (w : World) (o : Obj) (S : Nat → Prop) : Fr S w (w.alloc o) := ⟨rfl, rfl, rfl, by simp, fun b hb _ => Below.heap_alloc w o b hb⟩

theorem BlkAt.fr {w w' : World} {g : Nat} {e : TypeId} {cs : List Value} (h : BlkAt w g e cs) {S : Nat → Prop} (hf : Fr S w w') (hS : ¬ S g) : BlkAt w' g e cs := (hf.block g h.lt hS).trans h

theorem BlkAt.new (w : World) (e : TypeId) (cs : List Value) : BlkAt (w.alloc (.cells cs.toArray e)) w.heap.size e cs := heap_alloc_new w _

/-- blocks of other types are other blocks -/
theorem blk_ne {w : World} {g g' : Nat} {e e' : TypeId} {cs : List Value} {cur : Array Value} (h : BlkAt w g e cs) (h' : w.heap[g']? = some (.cells cur e' (0, 0))) (he : e ≠ e') : g ≠ g' := by
  rintro rfl
  unfold BlkAt at h
  rw [h] at h'
  simp at h'
  exact he h'.2

/-- a list of numbers of which the first may have gone -/
def QAt (w : World) (q : Nat) (v : Value) (xs : List Int) : Prop :=
  ∃ ao cap, v = .slice ao xs.length cap ∧ xs.length ≤ cap ∧ cap ≤ maxLen ∧
    (cap = 0 ∨ ∃ o cur, ao = some ⟨q, o, none⟩ ∧ w.heap[q]? = some (.cells cur 3 (0, 0)) ∧ o + cap ≤ cur.size ∧ ∀ j (hj : j < xs.length), cur[o + j]? = some (.int .i64 xs[j]))

/-- the block of such a list -/
def QB (w : World) (q g : Nat) : Prop := g = q ∧ ∃ cur, w.heap[q]? = some (.cells cur 3 (0, 0))

theorem qb_ne {w : World} {q g : Nat} {e : TypeId} {cs : List Value} (h : BlkAt w g e cs) (he : e ≠ 3) : ¬ QB w q g := by
  rintro ⟨rfl, cur, hc⟩
  exact blk_ne h hc he rfl

theorem QAt.fr {w w' : World} {q : Nat} {v : Value} {xs : List Int} (h : QAt w q v xs) {S : Nat → Prop} (hf : Fr S w w') (hS : ∀ cur, w.heap[q]? = some (.cells cur 3 (0, 0)) → ¬ S q) : QAt w' q v xs := by
  obtain ⟨ao, cap, h1, h2, h3, h4⟩ := h
  refine ⟨ao, cap, h1, h2, h3, ?_⟩
  rcases h4 with h4 | ⟨o, cur, h5, h6, h7⟩
  · exact Or.inl h4
  · exact Or.inr ⟨o, cur, h5, (hf.block q (Array.getElem?_eq_some_iff.1 h6).1 (hS cur h6)).trans h6, h7⟩

theorem QAt.lt {w : World} {q : Nat} {v : Value} {xs : List Int} (h : QAt w q v xs) (hx : 0 < xs.length) : q < w.heap.size := by
  obtain ⟨ao, cap, -, h2, -, h4⟩ := h
  rcases h4 with h4 | ⟨o, cur, -, h6, -⟩
  · omega
  · exact (Array.getElem?_eq_some_iff.1 h6).1

def ndC (n : Nd) : List Value := [.int .i64 n.tag, .int .i64 n.k0, .int .i64 n.k1, .int .i64 n.k2, .int .i64 n.k3, .int .u64 n.a, .int .u64 n.b]
def slotC (s : Sl) : List Value := ndC s.nd ++ [.int .i64 (s.c : Int)]
def slotsC (l : List Sl) : List Value := l.flatMap slotC

theorem len_slotC (s : Sl) : (slotC s).length = 8 := rfl

theorem len_slotsC : ∀ l : List Sl, (slotsC l).length = l.length * 8
  | [] => rfl
  | s :: t => by
    have ih := len_slotsC t
    unfold slotsC at ih ⊢
    rw [List.flatMap_cons, List.length_append, ih, len_slotC, List.length_cons]
    omega

theorem slotsC_cons (s : Sl) (t : List Sl) : slotsC (s :: t) = slotC s ++ slotsC t := List.flatMap_cons

theorem slotsC_at : ∀ (l : List Sl) {i : Nat} (hi : i < l.length) {j : Nat}, j < 8 → (slotsC l)[i * 8 + j]? = (slotC l[i])[j]?
  | s :: t, 0, _, j, hj => by
    rw [slotsC_cons, List.getElem?_append_left (by rw [len_slotC]; omega)]
    simp
  | s :: t, i + 1, hi, j, hj => by
    have hi' : i < t.length := by simpa using hi
    rw [slotsC_cons, List.getElem?_append_right (by rw [len_slotC]; omega), len_slotC, show (i + 1) * 8 + j - 8 = i * 8 + j by omega, slotsC_at t hi' hj]
    rfl

theorem slotsC_put (l : List Sl) {i : Nat} (hi : i < l.length) (s : Sl) : slotsC (l.set i s) = (slotsC l).take (i * 8) ++ slotC s ++ (slotsC l).drop (i * 8 + 8) := by
  induction l generalizing i with
  | nil => simp at hi
  | cons x t ih =>
    cases i with
    | zero =>
      rw [List.set_cons_zero, slotsC_cons, slotsC_cons]
      simp only [Nat.zero_mul, Nat.zero_add, List.take_zero, List.nil_append]
      rw [List.drop_append_of_le_length (by rw [len_slotC]; omega), List.drop_of_length_le (by rw [len_slotC]; omega), List.nil_append]
    | succ i =>
      rw [List.set_cons_succ, slotsC_cons, slotsC_cons, ih (by simpa using hi)]
      have e1 : (slotC x ++ slotsC t).take ((i + 1) * 8) = slotC x ++ (slotsC t).take (i * 8) := by
        rw [List.take_append, len_slotC, List.take_of_length_le (by rw [len_slotC]; omega), show (i + 1) * 8 - 8 = i * 8 by omega]
      have e2 : (slotC x ++ slotsC t).drop ((i + 1) * 8 + 8) = (slotsC t).drop (i * 8 + 8) := by
        rw [List.drop_append, len_slotC, List.drop_of_length_le (by rw [len_slotC]; omega), List.nil_append, show (i + 1) * 8 + 8 - 8 = i * 8 + 8 by omega]
      rw [e1, e2]
      simp [List.append_assoc]

theorem getElem?_put {α : Type} (L : List α) (n : Nat) (m : List α) (h : n + m.length ≤ L.length) (j : Nat) : (L.take n ++ m ++ L.drop (n + m.length))[j]? = if j < n then L[j]? else if j < n + m.length then m[j - n]? else L[j]? := by
  have ht : (L.take n).length = n := by simp; omega
  by_cases h1 : j < n
  · rw [if_pos h1, List.append_assoc, List.getElem?_append_left (by omega), List.getElem?_take, if_pos h1]
  · rw [if_neg h1]
    by_cases h2 : j < n + m.length
    · rw [if_pos h2, List.getElem?_append_left (by simp; omega), List.getElem?_append_right (by omega), ht]
    · rw [if_neg h2, List.getElem?_append_right (by simp; omega), List.getElem?_drop]
      congr 1
      simp
      omega

/-- a count is written -/
theorem slotsC_count (l : List Sl) {i : Nat} (hi : i < l.length) (c : Nat) : (slotsC l).set (i * 8 + 7) (.int .i64 (c : Int)) = slotsC (l.set i ⟨l[i].nd, c⟩) := by
  apply List.ext_getElem?
  intro j
  have hl := len_slotsC l
  rw [slotsC_put l hi, show i * 8 + 8 = i * 8 + (slotC ⟨l[i].nd, c⟩).length from rfl, getElem?_put _ _ _ (by rw [len_slotC]; omega), len_slotC, List.getElem?_set]
  by_cases e : i * 8 + 7 = j
  · subst e
    rw [if_pos rfl, if_pos (by omega), if_neg (by omega), if_pos (by omega), show i * 8 + 7 - i * 8 = 7 by omega]
    rfl
  · rw [if_neg e]
    by_cases h1 : j < i * 8
    · rw [if_pos h1]
    · rw [if_neg h1]
      by_cases h2 : j < i * 8 + 8
      · rw [if_pos h2]
        have h3 := slotsC_at l hi (j := j - i * 8) (by omega)
        rw [show i * 8 + (j - i * 8) = j by omega] at h3
        rw [h3]
        unfold slotC
        rw [List.getElem?_append_left (by show j - i * 8 < 7; omega), List.getElem?_append_left (by show j - i * 8 < 7; omega)]
      · rw [if_neg h2]

/-- the blocks of an arena -/
structure Own where
  G : Nat
  SB : Nat
  FB : Nat

def Own.has (o : Own) (q g : Nat) : Prop := g = o.G ∨ g = o.SB ∨ g = o.FB ∨ g = q

def wordC (fw : List Nat) : List Value := fw.map fun x : Nat => Value.int .u64 (x : Int)

def arC (o : Own) (n m : Nat) (wv : Value) (u md : Int) : List Value := [.slice (some ⟨o.SB, 0, none⟩) n n, .slice (some ⟨o.FB, 0, none⟩) m m, wv, .int .i64 u, .int .i64 md]

/-- an arena in memory -/
structure Raw (w : World) (o : Own) (q : Nat) (S : St) (fw : List Nat) (wv : Value) (u md : Int) : Prop where
  ar : BlkAt w o.G 72 (arC o S.n fw.length wv u md)
  sl : BlkAt w o.SB 76 (slotsC S.sl)
  fr : BlkAt w o.FB 32 (wordC fw)
  qu : QAt w q wv S.wt
  sz : S.n ≤ 6000
  ql : q < w.heap.size

theorem Raw.ne1 {w : World} {o : Own} {q : Nat} {S : St} {fw : List Nat} {wv : Value} {u md : Int} (h : Raw w o q S fw wv u md) : o.G ≠ o.SB := blk_ne h.ar h.sl (by decide)
theorem Raw.ne2 {w : World} {o : Own} {q : Nat} {S : St} {fw : List Nat} {wv : Value} {u md : Int} (h : Raw w o q S fw wv u md) : o.G ≠ o.FB := blk_ne h.ar h.fr (by decide)
theorem Raw.ne3 {w : World} {o : Own} {q : Nat} {S : St} {fw : List Nat} {wv : Value} {u md : Int} (h : Raw w o q S fw wv u md) : o.SB ≠ o.FB := blk_ne h.sl h.fr (by decide)

/-- other blocks have turned -/
theorem Raw.off {w w' : World} {o : Own} {q : Nat} {S : St} {fw : List Nat} {wv : Value} {u md : Int} (h : Raw w o q S fw wv u md) {X : Nat → Prop} (hf : Fr X w w') (hX : ∀ g, o.has q g → ¬ X g) : Raw w' o q S fw wv u md :=
  ⟨h.ar.fr hf (hX _ (Or.inl rfl)), h.sl.fr hf (hX _ (Or.inr (Or.inl rfl))), h.fr.fr hf (hX _ (Or.inr (Or.inr (Or.inl rfl)))), h.qu.fr hf (fun _ _ => hX _ (Or.inr (Or.inr (Or.inr rfl)))), h.sz, Nat.lt_of_lt_of_le h.ql hf.size⟩

theorem Raw.alloc {w : World} {o : Own} {q : Nat} {S : St} {fw : List Nat} {wv : Value} {u md : Int} (h : Raw w o q S fw wv u md) (b : Obj) : Raw (w.alloc b) o q S fw wv u md := h.off (fr_alloc w b (fun _ => False)) (fun _ _ h => h)

/-- a slot is written: the list of slots is another one -/
theorem Raw.slots {w : World} {o : Own} {q : Nat} {S T : St} {fw : List Nat} {wv : Value} {u md : Int} (h : Raw w o q S fw wv u md) {w' : World} (hf : Fr (fun b => b = o.SB) w w') (hb : BlkAt w' o.SB 76 (slotsC T.sl)) (hn : T.n = S.n) (hw : T.wt = S.wt) : Raw w' o q T fw wv u md :=
  ⟨by rw [hn]; exact h.ar.fr hf h.ne1, hb, h.fr.fr hf (Ne.symm h.ne3), by rw [hw]; exact h.qu.fr hf (fun cur hc e => blk_ne h.sl hc (by decide) e.symm), by rw [hn]; exact h.sz, Nat.lt_of_lt_of_le h.ql hf.size⟩

/-- an arena's own blocks alone have turned -/
structure Step (o : Own) (q q' : Nat) (w w' : World) : Prop where
  qo : q' = q ∨ w.heap.size ≤ q'
  fr : Fr (o.has q) w w'

theorem Step.refl (o : Own) (q : Nat) (w : World) : Step o q q w w := ⟨Or.inl rfl, Fr.refl _ _⟩

theorem Step.trans {o : Own} {q q' q'' : Nat} {w w' w'' : World} (h : Step o q q' w w') (k : Step o q' q'' w' w'') : Step o q q'' w w'' := by
  refine ⟨?_, ⟨k.fr.os.trans h.fr.os, k.fr.tape.trans h.fr.tape, k.fr.output.trans h.fr.output, Nat.le_trans h.fr.size k.fr.size, fun g hg hs => ?_⟩⟩
  · have := h.fr.size
    rcases k.qo with e | e
    · rw [e]; exact h.qo
    · exact Or.inr (by omega)
  · have := h.fr.size
    refine (k.fr.block g (by omega) (fun e => hs ?_)).trans (h.fr.block g hg hs)
    rcases e with e | e | e | e
    · exact Or.inl e
    · exact Or.inr (Or.inl e)
    · exact Or.inr (Or.inr (Or.inl e))
    · rcases h.qo with e2 | e2
      · exact Or.inr (Or.inr (Or.inr (e.trans e2)))
      · omega

theorem Step.of_fr {o : Own} {q : Nat} {w w' : World} {X : Nat → Prop} (h : Fr X w w') (hX : ∀ g, X g → o.has q g) : Step o q q w w' := ⟨Or.inl rfl, h.mono (fun g _ hg => hX g hg)⟩

theorem Step.alloc {o : Own} {q q' : Nat} {w w' : World} (h : Step o q q' w w') (b : Obj) : Step o q q' w (w'.alloc b) := h.trans (Step.of_fr (fr_alloc w' b (fun _ => False)) (fun _ e => e.elim))

theorem Step.below {o : Own} {q q' B : Nat} {w w' : World} (h : Step o q q' w w') (hB : B ≤ w.heap.size) (ho : ∀ g, o.has q g → B ≤ g) : Below B w w' ∧ ∀ g, o.has q' g → B ≤ g := by
  refine ⟨h.fr.below hB ho, fun g hg => ?_⟩
  rcases hg with e | e | e | e
  · exact ho g (Or.inl e)
  · exact ho g (Or.inr (Or.inl e))
  · exact ho g (Or.inr (Or.inr (Or.inl e)))
  · rcases h.qo with e2 | e2
    · exact ho g (Or.inr (Or.inr (Or.inr (e.trans e2))))
    · omega

/-- what is apart from an arena stays, and stays apart -/
theorem Step.keeps {o : Own} {q q' : Nat} {w w' : World} (h : Step o q q' w w') {g : Nat} (hg : g < w.heap.size) (hs : ¬ o.has q g) : w'.heap[g]? = w.heap[g]? ∧ ¬ o.has q' g := by
  refine ⟨h.fr.block g hg hs, fun e => hs ?_⟩
  rcases e with e | e | e | e
  · exact Or.inl e
  · exact Or.inr (Or.inl e)
  · exact Or.inr (Or.inr (Or.inl e))
  · rcases h.qo with e2 | e2
    · exact Or.inr (Or.inr (Or.inr (e.trans e2)))
    · omega

end Go.Proofs.YtgimehldhibmjaaDoor
