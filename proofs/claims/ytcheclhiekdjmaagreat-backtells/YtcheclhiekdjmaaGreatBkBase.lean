/- The book of lists that were answered, over whatever kind of list: what stands in memory, plainly; no walk. -/
import Derived.Test.YtcheclhiekdjmaaGreatRMore
import Derived.Deep.RegionHeld3
import Derived.Deep.RegionHeldLaw
import Derived.Deep.RegionLaw
namespace Go.Proofs.YtcheclhiekdjmaaGreat
open Go.RowKit Go.Sort

/-- a kind of lists: its elements' type, the lists' type, its place in the book, an element's cells, its marks -/
structure Kind (α : Type) where
  e : TypeId
  te : TypeId
  o : Nat
  size : Nat
  enc : α → List Value
  mark : Nat → Nat → α

/-- a list's cells, one element behind the other -/
def Kind.cells {α : Type} (K : Kind α) (xs : List α) : List Value := xs.flatMap K.enc

/-- what is asked of a kind -/
structure Kind.Good {α : Type} (K : Kind α) : Prop where
  len : ∀ x, (K.enc x).length = K.size
  one : ∀ x, ∀ u ∈ K.enc x, u.oneCell' = true
  ne : K.e ≠ K.te
  eb : K.e ≠ 44
  teb : K.te ≠ 44

variable {α : Type} {K : Kind α}

theorem Kind.cells_append (K : Kind α) (a b : List α) : K.cells (a ++ b) = K.cells a ++ K.cells b := by simp [Kind.cells]

theorem Kind.len_cells (G : K.Good) (xs : List α) : (K.cells xs).length = xs.length * K.size := by
  induction xs with
  | nil => simp [Kind.cells]
  | cons x t ih =>
    have h := G.len x
    simp only [Kind.cells, List.flatMap_cons, List.length_append, List.length_cons] at ih ⊢
    rw [ih, h, Nat.add_mul, Nat.one_mul, Nat.add_comm]

theorem Kind.cells_one (G : K.Good) (xs : List α) : ∀ u ∈ K.cells xs, u.oneCell' = true := by
  intro u hu
  simp only [Kind.cells, List.mem_flatMap] at hu
  obtain ⟨x, _, hx⟩ := hu
  exact G.one x u hx

/-- the marks of list i, from a place on, so many -/
def marksK (K : Kind α) (i f n : Nat) : List α := (List.range n).map fun k => K.mark i (f + k)

theorem len_marksK (K : Kind α) (i f n : Nat) : (marksK K i f n).length = n := by simp [marksK]

theorem marksK_succ (K : Kind α) (i f n : Nat) : marksK K i f (n + 1) = marksK K i f n ++ [K.mark i (f + n)] := by simp [marksK, List.range_succ]

theorem marksK_add (K : Kind α) (i n m : Nat) : marksK K i 0 (n + m) = marksK K i 0 n ++ marksK K i n m := by
  simp only [marksK, List.range_add, List.map_append, List.map_map]
  congr 1
  apply List.map_congr_left
  intro k _
  simp

/-- this slice reads as so many elements, with these cells -/
def Reads (w : World) (v : Value) (n : Nat) (cs : List Value) : Prop := ∃ ao cap, v = .slice ao n cap ∧ HasCells w ao cs ∧ (ao = none → n = 0 ∧ cap = 0)

/-- these slices read as these lists -/
def ReadsAll (K : Kind α) (w : World) (vs : List Value) (xss : List (List α)) : Prop := vs.length = xss.length ∧ ∀ (i : Nat) v xs, vs[i]? = some v → xss[i]? = some xs → Reads w v xs.length (K.cells xs)

theorem Reads.later {w w' : World} {v : Value} {n : Nat} {cs : List Value} (h : Reads w v n cs) (hb : Below w.heap.size w w') : Reads w' v n cs := by
  obtain ⟨ao, cap, e, h1, h2⟩ := h
  exact ⟨ao, cap, e, h1.later hb, h2⟩

theorem ReadsAll.later {w w' : World} {vs : List Value} {xss : List (List α)} (h : ReadsAll K w vs xss) (hb : Below w.heap.size w w') : ReadsAll K w' vs xss :=
  ⟨h.1, fun i v xs h1 h2 => (h.2 i v xs h1 h2).later hb⟩

theorem reads_of_owns {w : World} {base size : Nat} {e : TypeId} {v : Value} {n : Nat} {xs : List Value} (h : w.ownsRow base e size v n xs) : Reads w v n xs := by
  obtain ⟨ao, cap, h1, h2, h3, _, _⟩ := owns_cells h
  exact ⟨ao, cap, h1, h2, h3⟩

theorem reads_drew {w : World} {v : Value} {n : Nat} {cs : List Value} (h : Reads w v n cs) : Reads w.drew v n cs := h

theorem reads_kept {w w' : World} {v : Value} {n : Nat} {cs : List Value} (h : Reads w v n cs) (hb : ∀ g, v.ownBlock = some g → w'.heap[g]? = w.heap[g]?) : Reads w' v n cs := by
  obtain ⟨ao, cap, e, h1, h2⟩ := h
  refine ⟨ao, cap, e, ?_, h2⟩
  intro j u hu
  obtain ⟨g, o, ea, hc⟩ := h1 j u hu
  subst e
  subst ea
  exact ⟨g, o, rfl, by rw [World.cell?_of_block (w := w) (hb g rfl)]; exact hc⟩

/-- a quiet callee behind draws -/
theorem quiet_off {P : Program} {f : FuncId} {args : Array Value} {w : World} {n x : Nat} {v : Value} (h : Calls P f args (w.drewN (n + x)) fun e w' => e = .returned v ∧ ∃ m, w' = (w.drewN (n + x)).drewN m) :
    Calls P f args (w.drewN (n + x)) fun e w'' => e = .returned v ∧ ∃ m, w'' = w.drewN (n + m) :=
  h.mono fun _ _ ⟨he, m, hm⟩ => ⟨he, x + m, by rw [hm, World.drewN_drewN, Nat.add_assoc]⟩

theorem below_undrew {w w1 : World} (h : Below w.drew.heap.size w.drew w1) : Below w.heap.size w w1 := ((Below.refl _ _).drew).trans h

theorem below_from {B : Nat} {w w1 : World} (hb : Below w.heap.size w w1) (hB : B ≤ w.heap.size) : Below B w w1 := hb.mono hB

/-! ### What the kinds' small functions do -/

/-- two lists of the same elements are told to be alike -/
def SameC (P : Program) (fn : FuncId) (K : Kind α) : Prop := ∀ (xs : List α) (ao bo : Option Addr) (ca cb : Nat) (w : World), xs.length ≤ 1000000 → HasCells w ao (K.cells xs) → HasCells w bo (K.cells xs) →
  Calls P fn #[.slice ao xs.length ca, .slice bo xs.length cb] w fun e w' => e = .returned (.bool true) ∧ ∃ n, w' = w.drewN n

/-- marks are made in new memory -/
def MarkC (P : Program) (fn : FuncId) (K : Kind α) : Prop := ∀ (i f n : Nat) (f' n' : Int) (w : World), f' = f → n' = n → i ≤ 1000 → f ≤ 1000000 → n ≤ 1000000 →
  Calls P fn #[.int .i64 (i : Nat), .int .i64 f', .int .i64 n'] w fun e w' => ∃ am cap, e = .returned (.slice am n cap) ∧ w'.ownsRow w.heap.size K.e K.size (.slice am n cap) n (K.cells (marksK K i f n)) ∧ Below w.heap.size w w'

/-- a list is copied into new memory -/
def CopyC (P : Program) (fn : FuncId) (K : Kind α) : Prop := ∀ (v : Value) (xs : List α) (w : World), xs.length ≤ 900000 → Reads w v xs.length (K.cells xs) →
  Calls P fn #[v] w fun e w' => ∃ v', e = .returned v' ∧ w'.ownsRow w.heap.size K.e K.size v' xs.length (K.cells xs) ∧ Below w.heap.size w w'

/-! ### Lists that are owned, side by side -/

/-- these slices own these lists, place by place -/
def OwnBy (K : Kind α) (w : World) (B : Nat) (vs : List Value) (f : Nat → List α) : Prop := ∀ (i : Nat) v, vs[i]? = some v → w.ownsRow B K.e K.size v (f i).length (K.cells (f i))

/-- no two of them lie in one block -/
def ApartAll (vs : List Value) : Prop := ∀ (i j : Nat) vi vj g, i ≠ j → vs[i]? = some vi → vs[j]? = some vj → vi.ownBlock = some g → vj.ownBlock ≠ some g

/-- the blocks of slices -/
def InAny (vs : List Value) (k : Nat) : Prop := ∃ (i : Nat) (v : Value), vs[i]? = some v ∧ v.ownBlock = some k

/-- the first lists are marked, the others as they were -/
def markTo (K : Kind α) (f : Nat → List α) (k i : Nat) : List α := if i < k then marksK K i 0 (f i).length else f i

theorem len_markTo (K : Kind α) (f : Nat → List α) (k i : Nat) : (markTo K f k i).length = (f i).length := by
  unfold markTo
  split <;> simp [len_marksK]

/-- the first elements are marks, the others as they were -/
def partTo (K : Kind α) (i : Nat) (xs : List α) (k : Nat) : List α := marksK K i 0 k ++ xs.drop k

theorem len_partTo (K : Kind α) (i : Nat) (xs : List α) (k : Nat) (hk : k ≤ xs.length) : (partTo K i xs k).length = xs.length := by simp [partTo, len_marksK]; omega

theorem partTo_zero (K : Kind α) (i : Nat) (xs : List α) : partTo K i xs 0 = xs := by simp [partTo, marksK]

theorem partTo_all (K : Kind α) (i : Nat) (xs : List α) : partTo K i xs xs.length = marksK K i 0 xs.length := by simp [partTo]

theorem partTo_here (K : Kind α) (i : Nat) (xs : List α) (k : Nat) (hk : k < xs.length) : K.cells (partTo K i xs k) = K.cells (marksK K i 0 k) ++ (K.enc xs[k] ++ K.cells (xs.drop (k + 1))) := by
  unfold partTo
  rw [List.drop_eq_getElem_cons hk, Kind.cells_append]
  rfl

theorem partTo_next (K : Kind α) (i : Nat) (xs : List α) (k : Nat) : K.cells (partTo K i xs (k + 1)) = K.cells (marksK K i 0 k) ++ (K.enc (K.mark i k) ++ K.cells (xs.drop (k + 1))) := by
  unfold partTo
  rw [marksK_succ, Kind.cells_append, Kind.cells_append, Nat.zero_add, List.append_assoc]
  congr 1
  simp [Kind.cells]

/-- the book and its row of lists stay, where only the lists' blocks turn -/
theorem book_kept (G : K.Good) {w w' : World} {Bk B : Nat} {fs : Array Value} {f0 : Value} {vs : List Value} {f : Nat → List α} (hbk : w.heap[Bk]? = some (.cells fs 44 (0, 0))) (ho : w.ownsRow B K.te 1 f0 vs.length vs) (hv : OwnBy K w B vs f)
    (hfr : Fr (InAny vs) w w') : w'.heap[Bk]? = some (.cells fs 44 (0, 0)) ∧ w'.ownsRow B K.te 1 f0 vs.length vs := by
  refine ⟨?_, hfr.owns ho ?_⟩
  · rw [hfr.block Bk (Array.getElem?_eq_some_iff.1 hbk).1 ?_]
    · exact hbk
    · rintro ⟨i, v, hi, hg⟩
      obtain ⟨cur, hc⟩ := owns_block (hv i v hi) hg
      rw [hbk] at hc
      simp at hc
      exact G.eb hc.2.symm
  · rintro g hg ⟨i, v, hi, hg2⟩
    exact owns_apart ho (hv i v hi) (fun e => G.ne e.symm) g hg hg2

theorem cell_set_other {w : World} {a b : Addr} {u v : Value} (h : w.cell? b = some v) (hne : b.block ≠ a.block) : (w.setCell a u).cell? b = some v := by
  have e : (w.setCell a u).cell? b = w.cell? b := World.cell?_of_block (w := w) (Below.heap_setCell w a u b.block hne)
  exact e.trans h

/-- what the inner round reads and writes -/
theorem put_facts (G : K.Good) {wr w1 w2 : World} {Bk B : Nat} {fs : Array Value} {f0 : Value} {vs : List Value} {h f : Nat → List α} {k j g0 o0 cap0 capv capm : Nat} {av am : Option Addr}
    (hb1 : wr.heap[Bk]? = some (.cells fs 44 (0, 0))) (hf0 : fs[K.o]? = some f0) (ho1 : wr.ownsRow B K.te 1 f0 vs.length vs) (hown : OwnBy K wr B vs h) (hlt : k < vs.length)
    (e0 : f0 = .slice (some ⟨g0, o0, none⟩) vs.length cap0) (ev : vs[k] = .slice av (f k).length capv) (hvk : wr.ownsRow B K.e K.size (.slice av (f k).length capv) (f k).length (K.cells (f k)))
    (hm : w1.ownsRow wr.heap.size K.e K.size (.slice am (f k).length capm) (f k).length (K.cells (marksK K k 0 (f k).length))) (hb : Below wr.heap.size wr w1)
    (hfr : Fr (fun g => (Value.slice av (f k).length capv).ownBlock = some g) w1 w2) (hj : j < (f k).length) (hv2 : w2.ownsRow B K.e K.size (.slice av (f k).length capv) (f k).length (K.cells (partTo K k (f k) j))) :
    ∃ gv gm, av = some ⟨gv, 0, none⟩ ∧ am = some ⟨gm, 0, none⟩ ∧ w2.cell? ⟨Bk, K.o, none⟩ = some (.slice (some ⟨g0, o0, none⟩) vs.length cap0) ∧ w2.cell? ⟨g0, o0 + k, none⟩ = some (.slice av (f k).length capv) ∧
      (∀ c u, (K.enc (K.mark k j))[c]? = some u → w2.cell? ⟨gm, j * K.size + c, none⟩ = some u) ∧ (∀ c, w2.frozen? ⟨gv, c, none⟩ = false) ∧ (∀ c, c < K.size → ∃ u, w2.cell? ⟨gv, j * K.size + c, none⟩ = some u) ∧ Bk ≠ gv ∧ g0 ≠ gv ∧ gm ≠ gv := by
  have hall : Fr (InAny vs) wr w2 := by
    refine (Fr.of_below hb).trans (hfr.mono ?_)
    intro g _ hg
    exact ⟨k, vs[k], List.getElem?_eq_getElem hlt, by rw [ev]; exact hg⟩
  obtain ⟨hb2, ho2⟩ := book_kept G hb1 ho1 hown hall
  obtain ⟨a0, c0, e0', hc0, -, -, -⟩ := owns_cells ho2
  rw [e0] at e0'
  cases e0'
  obtain ⟨_, _, he, hg0⟩ := hc0 k vs[k] (List.getElem?_eq_getElem hlt)
  cases he
  have hm2 : w2.ownsRow wr.heap.size K.e K.size (.slice am (f k).length capm) (f k).length (K.cells (marksK K k 0 (f k).length)) :=
    hfr.owns hm (fun g hg hg2 => by have h1 := (hm.lt g hg).1; have h2 := (hvk.lt g hg2).2; omega)
  have hjs : j * K.size + K.size ≤ (f k).length * K.size := by
    have h := Nat.mul_le_mul_right K.size (show j + 1 ≤ (f k).length from hj)
    rw [Nat.add_mul, Nat.one_mul] at h
    exact h
  have hmc : ∀ c u, (K.enc (K.mark k j))[c]? = some u → (K.cells (marksK K k 0 (f k).length))[j * K.size + c]? = some u := by
    intro c u hu
    obtain ⟨d, hd⟩ : ∃ d, (f k).length = (j + 1) + d := ⟨(f k).length - (j + 1), by omega⟩
    rw [hd, marksK_add, Kind.cells_append, marksK_succ, Kind.cells_append, Nat.zero_add, List.append_assoc, List.getElem?_append_right (by rw [Kind.len_cells G, len_marksK]; omega), Kind.len_cells G, len_marksK, Nat.add_sub_cancel_left]
    have hc : c < (K.enc (K.mark k j)).length := (List.getElem?_eq_some_iff.1 hu).1
    have e1 : K.cells [K.mark k j] = K.enc (K.mark k j) := by simp [Kind.cells]
    rw [e1, List.getElem?_append_left hc]
    exact hu
  rcases hm2.2 with ⟨_, hz⟩ | ⟨gm, capm', curm, hvm, _⟩
  · omega
  cases hvm
  rcases hv2.2 with ⟨_, hz⟩ | ⟨gv, cap, cur, hv, _⟩
  · omega
  cases hv
  have hgv : (Value.slice (some ⟨gv, 0, none⟩) (f k).length capv).ownBlock = some gv := rfl
  obtain ⟨cv, hcv⟩ := owns_block hv2 hgv
  refine ⟨gv, gm, rfl, rfl, by rw [cell_of_row w2 Bk K.o fs _ _ hb2, hf0, e0], by rw [hg0, ev], ?_, fun c => hv2.frozenAt c, ?_, ?_, ?_, ?_⟩
  · intro c u hu
    have hc : c < K.size := by have := (List.getElem?_eq_some_iff.1 hu).1; rw [G.len] at this; exact this
    rw [hm2.cellAt (j * K.size + c) (by omega)]
    exact hmc c u hu
  · intro c hc
    rw [hv2.cellAt (j * K.size + c) (by omega)]
    exact ⟨_, List.getElem?_eq_getElem (by rw [Kind.len_cells G, len_partTo _ _ _ _ (by omega)]; omega)⟩
  · intro e
    subst e
    rw [hb2] at hcv
    simp at hcv
    exact G.eb hcv.2.symm
  · intro e
    subst e
    exact owns_apart ho2 hv2 (fun e => G.ne e.symm) g0 (by rw [e0]; rfl) rfl
  · intro e
    subst e
    have h1 := (hm2.lt gm rfl).1
    have h2 := (hvk.lt gm rfl).2
    omega

/-- behind the inner loop: one list more is marked -/
theorem put_next {wr w1 w2 : World} {B k capv : Nat} {vs : List Value} {f : Nat → List α} {av : Option Addr} (hown : OwnBy K wr B vs (markTo K f k)) (ha : ApartAll vs) (hlt : k < vs.length) (ev : vs[k] = .slice av (f k).length capv)
    (hb : Below wr.heap.size wr w1) (hfr : Fr (fun g => (Value.slice av (f k).length capv).ownBlock = some g) w1 w2)
    (hv2 : w2.ownsRow B K.e K.size (.slice av (f k).length capv) (f k).length (K.cells (partTo K k (f k) (f k).length))) :
    OwnBy K w2 B vs (markTo K f (k + 1)) ∧ Fr (InAny vs) wr w2 := by
  constructor
  · intro i v hi
    by_cases hik : i = k
    · subst hik
      rw [List.getElem?_eq_getElem hlt] at hi
      cases hi
      rw [partTo_all] at hv2
      have e : markTo K f (i + 1) i = marksK K i 0 (f i).length := by simp [markTo]
      rw [e, len_marksK, ev]
      exact hv2
    · have e : markTo K f (k + 1) i = markTo K f k i := by
        unfold markTo
        by_cases h : i < k
        · rw [if_pos (by omega), if_pos h]
        · rw [if_neg (by omega), if_neg h]
      rw [e]
      have h0 := hown i v hi
      refine hfr.owns (owns_same h0 (fun g hg => hb.block g (h0.lt g hg).2)) (fun g hg hg2 => ?_)
      exact ha i k v vs[k] g hik hi (List.getElem?_eq_getElem hlt) hg (by rw [ev]; exact hg2)
  · refine (Fr.of_below hb).trans (hfr.mono ?_)
    intro g _ hg
    exact ⟨k, vs[k], List.getElem?_eq_getElem hlt, by rw [ev]; exact hg⟩

/-! ### Growing -/

/-- a list on its way to be longer -/
structure GrowSt (K : Kind α) (B : Nat) (v : Value) (n0 : Nat) (w0 : World) (k n : Nat) (l : Value) (w : World) : Prop where
  own : w.ownsRow B K.e K.size l n (K.cells (marksK K k 0 n))
  lies : l.ownBlock = v.ownBlock ∨ ∃ g, l.ownBlock = some g ∧ w0.heap.size ≤ g
  old : Reads w v n0 (K.cells (marksK K k 0 n0))
  fr : Fr (fun g => v.ownBlock = some g ∨ w0.heap.size ≤ g) w0 w

theorem grow_start {B : Nat} {v : Value} {n0 : Nat} {w0 : World} {k : Nat} (h : w0.ownsRow B K.e K.size v n0 (K.cells (marksK K k 0 n0))) : GrowSt K B v n0 w0 k n0 v w0 :=
  ⟨h, Or.inl rfl, reads_of_owns h, Fr.refl _ _⟩

theorem grow_step {B : Nat} {v : Value} {n0 : Nat} {w0 : World} {k n c : Nat} {l l' : Value} {w w1 w2 : World} (hv : w0.ownsRow B K.e K.size v n0 (K.cells (marksK K k 0 n0))) (hn : n0 ≤ n) (h : GrowSt K B v n0 w0 k n l w) (hb : Below w.heap.size w w1)
    (hown : w2.ownsRow B K.e K.size l' (n + c) (K.cells (marksK K k 0 n) ++ K.cells (marksK K k n c))) (hgrow : w1.grownBy w2 l.ownBlock) (hat : l'.ownBlock = l.ownBlock ∨ l'.ownBlock = some w1.heap.size)
    (hold : w2.ownsRow B K.e K.size l n (K.cells (marksK K k 0 n))) : GrowSt K B v n0 w0 k (n + c) l' w2 := by
  have hs0 := h.fr.size
  have hs1 := hb.size
  refine ⟨?_, ?_, ?_, ?_⟩
  · rw [marksK_add, Kind.cells_append]; exact hown
  · rcases hat with e | e
    · rw [e]; exact h.lies
    · exact Or.inr ⟨_, e, by omega⟩
  · obtain ⟨ao, cap, ev, hc, hz⟩ := h.old
    refine ⟨ao, cap, ev, ?_, hz⟩
    rcases hv.2 with ⟨hv0, h0⟩ | ⟨g, cap', cur, hv0, _, hg, _⟩
    · subst h0
      intro j u hu
      simp [marksK, Kind.cells] at hu
    · rw [hv0] at ev
      simp only [Value.slice.injEq] at ev
      obtain ⟨rfl, -, -⟩ := ev
      rcases h.lies with e | ⟨g', e, hge⟩
      · obtain ⟨al, capl, el, hcl, -, hal, -⟩ := owns_cells hold
        have e2 := hal g (by rw [e, hv0]; rfl)
        subst e2
        obtain ⟨d, rfl⟩ : ∃ d, n = n0 + d := ⟨n - n0, by omega⟩
        rw [marksK_add, Kind.cells_append] at hcl
        exact hcl.left
      · have hlt : g < w0.heap.size := (Array.getElem?_eq_some_iff.1 hg).1
        have e1 : w1.heap[g]? = w.heap[g]? := hb.block g (by omega)
        have e2 : w2.heap[g]? = w1.heap[g]? := hgrow.block g (by omega) (by rw [e]; intro he; cases he; omega)
        exact hc.kept (e2.trans e1)
  · refine h.fr.trans ((Fr.of_below hb).trans (Fr.of_grown hgrow ?_))
    intro g hg
    rcases h.lies with e | ⟨g', e, hge⟩
    · exact Or.inl (by rw [← e]; exact hg)
    · rw [e] at hg; cases hg; exact Or.inr hge

/-- the lists that were made longer so far, and all that stands beside them -/
structure GrowTo (K : Kind α) (B : Nat) (vs : List Value) (f : Nat → List α) (w : World) (k : Nat) (out : Value) (gs : List Value) (wr : World) : Prop where
  len : gs.length = k
  out : wr.ownsRow w.heap.size K.te 1 out k gs
  grown : ∀ (i : Nat) v', gs[i]? = some v' → wr.ownsRow B K.e K.size v' ((f i).length + 72) (K.cells (marksK K i 0 ((f i).length + 72))) ∧ ∀ g, v'.ownBlock = some g → w.heap.size ≤ g ∨ ∃ v, vs[i]? = some v ∧ v.ownBlock = some g
  read : ∀ (i : Nat) v, vs[i]? = some v → Reads wr v (f i).length (K.cells (f i))
  rest : ∀ (i : Nat) v, vs[i]? = some v → k ≤ i → wr.ownsRow B K.e K.size v (f i).length (K.cells (f i))
  fr : Fr (fun g => InAny vs g ∨ w.heap.size ≤ g) w wr

theorem growTo_start {B : Nat} {vs : List Value} {f : Nat → List α} {w : World} (hv : OwnBy K w B vs f) : GrowTo K B vs f w 0 (.slice none 0 0) [] w :=
  ⟨rfl, World.ownsRow_nil _ _ _ _, fun i v' h => by simp at h, fun i v h => reads_of_owns (hv i v h), fun i v h _ => hv i v h, Fr.refl _ _⟩

theorem out_kept {B : Nat} {vs : List Value} {f : Nat → List α} {w wr w2 : World} {k n : Nat} {out l' v : Value} {gs : List Value} (hv0 : OwnBy K w B vs f) (h : GrowTo K B vs f w k out gs wr) (hk : vs[k]? = some v) (hst : GrowSt K B v (f k).length wr k n l' w2) :
    w2.ownsRow w.heap.size K.te 1 out k gs := hst.fr.owns h.out (fun g hg e => by
  rcases e with e | e
  · have h1 := ((hv0 k v hk).lt g e).2; have h2 := (h.out.lt g hg).1; omega
  · have := (h.out.lt g hg).2; omega)

/-- one list more was made longer -/
theorem growTo_next (G : K.Good) {B : Nat} {vs : List Value} {f : Nat → List α} {w wr w2 w4 : World} {k : Nat} {out out' l' v : Value} {gs : List Value} {cs : Array Value} (hv0 : OwnBy K w B vs f) (ha : ApartAll vs) (h : GrowTo K B vs f w k out gs wr) (hk : vs[k]? = some v) (hfk : f k = marksK K k 0 (f k).length)
    (hst : GrowSt K B v (f k).length wr k ((f k).length + 72) l' w2) (hout : w4.ownsRow w.heap.size K.te 1 out' (k + 1) (gs ++ [l'])) (hgrow : (w2.alloc (.cells cs K.te)).grownBy w4 out.ownBlock) :
    GrowTo K B vs f w (k + 1) out' (gs ++ [l']) w4 := by
  have hsz := hst.fr.size
  have hsw := h.fr.size
  have hvw := hv0 k v hk
  have to2 : ∀ g, g < w2.heap.size → out.ownBlock ≠ some g → w4.heap[g]? = w2.heap[g]? := fun g hg hne => by
    rw [hgrow.block g (by simp; omega) (fun e => hne e.symm), Below.heap_alloc _ _ _ hg]
  have to4 : ∀ g, g < wr.heap.size → v.ownBlock ≠ some g → out.ownBlock ≠ some g → w4.heap[g]? = wr.heap[g]? := fun g hg h1 h2 => by
    rw [to2 g (by omega) h2, hst.fr.block g hg (fun e => e.elim h1 (fun e => by omega))]
  have outH : ∀ g, out.ownBlock = some g → w.heap.size ≤ g := fun g hg => (h.out.lt g hg).1
  have vH : ∀ g, v.ownBlock = some g → g < w.heap.size := fun g hg => (hvw.lt g hg).2
  have out2 := out_kept hv0 h hk hst
  refine ⟨by simp [h.len], hout, ?_, ?_, ?_, ?_⟩
  · intro i v' hi
    by_cases hik : i < k
    · rw [List.getElem?_append_left (by rw [h.len]; exact hik)] at hi
      obtain ⟨h1, h2⟩ := h.grown i v' hi
      refine ⟨owns_same h1 (fun g hg => to4 g (h1.lt g hg).2 (fun e => ?_) (fun e => ?_)), h2⟩
      · rcases h2 g hg with h3 | ⟨vi, h3, h4⟩
        · have := vH g e; omega
        · exact ha i k vi v g (by omega) h3 hk h4 e
      · exact owns_apart h.out h1 (fun e => G.ne e.symm) g e hg
    · have hie : i = k := by
        have := (List.getElem?_eq_some_iff.1 hi).1
        simp [h.len] at this
        omega
      subst hie
      rw [List.getElem?_append_right (by rw [h.len]; omega), h.len, Nat.sub_self] at hi
      simp at hi
      subst hi
      refine ⟨owns_same hst.own (fun g hg => to2 g (hst.own.lt g hg).2 (fun e => owns_apart out2 hst.own (fun e => G.ne e.symm) g e hg)), ?_⟩
      intro g hg
      rcases hst.lies with e | ⟨g', e, hge⟩
      · exact Or.inr ⟨v, hk, by rw [← e]; exact hg⟩
      · rw [e] at hg; cases hg; exact Or.inl (by omega)
  · intro i vi hi
    by_cases hik : i = k
    · subst hik
      rw [hk] at hi
      cases hi
      have h1 := hst.old
      rw [← hfk] at h1
      exact reads_kept h1 (fun g hg => to2 g (by have := vH g hg; omega) (fun e => by have := vH g hg; have := outH g e; omega))
    · have hi0 := hv0 i vi hi
      refine reads_kept (h.read i vi hi) (fun g hg => to4 g (by have := (hi0.lt g hg).2; omega) (fun e => ha i k vi v g hik hi hk hg e) (fun e => by have := (hi0.lt g hg).2; have := outH g e; omega))
  · intro i vi hi hki
    have hi0 := hv0 i vi hi
    refine owns_same (h.rest i vi hi (by omega)) (fun g hg => to4 g (by have := (hi0.lt g hg).2; omega) (fun e => ha i k vi v g (by omega) hi hk hg e) (fun e => by have := (hi0.lt g hg).2; have := outH g e; omega))
  · refine ⟨?_, ?_, ?_, ?_, ?_⟩
    · exact hgrow.os.trans (hst.fr.os.trans h.fr.os)
    · exact hgrow.tape.trans (hst.fr.tape.trans h.fr.tape)
    · exact hgrow.output.trans (hst.fr.output.trans h.fr.output)
    · have := hgrow.size; simp at this; omega
    · intro g hg hs
      rw [to4 g (by omega) (fun e => hs (Or.inl ⟨k, v, hk, e⟩)) (fun e => by have := outH g e; omega), h.fr.block g hg hs]

theorem book_grown (G : K.Good) {w w' : World} {Bk B : Nat} {fs : Array Value} {f0 : Value} {vs : List Value} {f : Nat → List α} (hbk : w.heap[Bk]? = some (.cells fs 44 (0, 0))) (ho : w.ownsRow B K.te 1 f0 vs.length vs) (hv : OwnBy K w B vs f)
    (hfr : Fr (fun g => InAny vs g ∨ w.heap.size ≤ g) w w') : w'.heap[Bk]? = some (.cells fs 44 (0, 0)) ∧ w'.ownsRow B K.te 1 f0 vs.length vs :=
  book_kept G hbk ho hv (hfr.mono (fun k hk h => h.elim id (fun h => by omega)))

/-! ### Keeping -/

theorem set_block {w : World} {g i : Nat} {cs : Array Value} {e : TypeId} {r : Nat × Nat} (h : w.heap[g]? = some (.cells cs e r)) (u : Value) : (w.setCell ⟨g, i, none⟩ u).heap[g]? = some (.cells (cs.setIfInBounds i u) e r) := by
  simp only [World.setCell, Array.getElem?_modify, h]
  simp

/-- a kind's two rows of lists in the book -/
structure BookAt (K : Kind α) (Bk B : Nat) (fs : Array Value) (f0 f1 : Value) (vs cs : List Value) (w : World) : Prop where
  blk : w.heap[Bk]? = some (.cells fs 44 (0, 0))
  at0 : fs[K.o]? = some f0
  at1 : fs[K.o + 1]? = some f1
  own0 : w.ownsRow B K.te 1 f0 vs.length vs
  own1 : w.ownsRow B K.te 1 f1 cs.length cs
  apart : ∀ g, f0.ownBlock = some g → f1.ownBlock ≠ some g

theorem cell_ne {w : World} {base : Nat} {e : TypeId} {size n Bk : Nat} {v : Value} {xs : List Value} {fs : Array Value} {T : TypeId} (h : w.ownsRow base e size v n xs) (hb : w.heap[Bk]? = some (.cells fs T (0, 0))) (hne : e ≠ T) : ∀ g, v.ownBlock = some g → g ≠ Bk := by
  intro g hg he
  subst he
  obtain ⟨c, hc⟩ := owns_block h hg
  rw [hb] at hc
  simp at hc
  exact hne hc.2.symm

/-- behind the first append -/
theorem book_first (G : K.Good) {Bk B : Nat} {fs : Array Value} {f0 f1 f0' l : Value} {vs cs : List Value} {w w1 : World} {n : Nat} {X : List Value} {A : Array Value} (h : BookAt K Bk B fs f0 f1 vs cs w) (hl : w.ownsRow B K.e K.size l n X)
    (hown : w1.ownsRow B K.te 1 f0' (vs.length + 1) (vs ++ [l])) (hgrow : (w.alloc (.cells A K.te)).grownBy w1 f0.ownBlock) (hat : f0'.ownBlock = f0.ownBlock ∨ f0'.ownBlock = some (w.alloc (.cells A K.te)).heap.size) :
    w1.heap[Bk]? = some (.cells fs 44 (0, 0)) ∧ BookAt K Bk B (fs.setIfInBounds K.o f0') f0' f1 (vs ++ [l]) cs (w1.setCell ⟨Bk, K.o, none⟩ f0') ∧
      (w1.setCell ⟨Bk, K.o, none⟩ f0').ownsRow B K.e K.size l n X ∧ Fr (fun g => g = Bk ∨ f0.ownBlock = some g) w (w1.setCell ⟨Bk, K.o, none⟩ f0') := by
  have hlt : Bk < w.heap.size := (Array.getElem?_eq_some_iff.1 h.blk).1
  have ne0 := cell_ne h.own0 h.blk G.teb
  have ne1 := cell_ne h.own1 h.blk G.teb
  have nel := cell_ne hl h.blk G.eb
  have old : ∀ g, g < w.heap.size → f0.ownBlock ≠ some g → w1.heap[g]? = w.heap[g]? := fun g hg hne => by
    rw [hgrow.block g (by simp; omega) (fun e => hne e.symm), Below.heap_alloc _ _ _ hg]
  have hb1 : w1.heap[Bk]? = some (.cells fs 44 (0, 0)) := by rw [old Bk hlt (fun e => ne0 Bk e rfl)]; exact h.blk
  have oth : ∀ g, g ≠ Bk → (w1.setCell ⟨Bk, K.o, none⟩ f0').heap[g]? = w1.heap[g]? := fun g hg => Below.heap_setCell _ _ _ _ hg
  have n0' : ∀ g, f0'.ownBlock = some g → g ≠ Bk := cell_ne hown hb1 G.teb
  refine ⟨hb1, ⟨set_block hb1 _, ?_, ?_, ?_, ?_, ?_⟩, ?_, ?_⟩
  · have := (Array.getElem?_eq_some_iff.1 h.at0).1
    simp [this]
  · have := h.at1
    simp [this]
  · have := owns_same hown (fun g hg => oth g (n0' g hg))
    simpa using this
  · refine owns_same h.own1 (fun g hg => ?_)
    rw [oth g (ne1 g hg), old g (h.own1.lt g hg).2 (fun e => h.apart g e hg)]
  · intro g hg hg1
    rcases hat with e | e
    · exact h.apart g (by rw [← e]; exact hg) hg1
    · rw [e] at hg
      cases hg
      have := (h.own1.lt _ hg1).2
      simp at this
      omega
  · refine owns_same hl (fun g hg => ?_)
    rw [oth g (nel g hg), old g (hl.lt g hg).2 (fun e => owns_apart h.own0 hl (fun e => G.ne e.symm) g e hg)]
  · refine ⟨hgrow.os, hgrow.tape, hgrow.output, ?_, ?_⟩
    · have := hgrow.size
      simp [World.setCell] at this ⊢
      omega
    · intro g hg hs
      rw [oth g (fun e => hs (Or.inl e)), old g hg (fun e => hs (Or.inr e))]

/-- behind the second append -/
theorem book_second (G : K.Good) {Bk B m : Nat} {fs : Array Value} {f0 f1 f1' c l : Value} {vs cs : List Value} {w w2 w3 : World} {n : Nat} {Y X : List Value} {A : Array Value} (h : BookAt K Bk B fs f0 f1 vs cs w) (hl : w.ownsRow B K.e K.size l n Y)
    (hc : w2.ownsRow w.heap.size K.e K.size c m X) (hb : Below w.heap.size w w2)
    (hown : w3.ownsRow B K.te 1 f1' (cs.length + 1) (cs ++ [c])) (hgrow : (w2.alloc (.cells A K.te)).grownBy w3 f1.ownBlock) (hat : f1'.ownBlock = f1.ownBlock ∨ f1'.ownBlock = some (w2.alloc (.cells A K.te)).heap.size) :
    w3.heap[Bk]? = some (.cells fs 44 (0, 0)) ∧ BookAt K Bk B (fs.setIfInBounds (K.o + 1) f1') f0 f1' vs (cs ++ [c]) (w3.setCell ⟨Bk, K.o + 1, none⟩ f1') ∧
      (w3.setCell ⟨Bk, K.o + 1, none⟩ f1').ownsRow B K.e K.size l n Y ∧ (w3.setCell ⟨Bk, K.o + 1, none⟩ f1').ownsRow w.heap.size K.e K.size c m X ∧ Fr (fun g => g = Bk ∨ f1.ownBlock = some g) w (w3.setCell ⟨Bk, K.o + 1, none⟩ f1') := by
  have hlt : Bk < w.heap.size := (Array.getElem?_eq_some_iff.1 h.blk).1
  have hsz := hb.size
  have ne0 := cell_ne h.own0 h.blk G.teb
  have ne1 := cell_ne h.own1 h.blk G.teb
  have nel := cell_ne hl h.blk G.eb
  have own2 : w2.ownsRow B K.te 1 f1 cs.length cs := owns_same h.own1 (fun g hg => hb.block g (h.own1.lt g hg).2)
  have old2 : ∀ g, g < w2.heap.size → f1.ownBlock ≠ some g → w3.heap[g]? = w2.heap[g]? := fun g hg hne => by
    rw [hgrow.block g (by simp; omega) (fun e => hne e.symm), Below.heap_alloc _ _ _ hg]
  have old : ∀ g, g < w.heap.size → f1.ownBlock ≠ some g → w3.heap[g]? = w.heap[g]? := fun g hg hne => by
    rw [old2 g (by omega) hne, hb.block g hg]
  have hb1 : w3.heap[Bk]? = some (.cells fs 44 (0, 0)) := by rw [old Bk hlt (fun e => ne1 Bk e rfl)]; exact h.blk
  have oth : ∀ g, g ≠ Bk → (w3.setCell ⟨Bk, K.o + 1, none⟩ f1').heap[g]? = w3.heap[g]? := fun g hg => Below.heap_setCell _ _ _ _ hg
  have n1' : ∀ g, f1'.ownBlock = some g → g ≠ Bk := cell_ne hown hb1 G.teb
  refine ⟨hb1, ⟨set_block hb1 _, ?_, ?_, ?_, ?_, ?_⟩, ?_, ?_, ?_⟩
  · have := h.at0
    simp [this]
  · have := (Array.getElem?_eq_some_iff.1 h.at1).1
    simp [this]
  · refine owns_same h.own0 (fun g hg => ?_)
    rw [oth g (ne0 g hg), old g (h.own0.lt g hg).2 (fun e => h.apart g hg e)]
  · have := owns_same hown (fun g hg => oth g (n1' g hg))
    simpa using this
  · intro g hg hg1
    rcases hat with e | e
    · exact h.apart g hg (by rw [← e]; exact hg1)
    · rw [e] at hg1
      cases hg1
      have := (h.own0.lt _ hg).2
      simp at this
      omega
  · refine owns_same hl (fun g hg => ?_)
    rw [oth g (nel g hg), old g (hl.lt g hg).2 (fun e => owns_apart h.own1 hl (fun e => G.ne e.symm) g e hg)]
  · refine owns_same hc (fun g hg => ?_)
    have h1 := hc.lt g hg
    rw [oth g (by omega), old2 g h1.2 (fun e => owns_apart own2 hc (fun e => G.ne e.symm) g e hg)]
  · refine ⟨hgrow.os.trans hb.os, hgrow.tape.trans hb.tape, hgrow.output.trans hb.output, ?_, ?_⟩
    · have := hgrow.size
      simp [World.setCell] at this ⊢
      omega
    · intro g hg hs
      rw [oth g (fun e => hs (Or.inl e)), old g hg (fun e => hs (Or.inr e))]

theorem cell_alloc_of {w : World} {a : Addr} {v : Value} (o : Obj) (h : w.cell? a = some v) : (w.alloc o).cell? a = some v := by rw [World.cell?_alloc_lt (h := cell_in h)]; exact h

theorem set_two (fs : Array Value) (a b : Value) (o : Nat) : ∀ i, i ≠ o → i ≠ o + 1 → ((fs.setIfInBounds o a).setIfInBounds (o + 1) b)[i]? = fs[i]? := by
  intro i hi hj
  rw [Array.getElem?_setIfInBounds_ne (by omega), Array.getElem?_setIfInBounds_ne (by omega)]

theorem hid {p : Prop} (h : p) : Hid p := h

theorem frozen_of_block {w : World} {g i : Nat} {cs : Array Value} {e : TypeId} (h : w.heap[g]? = some (.cells cs e (0, 0))) : w.frozen? ⟨g, i, none⟩ = false := by
  simp [World.frozen?, h]

theorem Fr.undrewN {S : Nat → Prop} {w w' : World} {n : Nat} (h : Fr S (w.drewN n) w') : Fr S w w' := ⟨h.os, h.tape, h.output, h.size, h.block⟩

/-- lists, place by place, as a list -/
theorem readsAll_of {w : World} {vs : List Value} {f : Nat → List α} (h : ∀ (i : Nat) v, vs[i]? = some v → Reads w v (f i).length (K.cells (f i))) : ReadsAll K w vs ((List.range vs.length).map f) := by
  refine ⟨by simp, ?_⟩
  intro i v xs hi hx
  have hlt : i < vs.length := (List.getElem?_eq_some_iff.1 hi).1
  simp [hlt] at hx
  rw [← hx]
  exact h i v hi

theorem lens_of {n : Nat} {f : Nat → List α} {m : Nat} (h : ∀ i, (f i).length ≤ m) : ∀ xs ∈ (List.range n).map f, xs.length ≤ m := by
  intro xs hx
  simp at hx
  obtain ⟨i, _, rfl⟩ := hx
  exact h i

theorem marks_of {n : Nat} {f : Nat → List α} (h : ∀ i, i < n → f i = marksK K i 0 (f i).length) : ∀ (i : Nat) xs, ((List.range n).map f)[i]? = some xs → xs = marksK K i 0 xs.length := by
  intro i xs hx
  have hlt : i < n := by simpa using (List.getElem?_eq_some_iff.1 hx).1
  simp [hlt] at hx
  rw [← hx]
  exact h i hlt

end Go.Proofs.YtcheclhiekdjmaaGreat
