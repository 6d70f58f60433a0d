/- An arena that is read, or none; blocks of cells that stay, are written, are none of others: whatever lies in them. -/
import Derived.Test.YtidpkflgibpldaaDoorMb
import Derived.Deep.RegionHeld3
import Derived.Deep.DeepCutAuto
import Derived.BigQuiet
import Derived.RangeFuncOwn
namespace Go.Proofs.YtidpkflgibpldaaDoor
open Go.RowKit

theorem BlkAt.later {w w' : World} {g : Nat} {e : TypeId} {cs : List Value} (h : BlkAt w g e cs) (hb : Below w.heap.size w w') : BlkAt w' g e cs := (hb.block g h.lt).trans h
theorem BlkAt.alloc {w : World} {g : Nat} {e : TypeId} {cs : List Value} (h : BlkAt w g e cs) (o : Obj) : BlkAt (w.alloc o) g e cs := (Below.heap_alloc w o g h.lt).trans h
theorem BlkAt.made {w : World} {g : Nat} (hg : g = w.heap.size) (e : TypeId) (cs : List Value) : BlkAt (w.alloc (.cells cs.toArray e)) g e cs := by subst hg; exact BlkAt.new w e cs
theorem BlkAt.off {w : World} {g : Nat} {e : TypeId} {cs : List Value} (h : BlkAt w g e cs) {a : Addr} (ha : g ≠ a.block) (u : Value) : BlkAt (w.setCell a u) g e cs := (heap_setCell_other w a g u ha).trans h
theorem BlkAt.drewN {w : World} {g : Nat} {e : TypeId} {cs : List Value} (h : BlkAt w g e cs) (n : Nat) : BlkAt (w.drewN n) g e cs := h

/-- six cells are written -/
theorem BlkAt.set6 {w : World} {g : Nat} {e : TypeId} {a0 a1 a2 a3 a4 a5 : Value} (h : BlkAt w g e [a0, a1, a2, a3, a4, a5]) (b0 b1 b2 b3 b4 b5 : Value) :
    BlkAt ((((((w.setCell ⟨g, 0, none⟩ b0).setCell ⟨g, 1, none⟩ b1).setCell ⟨g, 2, none⟩ b2).setCell ⟨g, 3, none⟩ b3).setCell ⟨g, 4, none⟩ b4).setCell ⟨g, 5, none⟩ b5) g e [b0, b1, b2, b3, b4, b5] :=
  (((((h.set 0 b0).set 1 b1).set 2 b2).set 3 b3).set 4 b4).set 5 b5

theorem below6 {B : Nat} {a w : World} {g : Nat} (h : Below B a w) (hg : B ≤ g) (b0 b1 b2 b3 b4 b5 : Value) :
    Below B a ((((((w.setCell ⟨g, 0, none⟩ b0).setCell ⟨g, 1, none⟩ b1).setCell ⟨g, 2, none⟩ b2).setCell ⟨g, 3, none⟩ b3).setCell ⟨g, 4, none⟩ b4).setCell ⟨g, 5, none⟩ b5) :=
  (((((h.setCell (p := ⟨g, 0, none⟩) hg b0).setCell (p := ⟨g, 1, none⟩) hg b1).setCell (p := ⟨g, 2, none⟩) hg b2).setCell (p := ⟨g, 3, none⟩) hg b3).setCell (p := ⟨g, 4, none⟩) hg b4).setCell (p := ⟨g, 5, none⟩) hg b5

theorem BlkAt.off6 {w : World} {g k : Nat} {e : TypeId} {cs : List Value} (h : BlkAt w g e cs) (hg : g ≠ k) (b0 b1 b2 b3 b4 b5 : Value) :
    BlkAt ((((((w.setCell ⟨k, 0, none⟩ b0).setCell ⟨k, 1, none⟩ b1).setCell ⟨k, 2, none⟩ b2).setCell ⟨k, 3, none⟩ b3).setCell ⟨k, 4, none⟩ b4).setCell ⟨k, 5, none⟩ b5) g e cs :=
  (((((h.off (a := ⟨k, 0, none⟩) hg b0).off (a := ⟨k, 1, none⟩) hg b1).off (a := ⟨k, 2, none⟩) hg b2).off (a := ⟨k, 3, none⟩) hg b3).off (a := ⟨k, 4, none⟩) hg b4).off (a := ⟨k, 5, none⟩) hg b5

/-- nothing there -/
def st0 : St := ⟨[], []⟩
theorem st0_get (h : Int) : st0.get h = sl0 := st0.get_out (by show h < 1 ∨ (0 : Int) < h; omega)
theorem st0_cnt (h : Int) : st0.cnt h = 0 := by unfold St.cnt; rw [st0_get]; rfl

/-- an arena, or none -/
def Rd (p : Value) (S : St) (w : World) : Prop :=
  Tab w ∧ ((∃ o q md, p = .pointer (some ⟨o.G, 0, none⟩) ∧ ArAt w o q S md) ∨ (p = .pointer none ∧ S = st0))

theorem Rd.tab {p : Value} {S : St} {w : World} (h : Rd p S w) : Tab w := h.1

theorem Rd.later {p : Value} {S : St} {w w' : World} (h : Rd p S w) (hb : Below w.heap.size w w') : Rd p S w' := by
  obtain ⟨hT, h⟩ := h
  refine ⟨tab_below hT hb, ?_⟩
  rcases h with ⟨o, q, md, rfl, I, hT, h0, fw, wv, hR, hB⟩ | h
  · exact Or.inl ⟨o, q, md, rfl, I, tab_below hT hb, h0, fw, wv, hR.off (Fr.of_below hb) (fun _ _ e => e), hB⟩
  · exact Or.inr h

theorem AB.rd {w0 : World} {G : Nat} {w : World} {S : St} {md k : Nat} (h : AB w0 G w S md k) : Rd (.pointer (some ⟨G, 0, none⟩)) S w := by
  obtain ⟨o, q, rfl, hA, -⟩ := h
  exact ⟨hA.2.1, Or.inl ⟨o, q, md, rfl, hA⟩⟩

theorem Rd.nil {w : World} (hT : Tab w) : Rd (.pointer none) st0 w := ⟨hT, Or.inr ⟨rfl, rfl⟩⟩

theorem Rd.size {p : Value} {S : St} {w : World} (h : Rd p S w) : S.n ≤ 6000 := by
  rcases h.2 with ⟨o, q, md, -, hA⟩ | ⟨-, rfl⟩
  · exact hA.1.size
  · exact Nat.zero_le _

theorem size_nil (w : World) : Calls Tryd.prog 21 #[.pointer none] w fun e w' => e = .returned (.int .i64 0) ∧ w' = w := by
  go_enter Tryd.func21, Tryd.ntmps21
  go_wp2
  go_ret
  exact ⟨rfl, rfl⟩

theorem used_nil (w : World) : Calls Tryd.prog 6 #[.pointer none] w fun e w' => e = .returned (.int .i64 0) ∧ w' = w := by
  go_enter Tryd.func6, Tryd.ntmps6
  go_wp2
  go_ret
  exact ⟨rfl, rfl⟩

theorem has_nil (h : Int) (w : World) : Calls Tryd.prog 47 #[.pointer none, .int .i64 h] w fun e w' => e = .returned (.bool false) ∧ w' = w := by
  have T : Hid (∀ W, _) := size_nil
  by_cases h1 : 1 ≤ h
  · have d1 : decide (1 ≤ h) = true := decide_eq_true h1
    have d2 : decide (h ≤ 0) = false := decide_eq_false (by omega)
    go_enter Tryd.func47, Tryd.ntmps47
    go_wp2_with (go_at_call 21; refine (T.out _).mono ?_; rintro e w' ⟨rfl, rfl⟩)
    go_ret
    exact ⟨rfl, rfl⟩
  · have d1 : decide (1 ≤ h) = false := decide_eq_false h1
    go_enter Tryd.func47, Tryd.ntmps47
    go_wp2
    go_ret
    exact ⟨rfl, rfl⟩

theorem count_nil (h : Int) (w : World) : Calls Tryd.prog 38 #[.pointer none, .int .i64 h] w fun e w' => e = .returned (.int .i64 0) ∧ w' = w := by
  have T : Hid (∀ W, _) := has_nil h
  go_enter Tryd.func38, Tryd.ntmps38
  go_wp2_with (go_at_call 47; refine (T.out _).mono ?_; rintro e w' ⟨rfl, rfl⟩)
  go_ret
  exact ⟨rfl, rfl⟩

set_option maxRecDepth 100000 in
theorem get_nil (h : Int) (w : World) : Calls Tryd.prog 48 #[.pointer none, .int .i64 h] w fun e w' => e = .returned (.tuple #[ndV nd0, .bool false]) ∧ Below w.heap.size w w' := by
  have T : Hid (∀ W, _) := has_nil h
  go_enter Tryd.func48, Tryd.ntmps48
  go_wp2_with (go_at_call 47; fail)
  refine (T.out _).mono ?_
  rintro e w1 ⟨rfl, hw⟩
  obtain rfl := hw.symm
  go_wp2
  exact bodyPost_ret (v := .tuple #[ndV nd0, .bool false]) (by simp [results, Tryd.results48, go_sem, ndV, nd0]) rfl ⟨rfl, (Below.refl w.heap.size w).alloc (Nat.le_refl _) _⟩

theorem getR {p : Value} {S : St} {w : World} (h : Rd p S w) (x : Int) :
    Calls Tryd.prog 48 #[p, .int .i64 x] w fun e w' => e = .returned (.tuple #[ndV (S.get x).nd, .bool (S.isB x)]) ∧ Below w.heap.size w w' := by
  rcases h.2 with ⟨o, q, md, rfl, I, hT, h0, fw, wv, hR, hB⟩ | ⟨rfl, rfl⟩
  · exact (get_any hR x).mono fun e w' ⟨he, _, _, hb⟩ => ⟨he, hb⟩
  · have e1 : (st0.get x).nd = nd0 := by rw [st0_get]; rfl
    have e2 : st0.isB x = false := by unfold St.isB; rw [e1]; rfl
    rw [e1, e2]
    exact get_nil x w

theorem countR {p : Value} {S : St} {w : World} (h : Rd p S w) (x : Int) :
    Calls Tryd.prog 38 #[p, .int .i64 x] w fun e w' => e = .returned (.int .i64 (S.cnt x : Int)) ∧ w' = w := by
  rcases h.2 with ⟨o, q, md, rfl, I, hT, h0, fw, wv, hR, hB⟩ | ⟨rfl, rfl⟩
  · exact count_any hR x
  · rw [st0_cnt]
    exact count_nil x w

theorem sizeR {p : Value} {S : St} {w : World} (h : Rd p S w) :
    Calls Tryd.prog 21 #[p] w fun e w' => e = .returned (.int .i64 (S.n : Int)) ∧ w' = w := by
  rcases h.2 with ⟨o, q, md, rfl, I, hT, h0, fw, wv, hR, hB⟩ | ⟨rfl, rfl⟩
  · exact size_any hR
  · exact size_nil w

theorem usedR {p : Value} {S : St} {w : World} (h : Rd p S w) :
    Calls Tryd.prog 6 #[p] w fun e w' => e = .returned (.int .i64 (usedN S.sl : Int)) ∧ w' = w := by
  rcases h.2 with ⟨o, q, md, rfl, I, hT, h0, fw, wv, hR, hB⟩ | ⟨rfl, rfl⟩
  · exact used_any hR
  · exact used_nil w

/-- these blocks, and all that was there -/
structure Bs (w : World) (l : List (Nat × TypeId × List Value)) (W : World) : Prop where
  b : Below w.heap.size w W
  all : ∀ x ∈ l, BlkAt W x.1 x.2.1 x.2.2

theorem Bs.later {w W W' : World} {l : List (Nat × TypeId × List Value)} (h : Bs w l W) (hb : Below W.heap.size W W') : Bs w l W' :=
  ⟨h.b.trans (hb.mono h.b.size), fun x hx => (h.all x hx).later hb⟩
theorem Bs.drew {w W : World} {l : List (Nat × TypeId × List Value)} (h : Bs w l W) : Bs w l W.drew := ⟨below_drewN h.b 1, fun x hx => h.all x hx⟩
theorem Bs.nil {w W : World} (h : Below w.heap.size w W) : Bs w [] W := ⟨h, fun _ h => by cases h⟩
theorem Bs.cons {w W : World} {l : List (Nat × TypeId × List Value)} {g : Nat} {e : TypeId} {cs : List Value} (h : BlkAt W g e cs) (t : Bs w l W) : Bs w ((g, e, cs) :: l) W :=
  ⟨t.b, fun y hy => by
    rcases List.mem_cons.1 hy with rfl | hy
    · exact h
    · exact t.all y hy⟩
theorem Bs.at {w W : World} {l : List (Nat × TypeId × List Value)} (h : Bs w l W) (i : Nat) {g : Nat} {e : TypeId} {cs : List Value} (hi : l[i]? = some (g, e, cs)) : BlkAt W g e cs := h.all (g, e, cs) (List.mem_of_getElem? hi)

theorem heldB {R S : World → Prop} (mk : ∀ W, R W → S W) (out : ∀ W, S W → R W) (later : ∀ W W', R W → Below W.heap.size W W' → R W') {P : Program} {f : FuncId} {args : Array Value} {v : Value} {W : World} (hS : S W) (t : R W → Calls P f args W fun e w' => e = .returned v ∧ Below W.heap.size W w') :
    Calls P f args W fun e w' => e = .returned v ∧ S w' :=
  (t (out W hS)).mono fun _ W' ⟨h1, h2⟩ => ⟨h1, mk W' (later W W' (out W hS) h2)⟩

theorem heldQ {R S : World → Prop} (mk : ∀ W, R W → S W) (out : ∀ W, S W → R W) (later : ∀ W W', R W → Below W.heap.size W W' → R W') {P : Program} {f : FuncId} {args : Array Value} {Q : Ending → World → Prop} {W : World} (hS : S W) (t : R W → Calls P f args W fun e w' => Q e w' ∧ Below W.heap.size W w') :
    Calls P f args W fun e w' => Q e w' ∧ S w' ∧ Below W.heap.size W w' :=
  (t (out W hS)).mono fun _ W' ⟨h1, h2⟩ => ⟨h1, mk W' (later W W' (out W hS) h2), h2⟩

/-- a block of so many cells -/
def BlkN (W : World) (g : Nat) (e : TypeId) (n : Nat) : Prop := ∃ cs : List Value, cs.length = n ∧ BlkAt W g e cs
theorem BlkN.later {W W' : World} {g : Nat} {e : TypeId} {n : Nat} (h : BlkN W g e n) (hb : Below W.heap.size W W') : BlkN W' g e n := by
  obtain ⟨cs, h1, h2⟩ := h
  exact ⟨cs, h1, h2.later hb⟩
theorem BlkN.set {W : World} {g : Nat} {e : TypeId} {n : Nat} (h : BlkN W g e n) (j : Nat) (u : Value) : BlkN (W.setCell ⟨g, j, none⟩ u) g e n := by
  obtain ⟨cs, h1, h2⟩ := h
  exact ⟨cs.set j u, by rw [List.length_set]; exact h1, h2.set j u⟩
theorem BlkN.frozen {W : World} {g : Nat} {e : TypeId} {n : Nat} (h : BlkN W g e n) (j : Nat) : W.frozen? ⟨g, j, none⟩ = false := by
  obtain ⟨cs, h1, h2⟩ := h
  exact h2.frozen j
theorem BlkAt.cells {W : World} {g : Nat} {e : TypeId} {cs : List Value} (h : BlkAt W g e cs) : BlkN W g e cs.length := ⟨cs, rfl, h⟩
theorem BlkN.lt {W : World} {g : Nat} {e : TypeId} {n : Nat} (h : BlkN W g e n) : g < W.heap.size := by
  obtain ⟨cs, -, h2⟩ := h
  exact h2.lt
theorem BlkN.set6 {W : World} {g : Nat} {e : TypeId} (h : BlkN W g e 6) (b0 b1 b2 b3 b4 b5 : Value) :
    BlkN ((((((W.setCell ⟨g, 0, none⟩ b0).setCell ⟨g, 1, none⟩ b1).setCell ⟨g, 2, none⟩ b2).setCell ⟨g, 3, none⟩ b3).setCell ⟨g, 4, none⟩ b4).setCell ⟨g, 5, none⟩ b5) g e 6 :=
  (((((h.set 0 b0).set 1 b1).set 2 b2).set 3 b3).set 4 b4).set 5 b5
theorem Bs.set6 {w W : World} {l : List (Nat × TypeId × List Value)} (h : Bs w l W) {g : Nat} (hw : w.heap.size ≤ g) (hg : ∀ x ∈ l, x.1 ≠ g) (b0 b1 b2 b3 b4 b5 : Value) :
    Bs w l ((((((W.setCell ⟨g, 0, none⟩ b0).setCell ⟨g, 1, none⟩ b1).setCell ⟨g, 2, none⟩ b2).setCell ⟨g, 3, none⟩ b3).setCell ⟨g, 4, none⟩ b4).setCell ⟨g, 5, none⟩ b5) :=
  ⟨below6 h.b hw _ _ _ _ _ _, fun x hx => (h.all x hx).off6 (hg x hx) _ _ _ _ _ _⟩


theorem BlkAt.set2 {w : World} {g : Nat} {e : TypeId} {a0 a1 : Value} (h : BlkAt w g e [a0, a1]) (b0 b1 : Value) : BlkAt ((w.setCell ⟨g, 0, none⟩ b0).setCell ⟨g, 1, none⟩ b1) g e [b0, b1] := ((h.set 0 b0).set 1 b1)
theorem below2 {B : Nat} {a w : World} {g : Nat} (h : Below B a w) (hg : B ≤ g) (b0 b1 : Value) : Below B a ((w.setCell ⟨g, 0, none⟩ b0).setCell ⟨g, 1, none⟩ b1) := ((h.setCell (p := ⟨g, 0, none⟩) hg b0).setCell (p := ⟨g, 1, none⟩) hg b1)
theorem BlkAt.off2 {w : World} {g k : Nat} {e : TypeId} {cs : List Value} (h : BlkAt w g e cs) (hg : g ≠ k) (b0 b1 : Value) : BlkAt ((w.setCell ⟨k, 0, none⟩ b0).setCell ⟨k, 1, none⟩ b1) g e cs := ((h.off (a := ⟨k, 0, none⟩) hg b0).off (a := ⟨k, 1, none⟩) hg b1)
theorem BlkAt.set5 {w : World} {g : Nat} {e : TypeId} {a0 a1 a2 a3 a4 : Value} (h : BlkAt w g e [a0, a1, a2, a3, a4]) (b0 b1 b2 b3 b4 : Value) : BlkAt (((((w.setCell ⟨g, 0, none⟩ b0).setCell ⟨g, 1, none⟩ b1).setCell ⟨g, 2, none⟩ b2).setCell ⟨g, 3, none⟩ b3).setCell ⟨g, 4, none⟩ b4) g e [b0, b1, b2, b3, b4] := (((((h.set 0 b0).set 1 b1).set 2 b2).set 3 b3).set 4 b4)
theorem below5 {B : Nat} {a w : World} {g : Nat} (h : Below B a w) (hg : B ≤ g) (b0 b1 b2 b3 b4 : Value) : Below B a (((((w.setCell ⟨g, 0, none⟩ b0).setCell ⟨g, 1, none⟩ b1).setCell ⟨g, 2, none⟩ b2).setCell ⟨g, 3, none⟩ b3).setCell ⟨g, 4, none⟩ b4) := (((((h.setCell (p := ⟨g, 0, none⟩) hg b0).setCell (p := ⟨g, 1, none⟩) hg b1).setCell (p := ⟨g, 2, none⟩) hg b2).setCell (p := ⟨g, 3, none⟩) hg b3).setCell (p := ⟨g, 4, none⟩) hg b4)
theorem BlkAt.off5 {w : World} {g k : Nat} {e : TypeId} {cs : List Value} (h : BlkAt w g e cs) (hg : g ≠ k) (b0 b1 b2 b3 b4 : Value) : BlkAt (((((w.setCell ⟨k, 0, none⟩ b0).setCell ⟨k, 1, none⟩ b1).setCell ⟨k, 2, none⟩ b2).setCell ⟨k, 3, none⟩ b3).setCell ⟨k, 4, none⟩ b4) g e cs := (((((h.off (a := ⟨k, 0, none⟩) hg b0).off (a := ⟨k, 1, none⟩) hg b1).off (a := ⟨k, 2, none⟩) hg b2).off (a := ⟨k, 3, none⟩) hg b3).off (a := ⟨k, 4, none⟩) hg b4)
theorem BlkAt.set7 {w : World} {g : Nat} {e : TypeId} {a0 a1 a2 a3 a4 a5 a6 : Value} (h : BlkAt w g e [a0, a1, a2, a3, a4, a5, a6]) (b0 b1 b2 b3 b4 b5 b6 : Value) : BlkAt (((((((w.setCell ⟨g, 0, none⟩ b0).setCell ⟨g, 1, none⟩ b1).setCell ⟨g, 2, none⟩ b2).setCell ⟨g, 3, none⟩ b3).setCell ⟨g, 4, none⟩ b4).setCell ⟨g, 5, none⟩ b5).setCell ⟨g, 6, none⟩ b6) g e [b0, b1, b2, b3, b4, b5, b6] := (((((((h.set 0 b0).set 1 b1).set 2 b2).set 3 b3).set 4 b4).set 5 b5).set 6 b6)
theorem below7 {B : Nat} {a w : World} {g : Nat} (h : Below B a w) (hg : B ≤ g) (b0 b1 b2 b3 b4 b5 b6 : Value) : Below B a (((((((w.setCell ⟨g, 0, none⟩ b0).setCell ⟨g, 1, none⟩ b1).setCell ⟨g, 2, none⟩ b2).setCell ⟨g, 3, none⟩ b3).setCell ⟨g, 4, none⟩ b4).setCell ⟨g, 5, none⟩ b5).setCell ⟨g, 6, none⟩ b6) := (((((((h.setCell (p := ⟨g, 0, none⟩) hg b0).setCell (p := ⟨g, 1, none⟩) hg b1).setCell (p := ⟨g, 2, none⟩) hg b2).setCell (p := ⟨g, 3, none⟩) hg b3).setCell (p := ⟨g, 4, none⟩) hg b4).setCell (p := ⟨g, 5, none⟩) hg b5).setCell (p := ⟨g, 6, none⟩) hg b6)
theorem BlkAt.off7 {w : World} {g k : Nat} {e : TypeId} {cs : List Value} (h : BlkAt w g e cs) (hg : g ≠ k) (b0 b1 b2 b3 b4 b5 b6 : Value) : BlkAt (((((((w.setCell ⟨k, 0, none⟩ b0).setCell ⟨k, 1, none⟩ b1).setCell ⟨k, 2, none⟩ b2).setCell ⟨k, 3, none⟩ b3).setCell ⟨k, 4, none⟩ b4).setCell ⟨k, 5, none⟩ b5).setCell ⟨k, 6, none⟩ b6) g e cs := (((((((h.off (a := ⟨k, 0, none⟩) hg b0).off (a := ⟨k, 1, none⟩) hg b1).off (a := ⟨k, 2, none⟩) hg b2).off (a := ⟨k, 3, none⟩) hg b3).off (a := ⟨k, 4, none⟩) hg b4).off (a := ⟨k, 5, none⟩) hg b5).off (a := ⟨k, 6, none⟩) hg b6)
theorem Bs.set2 {w W : World} {l : List (Nat × TypeId × List Value)} (h : Bs w l W) {g : Nat} (hw : w.heap.size ≤ g) (hg : ∀ x ∈ l, x.1 ≠ g) (b0 b1 : Value) : Bs w l ((W.setCell ⟨g, 0, none⟩ b0).setCell ⟨g, 1, none⟩ b1) :=
  ⟨below2 h.b hw _ _ , fun x hx => (h.all x hx).off2 (hg x hx) _ _ ⟩
theorem Bs.set5 {w W : World} {l : List (Nat × TypeId × List Value)} (h : Bs w l W) {g : Nat} (hw : w.heap.size ≤ g) (hg : ∀ x ∈ l, x.1 ≠ g) (b0 b1 b2 b3 b4 : Value) : Bs w l (((((W.setCell ⟨g, 0, none⟩ b0).setCell ⟨g, 1, none⟩ b1).setCell ⟨g, 2, none⟩ b2).setCell ⟨g, 3, none⟩ b3).setCell ⟨g, 4, none⟩ b4) :=
  ⟨below5 h.b hw _ _ _ _ _ , fun x hx => (h.all x hx).off5 (hg x hx) _ _ _ _ _ ⟩
theorem BlkN.set5 {W : World} {g : Nat} {e : TypeId} (h : BlkN W g e 5) (b0 b1 b2 b3 b4 : Value) : BlkN (((((W.setCell ⟨g, 0, none⟩ b0).setCell ⟨g, 1, none⟩ b1).setCell ⟨g, 2, none⟩ b2).setCell ⟨g, 3, none⟩ b3).setCell ⟨g, 4, none⟩ b4) g e 5 := (((((h.set 0 b0).set 1 b1).set 2 b2).set 3 b3).set 4 b4)

theorem countQ {p : Value} {S : St} {w : World} (h : Rd p S w) (x : Int) :
    Calls Tryd.prog 38 #[p, .int .i64 x] w fun e w' => e = .returned (.int .i64 (S.cnt x : Int)) ∧ Below w.heap.size w w' :=
  (countR h x).mono fun e w' ⟨h1, h2⟩ => ⟨h1, by rw [h2]; exact Below.refl _ _⟩
theorem sizeQ {p : Value} {S : St} {w : World} (h : Rd p S w) :
    Calls Tryd.prog 21 #[p] w fun e w' => e = .returned (.int .i64 (S.n : Int)) ∧ Below w.heap.size w w' :=
  (sizeR h).mono fun e w' ⟨h1, h2⟩ => ⟨h1, by rw [h2]; exact Below.refl _ _⟩
theorem usedQ {p : Value} {S : St} {w : World} (h : Rd p S w) :
    Calls Tryd.prog 6 #[p] w fun e w' => e = .returned (.int .i64 (usedN S.sl : Int)) ∧ Below w.heap.size w w' :=
  (usedR h).mono fun e w' ⟨h1, h2⟩ => ⟨h1, by rw [h2]; exact Below.refl _ _⟩

theorem wrap_i {n : Int} (h0 : 0 ≤ n) (h : n ≤ 2305843009213693951) : IntKind.i64.wrap n = n := by rw [IntKind.wrap_i64]; omega

theorem BlkN.ne {W : World} {g b : Nat} {e e' : TypeId} {cs : List Value} {n : Nat} (h : BlkAt W g e cs) (hB : BlkN W b e' n) (hn : cs.length ≠ n) : g ≠ b := by
  rintro rfl
  obtain ⟨ds, h1, h2⟩ := hB
  have h3 := h.symm.trans h2
  simp at h3
  exact hn (by rw [h3.1]; exact h1)
theorem wrap_in {n : Int} (h0 : -9223372036854775808 ≤ n) (h : n ≤ 9223372036854775807) : IntKind.i64.wrap n = n := by rw [IntKind.wrap_i64]; omega

theorem own_ne {W : World} {base g : Nat} {e e' : TypeId} {size n : Nat} {v : Value} {xs cs : List Value} (h : W.ownsRow base e size v n xs) (hB : BlkAt W g e' cs) (he : e ≠ e') : v.ownBlock ≠ some g := by
  rcases h.2 with ⟨rfl, -⟩ | ⟨g', cap, cur, rfl, -, hg, -⟩
  · intro e; cases e
  · intro e0
    have e1 : g' = g := by simpa [Value.ownBlock] using e0
    subst e1
    unfold BlkAt at hB
    rw [hg] at hB
    simp at hB
    exact he hB.2

theorem BlkAt.grown {W W' : World} {g : Nat} {e : TypeId} {cs : List Value} {row : Option Nat} (h : BlkAt W g e cs) (hg : W.grownBy W' row) (hn : row ≠ some g) : BlkAt W' g e cs := (hg.block g h.lt (fun e => hn e.symm)).trans h

theorem ownsRow_later {W W' : World} {base : Nat} {e : TypeId} {size n : Nat} {v : Value} {xs : List Value} (h : W.ownsRow base e size v n xs) (hb : Below W.heap.size W W') : W'.ownsRow base e size v n xs := by
  refine ⟨h.1, ?_⟩
  rcases h.2 with h2 | ⟨g, cap, cur, h1, h2, h3, h4⟩
  · exact Or.inl h2
  · exact Or.inr ⟨g, cap, cur, h1, h2, (hb.block g (Array.getElem?_eq_some_iff.1 h3).1).trans h3, h4⟩

theorem ownsRow_off {W W' : World} {base b : Nat} {e e' : TypeId} {size n : Nat} {v : Value} {xs cs : List Value} (h : W.ownsRow base e size v n xs) (hB : BlkAt W b e' cs) (he : e ≠ e') (hW : ∀ g, g ≠ b → W'.heap[g]? = W.heap[g]?) : W'.ownsRow base e size v n xs := by
  refine ⟨h.1, ?_⟩
  have hne := own_ne h hB he
  rcases h.2 with h2 | ⟨g, cap, cur, rfl, h2, h3, h4⟩
  · exact Or.inl h2
  · exact Or.inr ⟨g, cap, cur, rfl, h2, (hW g (fun e0 => hne (by rw [← e0]; rfl))).trans h3, h4⟩

theorem heap_set6 {W : World} {k : Nat} (b0 b1 b2 b3 b4 b5 : Value) (g : Nat) (hg : g ≠ k) : ((((((W.setCell ⟨k, 0, none⟩ b0).setCell ⟨k, 1, none⟩ b1).setCell ⟨k, 2, none⟩ b2).setCell ⟨k, 3, none⟩ b3).setCell ⟨k, 4, none⟩ b4).setCell ⟨k, 5, none⟩ b5).heap[g]? = W.heap[g]? := by
  rw [heap_setCell_other _ ⟨k, 5, none⟩ g b5 hg, heap_setCell_other _ ⟨k, 4, none⟩ g b4 hg, heap_setCell_other _ ⟨k, 3, none⟩ g b3 hg, heap_setCell_other _ ⟨k, 2, none⟩ g b2 hg, heap_setCell_other _ ⟨k, 1, none⟩ g b1 hg, heap_setCell_other _ ⟨k, 0, none⟩ g b0 hg]

theorem heap_set5 {W : World} {k : Nat} (b0 b1 b2 b3 b4 : Value) (g : Nat) (hg : g ≠ k) : ((((((W.setCell ⟨k, 0, none⟩ b0).setCell ⟨k, 1, none⟩ b1).setCell ⟨k, 2, none⟩ b2).setCell ⟨k, 3, none⟩ b3).setCell ⟨k, 4, none⟩ b4)).heap[g]? = W.heap[g]? := by
  rw [heap_setCell_other _ ⟨k, 4, none⟩ g b4 hg, heap_setCell_other _ ⟨k, 3, none⟩ g b3 hg, heap_setCell_other _ ⟨k, 2, none⟩ g b2 hg, heap_setCell_other _ ⟨k, 1, none⟩ g b1 hg, heap_setCell_other _ ⟨k, 0, none⟩ g b0 hg]

/-- cells' blocks stay where others turn -/
theorem BlkAt.own {W W' : World} {g : Nat} {e : TypeId} {cs : List Value} {row : Option Nat} (h : BlkAt W g e cs) (hg : W.grownBy W' row) (hr : ∀ r, row = some r → ∃ o : Obj, W.heap[r]? = some o ∧ o.isCells = false) : BlkAt W' g e cs := by
  refine h.grown hg (fun e0 => ?_)
  obtain ⟨o, h1, h2⟩ := hr g e0
  unfold BlkAt at h
  rw [h] at h1
  cases h1
  cases h2


end Go.Proofs.YtidpkflgibpldaaDoor
