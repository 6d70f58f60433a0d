/- An arena that is read, or none: what is told; blocks that stay. -/
import Derived.Test.YtfkfnibeipddaabDoorMb
import Derived.Test.YtfkfnibeipddaabDoorBu
import Derived.Test.YtfkfnibeipddaabDoorMc
import Derived.Deep.RegionHeld3
import Derived.Deep.DeepCutAuto
import Derived.BigQuiet
namespace Go.Proofs.YtfkfnibeipddaabDoor
open Go.RowKit

theorem BlkAt.later {w w' : World} {g : Nat} {e : TypeId} {cs : List Value} (h : BlkAt w g e cs) (hb : Below w.heap.size w w') : BlkAt w' g e cs := (hb.block g h.lt).trans h
theorem BlkAt.alloc {w : World} {g : Nat} {e : TypeId} {cs : List Value} (h : BlkAt w g e cs) (o : Obj) : BlkAt (w.alloc o) g e cs := (Below.heap_alloc w o g h.lt).trans h
theorem BlkAt.made {w : World} {g : Nat} (hg : g = w.heap.size) (e : TypeId) (cs : List Value) : BlkAt (w.alloc (.cells cs.toArray e)) g e cs := by subst hg; exact BlkAt.new w e cs
theorem BlkAt.off {w : World} {g : Nat} {e : TypeId} {cs : List Value} (h : BlkAt w g e cs) {a : Addr} (ha : g ≠ a.block) (u : Value) : BlkAt (w.setCell a u) g e cs := (heap_setCell_other w a g u ha).trans h
theorem BlkAt.drewN {w : World} {g : Nat} {e : TypeId} {cs : List Value} (h : BlkAt w g e cs) (n : Nat) : BlkAt (w.drewN n) g e cs := h

/-- six cells are written -/
theorem BlkAt.set6 {w : World} {g : Nat} {e : TypeId} {a0 a1 a2 a3 a4 a5 : Value} (h : BlkAt w g e [a0, a1, a2, a3, a4, a5]) (b0 b1 b2 b3 b4 b5 : Value) :
    BlkAt ((((((w.setCell ⟨g, 0, none⟩ b0).setCell ⟨g, 1, none⟩ b1).setCell ⟨g, 2, none⟩ b2).setCell ⟨g, 3, none⟩ b3).setCell ⟨g, 4, none⟩ b4).setCell ⟨g, 5, none⟩ b5) g e [b0, b1, b2, b3, b4, b5] :=
  (((((h.set 0 b0).set 1 b1).set 2 b2).set 3 b3).set 4 b4).set 5 b5

theorem below6 {B : Nat} {a w : World} {g : Nat} (h : Below B a w) (hg : B ≤ g) (b0 b1 b2 b3 b4 b5 : Value) :
    Below B a ((((((w.setCell ⟨g, 0, none⟩ b0).setCell ⟨g, 1, none⟩ b1).setCell ⟨g, 2, none⟩ b2).setCell ⟨g, 3, none⟩ b3).setCell ⟨g, 4, none⟩ b4).setCell ⟨g, 5, none⟩ b5) :=
  (((((h.setCell (p := ⟨g, 0, none⟩) hg b0).setCell (p := ⟨g, 1, none⟩) hg b1).setCell (p := ⟨g, 2, none⟩) hg b2).setCell (p := ⟨g, 3, none⟩) hg b3).setCell (p := ⟨g, 4, none⟩) hg b4).setCell (p := ⟨g, 5, none⟩) hg b5

theorem BlkAt.off6 {w : World} {g k : Nat} {e : TypeId} {cs : List Value} (h : BlkAt w g e cs) (hg : g ≠ k) (b0 b1 b2 b3 b4 b5 : Value) :
    BlkAt ((((((w.setCell ⟨k, 0, none⟩ b0).setCell ⟨k, 1, none⟩ b1).setCell ⟨k, 2, none⟩ b2).setCell ⟨k, 3, none⟩ b3).setCell ⟨k, 4, none⟩ b4).setCell ⟨k, 5, none⟩ b5) g e cs :=
  (((((h.off (a := ⟨k, 0, none⟩) hg b0).off (a := ⟨k, 1, none⟩) hg b1).off (a := ⟨k, 2, none⟩) hg b2).off (a := ⟨k, 3, none⟩) hg b3).off (a := ⟨k, 4, none⟩) hg b4).off (a := ⟨k, 5, none⟩) hg b5

/-- nothing there -/
def st0 : St := ⟨[], []⟩
theorem st0_get (h : Int) : st0.get h = sl0 := st0.get_out (by show h < 1 ∨ (0 : Int) < h; omega)
theorem st0_cnt (h : Int) : st0.cnt h = 0 := by unfold St.cnt; rw [st0_get]; rfl

/-- an arena, or none -/
def Rd (p : Value) (S : St) (w : World) : Prop :=
  Tab w ∧ ((∃ o q md, p = .pointer (some ⟨o.G, 0, none⟩) ∧ ArAt w o q S md) ∨ (p = .pointer none ∧ S = st0))

theorem Rd.tab {p : Value} {S : St} {w : World} (h : Rd p S w) : Tab w := h.1

theorem Rd.later {p : Value} {S : St} {w w' : World} (h : Rd p S w) (hb : Below w.heap.size w w') : Rd p S w' := by
  obtain ⟨hT, h⟩ := h
  refine ⟨tab_below hT hb, ?_⟩
  rcases h with ⟨o, q, md, rfl, I, hT, h0, fw, wv, hR, hB⟩ | h
  · exact Or.inl ⟨o, q, md, rfl, I, tab_below hT hb, h0, fw, wv, hR.off (Fr.of_below hb) (fun _ _ e => e), hB⟩
  · exact Or.inr h

theorem AB.rd {w0 : World} {G : Nat} {w : World} {S : St} {md k : Nat} (h : AB w0 G w S md k) : Rd (.pointer (some ⟨G, 0, none⟩)) S w := by
  obtain ⟨o, q, rfl, hA, -⟩ := h
  exact ⟨hA.2.1, Or.inl ⟨o, q, md, rfl, hA⟩⟩

theorem Rd.nil {w : World} (hT : Tab w) : Rd (.pointer none) st0 w := ⟨hT, Or.inr ⟨rfl, rfl⟩⟩

theorem Rd.size {p : Value} {S : St} {w : World} (h : Rd p S w) : S.n ≤ 6000 := by
  rcases h.2 with ⟨o, q, md, -, hA⟩ | ⟨-, rfl⟩
  · exact hA.1.size
  · exact Nat.zero_le _

theorem size_nil (w : World) : Calls Tryd.prog 38 #[.pointer none] w fun e w' => e = .returned (.int .i64 0) ∧ w' = w := by
  go_enter Tryd.func38, Tryd.ntmps38
  go_wp2
  go_ret
  exact ⟨rfl, rfl⟩

theorem used_nil (w : World) : Calls Tryd.prog 34 #[.pointer none] w fun e w' => e = .returned (.int .i64 0) ∧ w' = w := by
  go_enter Tryd.func34, Tryd.ntmps34
  go_wp2
  go_ret
  exact ⟨rfl, rfl⟩

theorem has_nil (h : Int) (w : World) : Calls Tryd.prog 104 #[.pointer none, .int .i64 h] w fun e w' => e = .returned (.bool false) ∧ w' = w := by
  have T : Hid (∀ W, _) := size_nil
  by_cases h1 : 1 ≤ h
  · have d1 : decide (1 ≤ h) = true := decide_eq_true h1
    have d2 : decide (h ≤ 0) = false := decide_eq_false (by omega)
    go_enter Tryd.func104, Tryd.ntmps104
    go_wp2_with (go_at_call 38; refine (T.out _).mono ?_; rintro e w' ⟨rfl, rfl⟩)
    go_ret
    exact ⟨rfl, rfl⟩
  · have d1 : decide (1 ≤ h) = false := decide_eq_false h1
    go_enter Tryd.func104, Tryd.ntmps104
    go_wp2
    go_ret
    exact ⟨rfl, rfl⟩

theorem count_nil (h : Int) (w : World) : Calls Tryd.prog 88 #[.pointer none, .int .i64 h] w fun e w' => e = .returned (.int .i64 0) ∧ w' = w := by
  have T : Hid (∀ W, _) := has_nil h
  go_enter Tryd.func88, Tryd.ntmps88
  go_wp2_with (go_at_call 104; refine (T.out _).mono ?_; rintro e w' ⟨rfl, rfl⟩)
  go_ret
  exact ⟨rfl, rfl⟩

set_option maxRecDepth 100000 in
theorem get_nil (h : Int) (w : World) : Calls Tryd.prog 87 #[.pointer none, .int .i64 h] w fun e w' => e = .returned (.tuple #[ndV nd0, .bool false]) ∧ Below w.heap.size w w' := by
  have T : Hid (∀ W, _) := has_nil h
  go_enter Tryd.func87, Tryd.ntmps87
  go_wp2_with (go_at_call 104; fail)
  refine (T.out _).mono ?_
  rintro e w1 ⟨rfl, hw⟩
  obtain rfl := hw.symm
  go_wp2
  exact bodyPost_ret (v := .tuple #[ndV nd0, .bool false]) (by simp [results, Tryd.results87, go_sem, ndV, nd0]) rfl ⟨rfl, (Below.refl w.heap.size w).alloc (Nat.le_refl _) _⟩

theorem getR {p : Value} {S : St} {w : World} (h : Rd p S w) (x : Int) :
    Calls Tryd.prog 87 #[p, .int .i64 x] w fun e w' => e = .returned (.tuple #[ndV (S.get x).nd, .bool (S.isB x)]) ∧ Below w.heap.size w w' := by
  rcases h.2 with ⟨o, q, md, rfl, I, hT, h0, fw, wv, hR, hB⟩ | ⟨rfl, rfl⟩
  · exact (get_any hR x).mono fun e w' ⟨he, _, _, hb⟩ => ⟨he, hb⟩
  · have e1 : (st0.get x).nd = nd0 := by rw [st0_get]; rfl
    have e2 : st0.isB x = false := by unfold St.isB; rw [e1]; rfl
    rw [e1, e2]
    exact get_nil x w

theorem countR {p : Value} {S : St} {w : World} (h : Rd p S w) (x : Int) :
    Calls Tryd.prog 88 #[p, .int .i64 x] w fun e w' => e = .returned (.int .i64 (S.cnt x : Int)) ∧ w' = w := by
  rcases h.2 with ⟨o, q, md, rfl, I, hT, h0, fw, wv, hR, hB⟩ | ⟨rfl, rfl⟩
  · exact count_any hR x
  · rw [st0_cnt]
    exact count_nil x w

theorem sizeR {p : Value} {S : St} {w : World} (h : Rd p S w) :
    Calls Tryd.prog 38 #[p] w fun e w' => e = .returned (.int .i64 (S.n : Int)) ∧ w' = w := by
  rcases h.2 with ⟨o, q, md, rfl, I, hT, h0, fw, wv, hR, hB⟩ | ⟨rfl, rfl⟩
  · exact size_any hR
  · exact size_nil w

theorem usedR {p : Value} {S : St} {w : World} (h : Rd p S w) :
    Calls Tryd.prog 34 #[p] w fun e w' => e = .returned (.int .i64 (usedN S.sl : Int)) ∧ w' = w := by
  rcases h.2 with ⟨o, q, md, rfl, I, hT, h0, fw, wv, hR, hB⟩ | ⟨rfl, rfl⟩
  · exact used_any hR
  · exact used_nil w

end Go.Proofs.YtfkfnibeipddaabDoor
