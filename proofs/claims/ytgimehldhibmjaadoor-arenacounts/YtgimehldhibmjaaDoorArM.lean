/- Package arena: each call, of an arena that a statement has made: what is told, and that nothing older has turned. -/
import Derived.Test.YtgimehldhibmjaaDoorArL
namespace Go.Proofs.YtgimehldhibmjaaDoor
open Go.RowKit

/-- an arena at this address, made since w0; counts are small -/
def AB (w0 : World) (G : Nat) (w : World) (S : St) (md k : Nat) : Prop :=
  ∃ o q, o.G = G ∧ ArAt w o q S md ∧ (∀ g, o.has q g → w0.heap.size ≤ g) ∧ Below w0.heap.size w0 w ∧ ∀ g, S.cnt g ≤ k

theorem AB.below {w0 : World} {G : Nat} {w : World} {S : St} {md k : Nat} (h : AB w0 G w S md k) : Below w0.heap.size w0 w := by
  obtain ⟨o, q, -, -, -, hb, -⟩ := h
  exact hb

theorem AB.inv {w0 : World} {G : Nat} {w : World} {S : St} {md k : Nat} (h : AB w0 G w S md k) : Inv S := by
  obtain ⟨o, q, -, hA, -⟩ := h
  exact hA.1

theorem AB.tab {w0 : World} {G : Nat} {w : World} {S : St} {md k : Nat} (h : AB w0 G w S md k) : Tab w := by
  obtain ⟨o, q, -, hA, -⟩ := h
  exact hA.2.1

theorem tab_below {w w' : World} (h : Tab w) (hb : Below w.heap.size w w') : Tab w' := fun j hj => by
  rw [World.cell?_of_block (w := w) (hb.block 0 (tab_pos h))]
  exact h j hj

theorem AB.step {w0 : World} {o : Own} {q q' : Nat} {w w' : World} {S : St} {md k : Nat} (hA : ArAt w' o q' S md) (hS : Step o q q' w w') (hg : ∀ g, o.has q g → w0.heap.size ≤ g) (hb : Below w0.heap.size w0 w) (hk : ∀ g, S.cnt g ≤ k) : AB w0 o.G w' S md k := by
  obtain ⟨h1, h2⟩ := hS.below (B := w0.heap.size) hb.size hg
  exact ⟨o, q', rfl, hA, h2, hb.trans h1, hk⟩

/-- the same arena, in a world that has only grown -/
theorem AB.grow {w0 : World} {G : Nat} {w w' : World} {S : St} {md k : Nat} (h : AB w0 G w S md k) (hb : Below w.heap.size w w') : AB w0 G w' S md k := by
  obtain ⟨o, q, rfl, ⟨I, hT, h0, fw, wv, hR, hB⟩, hg, hbl, hk⟩ := h
  have hfr : Fr (fun _ => False) w w' := Fr.of_below hb
  exact ⟨o, q, rfl, ⟨I, tab_below hT hb, h0, fw, wv, hR.off hfr (fun _ _ e => e), hB⟩, hg, hbl.trans (hb.mono hbl.size), hk⟩

theorem cnt_new (n : Nat) (g : Int) : (newS n).cnt g ≤ 0 := by
  unfold St.cnt
  rw [get_new]
  exact Nat.le_refl _

theorem cnt_mk1_le {S : St} {n : Nd} {k : Nat} (h : ∀ g, S.cnt g ≤ k) (g : Int) : (S.mk1 n).cnt g ≤ k + 5 := by
  unfold St.mk1
  split
  · next e =>
    obtain ⟨h1, h2, i, h3, h4⟩ := St.mk_ok e
    have e1 := cnt_keeps_le n.kids (S.lay (S.mkH n) n) g
    have e2 := cnt_lay_le (S := S) (h := S.mkH n) (n := n) (by rw [h4]; exact (least_some h3).1) g
    have e3 := h g
    have e4 : n.kids.length = 4 := rfl
    omega
  · have := h g
    omega

theorem cnt_drop_le (S : St) (x g : Int) : (S.drop x).cnt g ≤ S.cnt g := by
  rw [S.cnt_drop]
  split <;> omega

theorem cnt_workN_le : ∀ (m : Nat) {S : St}, Inv S → ∀ g, (St.workN m S).2.cnt g ≤ S.cnt g
  | 0, _, _, _ => Nat.le_refl _
  | m + 1, S, I, g => by
    unfold St.workN
    split
    · exact Nat.le_refl _
    · next h => exact Nat.le_trans (cnt_workN_le m (I.free1 h) g) (cnt_free1_le I h g)

theorem newB {w0 w : World} (hb : Below w0.heap.size w0 w) (hT : Tab w) (n : Nat) (h1 : 1 ≤ n) (hn : n ≤ 6000) :
    Calls Tryd.prog 10 #[.int .i64 n] w fun e w' => ∃ G, e = .returned (.pointer (some ⟨G, 0, none⟩)) ∧ AB w0 G w' (newS n) 0 0 := by
  refine (new_any n h1 hn w hT).mono ?_
  rintro e w' ⟨o, q, rfl, hA, hg, hbl⟩
  have := hb.size
  exact ⟨o.G, rfl, o, q, rfl, hA, fun g h => by have := hg g h; omega, hb.trans (hbl.mono this), cnt_new n⟩

theorem makeB {w0 w : World} {G : Nat} {S : St} {md k : Nat} (h : AB w0 G w S md k) (hn : 0 < S.n) (hk : k ≤ 1000000000) (hm : md ≤ 1000000000) (n : Nd) :
    Calls Tryd.prog 12 #[.pointer (some ⟨G, 0, none⟩), ndV n] w fun e w' => e = .returned (.tuple #[.int .i64 (S.mkH n), .int .i64 (S.mkE n)]) ∧ AB w0 G w' (S.mk1 n) (S.mkM md n) (k + 5) := by
  obtain ⟨o, q, rfl, hA, hg, hb, hc⟩ := h
  refine (make_any hA hn (fun g => by have := hc g; omega) (by omega) n).mono ?_
  rintro e w' ⟨he, hA', hS⟩
  exact ⟨he, AB.step hA' hS hg hb (cnt_mk1_le hc)⟩

theorem keepB {w0 w : World} {G : Nat} {S : St} {md k : Nat} (h : AB w0 G w S md k) (hk : k ≤ 1000000000) (x : Int) :
    Calls Tryd.prog 14 #[.pointer (some ⟨G, 0, none⟩), .int .i64 x] w fun e w' => e = .returned (.int .i64 (S.errB x)) ∧ AB w0 G w' (S.keep x) md (k + 1) := by
  obtain ⟨o, q, rfl, ⟨I, hT, h0, fw, wv, hR, hB⟩, hg, hb, hc⟩ := h
  refine (keep_any hR x (by have := hc x; omega)).mono ?_
  rintro e w' ⟨he, hR', hF, -⟩
  have hS : Step o q q w w' := Step.of_fr hF (fun b e => Or.inr (Or.inl e))
  obtain ⟨t1, t2⟩ := tab_step hT hS h0
  refine ⟨he, AB.step ⟨I.keep x, t1, t2, fw, wv, ?_, hB.same (S.n_keep x) (S.nd_keep x)⟩ hS hg hb (fun g => by have h1 := cnt_keep_le S x g; have h2 := hc g; omega)⟩
  rw [used_keep]
  exact hR'

theorem dropB {w0 w : World} {G : Nat} {S : St} {md k : Nat} (h : AB w0 G w S md k) (hk : k ≤ 1000000000) (x : Int) :
    Calls Tryd.prog 15 #[.pointer (some ⟨G, 0, none⟩), .int .i64 x] w fun e w' => e = .returned (.int .i64 (S.errB x)) ∧ AB w0 G w' (S.drop x) md k := by
  obtain ⟨o, q, rfl, ⟨I, hT, h0, fw, wv, hR, hB⟩, hg, hb, hc⟩ := h
  refine (drop_any hR x (by have := hc x; omega) I.wtLen).mono ?_
  rintro e w' ⟨he, q', wv', hR', hS⟩
  obtain ⟨t1, t2⟩ := tab_step hT hS h0
  refine ⟨he, AB.step ⟨I.drop x, t1, t2, fw, wv', ?_, hB.same (S.n_drop x) (S.nd_drop x)⟩ hS hg hb (fun g => Nat.le_trans (cnt_drop_le S x g) (hc g))⟩
  rw [used_drop]
  exact hR'

theorem workB {w0 w : World} {G : Nat} {S : St} {md k : Nat} (h : AB w0 G w S md k) (hk : k ≤ 1000000000) (most : Int) :
    Calls Tryd.prog 16 #[.pointer (some ⟨G, 0, none⟩), .int .i64 most] w fun e w' => e = .returned (.int .i64 ((St.workN most.toNat S).1 : Int)) ∧ AB w0 G w' (St.workN most.toNat S).2 md k := by
  obtain ⟨o, q, rfl, hA, hg, hb, hc⟩ := h
  refine (work_any hA (fun g => by have := hc g; omega) most).mono ?_
  rintro e w' ⟨he, q', hA', hS⟩
  exact ⟨he, AB.step hA' hS hg hb (fun g => Nat.le_trans (cnt_workN_le _ hA.1 g) (hc g))⟩

theorem countB {w0 w : World} {G : Nat} {S : St} {md k : Nat} (h : AB w0 G w S md k) (x : Int) :
    Calls Tryd.prog 17 #[.pointer (some ⟨G, 0, none⟩), .int .i64 x] w fun e w' => e = .returned (.int .i64 (S.cnt x : Int)) ∧ w' = w := by
  obtain ⟨o, q, rfl, ⟨I, hT, h0, fw, wv, hR, hB⟩, hg, hb, hc⟩ := h
  exact count_any hR x

theorem usedB {w0 w : World} {G : Nat} {S : St} {md k : Nat} (h : AB w0 G w S md k) :
    Calls Tryd.prog 18 #[.pointer (some ⟨G, 0, none⟩)] w fun e w' => e = .returned (.int .i64 (usedN S.sl : Int)) ∧ w' = w := by
  obtain ⟨o, q, rfl, ⟨I, hT, h0, fw, wv, hR, hB⟩, hg, hb, hc⟩ := h
  exact used_any hR

theorem pendingB {w0 w : World} {G : Nat} {S : St} {md k : Nat} (h : AB w0 G w S md k) :
    Calls Tryd.prog 19 #[.pointer (some ⟨G, 0, none⟩)] w fun e w' => e = .returned (.int .i64 (S.wt.length : Int)) ∧ w' = w := by
  obtain ⟨o, q, rfl, ⟨I, hT, h0, fw, wv, hR, hB⟩, hg, hb, hc⟩ := h
  exact pending_any hR

theorem sizeB {w0 w : World} {G : Nat} {S : St} {md k : Nat} (h : AB w0 G w S md k) :
    Calls Tryd.prog 20 #[.pointer (some ⟨G, 0, none⟩)] w fun e w' => e = .returned (.int .i64 (S.n : Int)) ∧ w' = w := by
  obtain ⟨o, q, rfl, ⟨I, hT, h0, fw, wv, hR, hB⟩, hg, hb, hc⟩ := h
  exact size_any hR

theorem madeB {w0 w : World} {G : Nat} {S : St} {md k : Nat} (h : AB w0 G w S md k) :
    Calls Tryd.prog 21 #[.pointer (some ⟨G, 0, none⟩)] w fun e w' => e = .returned (.int .i64 (md : Int)) ∧ w' = w := by
  obtain ⟨o, q, rfl, ⟨I, hT, h0, fw, wv, hR, hB⟩, hg, hb, hc⟩ := h
  exact made_any hR

/-- an arena's pointer leads somewhere -/
theorem AB.lt {w0 w : World} {G : Nat} {S : St} {md k : Nat} (h : AB w0 G w S md k) : w0.heap.size ≤ G ∧ G < w.heap.size := by
  obtain ⟨o, q, rfl, ⟨I, hT, h0, fw, wv, hR, hB⟩, hg, hb, hc⟩ := h
  exact ⟨hg _ (Or.inl rfl), hR.ar.lt⟩

end Go.Proofs.YtgimehldhibmjaaDoor
