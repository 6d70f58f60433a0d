/- An arena beside other memory: each call, of one that a statement has made, and what is apart from it stays. -/
import Derived.Test.YtgimehldhibmjaaDoorAMap
import Derived.Test.YtgimehldhibmjaaDoorArP
namespace Go.Proofs.YtgimehldhibmjaaDoor
open Go.RowKit

theorem ArAt.off {w w' : World} {o : Own} {q : Nat} {S : St} {md : Nat} (h : ArAt w o q S md) {X : Nat → Prop} (hf : Fr X w w') (hX : ∀ g, o.has q g → ¬ X g) (h0 : ¬ X 0) : ArAt w' o q S md := by
  obtain ⟨I, hT, hn, fw, wv, hR, hB⟩ := h
  exact ⟨I, fun j hj => by rw [World.cell?_of_block (w := w) (hf.block 0 (tab_pos hT) h0)]; exact hT j hj, hn, fw, wv, hR.off hf hX, hB⟩

theorem ArAt.inv {w : World} {o : Own} {q : Nat} {S : St} {md : Nat} (h : ArAt w o q S md) : Inv S := h.1

theorem keepA {w : World} {o : Own} {q : Nat} {S : St} {md : Nat} (h : ArAt w o q S md) (x : Int) (hb : S.cnt x < 4611686018427387904) :
    Calls Tryd.prog 14 #[.pointer (some ⟨o.G, 0, none⟩), .int .i64 x] w fun e w' => e = .returned (.int .i64 (S.errB x)) ∧ ArAt w' o q (S.keep x) md ∧ Step o q q w w' := by
  obtain ⟨I, hT, h0, fw, wv, hR, hB⟩ := h
  refine (keep_any hR x (by omega)).mono ?_
  rintro e w' ⟨he, hR', hF, -⟩
  have hS : Step o q q w w' := Step.of_fr hF (fun b e => Or.inr (Or.inl e))
  obtain ⟨t1, t2⟩ := tab_step hT hS h0
  refine ⟨he, ⟨I.keep x, t1, t2, fw, wv, ?_, hB.same (S.n_keep x) (S.nd_keep x)⟩, hS⟩
  rw [used_keep]
  exact hR'

theorem dropA {w : World} {o : Own} {q : Nat} {S : St} {md : Nat} (h : ArAt w o q S md) (x : Int) (hb : S.cnt x < 4611686018427387904) :
    Calls Tryd.prog 15 #[.pointer (some ⟨o.G, 0, none⟩), .int .i64 x] w fun e w' => e = .returned (.int .i64 (S.errB x)) ∧ ∃ q', ArAt w' o q' (S.drop x) md ∧ Step o q q' w w' := by
  obtain ⟨I, hT, h0, fw, wv, hR, hB⟩ := h
  refine (drop_any hR x (by omega) I.wtLen).mono ?_
  rintro e w' ⟨he, q', wv', hR', hS⟩
  obtain ⟨t1, t2⟩ := tab_step hT hS h0
  refine ⟨he, q', ⟨I.drop x, t1, t2, fw, wv', ?_, hB.same (S.n_drop x) (S.nd_drop x)⟩, hS⟩
  rw [used_drop]
  exact hR'

theorem getA {w : World} {o : Own} {q : Nat} {S : St} {md : Nat} (h : ArAt w o q S md) (x : Int) :
    Calls Tryd.prog 13 #[.pointer (some ⟨o.G, 0, none⟩), .int .i64 x] w fun e w' => e = .returned (.tuple #[ndV (S.get x).nd, .bool (S.isB x)]) ∧ Below w.heap.size w w' := by
  obtain ⟨I, hT, h0, fw, wv, hR, hB⟩ := h
  exact (get_any hR x).mono fun e w' ⟨he, _, _, hb⟩ => ⟨he, hb⟩

theorem countA {w : World} {o : Own} {q : Nat} {S : St} {md : Nat} (h : ArAt w o q S md) (x : Int) :
    Calls Tryd.prog 17 #[.pointer (some ⟨o.G, 0, none⟩), .int .i64 x] w fun e w' => e = .returned (.int .i64 (S.cnt x : Int)) ∧ w' = w := by
  obtain ⟨I, hT, h0, fw, wv, hR, hB⟩ := h
  exact count_any hR x

theorem usedA {w : World} {o : Own} {q : Nat} {S : St} {md : Nat} (h : ArAt w o q S md) :
    Calls Tryd.prog 18 #[.pointer (some ⟨o.G, 0, none⟩)] w fun e w' => e = .returned (.int .i64 (usedN S.sl : Int)) ∧ w' = w := by
  obtain ⟨I, hT, h0, fw, wv, hR, hB⟩ := h
  exact used_any hR

theorem pendingA {w : World} {o : Own} {q : Nat} {S : St} {md : Nat} (h : ArAt w o q S md) :
    Calls Tryd.prog 19 #[.pointer (some ⟨o.G, 0, none⟩)] w fun e w' => e = .returned (.int .i64 (S.wt.length : Int)) ∧ w' = w := by
  obtain ⟨I, hT, h0, fw, wv, hR, hB⟩ := h
  exact pending_any hR

/-- a map of counts: of each number so much -/
def CtAt (w : World) (m : Nat) (F : Int → Int) : Prop := ∃ L, MpAt w m L ∧ ∀ h, (valL L h).getD (.int .i64 0) = .int .i64 (F h)

theorem CtAt.new (w : World) : CtAt (w.alloc (.map #[] 0)) w.heap.size (fun _ => 0) := ⟨[], MpAt.new w, fun _ => rfl⟩

theorem CtAt.same {w w' : World} {m : Nat} {F : Int → Int} (h : CtAt w m F) (hb : w'.heap[m]? = w.heap[m]?) : CtAt w' m F := by
  obtain ⟨L, h1, h2⟩ := h
  exact ⟨L, h1.same hb, h2⟩

theorem CtAt.lt {w : World} {m : Nat} {F : Int → Int} (h : CtAt w m F) : m < w.heap.size := by
  obtain ⟨L, h1, -⟩ := h
  exact h1.lt

theorem CtAt.congr {w : World} {m : Nat} {F G : Int → Int} (h : CtAt w m F) (he : ∀ x, F x = G x) : CtAt w m G := by
  obtain ⟨L, h1, h2⟩ := h
  exact ⟨L, h1, fun x => by rw [h2, he]⟩

theorem Tryd.zInt (W : World) : (zeroValue 3).run Tryd.prog W = .ok (.int .i64 0) W := by kernel_rfl

theorem look_ct {w : World} {m : Nat} {F : Int → Int} (h : CtAt w m F) (k : Int) : (Instr.lookup 64 (.map (some m)) (.int .i64 k) false).run Tryd.prog w = .ok (.int .i64 (F k)) w := by
  obtain ⟨L, h1, h2⟩ := h
  have h3 := look_map h1 Tryd.underlying64 Tryd.zInt k
  rw [h2] at h3
  exact h3

theorem lay_ct {w : World} {m : Nat} {F : Int → Int} (h : CtAt w m F) (k v : Int) :
    ∃ w', (Instr.mapUpdate 64 (.map (some m)) (.int .i64 k) (.int .i64 v)).run Tryd.prog w = .ok () w' ∧ CtAt w' m (fun x => if x = k then v else F x) ∧ Fr (fun g => g = m) w w' ∧ w'.heap.size = w.heap.size := by
  obtain ⟨L, h1, h2⟩ := h
  obtain ⟨w', r1, r2, r3, r4⟩ := lay_map h1 Tryd.underlying64 k (.int .i64 v)
  refine ⟨w', r1, ⟨_, r2, fun x => ?_⟩, r3, r4⟩
  rw [val_upd]
  show _ = Value.int .i64 (if x = k then v else F x)
  by_cases e : x = k
  · rw [if_pos e, if_pos e]
    rfl
  · rw [if_neg e, if_neg e]
    exact h2 x

end Go.Proofs.YtgimehldhibmjaaDoor
