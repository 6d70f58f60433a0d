/- An arena that turns: what is not its own stays, its calls keep that; nodes that are laid and counted, plainly. -/
import Derived.Test.YtidpkflgibpldaaDoorGn
import Derived.Test.YtidpkflgibpldaaDoorArP
namespace Go.Proofs.YtidpkflgibpldaaDoor
open Go.RowKit

/-- what was live is, and is the same node, counted no less -/
def Grows (S T : St) : Prop := T.n = S.n ∧ ∀ g : Int, 0 < S.cnt g → (T.get g).nd = (S.get g).nd ∧ S.cnt g ≤ T.cnt g

theorem Grows.refl (S : St) : Grows S S := ⟨rfl, fun _ _ => ⟨rfl, Nat.le_refl _⟩⟩
theorem Grows.trans {S T U : St} (h : Grows S T) (k : Grows T U) : Grows S U := by
  refine ⟨k.1.trans h.1, fun g hg => ?_⟩
  obtain ⟨a1, a2⟩ := h.2 g hg
  obtain ⟨b1, b2⟩ := k.2 g (by omega)
  exact ⟨b1.trans a1, by omega⟩


theorem CI.perm {S : St} {m m' : List Int} (C : CI S m) (h : m.Perm m') : CI S m' :=
  ⟨fun g h1 h2 => by rw [C.cnt g h1 h2, h.count_eq g], fun x hx => C.mem x (h.mem_iff.2 hx), C.born⟩

theorem CI.keepL {S : St} {mine : List Int} (C : CI S mine) {x : Int} (hl : S.liveB x = true) : CI (S.keep x) (mine ++ [x]) := by
  refine ⟨fun h h1 h2 => ?_, fun m hm => ?_, ?_⟩
  · rw [S.n_keep] at h2
    rw [S.cnt_keep, kidsN_same (S.n_keep x) (S.nd_keep x), List.count_append, C.cnt h h1 h2]
    by_cases e : h = x
    · subst e
      rw [if_pos ⟨rfl, hl⟩]
      simp
      omega
    · have : (x == h) = false := by simpa using fun q : x = h => e q.symm
      rw [if_neg (fun q => e q.1), List.count_singleton, this]
      simp
  · rw [S.n_keep]
    rcases List.mem_append.1 hm with h | h
    · exact C.mem m h
    · rw [List.mem_singleton.1 h]
      exact S.live_in hl
  · obtain ⟨b, hb⟩ := C.born
    exact ⟨b, fun h k h1 h2 h3 => by rw [S.nd_keep] at h1 h2 ⊢; exact hb h k h1 h2 h3⟩

theorem keep_grows (S : St) (x : Int) : Grows S (S.keep x) := by
  refine ⟨S.n_keep x, fun g _ => ⟨S.nd_keep x g, ?_⟩⟩
  rw [S.cnt_keep]
  split <;> omega

/-- room for one more -/
theorem room_least {S : St} (h : usedN S.sl < S.n) : ∃ i, S.leastO = some i := by
  cases e : S.leastO with
  | none => have := used_full e; omega
  | some i => exact ⟨i, rfl⟩

/-- a node is laid: what is told of each -/
theorem mk_told {S : St} (I : Inv S) {n : Nd} (ht : tagB n = true) (hk : ∀ k ∈ n.kids, k = 0 ∨ S.liveB k = true) {i : Nat} (hl : S.leastO = some i) :
    S.mkE n = 0 ∧ S.mkH n = (i : Int) + 1 ∧ S.cnt ((i : Int) + 1) = 0 ∧ (∀ g, ((S.mk1 n).get g).nd = if g = (i : Int) + 1 then n else (S.get g).nd) ∧ (∀ g, 1 ≤ g → (S.mk1 n).cnt g = (if g = (i : Int) + 1 then 1 else S.cnt g) + n.kids.count g) := by
  have hkb : S.kidsB n = true := by
    unfold St.kidsB
    rw [List.all_eq_true]
    intro k h
    rcases hk k h with e | e <;> simp [e]
  obtain ⟨e1, e2, e3⟩ := St.mk_eq ht hkb hl
  obtain ⟨f1, f2, f3⟩ := (least_some hl).1
  have hc0 : S.cnt ((i : Int) + 1) = 0 := by
    cases e : S.cnt ((i : Int) + 1) with
    | zero => rfl
    | succ c => exact absurd f3 (I.liv _ (by omega))
  have hnm : ∀ k, S.liveB k = true → k ≠ (i : Int) + 1 := fun k h e => by
    have := S.live_pos h
    rw [e, hc0] at this
    omega
  have hgl : ∀ g, (S.lay ((i : Int) + 1) n).get g = if g = (i : Int) + 1 then ⟨n, 1⟩ else S.get g := fun g => S.get_put _ f1 f2 g
  have hcl : ∀ g, (S.lay ((i : Int) + 1) n).cnt g = if g = (i : Int) + 1 then 1 else S.cnt g := by
    intro g
    unfold St.cnt
    rw [hgl]
    split <;> rfl
  have hlv2 : ∀ k ∈ n.kids, k = 0 ∨ (S.lay ((i : Int) + 1) n).liveB k = true := fun k h => (hk k h).imp id (fun q => decide_eq_true (by
    rw [hcl, if_neg (hnm k q)]
    exact S.live_pos q))
  refine ⟨e1, e2, hc0, fun g => ?_, fun g hg => ?_⟩
  · rw [e3, St.nd_keeps, hgl]
    split <;> rfl
  · rw [e3, keeps_cnt n.kids _ g hg hlv2, hcl]

theorem mk_grows {S : St} (I : Inv S) {n : Nd} (ht : tagB n = true) (hk : ∀ k ∈ n.kids, k = 0 ∨ S.liveB k = true) {i : Nat} (hl : S.leastO = some i) : Grows S (S.mk1 n) := by
  obtain ⟨-, -, h0, h1, h2⟩ := mk_told I ht hk hl
  refine ⟨S.n_mk1 n, fun g hg => ?_⟩
  have hne : g ≠ (i : Int) + 1 := fun e => by rw [e, h0] at hg; omega
  have hg1 := (S.live_in (h := g) (decide_eq_true hg)).1
  rw [h1, if_neg hne, h2 g hg1, if_neg hne]
  exact ⟨rfl, by omega⟩


/-- a list of numbers that is not the arena's own -/
def Loose (G : Nat) (w : World) (g : Nat) : Prop := (∃ cur r, w.heap[g]? = some (.cells cur 3 r)) ∧ ∃ ao n c, w.cell? ⟨G, 2, none⟩ = some (.slice ao n c) ∧ (c = 0 ∨ ∀ o, ao ≠ some ⟨g, o, none⟩)

/-- what is not an arena's stays -/
structure Sp (G : Nat) (w w' : World) : Prop where
  size : w.heap.size ≤ w'.heap.size
  blk : ∀ g e cs, e ≠ 48 → e ≠ 60 → e ≠ 56 → e ≠ 3 → BlkAt w g e cs → BlkAt w' g e cs
  num : ∀ g, Loose G w g → w'.heap[g]? = w.heap[g]? ∧ Loose G w' g
  obj : ∀ (q : Nat) (ob : Obj), w.heap[q]? = some ob → ob.isCells = false → w'.heap[q]? = some ob

theorem Sp.refl {G : Nat} (w : World) : Sp G w w := ⟨Nat.le_refl _, fun _ _ _ _ _ _ _ h => h, fun _ h => ⟨rfl, h⟩, fun _ _ h _ => h⟩
theorem Sp.trans {G : Nat} {a b c : World} (h : Sp G a b) (k : Sp G b c) : Sp G a c :=
  ⟨Nat.le_trans h.1 k.1, fun g e cs h1 h2 h3 h4 hB => k.2 g e cs h1 h2 h3 h4 (h.2 g e cs h1 h2 h3 h4 hB), fun g hg => by
    obtain ⟨e1, l1⟩ := h.num g hg
    obtain ⟨e2, l2⟩ := k.num g l1
    exact ⟨e2.trans e1, l2⟩, fun q ob hq hc => k.obj q ob (h.obj q ob hq hc) hc⟩
theorem Loose.later {G : Nat} {a b : World} {g : Nat} (hl : Loose G a g) (h : Below a.heap.size a b) : b.heap[g]? = a.heap[g]? ∧ Loose G b g := by
  obtain ⟨⟨cur, r, h1⟩, ao, n, c, h2, h3⟩ := hl
  have e1 := h.block g (Array.getElem?_eq_some_iff.1 h1).1
  exact ⟨e1, ⟨cur, r, e1.trans h1⟩, ao, n, c, (World.cell?_of_block (w := a) (h.block G (World.block_lt_of_cell? _ _ h2))).trans h2, h3⟩
theorem Sp.of {G : Nat} {a b : World} (h : Below a.heap.size a b) : Sp G a b := ⟨h.size, fun _ _ _ _ _ _ _ hB => hB.later h, fun _ hg => hg.later h, fun q _ hq _ => (h.block q (Array.getElem?_eq_some_iff.1 hq).1).trans hq⟩
/-- where nobody waits the list of those who do may lie anywhere -/
theorem AB.norm {w0 : World} {G : Nat} {w : World} {S : St} {md k : Nat} (h : AB w0 G w S md k) :
    ∃ o q, o.G = G ∧ ArAt w o q S md ∧ (∀ g, o.has q g → w0.heap.size ≤ g) ∧ Below w0.heap.size w0 w ∧ (∀ g, S.cnt g ≤ k) ∧ (q = o.G ∨ ∃ cur off n c, w.heap[q]? = some (.cells cur 3 (0, 0)) ∧ w.cell? ⟨o.G, 2, none⟩ = some (.slice (some ⟨q, off, none⟩) n c) ∧ c ≠ 0) := by
  obtain ⟨o, q, rfl, ⟨I, hT, h0, fw, wv, hR, hB⟩, hg, hb, hc⟩ := h
  obtain ⟨ao, cap, e1, e2, e3, e4⟩ := hR.qu
  by_cases hz : cap = 0
  · refine ⟨o, o.G, rfl, ⟨I, hT, ?_, fw, wv, ⟨hR.ar, hR.sl, hR.fr, ⟨ao, cap, e1, e2, e3, Or.inl hz⟩, hR.sz, hR.ar.lt⟩, hB⟩, ?_, hb, hc, Or.inl rfl⟩
    · rintro (e | e | e | e)
      · exact h0 (Or.inl e)
      · exact h0 (Or.inr (Or.inl e))
      · exact h0 (Or.inr (Or.inr (Or.inl e)))
      · exact h0 (Or.inl e)
    · rintro g (e | e | e | e)
      · exact hg g (Or.inl e)
      · exact hg g (Or.inr (Or.inl e))
      · exact hg g (Or.inr (Or.inr (Or.inl e)))
      · exact hg g (Or.inl e)
  · rcases e4 with e4 | ⟨off, cur, e5, e6, e7⟩
    · exact absurd e4 hz
    · have hcell : w.cell? ⟨o.G, 2, none⟩ = some wv := hR.ar.cell rfl
      exact ⟨o, q, rfl, ⟨I, hT, h0, fw, wv, hR, hB⟩, hg, hb, hc, Or.inr ⟨cur, off, _, cap, e6, by rw [hcell, e1, e5], hz⟩⟩

theorem num_ne {w : World} {g k : Nat} {e : TypeId} {cs : List Value} {cur : Array Value} {r : Nat × Nat} (h : BlkAt w k e cs) (hg : w.heap[g]? = some (.cells cur 3 r)) (he : e ≠ 3) : g ≠ k := by
  rintro rfl
  unfold BlkAt at h
  rw [h] at hg
  simp at hg
  exact he hg.2.1

theorem obj_ne {w : World} {q k : Nat} {ob : Obj} (h : ∃ cur e r, w.heap[k]? = some (.cells cur e r)) (hq : w.heap[q]? = some ob) (hc : ob.isCells = false) : q ≠ k := by
  rintro rfl
  obtain ⟨cur, e, r, h⟩ := h
  rw [h] at hq
  cases hq
  cases hc

theorem step_sp {w w' : World} {o : Own} {q q' : Nat} {S S' : St} {md md' : Nat} (hA : ArAt w o q S md) (hq : q = o.G ∨ ∃ cur off n c, w.heap[q]? = some (.cells cur 3 (0, 0)) ∧ w.cell? ⟨o.G, 2, none⟩ = some (.slice (some ⟨q, off, none⟩) n c) ∧ c ≠ 0) (hS : Step o q q' w w') (hA' : ArAt w' o q' S' md') : Sp o.G w w' := by
  obtain ⟨I, hT, h0, fw, wv, hR, hB⟩ := hA
  obtain ⟨-, -, -, fw', wv', hR', -⟩ := hA'
  refine ⟨hS.fr.size, fun g e cs h1 h2 h3 h4 hb => hb.fr hS.fr ?_, fun g hl => ?_, fun k ob hk hc => (hS.fr.block k (Array.getElem?_eq_some_iff.1 hk).1 ?_).trans hk⟩
  · have n1 : g ≠ o.G := fun e0 => blk_ne hb hR.ar h1 e0
    rintro (e0 | e0 | e0 | e0)
    · exact n1 e0
    · exact blk_ne hb hR.sl h2 e0
    · exact blk_ne hb hR.fr h3 e0
    · rcases hq with hq | ⟨cur, off, n, c, hq, -⟩
      · exact n1 (e0.trans hq)
      · exact blk_ne hb hq h4 e0
  · obtain ⟨⟨cur, r, h1⟩, ao, n, c, h2, h3⟩ := hl
    have n1 : g ≠ o.G := num_ne hR.ar h1 (by decide)
    have nq : g ≠ q := by
      rcases hq with hq | ⟨cur2, off, n2, c2, hq, hc2, hz⟩
      · rw [hq]; exact n1
      · rw [hc2] at h2
        simp at h2
        obtain ⟨rfl, rfl, rfl⟩ := h2
        rcases h3 with h3 | h3
        · exact absurd h3 hz
        · exact fun e => h3 off (by rw [e])
    have hlt := (Array.getElem?_eq_some_iff.1 h1).1
    have e1 : w'.heap[g]? = w.heap[g]? := hS.fr.block g hlt (by
      rintro (e0 | e0 | e0 | e0)
      · exact n1 e0
      · exact num_ne hR.sl h1 (by decide) e0
      · exact num_ne hR.fr h1 (by decide) e0
      · exact nq e0)
    have nq' : g ≠ q' := by
      rcases hS.qo with e | e
      · rw [e]; exact nq
      · intro e0; omega
    obtain ⟨ao', cap', f1, -, -, f4⟩ := hR'.qu
    have hcell : w'.cell? ⟨o.G, 2, none⟩ = some wv' := hR'.ar.cell rfl
    refine ⟨e1, ⟨cur, r, e1.trans h1⟩, ao', _, cap', by rw [hcell, f1], ?_⟩
    rcases f4 with f4 | ⟨off, cur', f5, -⟩
    · exact Or.inl f4
    · refine Or.inr (fun o' e => nq' ?_)
      rw [f5] at e
      cases e
      rfl
  · rintro (e0 | e0 | e0 | e0)
    · exact obj_ne ⟨_, _, _, hR.ar⟩ hk hc e0
    · exact obj_ne ⟨_, _, _, hR.sl⟩ hk hc e0
    · exact obj_ne ⟨_, _, _, hR.fr⟩ hk hc e0
    · rcases hq with hq | ⟨cur, off, n, c, hq, -⟩
      · exact obj_ne ⟨_, _, _, hR.ar⟩ hk hc (e0.trans hq)
      · exact obj_ne ⟨_, _, _, hq⟩ hk hc e0

theorem AB.mono {w0 : World} {G : Nat} {w : World} {S : St} {md k k' : Nat} (h : AB w0 G w S md k) (hk : k ≤ k') : AB w0 G w S md k' := by
  obtain ⟨o, q, h1, h2, h3, h4, h5⟩ := h
  exact ⟨o, q, h1, h2, h3, h4, fun g => Nat.le_trans (h5 g) hk⟩

theorem makeP {w0 w : World} {G : Nat} {S : St} {md k : Nat} (h : AB w0 G w S md k) (hn : 0 < S.n) (hk : k ≤ 1000000000) (hm : md ≤ 1000000000) (n : Nd) :
    Calls Tryd.prog 51 #[.pointer (some ⟨G, 0, none⟩), ndV n] w fun e w' => e = .returned (.tuple #[.int .i64 (S.mkH n), .int .i64 (S.mkE n)]) ∧ AB w0 G w' (S.mk1 n) (S.mkM md n) (k + 5) ∧ Sp G w w' := by
  obtain ⟨o, q, rfl, hA, hg, hb, hc, hq⟩ := h.norm
  refine (make_any hA hn (fun g => by have := hc g; omega) (by omega) n).mono ?_
  rintro e w' ⟨he, hA', hS⟩
  exact ⟨he, AB.step hA' hS hg hb (cnt_mk1_le hc), step_sp hA hq hS hA'⟩

theorem keepP {w0 w : World} {G : Nat} {S : St} {md k : Nat} (h : AB w0 G w S md k) (hk : k ≤ 1000000000) (x : Int) :
    Calls Tryd.prog 50 #[.pointer (some ⟨G, 0, none⟩), .int .i64 x] w fun e w' => e = .returned (.int .i64 (S.errB x)) ∧ AB w0 G w' (S.keep x) md (k + 1) ∧ Sp G w w' := by
  obtain ⟨o, q, rfl, hA, hg, hb, hc, hq⟩ := h.norm
  obtain ⟨I, hT, h0, fw, wv, hR, hB⟩ := hA
  refine (keep_any hR x (by have := hc x; omega)).mono ?_
  rintro e w' ⟨he, hR', hF, -⟩
  have hS : Step o q q w w' := Step.of_fr hF (fun b e => Or.inr (Or.inl e))
  obtain ⟨t1, t2⟩ := tab_step hT hS h0
  have hA' : ArAt w' o q (S.keep x) md := ⟨I.keep x, t1, t2, fw, wv, by rw [used_keep]; exact hR', hB.same (S.n_keep x) (S.nd_keep x)⟩
  exact ⟨he, AB.step hA' hS hg hb (fun g => by have h1 := cnt_keep_le S x g; have h2 := hc g; omega), step_sp ⟨I, hT, h0, fw, wv, hR, hB⟩ hq hS hA'⟩

theorem dropP {w0 w : World} {G : Nat} {S : St} {md k : Nat} (h : AB w0 G w S md k) (hk : k ≤ 1000000000) (x : Int) :
    Calls Tryd.prog 13 #[.pointer (some ⟨G, 0, none⟩), .int .i64 x] w fun e w' => e = .returned (.int .i64 (S.errB x)) ∧ AB w0 G w' (S.drop x) md k ∧ Sp G w w' := by
  obtain ⟨o, q, rfl, hA, hg, hb, hc, hq⟩ := h.norm
  obtain ⟨I, hT, h0, fw, wv, hR, hB⟩ := hA
  refine (drop_any hR x (by have := hc x; omega) I.wtLen).mono ?_
  rintro e w' ⟨he, q', wv', hR', hS⟩
  obtain ⟨t1, t2⟩ := tab_step hT hS h0
  have hA' : ArAt w' o q' (S.drop x) md := ⟨I.drop x, t1, t2, fw, wv', by rw [used_drop]; exact hR', hB.same (S.n_drop x) (S.nd_drop x)⟩
  exact ⟨he, AB.step hA' hS hg hb (fun g => Nat.le_trans (cnt_drop_le S x g) (hc g)), step_sp ⟨I, hT, h0, fw, wv, hR, hB⟩ hq hS hA'⟩

theorem mkM_ok {S : St} {n : Nd} {md : Nat} (h : S.mkE n = 0) : S.mkM md n = md + 1 := if_pos h

end Go.Proofs.YtidpkflgibpldaaDoor
