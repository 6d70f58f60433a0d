/- Rows of bits: a row is made: an empty one, one that is made, a leaf. -/
import Derived.Test.YtfkfnibeipddaabDoorBm
namespace Go.Proofs.YtfkfnibeipddaabDoor
open Go.RowKit

/-- a list of numbers that is not the arena's own -/
def Loose (G : Nat) (w : World) (g : Nat) : Prop := (∃ cur r, w.heap[g]? = some (.cells cur 3 r)) ∧ ∃ ao n c, w.cell? ⟨G, 2, none⟩ = some (.slice ao n c) ∧ (c = 0 ∨ ∀ o, ao ≠ some ⟨g, o, none⟩)

/-- what is not an arena's stays -/
structure Sp (G : Nat) (w w' : World) : Prop where
  size : w.heap.size ≤ w'.heap.size
  blk : ∀ g e cs, e ≠ 63 → e ≠ 67 → e ≠ 28 → e ≠ 3 → BlkAt w g e cs → BlkAt w' g e cs
  num : ∀ g, Loose G w g → w'.heap[g]? = w.heap[g]? ∧ Loose G w' g

theorem Sp.refl {G : Nat} (w : World) : Sp G w w := ⟨Nat.le_refl _, fun _ _ _ _ _ _ _ h => h, fun _ h => ⟨rfl, h⟩⟩
theorem Sp.trans {G : Nat} {a b c : World} (h : Sp G a b) (k : Sp G b c) : Sp G a c :=
  ⟨Nat.le_trans h.1 k.1, fun g e cs h1 h2 h3 h4 hB => k.2 g e cs h1 h2 h3 h4 (h.2 g e cs h1 h2 h3 h4 hB), fun g hg => by
    obtain ⟨e1, l1⟩ := h.num g hg
    obtain ⟨e2, l2⟩ := k.num g l1
    exact ⟨e2.trans e1, l2⟩⟩
theorem Loose.later {G : Nat} {a b : World} {g : Nat} (hl : Loose G a g) (h : Below a.heap.size a b) : b.heap[g]? = a.heap[g]? ∧ Loose G b g := by
  obtain ⟨⟨cur, r, h1⟩, ao, n, c, h2, h3⟩ := hl
  have e1 := h.block g (Array.getElem?_eq_some_iff.1 h1).1
  exact ⟨e1, ⟨cur, r, e1.trans h1⟩, ao, n, c, (World.cell?_of_block (w := a) (h.block G (World.block_lt_of_cell? _ _ h2))).trans h2, h3⟩
theorem Sp.of {G : Nat} {a b : World} (h : Below a.heap.size a b) : Sp G a b := ⟨h.size, fun _ _ _ _ _ _ _ hB => hB.later h, fun _ hg => hg.later h⟩
theorem Sp.row {G : Nat} {a b : World} (h : Sp G a b) {g : Nat} {cs : List Value} (hB : BlkAt a g 81 cs) : BlkAt b g 81 cs := h.2 g _ cs (by decide) (by decide) (by decide) (by decide) hB

theorem KidsAt.sp {G : Nat} {w w' : World} (h : Sp G w w') {t : Tr} : ∀ {k : Value}, KidsAt w t k → KidsAt w' t k := by
  induction t with
  | nil => exact fun h => h
  | leaf _ _ _ => exact fun h => h
  | fork e l r ihl ihr =>
    intro k hk
    unfold KidsAt at hk ⊢
    split
    · next e0 =>
      rw [if_pos e0] at hk
      obtain ⟨g, k1, k2, h1, h2, h3, h4⟩ := hk
      exact ⟨g, k1, k2, h1, h.row h2, ihl h3, ihr h4⟩
    · next e0 =>
      rw [if_neg e0] at hk
      exact hk

/-- where nobody waits the list of those who do may lie anywhere -/
theorem AB.norm {w0 : World} {G : Nat} {w : World} {S : St} {md k : Nat} (h : AB w0 G w S md k) :
    ∃ o q, o.G = G ∧ ArAt w o q S md ∧ (∀ g, o.has q g → w0.heap.size ≤ g) ∧ Below w0.heap.size w0 w ∧ (∀ g, S.cnt g ≤ k) ∧ (q = o.G ∨ ∃ cur off n c, w.heap[q]? = some (.cells cur 3 (0, 0)) ∧ w.cell? ⟨o.G, 2, none⟩ = some (.slice (some ⟨q, off, none⟩) n c) ∧ c ≠ 0) := by
  obtain ⟨o, q, rfl, ⟨I, hT, h0, fw, wv, hR, hB⟩, hg, hb, hc⟩ := h
  obtain ⟨ao, cap, e1, e2, e3, e4⟩ := hR.qu
  by_cases hz : cap = 0
  · refine ⟨o, o.G, rfl, ⟨I, hT, ?_, fw, wv, ⟨hR.ar, hR.sl, hR.fr, ⟨ao, cap, e1, e2, e3, Or.inl hz⟩, hR.sz, hR.ar.lt⟩, hB⟩, ?_, hb, hc, Or.inl rfl⟩
    · rintro (e | e | e | e)
      · exact h0 (Or.inl e)
      · exact h0 (Or.inr (Or.inl e))
      · exact h0 (Or.inr (Or.inr (Or.inl e)))
      · exact h0 (Or.inl e)
    · rintro g (e | e | e | e)
      · exact hg g (Or.inl e)
      · exact hg g (Or.inr (Or.inl e))
      · exact hg g (Or.inr (Or.inr (Or.inl e)))
      · exact hg g (Or.inl e)
  · rcases e4 with e4 | ⟨off, cur, e5, e6, e7⟩
    · exact absurd e4 hz
    · have hcell : w.cell? ⟨o.G, 2, none⟩ = some wv := hR.ar.cell rfl
      exact ⟨o, q, rfl, ⟨I, hT, h0, fw, wv, hR, hB⟩, hg, hb, hc, Or.inr ⟨cur, off, _, cap, e6, by rw [hcell, e1, e5], hz⟩⟩

theorem num_ne {w : World} {g k : Nat} {e : TypeId} {cs : List Value} {cur : Array Value} {r : Nat × Nat} (h : BlkAt w k e cs) (hg : w.heap[g]? = some (.cells cur 3 r)) (he : e ≠ 3) : g ≠ k := by
  rintro rfl
  unfold BlkAt at h
  rw [h] at hg
  simp at hg
  exact he hg.2.1

theorem step_sp {w w' : World} {o : Own} {q q' : Nat} {S S' : St} {md md' : Nat} (hA : ArAt w o q S md) (hq : q = o.G ∨ ∃ cur off n c, w.heap[q]? = some (.cells cur 3 (0, 0)) ∧ w.cell? ⟨o.G, 2, none⟩ = some (.slice (some ⟨q, off, none⟩) n c) ∧ c ≠ 0) (hS : Step o q q' w w') (hA' : ArAt w' o q' S' md') : Sp o.G w w' := by
  obtain ⟨I, hT, h0, fw, wv, hR, hB⟩ := hA
  obtain ⟨-, -, -, fw', wv', hR', -⟩ := hA'
  refine ⟨hS.fr.size, fun g e cs h1 h2 h3 h4 hb => hb.fr hS.fr ?_, fun g hl => ?_⟩
  · have n1 : g ≠ o.G := fun e0 => blk_ne hb hR.ar h1 e0
    rintro (e0 | e0 | e0 | e0)
    · exact n1 e0
    · exact blk_ne hb hR.sl h2 e0
    · exact blk_ne hb hR.fr h3 e0
    · rcases hq with hq | ⟨cur, off, n, c, hq, -⟩
      · exact n1 (e0.trans hq)
      · exact blk_ne hb hq h4 e0
  · obtain ⟨⟨cur, r, h1⟩, ao, n, c, h2, h3⟩ := hl
    have n1 : g ≠ o.G := num_ne hR.ar h1 (by decide)
    have nq : g ≠ q := by
      rcases hq with hq | ⟨cur2, off, n2, c2, hq, hc2, hz⟩
      · rw [hq]; exact n1
      · rw [hc2] at h2
        simp at h2
        obtain ⟨rfl, rfl, rfl⟩ := h2
        rcases h3 with h3 | h3
        · exact absurd h3 hz
        · exact fun e => h3 off (by rw [e])
    have hlt := (Array.getElem?_eq_some_iff.1 h1).1
    have e1 : w'.heap[g]? = w.heap[g]? := hS.fr.block g hlt (by
      rintro (e0 | e0 | e0 | e0)
      · exact n1 e0
      · exact num_ne hR.sl h1 (by decide) e0
      · exact num_ne hR.fr h1 (by decide) e0
      · exact nq e0)
    have nq' : g ≠ q' := by
      rcases hS.qo with e | e
      · rw [e]; exact nq
      · intro e0; omega
    obtain ⟨ao', cap', f1, -, -, f4⟩ := hR'.qu
    have hcell : w'.cell? ⟨o.G, 2, none⟩ = some wv' := hR'.ar.cell rfl
    refine ⟨e1, ⟨cur, r, e1.trans h1⟩, ao', _, cap', by rw [hcell, f1], ?_⟩
    rcases f4 with f4 | ⟨off, cur', f5, -⟩
    · exact Or.inl f4
    · refine Or.inr (fun o' e => nq' ?_)
      rw [f5] at e
      cases e
      rfl

theorem AB.mono {w0 : World} {G : Nat} {w : World} {S : St} {md k k' : Nat} (h : AB w0 G w S md k) (hk : k ≤ k') : AB w0 G w S md k' := by
  obtain ⟨o, q, h1, h2, h3, h4, h5⟩ := h
  exact ⟨o, q, h1, h2, h3, h4, fun g => Nat.le_trans (h5 g) hk⟩

theorem makeP {w0 w : World} {G : Nat} {S : St} {md k : Nat} (h : AB w0 G w S md k) (hn : 0 < S.n) (hk : k ≤ 1000000000) (hm : md ≤ 1000000000) (n : Nd) :
    Calls Tryd.prog 10 #[.pointer (some ⟨G, 0, none⟩), ndV n] w fun e w' => e = .returned (.tuple #[.int .i64 (S.mkH n), .int .i64 (S.mkE n)]) ∧ AB w0 G w' (S.mk1 n) (S.mkM md n) (k + 5) ∧ Sp G w w' := by
  obtain ⟨o, q, rfl, hA, hg, hb, hc, hq⟩ := h.norm
  refine (make_any hA hn (fun g => by have := hc g; omega) (by omega) n).mono ?_
  rintro e w' ⟨he, hA', hS⟩
  exact ⟨he, AB.step hA' hS hg hb (cnt_mk1_le hc), step_sp hA hq hS hA'⟩

theorem keepP {w0 w : World} {G : Nat} {S : St} {md k : Nat} (h : AB w0 G w S md k) (hk : k ≤ 1000000000) (x : Int) :
    Calls Tryd.prog 42 #[.pointer (some ⟨G, 0, none⟩), .int .i64 x] w fun e w' => e = .returned (.int .i64 (S.errB x)) ∧ AB w0 G w' (S.keep x) md (k + 1) ∧ Sp G w w' := by
  obtain ⟨o, q, rfl, hA, hg, hb, hc, hq⟩ := h.norm
  obtain ⟨I, hT, h0, fw, wv, hR, hB⟩ := hA
  refine (keep_any hR x (by have := hc x; omega)).mono ?_
  rintro e w' ⟨he, hR', hF, -⟩
  have hS : Step o q q w w' := Step.of_fr hF (fun b e => Or.inr (Or.inl e))
  obtain ⟨t1, t2⟩ := tab_step hT hS h0
  have hA' : ArAt w' o q (S.keep x) md := ⟨I.keep x, t1, t2, fw, wv, by rw [used_keep]; exact hR', hB.same (S.n_keep x) (S.nd_keep x)⟩
  exact ⟨he, AB.step hA' hS hg hb (fun g => by have h1 := cnt_keep_le S x g; have h2 := hc g; omega), step_sp ⟨I, hT, h0, fw, wv, hR, hB⟩ hq hS hA'⟩

theorem dropP {w0 w : World} {G : Nat} {S : St} {md k : Nat} (h : AB w0 G w S md k) (hk : k ≤ 1000000000) (x : Int) :
    Calls Tryd.prog 32 #[.pointer (some ⟨G, 0, none⟩), .int .i64 x] w fun e w' => e = .returned (.int .i64 (S.errB x)) ∧ AB w0 G w' (S.drop x) md k ∧ Sp G w w' := by
  obtain ⟨o, q, rfl, hA, hg, hb, hc, hq⟩ := h.norm
  obtain ⟨I, hT, h0, fw, wv, hR, hB⟩ := hA
  refine (drop_any hR x (by have := hc x; omega) I.wtLen).mono ?_
  rintro e w' ⟨he, q', wv', hR', hS⟩
  obtain ⟨t1, t2⟩ := tab_step hT hS h0
  have hA' : ArAt w' o q' (S.drop x) md := ⟨I.drop x, t1, t2, fw, wv', by rw [used_drop]; exact hR', hB.same (S.n_drop x) (S.nd_drop x)⟩
  exact ⟨he, AB.step hA' hS hg hb (fun g => Nat.le_trans (cnt_drop_le S x g) (hc g)), step_sp ⟨I, hT, h0, fw, wv, hR, hB⟩ hq hS hA'⟩

set_option maxRecDepth 100000 in
theorem made_nil {w0 w : World} {G : Nat} {S : St} {md c : Nat} (hA : AB w0 G w S md c) (k : Value) (ks : Option Addr) (kn kc : Nat) (hk : k = .slice ks kn kc) :
    Calls Tryd.prog 84 #[.pointer (some ⟨G, 0, none⟩), .agg #[.int .i64 0, .int .i64 0, .int .i64 0, .int .u64 0, .int .i64 0, k]] w fun e w' => e = .returned (.int .i64 0) ∧ AB w0 G w' S md c ∧ Sp G w w' := by
  subst hk
  have hB := (Below.refl w.heap.size w).alloc (Nat.le_refl _) (.cells #[.int .i64 0, .int .i64 0, .int .i64 0, .int .u64 0, .int .i64 0, (.slice ks kn kc)] 81)
  have HA := hA.grow hB
  have HS := Sp.of (G := G) hB
  clear hA hB
  go_enter Tryd.func84, Tryd.ntmps84
  go_wp2
  go_ret
  exact ⟨rfl, HA, HS⟩

set_option maxRecDepth 100000 in
set_option maxHeartbeats 1000000 in
theorem made_kept {w0 w : World} {G : Nat} {S : St} {md c : Nat} (hA : AB w0 G w S md c) (hc : c ≤ 1000000000) {h s o n : Int} {x : Nat} {ks : Option Addr} {kn kc : Nat} (h0 : h ≠ 0) (hs : s ≠ 0) :
    Calls Tryd.prog 84 #[.pointer (some ⟨G, 0, none⟩), .agg #[.int .i64 h, .int .i64 s, .int .i64 o, .int .u64 (x : Nat), .int .i64 n, (.slice ks kn kc)]] w fun e w' => e = .returned (.int .i64 h) ∧ AB w0 G w' (S.keep h) md (c + 1) ∧ Sp G w w' := by
  have hB := (Below.refl w.heap.size w).alloc (Nat.le_refl _) (.cells #[.int .i64 h, .int .i64 s, .int .i64 o, .int .u64 (x : Nat), .int .i64 n, (.slice ks kn kc)] 81)
  have T1 : Hid (Calls _ _ _ _ _) := keepP (hA.grow hB) hc h
  have HS : Hid (Sp _ _ _) := Sp.of (G := G) hB
  have BT : Hid (BlkAt _ _ _ _) := BlkAt.made (w := w) rfl 81 [.int .i64 h, .int .i64 s, .int .i64 o, .int .u64 (x : Nat), .int .i64 n, (.slice ks kn kc)]
  have d0 : decide (s = 0) = false := decide_eq_false hs
  have d1 : (s == 0) = false := by simpa using hs
  have d2 : decide (h = 0) = false := decide_eq_false h0
  have d3 : (h != 0) = true := by simp [h0]
  clear hA hB
  go_enter Tryd.func84, Tryd.ntmps84
  go_wp2_with (go_at_call 42; fail)
  refine (T1.out).mono ?_
  rintro e w1 ⟨rfl, HA1, HS1⟩
  have b0 := (HS1.row BT.out)
  have c0 : w1.cell? ⟨w.heap.size, 0, none⟩ = some (.int .i64 h) := b0.cell rfl
  have HS2 := HS.out.trans HS1
  clear b0 HS1 T1 BT
  go_wp2
  go_ret
  exact ⟨rfl, HA1, HS2⟩

set_option maxRecDepth 100000 in
set_option maxHeartbeats 1000000 in
theorem made_leaf {w0 w : World} {G : Nat} {S : St} {md c : Nat} (hA : AB w0 G w S md c) (hc : c ≤ 1000000000) (hm : md ≤ 1000000000) (hn : 0 < S.n) {x n o : Nat} {ks : Option Addr} {kn kc : Nat} (h1 : 1 ≤ n) (h2 : n ≤ 64) :
    Calls Tryd.prog 84 #[.pointer (some ⟨G, 0, none⟩), .agg #[.int .i64 0, .int .i64 (n : Nat), .int .i64 (o : Nat), .int .u64 (x : Nat), .int .i64 (n : Nat), (.slice ks kn kc)]] w fun e w' => e = .returned (.int .i64 (S.mkH (leafNd x n))) ∧ AB w0 G w' (S.mk1 (leafNd x n)) (S.mkM md (leafNd x n)) (c + 5) ∧ Sp G w w' := by
  have T1 : Hid (∀ W, _) := fun W => isFork_no 0 (n : Nat) (o : Nat) x (.slice ks kn kc) W
  have T2 : Hid (∀ W, AB w0 G W S md c → _) := fun W hA => makeP hA hn hc hm (leafNd x n)
  unfold leafNd ndV at T2
  have HE : Hid (∀ nd, nd = leafNd x n → S.mkH nd = S.mkH (leafNd x n)) := fun nd e => by rw [e]
  have HA : Hid (AB w0 G w S md c) := hA
  have d0 : decide ((n : Int) = 0) = false := decide_eq_false (by omega)
  have d1 : ((n : Int) == 0) = false := by simp; omega
  have hw : IntKind.u64.wrap (n : Int) = (n : Int) := by rw [IntKind.wrap_u64]; omega
  clear hA
  go_enter Tryd.func84, Tryd.ntmps84
  go_wp2_with (go_at_call 54; fail)
  refine (T1.out _).mono ?_
  rintro e w1 ⟨rfl, hb⟩
  have hB : Below w.heap.size w w1 := ((Below.refl w.heap.size w).alloc (by first | omega | (simp <;> omega)) _).trans (hb.mono (by first | omega | (simp <;> omega)))
  have sw1 : w.heap.size + 1 ≤ w1.heap.size := by have := hb.size; (try simp at this); omega
  have bt : BlkAt w1 (w.heap.size) 81 [.int .i64 0, .int .i64 (n : Nat), .int .i64 (o : Nat), .int .u64 (x : Nat), .int .i64 (n : Nat), (.slice ks kn kc)] := (BlkAt.made (by first | rfl | simp) _ [.int .i64 0, .int .i64 (n : Nat), .int .i64 (o : Nat), .int .u64 (x : Nat), .int .i64 (n : Nat), (.slice ks kn kc)]).later hb
  have Bt : Hid (BlkAt _ _ _ _) := bt
  have HB : Hid (Below _ _ _) := hB
  clear hB bt
  clear hb
  have c0t : w1.cell? ⟨w.heap.size, 0, none⟩ = some (.int .i64 0) := Bt.out.cell rfl
  have c1t : w1.cell? ⟨w.heap.size, 1, none⟩ = some (.int .i64 (n : Nat)) := Bt.out.cell rfl
  have c2t : w1.cell? ⟨w.heap.size, 2, none⟩ = some (.int .i64 (o : Nat)) := Bt.out.cell rfl
  have c3t : w1.cell? ⟨w.heap.size, 3, none⟩ = some (.int .u64 (x : Nat)) := Bt.out.cell rfl
  have c4t : w1.cell? ⟨w.heap.size, 4, none⟩ = some (.int .i64 (n : Nat)) := Bt.out.cell rfl
  have c5t : w1.cell? ⟨w.heap.size, 5, none⟩ = some ((.slice ks kn kc)) := Bt.out.cell rfl
  have t0t := Bt.out.lt
  go_wp2_with (go_at_call 10; fail)
  refine (T2.out _ (HA.out.grow HB.out)).mono ?_
  rintro e w2 ⟨rfl, HA2, HS2⟩
  have HS3 := (Sp.of (G := G) HB.out).trans HS2
  clear HS2 Bt HB T1 T2 c0t c1t c2t c3t c4t c5t t0t sw1
  go_wp2
  go_ret
  exact ⟨rfl, HA2, HS3⟩

end Go.Proofs.YtfkfnibeipddaabDoor
