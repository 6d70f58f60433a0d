/- Lists of pairs in memory; a part's own questions. -/
import Derived.Test.YtidpkflgibpldaaDoorLsA
import Derived.Deep.RegionHeld3
import Derived.Deep.DeepCutAuto
namespace Go.Proofs.YtidpkflgibpldaaDoor.Ls
open Go.RowKit

set_option maxRecDepth 100000 in
/-- a list is told -/
theorem ret_row {fn : Func} {s : Nat} {R : Ending → World → Prop} {a : Act} {W : World} {g : Nat} {b0 b1 b2 b3 b4 : Value} (hf : fn.results = #[ResultVar.cell s 72]) (hd : a.defers = []) (hp : a.tmps[s]?.getD undef = .pointer (some ⟨g, 0, none⟩)) (hB : BlkAt W g 72 [b0, b1, b2, b3, b4]) (hR : R (.returned (.agg #[b0, b1, b2, b3, b4])) W) : bodyPost Tryd.prog fn R .ret a W := by
  have c0 : W.cell? ⟨g, 0, none⟩ = some b0 := hB.cell rfl
  have c1 : W.cell? ⟨g, 1, none⟩ = some b1 := hB.cell rfl
  have c2 : W.cell? ⟨g, 2, none⟩ = some b2 := hB.cell rfl
  have c3 : W.cell? ⟨g, 3, none⟩ = some b3 := hB.cell rfl
  have c4 : W.cell? ⟨g, 4, none⟩ = some b4 := hB.cell rfl
  exact bodyPost_ret (v := .agg #[b0, b1, b2, b3, b4]) (by simp [results, hf, go_sem, hp, c0, c1, c2, c3, c4]) hd hR

set_option maxRecDepth 100000 in
theorem ret_rows {fn : Func} {s t : Nat} {R : Ending → World → Prop} {a : Act} {W : World} {g h : Nat} {b0 b1 b2 b3 b4 d0 d1 d2 d3 d4 : Value} (hf : fn.results = #[ResultVar.cell s 72, ResultVar.cell t 72]) (hd : a.defers = []) (hp : a.tmps[s]?.getD undef = .pointer (some ⟨g, 0, none⟩)) (hq : a.tmps[t]?.getD undef = .pointer (some ⟨h, 0, none⟩)) (hB : BlkAt W g 72 [b0, b1, b2, b3, b4]) (hD : BlkAt W h 72 [d0, d1, d2, d3, d4]) (hR : R (.returned (.tuple #[.agg #[b0, b1, b2, b3, b4], .agg #[d0, d1, d2, d3, d4]])) W) : bodyPost Tryd.prog fn R .ret a W := by
  have c0 : W.cell? ⟨g, 0, none⟩ = some b0 := hB.cell rfl
  have c1 : W.cell? ⟨g, 1, none⟩ = some b1 := hB.cell rfl
  have c2 : W.cell? ⟨g, 2, none⟩ = some b2 := hB.cell rfl
  have c3 : W.cell? ⟨g, 3, none⟩ = some b3 := hB.cell rfl
  have c4 : W.cell? ⟨g, 4, none⟩ = some b4 := hB.cell rfl
  have e0 : W.cell? ⟨h, 0, none⟩ = some d0 := hD.cell rfl
  have e1 : W.cell? ⟨h, 1, none⟩ = some d1 := hD.cell rfl
  have e2 : W.cell? ⟨h, 2, none⟩ = some d2 := hD.cell rfl
  have e3 : W.cell? ⟨h, 3, none⟩ = some d3 := hD.cell rfl
  have e4 : W.cell? ⟨h, 4, none⟩ = some d4 := hD.cell rfl
  exact bodyPost_ret (v := .tuple #[.agg #[b0, b1, b2, b3, b4], .agg #[d0, d1, d2, d3, d4]]) (by simp [results, hf, go_sem, hp, hq, c0, c1, c2, c3, c4, e0, e1, e2, e3, e4]) hd hR

/-- where the kids of a list lie that is not made -/
def KidsAt (w : World) : Tr → Value → Prop
  | .fork h l r, k =>
    if h = 0 then ∃ g k1 k2, k = .slice (some ⟨g, 0, none⟩) 2 2 ∧
      BlkAt w g 72 [.int .i64 l.hd, .int .i64 (l.size : Nat), .int .i64 (l.ia : Nat), .int .i64 (l.ib : Nat), k1, .int .i64 r.hd, .int .i64 (r.size : Nat), .int .i64 (r.ia : Nat), .int .i64 (r.ib : Nat), k2] ∧ KidsAt w l k1 ∧ KidsAt w r k2
    else k = .slice none 0 0
  | .nil, k => k = .slice none 0 0
  | .item _ _ _, k => k = .slice none 0 0

theorem KidsAt.later {w w' : World} (hb : Below w.heap.size w w') : ∀ {t : Tr} {k : Value}, KidsAt w t k → KidsAt w' t k
  | .nil, _, h => h
  | .item _ _ _, _, h => h
  | .fork h l r, k, hk => by
    unfold KidsAt at hk ⊢
    split
    · next e =>
      rw [if_pos e] at hk
      obtain ⟨g, k1, k2, h1, h2, h3, h4⟩ := hk
      exact ⟨g, k1, k2, h1, h2.later hb, KidsAt.later hb h3, KidsAt.later hb h4⟩
    · next e =>
      rw [if_neg e] at hk
      exact hk

/-- a slice of kids is one of two forms -/
theorem KidsAt.form {w : World} {t : Tr} {k : Value} (h : KidsAt w t k) : k = .slice none 0 0 ∨ ∃ g, k = .slice (some ⟨g, 0, none⟩) 2 2 := by
  cases t with
  | nil => exact Or.inl h
  | item _ _ _ => exact Or.inl h
  | fork e l r =>
    unfold KidsAt at h
    split at h
    · obtain ⟨g, k1, k2, h1, -⟩ := h
      exact Or.inr ⟨g, h1⟩
    · exact Or.inl h

theorem KidsAt.slice {w : World} {t : Tr} {k : Value} (h : KidsAt w t k) : ∃ s n c, k = .slice s n c := by
  rcases h.form with rfl | ⟨g, rfl⟩
  · exact ⟨_, _, _, rfl⟩
  · exact ⟨_, _, _, rfl⟩
theorem kids_made {w : World} {t : Tr} (h : t.hd ≠ 0) : KidsAt w t (.slice none 0 0) := by
  cases t with
  | nil => rfl
  | item _ _ _ => rfl
  | fork e l r =>
    unfold KidsAt
    rw [if_neg (show ¬ e = 0 from h)]
theorem kids_made_eq {w : World} {t : Tr} {k : Value} (h : t.hd ≠ 0 ∨ t = .nil) (hk : KidsAt w t k) : k = .slice none 0 0 := by
  cases t with
  | nil => exact hk
  | item _ _ _ => exact hk
  | fork e l r =>
    have h0 : e ≠ 0 := h.elim id (fun e => nomatch e)
    unfold KidsAt at hk
    rwa [if_neg h0] at hk

theorem KidsAt.drew {w : World} {t : Tr} {k : Value} (h : KidsAt w t k) : KidsAt w.drew t k := KidsAt.later (w := w) (w' := w.drew) (Below.refl _ w).drew h
theorem KidsAt.alloc {W : World} {t : Tr} {k : Value} (h : KidsAt W t k) (o : Obj) : KidsAt (W.alloc o) t k := KidsAt.later ((Below.refl _ _).alloc (Nat.le_refl _) o) h

/-- a block of five cells is none of kids -/
theorem KidsAt.off {W W' : World} {b : Nat} {e : TypeId} (hB : BlkN W b e 5) (hW : ∀ g e' cs, g ≠ b → BlkAt W g e' cs → BlkAt W' g e' cs) {t : Tr} : ∀ {k : Value}, KidsAt W t k → KidsAt W' t k := by
  induction t with
  | nil => exact fun h => h
  | item _ _ _ => exact fun h => h
  | fork h l r ihl ihr =>
    intro k hk
    unfold KidsAt at hk ⊢
    split
    · next e0 =>
      rw [if_pos e0] at hk
      obtain ⟨g, k1, k2, h1, h2, h3, h4⟩ := hk
      exact ⟨g, k1, k2, h1, hW _ _ _ (BlkN.ne h2 hB (by simp)) h2, ihl h3, ihr h4⟩
    · next e0 =>
      rw [if_neg e0] at hk
      exact hk
theorem KidsAt.off5 {W : World} {b : Nat} {e : TypeId} {t : Tr} {k : Value} (h : KidsAt W t k) (hB : BlkN W b e 5) (b0 b1 b2 b3 b4 : Value) : KidsAt (((((W.setCell ⟨b, 0, none⟩ b0).setCell ⟨b, 1, none⟩ b1).setCell ⟨b, 2, none⟩ b2).setCell ⟨b, 3, none⟩ b3).setCell ⟨b, 4, none⟩ b4) t k :=
  KidsAt.off hB (fun _ _ _ hg hA => hA.off5 hg _ _ _ _ _) h

/-- what an arena holds of a list -/
def Held (S : St) : Tr → Prop
  | .nil => True
  | .item h a b => h ≠ 0 → 0 < S.cnt h ∧ (S.get h).nd = ⟨4, 0, 0, 0, 0, (a : Nat), (b : Nat)⟩
  | .fork h l r => Held S l ∧ Held S r ∧ (h ≠ 0 → l.hd ≠ 0 ∧ r.hd ≠ 0 ∧ 0 < S.cnt h ∧ (S.get h).nd = ⟨5, l.hd, r.hd, 0, 0, ((l.size + r.size : Nat) : Int), 0⟩)

theorem join_held {S : St} {f o : Tr} (hf : Held S f) (ho : Held S o) : Held S (joinT f o) := by
  unfold joinT
  split
  · exact ho
  · split
    · exact hf
    · exact ⟨hf, ho, fun h => absurd rfl h⟩
theorem partA_held {S : St} {t : Tr} (h : Held S t) : Held S (partA t) := by
  cases t with
  | nil => trivial
  | item g a b => trivial
  | fork g l r => exact h.1
theorem partB_held {S : St} {t : Tr} (h : Held S t) : Held S (partB t) := by
  cases t with
  | nil => trivial
  | item g a b => trivial
  | fork g l r => exact h.2.1
theorem even_held {S : St} {f o : Tr} (hf : Held S f) (ho : Held S o) : Held S (evenT f o) := by
  have a := partA_held hf
  have b := partB_held hf
  have c := partA_held ho
  have d := partB_held ho
  have e := join_held hf ho
  unfold evenT ffT foT
  split
  · exact e
  · split
    · split
      · exact join_held a (join_held b ho)
      · exact join_held (join_held a (partA_held b)) (join_held (partB_held b) ho)
    · split
      · split
        · exact join_held (join_held hf c) d
        · exact join_held (join_held hf (partA_held c)) (join_held (partB_held c) d)
      · exact e

set_option maxRecDepth 100000 in
theorem isJoin_no {h : Int} {s a b : Nat} {k : Value} (hs : s ≤ 1) (w : World) :
    Calls Tryd.prog 41 #[.agg #[.int .i64 h, .int .i64 (s : Nat), .int .i64 (a : Nat), .int .i64 (b : Nat), k]] w fun e w' => e = .returned (.bool false) ∧ Below w.heap.size w w' := by
  have d0 : decide (1 < (s : Int)) = false := decide_eq_false (by omega)
  have d1 : decide (1 < s) = false := decide_eq_false (by omega)
  go_enter Tryd.func41, Tryd.ntmps41
  go_wp2
  go_ret
  exact ⟨rfl, (Below.refl w.heap.size w).alloc (Nat.le_refl _) _⟩

set_option maxRecDepth 100000 in
theorem isJoin_yes {h : Int} {s a b : Nat} {k : Value} (hs : 1 < s) (w : World) :
    Calls Tryd.prog 41 #[.agg #[.int .i64 h, .int .i64 (s : Nat), .int .i64 (a : Nat), .int .i64 (b : Nat), k]] w fun e w' => e = .returned (.bool true) ∧ Below w.heap.size w w' := by
  have d0 : decide (1 < (s : Int)) = true := decide_eq_true (by omega)
  have d1 : decide (1 < s) = true := decide_eq_true (by omega)
  go_enter Tryd.func41, Tryd.ntmps41
  go_wp2
  go_ret
  exact ⟨rfl, (Below.refl w.heap.size w).alloc (Nat.le_refl _) _⟩

set_option maxRecDepth 100000 in
theorem has_any {h : Int} {s a b : Nat} {k : Value} (i : Int) (w : World) :
    Calls Tryd.prog 37 #[.agg #[.int .i64 h, .int .i64 (s : Nat), .int .i64 (a : Nat), .int .i64 (b : Nat), k], .int .i64 i] w fun e w' => e = .returned (.bool (decide (s = 1 ∧ i = 0))) ∧ Below w.heap.size w w' := by
  by_cases h1 : s = 1
  · by_cases h2 : i = 0
    · subst h1 h2
      rw [decide_eq_true (show (1 = 1 ∧ (0 : Int) = 0) from ⟨rfl, rfl⟩)]
      go_enter Tryd.func37, Tryd.ntmps37
      go_wp2
      go_ret
      exact ⟨rfl, (Below.refl w.heap.size w).alloc (Nat.le_refl _) _⟩
    · subst h1
      rw [decide_eq_false (show ¬ (1 = 1 ∧ i = 0) from fun e => h2 e.2)]
      have d0 : decide (i = 0) = false := decide_eq_false h2
      have d1 : (i == 0) = false := by simpa using h2
      go_enter Tryd.func37, Tryd.ntmps37
      go_wp2
      go_ret
      exact ⟨rfl, (Below.refl w.heap.size w).alloc (Nat.le_refl _) _⟩
  · rw [decide_eq_false (show ¬ (s = 1 ∧ i = 0) from fun e => h1 e.1)]
    have d0 : decide ((s : Int) = 1) = false := decide_eq_false (by omega)
    have d1 : ((s : Int) == 1) = false := by simp; omega
    go_enter Tryd.func37, Tryd.ntmps37
    go_wp2
    go_ret
    exact ⟨rfl, (Below.refl w.heap.size w).alloc (Nat.le_refl _) _⟩

set_option maxRecDepth 100000 in
theorem mayBe_any (a b : Int) (w : World) :
    Calls Tryd.prog 31 #[.agg #[.int .i64 a, .int .i64 b]] w fun e w' => e = .returned (.bool (decide (0 ≤ a ∧ 0 ≤ b))) ∧ Below w.heap.size w w' := by
  by_cases h1 : 0 ≤ a
  · by_cases h2 : 0 ≤ b
    · rw [decide_eq_true (show (0 ≤ a ∧ 0 ≤ b) from ⟨h1, h2⟩)]
      have d0 : decide (0 ≤ a) = true := decide_eq_true h1
      have d1 : decide (0 ≤ b) = true := decide_eq_true h2
      go_enter Tryd.func31, Tryd.ntmps31
      go_wp2
      go_ret
      exact ⟨rfl, (Below.refl w.heap.size w).alloc (Nat.le_refl _) _⟩
    · rw [decide_eq_false (show ¬ (0 ≤ a ∧ 0 ≤ b) from fun e => h2 e.2)]
      have d0 : decide (0 ≤ a) = true := decide_eq_true h1
      have d1 : decide (0 ≤ b) = false := decide_eq_false h2
      go_enter Tryd.func31, Tryd.ntmps31
      go_wp2
      go_ret
      exact ⟨rfl, (Below.refl w.heap.size w).alloc (Nat.le_refl _) _⟩
  · rw [decide_eq_false (show ¬ (0 ≤ a ∧ 0 ≤ b) from fun e => h1 e.1)]
    have d0 : decide (0 ≤ a) = false := decide_eq_false h1
    go_enter Tryd.func31, Tryd.ntmps31
    go_wp2
    go_ret
    exact ⟨rfl, (Below.refl w.heap.size w).alloc (Nat.le_refl _) _⟩

set_option maxRecDepth 100000 in
theorem ofItem_any (a b : Nat) (w : World) :
    Calls Tryd.prog 36 #[.agg #[.int .i64 (a : Nat), .int .i64 (b : Nat)]] w fun e w' => e = .returned (.agg #[.int .i64 (Tr.item 0 a b).hd, .int .i64 (((Tr.item 0 a b).size : Nat) : Int), .int .i64 (((Tr.item 0 a b).ia : Nat) : Int), .int .i64 (((Tr.item 0 a b).ib : Nat) : Int), .slice none 0 0]) ∧ Below w.heap.size w w' := by
  go_enter Tryd.func36, Tryd.ntmps36
  go_wp2
  try go_ret
  exact ret_row Tryd.results36 rfl rfl (BlkAt.made (by first | rfl | simp) _ [.int .i64 0, .int .i64 1, .int .i64 (a : Nat), .int .i64 (b : Nat), .slice none 0 0]) ⟨rfl, (((Below.refl w.heap.size w).alloc (by first | omega | (simp <;> omega)) _).alloc (by first | omega | (simp <;> omega)) _)⟩

end Go.Proofs.YtidpkflgibpldaaDoor.Ls
