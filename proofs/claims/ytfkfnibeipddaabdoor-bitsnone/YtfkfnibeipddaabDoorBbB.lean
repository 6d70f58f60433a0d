/- Rows of bits in memory; a row's own questions; the row of a leaf. -/
import Derived.Test.YtfkfnibeipddaabDoorBbA
namespace Go.Proofs.YtfkfnibeipddaabDoor
open Go.RowKit

/-- these blocks, and all that was there -/
structure Bs (w : World) (l : List (Nat × TypeId × List Value)) (W : World) : Prop where
  b : Below w.heap.size w W
  all : ∀ x ∈ l, BlkAt W x.1 x.2.1 x.2.2

theorem Bs.later {w W W' : World} {l : List (Nat × TypeId × List Value)} (h : Bs w l W) (hb : Below W.heap.size W W') : Bs w l W' :=
  ⟨h.b.trans (hb.mono h.b.size), fun x hx => (h.all x hx).later hb⟩
theorem Bs.drew {w W : World} {l : List (Nat × TypeId × List Value)} (h : Bs w l W) : Bs w l W.drew := ⟨below_drewN h.b 1, fun x hx => h.all x hx⟩
theorem Bs.nil {w W : World} (h : Below w.heap.size w W) : Bs w [] W := ⟨h, fun _ h => by cases h⟩
theorem Bs.cons {w W : World} {l : List (Nat × TypeId × List Value)} {g : Nat} {e : TypeId} {cs : List Value} (h : BlkAt W g e cs) (t : Bs w l W) : Bs w ((g, e, cs) :: l) W :=
  ⟨t.b, fun y hy => by
    rcases List.mem_cons.1 hy with rfl | hy
    · exact h
    · exact t.all y hy⟩
theorem Bs.at {w W : World} {l : List (Nat × TypeId × List Value)} (h : Bs w l W) (i : Nat) {g : Nat} {e : TypeId} {cs : List Value} (hi : l[i]? = some (g, e, cs)) : BlkAt W g e cs := h.all (g, e, cs) (List.mem_of_getElem? hi)

theorem heldB {R S : World → Prop} (mk : ∀ W, R W → S W) (out : ∀ W, S W → R W) (later : ∀ W W', R W → Below W.heap.size W W' → R W') {P : Program} {f : FuncId} {args : Array Value} {v : Value} {W : World} (hS : S W) (t : R W → Calls P f args W fun e w' => e = .returned v ∧ Below W.heap.size W w') :
    Calls P f args W fun e w' => e = .returned v ∧ S w' :=
  (t (out W hS)).mono fun _ W' ⟨h1, h2⟩ => ⟨h1, mk W' (later W W' (out W hS) h2)⟩

theorem heldQ {R S : World → Prop} (mk : ∀ W, R W → S W) (out : ∀ W, S W → R W) (later : ∀ W W', R W → Below W.heap.size W W' → R W') {P : Program} {f : FuncId} {args : Array Value} {Q : Ending → World → Prop} {W : World} (hS : S W) (t : R W → Calls P f args W fun e w' => Q e w' ∧ Below W.heap.size W w') :
    Calls P f args W fun e w' => Q e w' ∧ S w' ∧ Below W.heap.size W w' :=
  (t (out W hS)).mono fun _ W' ⟨h1, h2⟩ => ⟨h1, mk W' (later W W' (out W hS) h2), h2⟩

/-- a block of so many cells -/
def BlkN (W : World) (g : Nat) (e : TypeId) (n : Nat) : Prop := ∃ cs : List Value, cs.length = n ∧ BlkAt W g e cs
theorem BlkN.later {W W' : World} {g : Nat} {e : TypeId} {n : Nat} (h : BlkN W g e n) (hb : Below W.heap.size W W') : BlkN W' g e n := by
  obtain ⟨cs, h1, h2⟩ := h
  exact ⟨cs, h1, h2.later hb⟩
theorem BlkN.set {W : World} {g : Nat} {e : TypeId} {n : Nat} (h : BlkN W g e n) (j : Nat) (u : Value) : BlkN (W.setCell ⟨g, j, none⟩ u) g e n := by
  obtain ⟨cs, h1, h2⟩ := h
  exact ⟨cs.set j u, by rw [List.length_set]; exact h1, h2.set j u⟩
theorem BlkN.frozen {W : World} {g : Nat} {e : TypeId} {n : Nat} (h : BlkN W g e n) (j : Nat) : W.frozen? ⟨g, j, none⟩ = false := by
  obtain ⟨cs, h1, h2⟩ := h
  exact h2.frozen j
theorem BlkAt.cells {W : World} {g : Nat} {e : TypeId} {cs : List Value} (h : BlkAt W g e cs) : BlkN W g e cs.length := ⟨cs, rfl, h⟩
theorem BlkN.lt {W : World} {g : Nat} {e : TypeId} {n : Nat} (h : BlkN W g e n) : g < W.heap.size := by
  obtain ⟨cs, -, h2⟩ := h
  exact h2.lt
theorem BlkN.set6 {W : World} {g : Nat} {e : TypeId} (h : BlkN W g e 6) (b0 b1 b2 b3 b4 b5 : Value) :
    BlkN ((((((W.setCell ⟨g, 0, none⟩ b0).setCell ⟨g, 1, none⟩ b1).setCell ⟨g, 2, none⟩ b2).setCell ⟨g, 3, none⟩ b3).setCell ⟨g, 4, none⟩ b4).setCell ⟨g, 5, none⟩ b5) g e 6 :=
  (((((h.set 0 b0).set 1 b1).set 2 b2).set 3 b3).set 4 b4).set 5 b5
theorem Bs.set6 {w W : World} {l : List (Nat × TypeId × List Value)} (h : Bs w l W) {g : Nat} (hw : w.heap.size ≤ g) (hg : ∀ x ∈ l, x.1 ≠ g) (b0 b1 b2 b3 b4 b5 : Value) :
    Bs w l ((((((W.setCell ⟨g, 0, none⟩ b0).setCell ⟨g, 1, none⟩ b1).setCell ⟨g, 2, none⟩ b2).setCell ⟨g, 3, none⟩ b3).setCell ⟨g, 4, none⟩ b4).setCell ⟨g, 5, none⟩ b5) :=
  ⟨below6 h.b hw _ _ _ _ _ _, fun x hx => (h.all x hx).off6 (hg x hx) _ _ _ _ _ _⟩

/-- where the kids of a row lie that is not made -/
def KidsAt (w : World) : Tr → Value → Prop
  | .fork h l r, k =>
    if h = 0 then ∃ g k1 k2, k = .slice (some ⟨g, 0, none⟩) 2 2 ∧
      BlkAt w g 81 [.int .i64 l.hd, .int .i64 (l.size : Nat), .int .i64 (l.ones : Nat), .int .u64 (l.wd : Nat), .int .i64 (l.bn : Nat), k1, .int .i64 r.hd, .int .i64 (r.size : Nat), .int .i64 (r.ones : Nat), .int .u64 (r.wd : Nat), .int .i64 (r.bn : Nat), k2] ∧ KidsAt w l k1 ∧ KidsAt w r k2
    else k = .slice none 0 0
  | .nil, k => k = .slice none 0 0
  | .leaf _ _ _, k => k = .slice none 0 0

theorem KidsAt.later {w w' : World} (hb : Below w.heap.size w w') : ∀ {t : Tr} {k : Value}, KidsAt w t k → KidsAt w' t k
  | .nil, _, h => h
  | .leaf _ _ _, _, h => h
  | .fork h l r, k, hk => by
    unfold KidsAt at hk ⊢
    split
    · next e =>
      rw [if_pos e] at hk
      obtain ⟨g, k1, k2, h1, h2, h3, h4⟩ := hk
      exact ⟨g, k1, k2, h1, h2.later hb, KidsAt.later hb h3, KidsAt.later hb h4⟩
    · next e =>
      rw [if_neg e] at hk
      exact hk

/-- a slice of kids is one of two forms -/
theorem KidsAt.form {w : World} {t : Tr} {k : Value} (h : KidsAt w t k) : k = .slice none 0 0 ∨ ∃ g, k = .slice (some ⟨g, 0, none⟩) 2 2 := by
  cases t with
  | nil => exact Or.inl h
  | leaf _ _ _ => exact Or.inl h
  | fork e l r =>
    unfold KidsAt at h
    split at h
    · obtain ⟨g, k1, k2, h1, -⟩ := h
      exact Or.inr ⟨g, h1⟩
    · exact Or.inl h

/-- what an arena holds of a row -/
def Held (S : St) : Tr → Prop
  | .nil => True
  | .leaf h x n => h ≠ 0 → 0 < S.cnt h ∧ (S.get h).nd = ⟨1, 0, 0, 0, 0, (x : Nat), (n : Nat)⟩
  | .fork h l r => Held S l ∧ Held S r ∧ (h ≠ 0 → l.hd ≠ 0 ∧ r.hd ≠ 0 ∧ 0 < S.cnt h ∧ (S.get h).nd = ⟨2, l.hd, r.hd, 0, 0, ((l.size + r.size : Nat) : Int), ((l.ones + r.ones : Nat) : Int)⟩)

theorem ofL_kids (w : World) (x n : Nat) : KidsAt w (ofL x n) (.slice none 0 0) := by
  unfold ofL
  split <;> rfl
theorem ofL_held (S : St) (x n : Nat) : Held S (ofL x n) := by
  unfold ofL
  split
  · trivial
  · exact fun h => absurd rfl h

theorem join_held {S : St} {f o : Tr} (hf : Held S f) (ho : Held S o) : Held S (joinT f o) := by
  unfold joinT
  split
  · exact ho
  · split
    · exact hf
    · split
      · exact fun h => absurd rfl h
      · exact ⟨hf, ho, fun h => absurd rfl h⟩
theorem partA_held {S : St} {t : Tr} (h : Held S t) : Held S (partA t) := by
  cases t with
  | nil => trivial
  | leaf g x n => exact ofL_held S _ _
  | fork g l r => exact h.1
theorem partB_held {S : St} {t : Tr} (h : Held S t) : Held S (partB t) := by
  cases t with
  | nil => trivial
  | leaf g x n => exact ofL_held S _ _
  | fork g l r => exact h.2.1
theorem even_held {S : St} {f o : Tr} (hf : Held S f) (ho : Held S o) : Held S (evenT f o) := by
  have a := partA_held hf
  have b := partB_held hf
  have c := partA_held ho
  have d := partB_held ho
  have e := join_held hf ho
  unfold evenT ffT foT
  split
  · exact e
  · split
    · split
      · exact join_held a (join_held b ho)
      · exact join_held (join_held a (partA_held b)) (join_held (partB_held b) ho)
    · split
      · split
        · exact join_held (join_held hf c) d
        · exact join_held (join_held hf (partA_held c)) (join_held (partB_held c) d)
      · exact e

set_option maxRecDepth 100000 in
theorem isFork_no (h s o : Int) (x : Nat) (k : Value) (w : World) :
    Calls Tryd.prog 54 #[.agg #[.int .i64 h, .int .i64 s, .int .i64 o, .int .u64 (x : Nat), .int .i64 s, k]] w fun e w' => e = .returned (.bool false) ∧ Below w.heap.size w w' := by
  go_enter Tryd.func54, Tryd.ntmps54
  go_wp2
  go_ret
  exact ⟨rfl, (Below.refl w.heap.size w).alloc (Nat.le_refl _) _⟩

set_option maxRecDepth 100000 in
theorem isFork_yes {h s o n : Int} {x : Nat} {k : Value} (hs : s ≠ n) (w : World) :
    Calls Tryd.prog 54 #[.agg #[.int .i64 h, .int .i64 s, .int .i64 o, .int .u64 (x : Nat), .int .i64 n, k]] w fun e w' => e = .returned (.bool true) ∧ Below w.heap.size w w' := by
  have d0 : decide (s = n) = false := decide_eq_false hs
  have d1 : (s != n) = true := by simp [hs]
  go_enter Tryd.func54, Tryd.ntmps54
  go_wp2
  go_ret
  exact ⟨rfl, (Below.refl w.heap.size w).alloc (Nat.le_refl _) _⟩

set_option maxRecDepth 100000 in
set_option maxHeartbeats 1000000 in
theorem ofLeaf_any {x n : Nat} (hx : x < 2 ^ n) (hn : n ≤ 64) (w : World) :
    Calls Tryd.prog 49 #[.agg #[.int .u64 (x : Nat), .int .i64 (n : Nat)]] w fun e w' => e = .returned (.agg #[.int .i64 0, .int .i64 (n : Nat), .int .i64 (popN n x : Nat), .int .u64 (x : Nat), .int .i64 (n : Nat), .slice none 0 0]) ∧ Below w.heap.size w w' := by
  have T : Hid (∀ W, _) := fun W => rank_yes hx hn (n : Nat) W
  rw [clampN_in (Nat.le_refl n)] at T
  generalize popN n x = c at *
  go_enter Tryd.func49, Tryd.ntmps49
  go_wp2
  have hR0 : Bs w [(w.heap.size, 69, [.int .u64 ((x : Nat) : Int), .int .i64 ((n : Nat) : Int)])] ((w.alloc (.cells #[.int .u64 ((x : Nat) : Int), .int .i64 ((n : Nat) : Int)] 69)).alloc (.cells #[.int .i64 0, .int .i64 0, .int .i64 0, .int .u64 0, .int .i64 0, .slice none 0 0] 81)) := Bs.cons ((BlkAt.made (by first | rfl | simp) _ [.int .u64 ((x : Nat) : Int), .int .i64 ((n : Nat) : Int)]).alloc _) (Bs.nil (((Below.refl w.heap.size w).alloc (by first | omega | (simp <;> omega)) _).alloc (by first | omega | (simp <;> omega)) _))
  have hZr : Hid (BlkAt ((w.alloc (.cells #[.int .u64 ((x : Nat) : Int), .int .i64 ((n : Nat) : Int)] 69)).alloc (.cells #[.int .i64 0, .int .i64 0, .int .i64 0, .int .u64 0, .int .i64 0, .slice none 0 0] 81)).drew (w.heap.size + 1) 81 [.int .i64 0, .int .i64 0, .int .i64 0, .int .u64 0, .int .i64 0, .slice none 0 0]) := (BlkAt.made (by first | rfl | simp) _ [.int .i64 0, .int .i64 0, .int .i64 0, .int .u64 0, .int .i64 0, .slice none 0 0])
  have hmk : Hid (∀ W, Bs w [(w.heap.size, 69, [.int .u64 ((x : Nat) : Int), .int .i64 ((n : Nat) : Int)])] W → (fun W => (W.cell? ⟨w.heap.size, 0, none⟩ = some (.int .u64 ((x : Nat) : Int)) ∧ W.cell? ⟨w.heap.size, 1, none⟩ = some (.int .i64 ((n : Nat) : Int))) ∧ Bs w [(w.heap.size, 69, [.int .u64 ((x : Nat) : Int), .int .i64 ((n : Nat) : Int)])] W) W) := fun W h => ⟨⟨(h.at 0 rfl).cell rfl, (h.at 0 rfl).cell rfl⟩, h⟩
  have hS0 := hmk.out _ hR0.drew
  have R0 : Hid (∀ W, (fun W => (W.cell? ⟨w.heap.size, 0, none⟩ = some (.int .u64 ((x : Nat) : Int)) ∧ W.cell? ⟨w.heap.size, 1, none⟩ = some (.int .i64 ((n : Nat) : Int))) ∧ Bs w [(w.heap.size, 69, [.int .u64 ((x : Nat) : Int), .int .i64 ((n : Nat) : Int)])] W) W → _) := fun W h => heldQ hmk.out (fun _ h => h.2) (fun _ _ h hb => h.later hb) h (fun hR => T.out W)
  have hget : Hid (∀ W, (fun W => (W.cell? ⟨w.heap.size, 0, none⟩ = some (.int .u64 ((x : Nat) : Int)) ∧ W.cell? ⟨w.heap.size, 1, none⟩ = some (.int .i64 ((n : Nat) : Int))) ∧ Bs w [(w.heap.size, 69, [.int .u64 ((x : Nat) : Int), .int .i64 ((n : Nat) : Int)])] W) W → Bs w [(w.heap.size, 69, [.int .u64 ((x : Nat) : Int), .int .i64 ((n : Nat) : Int)])] W) := fun W h => h.2
  have hstr : Hid (∀ W b0 b1 b2 b3 b4 b5, (fun W => (W.cell? ⟨w.heap.size, 0, none⟩ = some (.int .u64 ((x : Nat) : Int)) ∧ W.cell? ⟨w.heap.size, 1, none⟩ = some (.int .i64 ((n : Nat) : Int))) ∧ Bs w [(w.heap.size, 69, [.int .u64 ((x : Nat) : Int), .int .i64 ((n : Nat) : Int)])] W) W → (fun W => (W.cell? ⟨w.heap.size, 0, none⟩ = some (.int .u64 ((x : Nat) : Int)) ∧ W.cell? ⟨w.heap.size, 1, none⟩ = some (.int .i64 ((n : Nat) : Int))) ∧ Bs w [(w.heap.size, 69, [.int .u64 ((x : Nat) : Int), .int .i64 ((n : Nat) : Int)])] W) ((((((W.setCell ⟨w.heap.size + 1, 0, none⟩ b0).setCell ⟨w.heap.size + 1, 1, none⟩ b1).setCell ⟨w.heap.size + 1, 2, none⟩ b2).setCell ⟨w.heap.size + 1, 3, none⟩ b3).setCell ⟨w.heap.size + 1, 4, none⟩ b4).setCell ⟨w.heap.size + 1, 5, none⟩ b5)) := fun W b0 b1 b2 b3 b4 b5 h => hmk.out _ (h.2.set6 (by first | omega | (simp <;> omega)) (by intro x hx; simp only [List.mem_cons, List.not_mem_nil, or_false] at hx; rcases hx with rfl <;> (dsimp only; omega)) _ _ _ _ _ _ )
  clear hR0 hmk
  go_region_held3 (fun W => (W.cell? ⟨w.heap.size, 0, none⟩ = some (.int .u64 ((x : Nat) : Int)) ∧ W.cell? ⟨w.heap.size, 1, none⟩ = some (.int .i64 ((n : Nat) : Int))) ∧ Bs w [(w.heap.size, 69, [.int .u64 ((x : Nat) : Int), .int .i64 ((n : Nat) : Int)])] W) (first | (with_reducible assumption) | (with_reducible exact hstr.out _ _ _ _ _ _ _ (by with_reducible assumption))) ((first | (go_at_call 55; with_reducible refine (R0.out _ (by with_reducible assumption)).mono ?_; rintro e wr0 ⟨rfl, hS0z, hb0⟩; have hz0r : BlkAt wr0 (w.heap.size + 1) 81 [.int .i64 0, .int .i64 0, .int .i64 0, .int .u64 0, .int .i64 0, .slice none 0 0] := (by first | exact hZr.out.later hb0 | exact (hZr.out.alloc _).later hb0 | exact (hZ0r.out _).later hb0); have z0r : wr0.cell? ⟨w.heap.size + 1, 0, none⟩ = some (.int .i64 0) := hz0r.cell rfl; have y0r := hz0r.frozen 0; have z1r : wr0.cell? ⟨w.heap.size + 1, 1, none⟩ = some (.int .i64 0) := hz0r.cell rfl; have y1r := hz0r.frozen 1; have z2r : wr0.cell? ⟨w.heap.size + 1, 2, none⟩ = some (.int .i64 0) := hz0r.cell rfl; have y2r := hz0r.frozen 2; have z3r : wr0.cell? ⟨w.heap.size + 1, 3, none⟩ = some (.int .u64 0) := hz0r.cell rfl; have y3r := hz0r.frozen 3; have z4r : wr0.cell? ⟨w.heap.size + 1, 4, none⟩ = some (.int .i64 0) := hz0r.cell rfl; have y4r := hz0r.frozen 4; have z5r : wr0.cell? ⟨w.heap.size + 1, 5, none⟩ = some (.slice none 0 0) := hz0r.cell rfl; have y5r := hz0r.frozen 5)))
  have HBX : Hid (Bs _ _ _) := hget.out _ hS0z
  have HB : Hid (Below _ _ _) := HBX.out.b
  have Bl : Hid (BlkAt _ _ _ _) := HBX.out.at 0 rfl
  have Br : Hid (BlkAt _ _ _ _) := hz0r
  go_wp2
  have hsz := HB.out.size
  have t1r := Br.out.lt
  exact bodyPost_ret (v := .agg #[.int .i64 0, .int .i64 (n : Nat), .int .i64 (c : Nat), .int .u64 (x : Nat), .int .i64 (n : Nat), .slice none 0 0]) (by simp [results, Tryd.results49, go_sem, z0r, z1r, z2r, z3r, z4r, z5r]) rfl ⟨rfl, (below6 HB.out (by first | omega | (simp <;> omega)) _ _ _ _ _ _ )⟩

end Go.Proofs.YtfkfnibeipddaabDoor
