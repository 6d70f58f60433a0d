/- Rows of bits: the way down, step by step: plainly, and what a step is in memory. -/
import Derived.Test.YtfkfnibeipddaabDoorBbO
import Derived.Deep.AppendSrc
namespace Go.Proofs.YtfkfnibeipddaabDoor
open Go.RowKit

theorem Tryd.elemStep : Elem Tryd.prog 73 120 (.agg #[.int .i64 0, .int .i64 0, .int .i64 0, .int .u64 0, .int .i64 0, .slice none 0 0, .int .i64 0, .int .i64 0, .int .i64 0, .int .u64 0, .int .i64 0, .slice none 0 0]) 12 128 := by
  refine ⟨Tryd.underlying73, ?_⟩
  have h : (Tryd.prog.info? 120).map (fun i => (i.zero, i.size, i.bytes)) = some (some (.agg #[.int .i64 0, .int .i64 0, .int .i64 0, .int .u64 0, .int .i64 0, .slice none 0 0, .int .i64 0, .int .i64 0, .int .i64 0, .int .u64 0, .int .i64 0, .slice none 0 0]), 12, 128) := by kernel_rfl
  cases hi : Tryd.prog.info? 120 with
  | none => rw [hi] at h; simp at h
  | some i =>
    rw [hi] at h
    simp at h
    exact ⟨i, rfl, h.1, h.2.1, h.2.2, rfl, by decide⟩

theorem own_ne {W : World} {base g : Nat} {e e' : TypeId} {size n : Nat} {v : Value} {xs cs : List Value} (h : W.ownsRow base e size v n xs) (hB : BlkAt W g e' cs) (he : e ≠ e') : v.ownBlock ≠ some g := by
  rcases h.2 with ⟨rfl, -⟩ | ⟨g', cap, cur, rfl, -, hg, -⟩
  · intro e; cases e
  · intro e0
    have e1 : g' = g := by simpa [Value.ownBlock] using e0
    subst e1
    unfold BlkAt at hB
    rw [hg] at hB
    simp at hB
    exact he hB.2

theorem BlkAt.grown {W W' : World} {g : Nat} {e : TypeId} {cs : List Value} {row : Option Nat} (h : BlkAt W g e cs) (hg : W.grownBy W' row) (hn : row ≠ some g) : BlkAt W' g e cs := (hg.block g h.lt (fun e => hn e.symm)).trans h

theorem ownsRow_later {W W' : World} {base : Nat} {e : TypeId} {size n : Nat} {v : Value} {xs : List Value} (h : W.ownsRow base e size v n xs) (hb : Below W.heap.size W W') : W'.ownsRow base e size v n xs := by
  refine ⟨h.1, ?_⟩
  rcases h.2 with h2 | ⟨g, cap, cur, h1, h2, h3, h4⟩
  · exact Or.inl h2
  · exact Or.inr ⟨g, cap, cur, h1, h2, (hb.block g (Array.getElem?_eq_some_iff.1 h3).1).trans h3, h4⟩

theorem ownsRow_off {W W' : World} {base b : Nat} {e e' : TypeId} {size n : Nat} {v : Value} {xs cs : List Value} (h : W.ownsRow base e size v n xs) (hB : BlkAt W b e' cs) (he : e ≠ e') (hW : ∀ g, g ≠ b → W'.heap[g]? = W.heap[g]?) : W'.ownsRow base e size v n xs := by
  refine ⟨h.1, ?_⟩
  have hne := own_ne h hB he
  rcases h.2 with h2 | ⟨g, cap, cur, rfl, h2, h3, h4⟩
  · exact Or.inl h2
  · exact Or.inr ⟨g, cap, cur, rfl, h2, (hW g (fun e0 => hne (by rw [← e0]; rfl))).trans h3, h4⟩

theorem heap_set6 {W : World} {k : Nat} (b0 b1 b2 b3 b4 b5 : Value) (g : Nat) (hg : g ≠ k) : ((((((W.setCell ⟨k, 0, none⟩ b0).setCell ⟨k, 1, none⟩ b1).setCell ⟨k, 2, none⟩ b2).setCell ⟨k, 3, none⟩ b3).setCell ⟨k, 4, none⟩ b4).setCell ⟨k, 5, none⟩ b5).heap[g]? = W.heap[g]? := by
  rw [heap_setCell_other _ ⟨k, 5, none⟩ g b5 hg, heap_setCell_other _ ⟨k, 4, none⟩ g b4 hg, heap_setCell_other _ ⟨k, 3, none⟩ g b3 hg, heap_setCell_other _ ⟨k, 2, none⟩ g b2 hg, heap_setCell_other _ ⟨k, 1, none⟩ g b1 hg, heap_setCell_other _ ⟨k, 0, none⟩ g b0 hg]

/-- the cells of a step -/
def stepC (s : Tr × Tr) : List Value := [.int .i64 s.1.hd, .int .i64 (s.1.size : Nat), .int .i64 (s.1.ones : Nat), .int .u64 (s.1.wd : Nat), .int .i64 (s.1.bn : Nat), .slice none 0 0, .int .i64 s.2.hd, .int .i64 (s.2.size : Nat), .int .i64 (s.2.ones : Nat), .int .u64 (s.2.wd : Nat), .int .i64 (s.2.bn : Nat), .slice none 0 0]
def wayC (w : List (Tr × Tr)) : List Value := w.flatMap stepC

theorem wayC_snoc (w : List (Tr × Tr)) (s : Tr × Tr) : wayC (w ++ [s]) = wayC w ++ stepC s := by simp [wayC]

/-- a row that is not parted further -/
def Tr.stop (most : Nat) : Tr → Prop
  | .nil => True
  | .leaf _ _ n => n ≤ most
  | .fork _ _ _ => False

theorem down_stop {most : Nat} {t : Tr} (h : t.stop most) (i : Int) : downT most t i = ([], t.wd, t.bn, i) := by
  cases t with
  | nil => rfl
  | leaf g x n => exact if_pos h
  | fork g l r => exact h.elim

theorem ofL_down {most x n : Nat} (h : n ≤ most) (hn : n ≠ 0) (i : Int) : downT most (ofL x n) i = ([], x, n, i) := by
  unfold ofL
  rw [if_neg hn]
  exact if_pos h

theorem down_left {most : Nat} (hm : 32 ≤ most) {t : Tr} (ho : t.ok) (h : ¬ t.stop most) {i : Int} (hi : i < ((partA t).size : Int)) : downT most t i = ((.nil, partB t) :: (downT most (partA t) i).1, (downT most (partA t) i).2) := by
  cases t with
  | nil => exact absurd trivial h
  | leaf g x n =>
    have h1 : ¬ n ≤ most := h
    have h2 : (partA (.leaf g x n)).size = n / 2 := ofL_size _ _
    rw [h2] at hi
    have h3 := ho.2.1
    show downT most (.leaf g x n) i = ((.nil, ofL (x / 2 ^ (n / 2)) (n - n / 2)) :: (downT most (ofL (x % 2 ^ (n / 2)) (n / 2)) i).1, (downT most (ofL (x % 2 ^ (n / 2)) (n / 2)) i).2)
    rw [ofL_down (by omega) (by omega)]
    unfold downT
    rw [if_neg h1, if_pos hi]
  | fork g l r =>
    show downT most (.fork g l r) i = ((.nil, r) :: (downT most l i).1, (downT most l i).2)
    have hi' : i < (l.size : Int) := hi
    exact if_pos hi'

theorem down_right {most : Nat} (hm : 32 ≤ most) {t : Tr} (ho : t.ok) (h : ¬ t.stop most) {i : Int} (hi : ¬ i < ((partA t).size : Int)) : downT most t i = ((partA t, .nil) :: (downT most (partB t) (i - (partA t).size)).1, (downT most (partB t) (i - (partA t).size)).2) := by
  cases t with
  | nil => exact absurd trivial h
  | leaf g x n =>
    have h1 : ¬ n ≤ most := h
    have h2 : (partA (.leaf g x n)).size = n / 2 := ofL_size _ _
    rw [h2] at hi ⊢
    have h3 := ho.2.1
    show downT most (.leaf g x n) i = ((ofL (x % 2 ^ (n / 2)) (n / 2), .nil) :: (downT most (ofL (x / 2 ^ (n / 2)) (n - n / 2)) (i - ((n / 2 : Nat) : Int))).1, (downT most (ofL (x / 2 ^ (n / 2)) (n - n / 2)) (i - ((n / 2 : Nat) : Int))).2)
    rw [ofL_down (by omega) (by omega)]
    unfold downT
    rw [if_neg h1, if_neg hi]
  | fork g l r =>
    show downT most (.fork g l r) i = ((l, .nil) :: (downT most r (i - l.size)).1, (downT most r (i - l.size)).2)
    have hi' : ¬ i < (l.size : Int) := hi
    exact if_neg hi'

/-- a row whose kids lie nowhere: made, or a leaf -/
def Tr.flat (t : Tr) : Prop := t.hd ≠ 0 ∨ t.isF = false

theorem flat_kids {W : World} {t : Tr} (h : t.flat) : KidsAt W t (.slice none 0 0) := by
  cases t with
  | nil => rfl
  | leaf _ _ _ => rfl
  | fork e l r => exact kids_made (h.elim id (fun e => nomatch e))

theorem flat_parts {S : St} {t : Tr} (hH : Held S t) (h : t.flat) : (partA t).flat ∧ (partB t).flat := by
  cases t with
  | nil => exact ⟨Or.inr rfl, Or.inr rfl⟩
  | leaf g x n =>
    refine ⟨Or.inr ?_, Or.inr ?_⟩
    · show (ofL _ _).isF = false
      unfold ofL
      split <;> rfl
    · show (ofL _ _).isF = false
      unfold ofL
      split <;> rfl
  | fork g l r =>
    have h0 : g ≠ 0 := h.elim id (fun e => nomatch e)
    obtain ⟨a, b, -⟩ := hH.2.2 h0
    exact ⟨Or.inl a, Or.inl b⟩

theorem parts_flat {p : Value} {S : St} {w : World} (hR : Rd p S w) {t : Tr} (ho : t.ok) (hs : t.size ≤ 1000000000) (hH : Held S t) (hf : t.flat) :
    Calls Tryd.prog 53 #[p, .agg #[.int .i64 (t).hd, .int .i64 (((t).size : Nat) : Int), .int .i64 (((t).ones : Nat) : Int), .int .u64 (((t).wd : Nat) : Int), .int .i64 (((t).bn : Nat) : Int), .slice none 0 0]] w fun e w' => e = .returned (.tuple #[.agg #[.int .i64 (partA t).hd, .int .i64 (((partA t).size : Nat) : Int), .int .i64 (((partA t).ones : Nat) : Int), .int .u64 (((partA t).wd : Nat) : Int), .int .i64 (((partA t).bn : Nat) : Int), .slice none 0 0], .agg #[.int .i64 (partB t).hd, .int .i64 (((partB t).size : Nat) : Int), .int .i64 (((partB t).ones : Nat) : Int), .int .u64 (((partB t).wd : Nat) : Int), .int .i64 (((partB t).bn : Nat) : Int), .slice none 0 0]]) ∧ Below w.heap.size w w' := by
  refine (parts_any hR ho hs hH (flat_kids hf)).mono ?_
  rintro e w' ⟨⟨ka, kb, he, h1, h2⟩, hb⟩
  obtain ⟨f1, f2⟩ := flat_parts hH hf
  have e1 : ka = .slice none 0 0 := by
    rcases f1 with f | f
    · exact kids_made_eq (Or.inl f) h1
    · cases hA : partA t with
      | nil => rw [hA] at h1; exact h1
      | leaf _ _ _ => rw [hA] at h1; exact h1
      | fork _ _ _ => rw [hA] at f; cases f
  have e2 : kb = .slice none 0 0 := by
    rcases f2 with f | f
    · exact kids_made_eq (Or.inl f) h2
    · cases hB : partB t with
      | nil => rw [hB] at h2; exact h2
      | leaf _ _ _ => rw [hB] at h2; exact h2
      | fork _ _ _ => rw [hB] at f; cases f
  subst e1 e2
  exact ⟨he, hb⟩

end Go.Proofs.YtfkfnibeipddaabDoor
