/- What the statements on rows of symbols lean on, part 5. -/
import Derived.Test.YtjbiofjfjljeoaaDoorPc4
namespace Go.Proofs.YtjbiofjfjljeoaaDoor
/-! ### What a change makes -/

theorem miss_hd {t : Tr} (h : t.hd ≠ 0) : t.miss = 0 := by
  cases t with
  | nil => rfl
  | leaf g x n => exact if_neg h
  | fork g l r => exact if_neg h
theorem join_miss (f o : Tr) : (joinT f o).miss ≤ f.miss + o.miss + 1 := by
  unfold joinT
  split
  · omega
  · split
    · omega
    · split
      · show (if (0 : Int) = 0 then 1 else 0) ≤ _
        rw [if_pos rfl]
        omega
      · show (if (0 : Int) = 0 then 1 + f.miss + o.miss else 0) ≤ _
        rw [if_pos rfl]
        omega
theorem half_miss (g : Int) (x n : Nat) : (partA (.leaf g x n)).miss + (partB (.leaf g x n)).miss ≤ 2 := by
  have h1 := ofL_miss (x % 2 ^ (n / 2)) (n / 2)
  have h2 := ofL_miss (x / 2 ^ (n / 2)) (n - n / 2)
  show (ofL _ _).miss + (ofL _ _).miss ≤ 2
  omega
theorem parts_fork {S : St} {g : Int} {l r : Tr} (hH : Held S (.fork g l r)) : l.miss + r.miss ≤ (Tr.fork g l r).miss := by
  by_cases h : g = 0
  · have e : (Tr.fork g l r).miss = 1 + l.miss + r.miss := if_pos h
    omega
  · obtain ⟨a, b, -⟩ := hH.2.2 h
    rw [miss_hd a, miss_hd b]
    exact Nat.zero_le _
theorem parts_miss {S : St} {t : Tr} (hH : Held S t) : (partA t).miss + (partB t).miss ≤ t.miss + 2 := by
  cases t with
  | nil => exact Nat.zero_le _
  | leaf g x n => have := half_miss g x n; omega
  | fork g l r => have := parts_fork hH; show l.miss + r.miss ≤ _; omega
theorem ff_miss {S : St} {f o : Tr} (hH : Held S f) (h4 : 4 ≤ f.size) : (ffT f o).miss ≤ f.miss + o.miss + 5 := by
  unfold ffT
  split
  · have h1 := parts_miss hH
    have h2 := join_miss (partB f) o
    have h3 := join_miss (partA f) (joinT (partB f) o)
    omega
  · next hc =>
    cases f with
    | nil => exact absurd h4 (by show ¬ 4 ≤ 0; omega)
    | leaf g x n =>
      refine absurd ?_ hc
      have h5 : 4 ≤ n := h4
      show (ofL _ _).size < 2 * (ofL _ _).size
      rw [ofL_size, ofL_size]
      omega
    | fork g l r =>
      have h1 := parts_fork hH
      have h2 := parts_miss hH.2.1
      have h3 := join_miss l (partA r)
      have h4 := join_miss (partB r) o
      have h5 := join_miss (joinT l (partA r)) (joinT (partB r) o)
      show (joinT (joinT l (partA r)) (joinT (partB r) o)).miss ≤ _
      omega
theorem fo_miss {S : St} {f o : Tr} (hH : Held S o) (h4 : 4 ≤ o.size) : (foT f o).miss ≤ f.miss + o.miss + 5 := by
  unfold foT
  split
  · have h1 := parts_miss hH
    have h2 := join_miss f (partA o)
    have h3 := join_miss (joinT f (partA o)) (partB o)
    omega
  · next hc =>
    cases o with
    | nil => exact absurd h4 (by show ¬ 4 ≤ 0; omega)
    | leaf g x n =>
      refine absurd ?_ hc
      have h5 : 4 ≤ n := h4
      show (ofL _ _).size < 2 * (ofL _ _).size
      rw [ofL_size, ofL_size]
      omega
    | fork g l r =>
      have h1 := parts_fork hH
      have h2 := parts_miss hH.1
      have h3 := join_miss f (partA l)
      have h4 := join_miss (partB l) r
      have h5 := join_miss (joinT f (partA l)) (joinT (partB l) r)
      show (joinT (joinT f (partA l)) (joinT (partB l) r)).miss ≤ _
      omega
theorem even_miss {S : St} {f o : Tr} (hf : Held S f) (ho : Held S o) : (evenT f o).miss ≤ f.miss + o.miss + 5 := by
  have hj := join_miss f o
  unfold evenT
  split
  · omega
  · next h0 =>
    split
    · exact ff_miss hf (by omega)
    · split
      · exact fo_miss ho (by omega)
      · omega
/-- what is left aside: how much of it is not made -/
def asideN : List (Tr × Tr) → Nat
  | [] => 0
  | s :: w => s.1.miss + s.2.miss + asideN w
theorem up_miss {S : St} {T : Nat} : ∀ {w : List (Tr × Tr)} {r : Tr}, WayOk S w T → r.ok → Held S r → (∀ s ∈ w, s.1 = .nil ∨ s.2 = .nil) → (upT w r).miss ≤ r.miss + 5 * w.length + asideN w
  | [], _, _, _, _, _ => by show _ ≤ _ + 5 * 0 + 0; exact Nat.le_refl _
  | s :: w, r, hw, hr, hH, hn => by
    have hw' : WayOk S w T := ⟨fun x h => hw.ok x (by simp [h]), fun x h => hw.held x (by simp [h]), fun x h => hw.flat x (by simp [h]), fun x h => hw.few x (by simp [h])⟩
    have ih := up_miss hw' hr hH (fun x h => hn x (by simp [h]))
    have hk := upP_ok hw' hr hH (uptoS _ w.length)
    rw [upP_all] at hk
    obtain ⟨o1, o2⟩ := hw.ok s (by simp)
    obtain ⟨g1, g2⟩ := hw.held s (by simp)
    show (evenT (evenT s.1 (upT w r)) s.2).miss ≤ r.miss + 5 * (w.length + 1) + (s.1.miss + s.2.miss + asideN w)
    rcases hn s (by simp) with e | e
    · rw [e, even_nil_left]
      have := even_miss (o := s.2) hk.2.1 g2
      omega
    · rw [e, even_nil_right (even_ok o1 hk.1)]
      have := even_miss g1 hk.2.1
      omega
theorem down_cost {S : St} {most : Nat} : ∀ {t : Tr} (i : Int), Held S t → (t.hd ≠ 0 ∨ t = .nil) → (∀ s ∈ (downT most t i).1, s.1 = .nil ∨ s.2 = .nil) ∧ asideN (downT most t i).1 ≤ 1 ∧ (downT most t i).1.length ≤ t.deep
  | .nil, _, _, _ => ⟨(fun s hs => by cases hs), Nat.zero_le _, Nat.le_refl _⟩
  | .leaf g x n, i, _, _ => by
    unfold downT
    split
    · exact ⟨(fun s hs => by cases hs), Nat.zero_le _, Nat.zero_le _⟩
    · split
      · refine ⟨fun s hs => ?_, ?_, Nat.le_refl _⟩
        · obtain rfl := List.mem_singleton.1 hs
          exact Or.inl rfl
        · have := ofL_miss (x / 2 ^ (n / 2)) (n - n / 2)
          show 0 + (ofL _ _).miss + 0 ≤ 1
          omega
      · refine ⟨fun s hs => ?_, ?_, Nat.le_refl _⟩
        · obtain rfl := List.mem_singleton.1 hs
          exact Or.inr rfl
        · have := ofL_miss (x % 2 ^ (n / 2)) (n / 2)
          show (ofL _ _).miss + 0 + 0 ≤ 1
          omega
  | .fork g l r, i, hH, hm => by
    have hg : g ≠ 0 := hm.elim id (fun e => nomatch e)
    obtain ⟨a, b, -⟩ := hH.2.2 hg
    unfold downT
    split
    · obtain ⟨h1, h2, h3⟩ := down_cost (most := most) (t := l) i hH.1 (Or.inl a)
      refine ⟨fun s hs => ?_, ?_, ?_⟩
      · rcases List.mem_cons.1 hs with rfl | hs
        · exact Or.inl rfl
        · exact h1 s hs
      · show 0 + r.miss + asideN (downT most l i).1 ≤ 1
        rw [miss_hd b]
        omega
      · show (downT most l i).1.length + 1 ≤ max l.deep r.deep + 1
        omega
    · obtain ⟨h1, h2, h3⟩ := down_cost (most := most) (t := r) (i - l.size) hH.2.1 (Or.inl b)
      refine ⟨fun s hs => ?_, ?_, ?_⟩
      · rcases List.mem_cons.1 hs with rfl | hs
        · exact Or.inr rfl
        · exact h1 s hs
      · show l.miss + 0 + asideN (downT most r (i - l.size)).1 ≤ 1
        rw [miss_hd a]
        omega
      · show (downT most r (i - l.size)).1.length + 1 ≤ max l.deep r.deep + 1
        omega
theorem flat_of {t : Tr} (h : t.hd ≠ 0 ∨ t = .nil) : t.flat := h.imp id (fun e => by rw [e]; rfl)
theorem ins_miss {S : St} {t : Tr} {i : Int} {b : Bool} (ho : t.ok) (hH : Held S t) (hm : t.hd ≠ 0 ∨ t = .nil) (_h0 : 0 ≤ i) (h1 : i ≤ t.size) : (insT t i b).miss ≤ 2 + 5 * t.deep := by
  obtain ⟨d1, d2, d3, d4, d5, d6⟩ := down_spec 63 (by omega) i ho
  obtain ⟨e1, e2, -⟩ := down_in 63 i ho
  have hw := down_way (S := S) (most := 63) (by omega) i ho hH (flat_of hm)
  obtain ⟨c1, c2, c3⟩ := down_cost (most := 63) i hH hm
  unfold insT
  have hx := insN_lt d2 (show (downT 63 t i).2.2.2.toNat ≤ (downT 63 t i).2.2.1 by omega) b
  have hr : (Tr.leaf 0 (insN (downT 63 t i).2.1 (downT 63 t i).2.2.2.toNat b) ((downT 63 t i).2.2.1 + 1)).ok := ⟨by omega, by omega, hx⟩
  have hrH : Held S (Tr.leaf 0 (insN (downT 63 t i).2.1 (downT 63 t i).2.2.2.toNat b) ((downT 63 t i).2.2.1 + 1)) := fun h => absurd rfl h
  have hu := up_miss hw hr hrH c1
  have hl : (Tr.leaf 0 (insN (downT 63 t i).2.1 (downT 63 t i).2.2.2.toNat b) ((downT 63 t i).2.2.1 + 1)).miss = 1 := if_pos rfl
  rw [hl] at hu
  omega
theorem ins_small {t : Tr} {i : Int} {b : Bool} (ho : t.ok) (hs : t.size < 64) : (insT t i b).miss ≤ 1 := by
  unfold insT
  have hw : (downT 63 t i).1 = [] := by
    rcases Tr.small ho (by omega) with rfl | ⟨g, x, n, rfl, -⟩
    · rfl
    · have : n < 64 := hs
      unfold downT
      rw [if_pos (by omega)]
  rw [hw]
  exact Nat.le_of_eq (if_pos rfl)
/-! ### What an Insert makes at least -/

theorem part_pos {t : Tr} (h : t.ok) (h2 : 2 ≤ t.size) : 1 ≤ (partA t).size ∧ 1 ≤ (partB t).size := by
  cases t with
  | nil => exact absurd h2 (by show ¬ 2 ≤ 0; omega)
  | leaf g x n =>
    have h3 : 2 ≤ n := h2
    show 1 ≤ (ofL _ _).size ∧ 1 ≤ (ofL _ _).size
    rw [ofL_size, ofL_size]
    omega
  | fork g l r => exact ⟨h.2.2.1, h.2.2.2.1⟩
theorem join_hd0 {f o : Tr} (hf : f.size ≠ 0) (ho : o.size ≠ 0) : (joinT f o).hd = 0 := by
  unfold joinT
  rw [if_neg hf, if_neg ho]
  split <;> rfl
theorem even_hd0 {f o : Tr} (hf : f.ok) (ho : o.ok) (h1 : f.size = 0 → o.hd = 0) (h2 : o.size = 0 → f.hd = 0) : (evenT f o).hd = 0 := by
  unfold evenT
  split
  · next h =>
    unfold joinT
    by_cases hz : f.size = 0
    · rw [if_pos hz]; exact h1 hz
    · rw [if_neg hz]
      have hz2 : o.size = 0 := by omega
      rw [if_pos hz2]; exact h2 hz2
  · next h =>
    split
    · next hc =>
      obtain ⟨p1, p2⟩ := part_pos hf (by omega)
      unfold ffT
      split
      · exact join_hd0 (by omega) (by rw [join_size (partB_ok hf) ho]; omega)
      · exact join_hd0 (by rw [join_size (partA_ok hf) (partA_ok (partB_ok hf))]; omega) (by rw [join_size (partB_ok (partB_ok hf)) ho]; omega)
    · split
      · next hc =>
        obtain ⟨p1, p2⟩ := part_pos ho (by omega)
        unfold foT
        split
        · exact join_hd0 (by rw [join_size hf (partA_ok ho)]; omega) (by omega)
        · exact join_hd0 (by rw [join_size hf (partA_ok (partA_ok ho))]; omega) (by rw [join_size (partB_ok (partA_ok ho)) (partB_ok ho)]; omega)
      · exact join_hd0 (by omega) (by omega)
theorem up_hd0 : ∀ {w : List (Tr × Tr)} {r : Tr}, wayOk w → r.ok → r.hd = 0 → 1 ≤ r.size → (∀ s ∈ w, s.1 = .nil ∨ s.2 = .nil) → (upT w r).hd = 0
  | [], _, _, _, h, _, _ => h
  | s :: w, r, hw, hr, h, h1, hn => by
    have hw' : wayOk w := fun x hx => hw x (by simp [hx])
    have ih := up_hd0 hw' hr h h1 (fun x hx => hn x (by simp [hx]))
    have hu := up_ok hw' hr
    have hs := up_size hw' hr
    have hk := hw s (by simp)
    show (evenT (evenT s.1 (upT w r)) s.2).hd = 0
    rcases hn s (by simp) with e | e
    · rw [e, even_nil_left]
      exact even_hd0 hu hk.2 (fun e => by omega) (fun _ => ih)
    · rw [e, even_nil_right (even_ok hk.1 hu)]
      exact even_hd0 hk.1 hu (fun _ => ih) (fun e => by omega)
theorem miss_pos {t : Tr} (h : t.hd = 0) (hs : t ≠ .nil) : 1 ≤ t.miss := by
  cases t with
  | nil => exact absurd rfl hs
  | leaf g x n => exact Nat.le_of_eq (if_pos h).symm
  | fork g l r =>
    have : (Tr.fork g l r).miss = 1 + l.miss + r.miss := if_pos h
    omega
theorem ins_one {S : St} {t : Tr} {i : Int} {b : Bool} (ho : t.ok) (hH : Held S t) (hm : t.hd ≠ 0 ∨ t = .nil) (h0 : 0 ≤ i) (h1 : i ≤ t.size) : 1 ≤ (insT t i b).miss := by
  obtain ⟨d1, d2, d3, d4, d5, d6⟩ := down_spec 63 (by omega) i ho
  obtain ⟨e1, e2, -⟩ := down_in 63 i ho
  obtain ⟨c1, -, -⟩ := down_cost (most := 63) i hH hm
  have hx := insN_lt d2 (show (downT 63 t i).2.2.2.toNat ≤ (downT 63 t i).2.2.1 by omega) b
  have hr : (Tr.leaf 0 (insN (downT 63 t i).2.1 (downT 63 t i).2.2.2.toNat b) ((downT 63 t i).2.2.1 + 1)).ok := ⟨by omega, by omega, hx⟩
  have hsz := ins_size (b := b) ho hH hm h0 h1
  refine miss_pos (up_hd0 d1 hr rfl (by show 1 ≤ _ + 1; omega) c1) (fun e => ?_)
  rw [show insT t i b = .nil from e] at hsz
  have : Tr.nil.size = 0 := rfl
  omega
/-! ### Which nodes a row has -/

def Tr.hs : Tr → List Int
  | .nil => []
  | .leaf h _ _ => [h]
  | .fork h l r => h :: (l.hs ++ r.hs)
theorem hs_len : ∀ t : Tr, t.hs.length = t.nodes
  | .nil => rfl
  | .leaf _ _ _ => rfl
  | .fork h l r => by
    show (l.hs ++ r.hs).length + 1 = l.nodes + r.nodes + 1
    rw [List.length_append, hs_len l, hs_len r]
theorem hd_mem {t : Tr} (h : t.hd ≠ 0) : t.hd ∈ t.hs := by
  cases t with
  | nil => exact absurd rfl h
  | leaf g x n => exact List.mem_singleton.2 rfl
  | fork g l r => exact List.mem_cons_self
theorem hs_closed {S : St} : ∀ {t : Tr}, Held S t → (t.hd ≠ 0 ∨ t = .nil) → ∀ g ∈ t.hs, ∀ k ∈ (S.get g).nd.kids, k = 0 ∨ k ∈ t.hs
  | .nil, _, _, g, hg, _, _ => by cases hg
  | .leaf h x n, hH, hm, g, hg, k, hk => by
    have h0 : h ≠ 0 := hm.elim id (fun e => nomatch e)
    obtain rfl := List.mem_singleton.1 hg
    rw [(hH h0).2] at hk
    exact Or.inl (by simpa [Nd.kids] using hk)
  | .fork h l r, hH, hm, g, hg, k, hk => by
    have h0 : h ≠ 0 := hm.elim id (fun e => nomatch e)
    obtain ⟨a, b, c, d⟩ := hH.2.2 h0
    show k = 0 ∨ k ∈ h :: (l.hs ++ r.hs)
    rcases List.mem_cons.1 hg with rfl | hg
    · rw [d] at hk
      have : k = l.hd ∨ k = r.hd ∨ k = 0 := by simpa [Nd.kids] using hk
      rcases this with e | e | e
      · exact Or.inr (by rw [e]; simp [hd_mem a])
      · exact Or.inr (by rw [e]; simp [hd_mem b])
      · exact Or.inl e
    · rcases List.mem_append.1 hg with hg | hg
      · rcases hs_closed hH.1 (Or.inl a) g hg k hk with e | e
        · exact Or.inl e
        · exact Or.inr (by simp [e])
      · rcases hs_closed hH.2.1 (Or.inl b) g hg k hk with e | e
        · exact Or.inl e
        · exact Or.inr (by simp [e])
/-! ### A row as a statement has it -/

structure RowT (S : St) (t : Tr) (bs : List Bool) : Prop where
  ok : t.ok
  bal : t.bal
  held : Held S t
  made : t.hd ≠ 0 ∨ t = .nil
  bits : t.bits = bs
theorem RowT.size {S : St} {t : Tr} {bs : List Bool} (T : RowT S t bs) : t.size = bs.length := by rw [← T.bits, t.len]
theorem RowT.grows {S S' : St} {t : Tr} {bs : List Bool} (T : RowT S t bs) (h : Grows S S') : RowT S' t bs := ⟨T.ok, T.bal, Held.grows h T.held, T.made, T.bits⟩
theorem RowT.none (S : St) : RowT S .nil [] := ⟨trivial, trivial, trivial, Or.inr rfl, rfl⟩
theorem RowT.zero {S : St} {t : Tr} {bs : List Bool} (T : RowT S t bs) : t.hd = 0 ↔ bs = [] := by
  rw [← T.bits]
  constructor
  · intro h
    rcases T.made with e | e
    · exact absurd h e
    · rw [e]; rfl
  · intro h
    have : t.size = 0 := by rw [← t.len, h]; rfl
    rw [Tr.zero T.ok this]
    rfl
theorem RowT.nodes {S : St} {t : Tr} {bs : List Bool} (T : RowT S t bs) : t.nodes ≤ 1 + bs.length / 4 := by
  have := nodes_few T.ok T.bal
  rw [T.size] at this
  exact this
theorem RowT.deep {S : St} {t : Tr} {bs : List Bool} (T : RowT S t bs) (h : bs.length ≤ 873) : t.deep ≤ 10 := deep_few T.ok T.bal (by rw [T.size]; omega)
/-- what is told of a row that was made of another one -/
theorem RowT.made_of {S : St} {mine : List Int} {u : Tr} {bs : List Bool} (I : Inv S) (C : CI S mine) (ho : u.ok) (hb : u.bal) (hH : Held S u) (he : u.bits = bs) (hr : usedN S.sl + u.miss ≤ S.n) :
    RowT (mdT u S).1 (mdT u S).2 bs ∧ Grows S (mdT u S).1 ∧ CI (mdT u S).1 (if (mdT u S).2.hd = 0 then mine else mine ++ [(mdT u S).2.hd]) ∧ usedN (mdT u S).1.sl = usedN S.sl + u.miss ∧ (mdT u S).2.deep = u.deep := by
  have M := Go.Proofs.YtjbiofjfjljeoaaDoor.made_of I C hH ho hr
  exact ⟨⟨M.ok, M.bal hb, M.held, M.made, M.bits.trans he⟩, M.grows, M.ci, M.used, M.deep⟩
theorem ins_bal {t : Tr} {i : Int} {b : Bool} (ho : t.ok) (hb : t.bal) (_h0 : 0 ≤ i) (h1 : i ≤ t.size) : (insT t i b).bal := by
  obtain ⟨d1, d2, d3, d4, d5, d6⟩ := down_spec 63 (by omega) i ho
  obtain ⟨e1, e2, -⟩ := down_in 63 i ho
  unfold insT
  have hx := insN_lt d2 (show (downT 63 t i).2.2.2.toNat ≤ (downT 63 t i).2.2.1 by omega) b
  exact up_bal 63 (by omega) i ho hb ⟨by omega, by omega, hx⟩ trivial (Nat.le_refl _) (by show _ ≤ _ + 1 + 1; omega)
end Go.Proofs.YtjbiofjfjljeoaaDoor
namespace Go.Proofs.YtjbiofjfjljeoaaDoor
open Go Go.RowKit Go.Shelf
/-! ### What becomes of rows -/

/-- a row whose root is live stays -/
theorem held_top {S T : St} {mine : List Int} (C : CI T mine) (hK : Keeps S T) : ∀ {t : Tr}, Held S t → (t.hd ≠ 0 ∨ t = .nil) → (t.hd ≠ 0 → 0 < T.cnt t.hd) → Held T t
  | .nil, _, _, _ => trivial
  | .leaf h x n, hH, _, hl => fun h0 => by
    have := hl h0
    exact ⟨this, (hK.2 h this).trans (hH h0).2⟩
  | .fork h l r, hH, hm, hl => by
    have h0 : h ≠ 0 := hm.elim id (fun e => nomatch e)
    obtain ⟨a, b, c, d⟩ := hH.2.2 h0
    have hc := hl h0
    have hd := (hK.2 h hc).trans d
    have kid : ∀ t : Tr, Held S t → t.hd ≠ 0 → t.hd ∈ (T.get h).nd.kids → 0 < T.cnt t.hd := fun t hH ht hk => by
      have hlv : 0 < S.cnt t.hd := by
        cases t with
        | nil => exact absurd rfl ht
        | leaf g x n => exact (hH ht).1
        | fork g l r => exact (hH.2.2 ht).2.2.1
      obtain ⟨r1, r2⟩ := S.live_in (h := t.hd) (decide_eq_true hlv)
      exact cnt_kid C hk r1 (by rw [hK.1]; exact r2)
    have hkl : l.hd ∈ (T.get h).nd.kids := by rw [hd]; simp [Nd.kids]
    have hkr : r.hd ∈ (T.get h).nd.kids := by rw [hd]; simp [Nd.kids]
    exact ⟨held_top C hK hH.1 (Or.inl a) (fun _ => kid l hH.1 a hkl), held_top C hK hH.2.1 (Or.inl b) (fun _ => kid r hH.2.1 b hkr), fun _ => ⟨a, b, hc, hd⟩⟩
theorem RowT.carry {S T : St} {mine : List Int} {t : Tr} {bs : List Bool} (R : RowT S t bs) (C : CI T mine) (hK : Keeps S T) (hm : t.hd = 0 ∨ t.hd ∈ mine) : RowT T t bs :=
  ⟨R.ok, R.bal, held_top C hK R.held R.made (fun h0 => hm.elim (fun e => absurd e h0) (fun e => T.live_pos (C.live e))), R.made, R.bits⟩
/-! ### Who waits -/

/-- where a row is made nobody comes to wait -/
theorem mdT_wt : ∀ {t : Tr} {S : St} {mine : List Int}, Inv S → CI S mine → Held S t → t.ok → usedN S.sl + t.miss ≤ S.n → (mdT t S).1.wt = S.wt
  | .nil, _, _, _, _, _, _, _ => rfl
  | .leaf h x n, S, mine, I, C, hH, ho, hr => by
    by_cases h0 : h = 0
    · have hmd : mdT (.leaf h x n) S = (S.mk1 (leafNd x n), .leaf (S.mkH (leafNd x n)) x n) := if_pos h0
      rw [hmd]
      exact wt_mk1 S _
    · have hmd : mdT (.leaf h x n) S = (S.keep h, .leaf h x n) := if_neg h0
      rw [hmd]
      exact S.wt_keep h
  | .fork h l r, S, mine, I, C, hH, ho, hr => by
    by_cases h0 : h = 0
    · subst h0
      obtain ⟨ol, or_, l1, r1, h64⟩ := ho
      have hm : (Tr.fork 0 l r).miss = 1 + l.miss + r.miss := rfl
      rw [hm] at hr
      have M1 := made_of (S := S) (mine := mine) (t := l) I C hH.1 ol (by omega)
      have W1 := mdT_wt (S := S) (mine := mine) (t := l) I C hH.1 ol (by omega)
      have hmd : mdT (.fork 0 l r) S = ((((mdT r (mdT l S).1).1.mk1 (forkNd (mdT l S).2 (mdT r (mdT l S).1).2)).drop (mdT l S).2.hd).drop (mdT r (mdT l S).1).2.hd, .fork ((mdT r (mdT l S).1).1.mkH (forkNd (mdT l S).2 (mdT r (mdT l S).1).2)) (mdT l S).2 (mdT r (mdT l S).1).2) := if_pos rfl
      rw [hmd]
      generalize (mdT l S).1 = S1 at *
      generalize (mdT l S).2 = l' at *
      have hl0 : l'.hd ≠ 0 := M1.made.elim id (fun e => by have := M1.size; rw [e] at this; have e0 : Tr.nil.size = 0 := rfl; omega)
      have C1 := M1.ci
      rw [if_neg hl0] at C1
      have M2 := made_of (S := S1) (mine := mine ++ [l'.hd]) (t := r) M1.inv C1 (Held.grows M1.grows hH.2.1) or_ (by rw [M1.used, M1.grows.1]; omega)
      have W2 := mdT_wt (S := S1) (mine := mine ++ [l'.hd]) (t := r) M1.inv C1 (Held.grows M1.grows hH.2.1) or_ (by rw [M1.used, M1.grows.1]; omega)
      generalize (mdT r S1).1 = S2 at *
      generalize (mdT r S1).2 = r' at *
      have hr0 : r'.hd ≠ 0 := M2.made.elim id (fun e => by have := M2.size; rw [e] at this; have e0 : Tr.nil.size = 0 := rfl; omega)
      have C2 := M2.ci
      rw [if_neg hr0] at C2
      have hu2 := M2.used
      have hu1 := M1.used
      have hn2 := M2.grows.1
      have hn1 := M1.grows.1
      obtain ⟨i, hl⟩ := room_least (S := S2) (by omega)
      have ml : l'.hd ∈ mine ++ [l'.hd] ++ [r'.hd] := by simp
      have mr : r'.hd ∈ mine ++ [l'.hd] ++ [r'.hd] := by simp
      have hk1 : ∀ k ∈ (forkNd l' r').kids, k = 0 ∨ S2.liveB k = true := fun k hk => by
        have : k = l'.hd ∨ k = r'.hd ∨ k = 0 := by simpa [forkNd, Nd.kids] using hk
        rcases this with e | e | e
        · exact Or.inr (e ▸ C2.live ml)
        · exact Or.inr (e ▸ C2.live mr)
        · exact Or.inl e
      obtain ⟨-, -, hc0, -, h2⟩ := mk_told M2.inv (n := forkNd l' r') rfl hk1 hl
      have pl := S2.live_pos (C2.live ml)
      have pr := S2.live_pos (C2.live mr)
      have ql := (C2.mem _ ml).1
      have qr := (C2.mem _ mr).1
      have cl := h2 _ ql
      have cr := h2 _ qr
      rw [if_neg (fun e => by rw [e, hc0] at pl; omega)] at cl
      rw [if_neg (fun e => by rw [e, hc0] at pr; omega)] at cr
      have kl : 1 ≤ (forkNd l' r').kids.count l'.hd := List.count_pos_iff.2 (by simp [forkNd, Nd.kids])
      have kr : 1 ≤ (forkNd l' r').kids.count r'.hd := List.count_pos_iff.2 (by simp [forkNd, Nd.kids])
      rw [St.wt_drop, if_neg ?_, St.wt_drop, if_neg (by omega), wt_mk1, W2, W1]
      rw [St.cnt_drop]
      split
      · next q =>
        have e : r'.hd = l'.hd := q
        have k2 : 2 ≤ (forkNd l' r').kids.count r'.hd := by simp [forkNd, Nd.kids, e]
        omega
      · omega
    · have hmd : mdT (.fork h l r) S = (S.keep h, .fork h l r) := if_neg h0
      rw [hmd]
      exact S.wt_keep h
/-! ### What is told -/

theorem insR {w0 w : World} {G : Nat} {S : St} {md c : Nat} {mine : List Int} (hA : AB w0 G w S md c) (C : CI S mine) {t : Tr} {bs : List Bool} (T : RowT S t bs) (hl : bs.length ≤ 860) (i : Nat) (hi : i ≤ bs.length) (b : Bool) (hr : usedN S.sl + (2 + 5 * t.deep) ≤ S.n) (hc : c ≤ 800000000) (hmd : md ≤ 800000000) :
    Calls Tryd.prog 40 #[.pointer (some ⟨G, 0, none⟩), .int .i64 t.hd, .int .i64 i, .bool b] w fun e w' => ∃ S' t' m, e = .returned (.tuple #[.int .i64 t'.hd, .int .i64 0]) ∧ AB w0 G w' S' (md + m) (c + 1300) ∧ CI S' (mine ++ [t'.hd]) ∧ Grows S S' ∧ RowT S' t' (bs.take i ++ b :: bs.drop i) ∧ usedN S'.sl = usedN S.sl + m ∧ m ≤ 2 + 5 * t.deep ∧ (1 ≤ m ∧ (bs.length < 64 → m ≤ 1)) ∧ t'.hd ≠ 0 ∧ Sp G w w' ∧ S'.wt = S.wt := by
  have hs := T.size
  have hd := T.deep (by omega)
  have h0 : (0 : Int) ≤ (i : Nat) := by omega
  have h1 : ((i : Nat) : Int) ≤ t.size := by omega
  obtain ⟨q1, q2, q3⟩ := ins_tree (S := S) (b := b) T.ok T.held T.made h0 h1
  have q4 := ins_bal (b := b) T.ok T.bal h0 h1
  have q5 := ins_size (b := b) T.ok T.held T.made h0 h1
  have q6 := ins_miss (b := b) T.ok T.held T.made h0 h1
  have q7 := nodes_few q1 q4
  rw [T.bits, Int.toNat_natCast] at q3
  obtain ⟨r1, r2, r3, r4, -⟩ := RowT.made_of hA.inv C q1 q4 q2 q3 (by omega)
  have hwt := mdT_wt hA.inv C q2 q1 (show usedN S.sl + (insT t i b).miss ≤ S.n by omega)
  have hz : (mdT (insT t i b) S).2.hd ≠ 0 := fun e => by
    have := r1.zero.1 e
    simp at this
  rw [if_neg hz] at r3
  refine (ins_make hA C T.ok (by omega) T.made T.held h0 h1 b (by omega) (by omega) (by omega) (by omega)).mono ?_
  rintro e w' ⟨rfl, hA', hS⟩
  exact ⟨_, _, _, rfl, hA'.mono (by omega), r3, r2, r1, r4, q6, ⟨ins_one T.ok T.held T.made h0 h1, fun h => ins_small T.ok (by omega)⟩, hz, hS, hwt⟩
theorem RowT.deep1 {S : St} {t : Tr} {bs : List Bool} (T : RowT S t bs) (h : bs.length ≤ 64) : t.deep ≤ 1 := by
  rcases Tr.small T.ok (by rw [T.size]; exact h) with e | ⟨g, x, n, e, -⟩
  · rw [e]; exact Nat.zero_le _
  · rw [e]; exact Nat.le_refl _
theorem lenR {p : Value} {S : St} {w : World} (hR : Rd p S w) {t : Tr} {bs : List Bool} (T : RowT S t bs) (hl : bs.length ≤ 30000) :
    Calls Tryd.prog 97 #[p, .int .i64 t.hd] w fun e w' => e = .returned (.int .i64 (bs.length : Nat)) ∧ Below w.heap.size w w' := by
  have := len_any hR T.ok (by rw [T.size]; omega) T.made T.held
  rw [T.size] at this
  exact this
theorem rankR {p : Value} {S : St} {w : World} (hR : Rd p S w) {t : Tr} {bs : List Bool} (T : RowT S t bs) (hl : bs.length ≤ 30000) {i : Int} (hi : i ≤ 9223372036854775807) :
    Calls Tryd.prog 67 #[p, .int .i64 t.hd, .int .i64 i] w fun e w' => e = .returned (.int .i64 ((bs.take i.toNat).count true : Nat)) ∧ Below w.heap.size w w' := by
  have := rankT_any hR T.ok (by rw [T.size]; omega) T.made T.held hi
  rw [T.bits] at this
  exact this
end Go.Proofs.YtjbiofjfjljeoaaDoor
namespace Go.Proofs.YtjbiofjfjljeoaaDoor
open Go.RowKit
end Go.Proofs.YtjbiofjfjljeoaaDoor
namespace Go.Proofs.YtjbiofjfjljeoaaDoor
open Go Go.RowKit Go.Shelf
end Go.Proofs.YtjbiofjfjljeoaaDoor
namespace Go.Proofs.YtjbiofjfjljeoaaDoor
open Go.RowKit
theorem getbR {p : Value} {S : St} {w : World} (hR : Rd p S w) {t : Tr} {bs : List Bool} (T : RowT S t bs) (hl : bs.length ≤ 30000) (i : Nat) {b : Bool} (hb : bs[i]? = some b) :
    Calls Tryd.prog 35 #[p, .int .i64 t.hd, .int .i64 i] w fun e w' => e = .returned (.tuple #[.bool b, .bool true]) ∧ Below w.heap.size w w' := by
  have hi : i < bs.length := (List.getElem?_eq_some_iff.1 hb).1
  have h := getT_in hR T.ok (by rw [T.size]; omega) T.made T.held (i := (i : Int)) (by omega) (by omega) (by rw [T.size]; omega)
  have h2 := leafT_get (i := i) T.ok (by rw [T.size]; omega)
  rw [T.bits, hb] at h2
  rw [← Option.some.inj h2] at h
  exact h
end Go.Proofs.YtjbiofjfjljeoaaDoor
namespace Go.Proofs.YtjbiofjfjljeoaaDoor
open Go Go.RowKit Go.Shelf
/-! ### Plainly -/

theorem hs_live {S : St} : ∀ {t : Tr}, Held S t → (t.hd ≠ 0 ∨ t = .nil) → ∀ g ∈ t.hs, S.liveB g = true
  | .nil, _, _, g, hg => by cases hg
  | .leaf h x n, hH, hm, g, hg => by
    obtain rfl := List.mem_singleton.1 hg
    exact decide_eq_true (hH (hm.elim id (fun e => nomatch e))).1
  | .fork h l r, hH, hm, g, hg => by
    have h0 : h ≠ 0 := hm.elim id (fun e => nomatch e)
    obtain ⟨a, b, c, -⟩ := hH.2.2 h0
    rcases List.mem_cons.1 hg with rfl | hg
    · exact decide_eq_true c
    · rcases List.mem_append.1 hg with hg | hg
      · exact hs_live hH.1 (Or.inl a) g hg
      · exact hs_live hH.2.1 (Or.inl b) g hg
end Go.Proofs.YtjbiofjfjljeoaaDoor
namespace Go.Proofs.YtjbiofjfjljeoaaDoor
end Go.Proofs.YtjbiofjfjljeoaaDoor
namespace Go.Proofs.YtjbiofjfjljeoaaDoor
open Go Go.RowKit
theorem Tryd.eqK2 (a0 a1 b0 b1 : Int) (d : Nat) (w : World) : (Op.equalIn (d + 2) 58 (.agg #[.int .i64 a0, .int .i64 a1]) (.agg #[.int .i64 b0, .int .i64 b1])).run Tryd.prog w = .ok (a0 == b0 && a1 == b1) w := by
  have u3 := Tryd.underlying3
  rw [show d + 2 = (d + 1) + 1 from rfl, run_equalIn_array w (d + 1) _ _ Tryd.underlying58 (i := (Tryd.prog.info? 3).getD default) (by kernel_rfl)]
  rw [show Tryd.prog.cellsOf 3 = 1 by kernel_rfl]
  simp only [List.range, List.range.loop, Op.eqItems]
  have hp : Tryd.prog.plainKey 3 = true := by kernel_rfl
  have p0 : (part 3 #[.int .i64 a0, .int .i64 a1] (0 * 1)).run Tryd.prog w = .ok (.int .i64 a0) w := run_part_plain w hp rfl
  have q0 : (part 3 #[.int .i64 b0, .int .i64 b1] (0 * 1)).run Tryd.prog w = .ok (.int .i64 b0) w := run_part_plain w hp rfl
  have e0 := run_equalIn_int (P := Tryd.prog) w d 3 .i64 .i64 a0 b0 u3
  have p1 : (part 3 #[.int .i64 a0, .int .i64 a1] (1 * 1)).run Tryd.prog w = .ok (.int .i64 a1) w := run_part_plain w hp rfl
  have q1 : (part 3 #[.int .i64 b0, .int .i64 b1] (1 * 1)).run Tryd.prog w = .ok (.int .i64 b1) w := run_part_plain w hp rfl
  have e1 := run_equalIn_int (P := Tryd.prog) w d 3 .i64 .i64 a1 b1 u3
  simp only [Sem.run_bind, p0, q0, Result.andThen_ok, e0]
  by_cases h0 : a0 = b0
  case neg =>
    have hb : (a0 == b0) = false := by simpa using h0
    rw [hb]
    simp
  subst h0
  simp only [beq_self_eq_true, Bool.not_true, Bool.false_eq_true, if_false, Bool.true_and]
  simp only [Sem.run_bind, p1, q1, Result.andThen_ok, e1]
  by_cases h1 : a1 = b1
  case neg =>
    have hb : (a1 == b1) = false := by simpa using h1
    rw [hb]
    simp
  subst h1
  simp only [beq_self_eq_true, Bool.not_true, Bool.false_eq_true, if_false]
  rfl
theorem Tryd.eqK4 (a0 a1 a2 a3 b0 b1 b2 b3 : Int) (d : Nat) (w : World) : (Op.equalIn (d + 2) 45 (.agg #[.int .i64 a0, .int .i64 a1, .int .i64 a2, .int .i64 a3]) (.agg #[.int .i64 b0, .int .i64 b1, .int .i64 b2, .int .i64 b3])).run Tryd.prog w = .ok (a0 == b0 && a1 == b1 && a2 == b2 && a3 == b3) w := by
  have u3 := Tryd.underlying3
  rw [show d + 2 = (d + 1) + 1 from rfl, run_equalIn_array w (d + 1) _ _ Tryd.underlying45 (i := (Tryd.prog.info? 3).getD default) (by kernel_rfl)]
  rw [show Tryd.prog.cellsOf 3 = 1 by kernel_rfl]
  simp only [List.range, List.range.loop, Op.eqItems]
  have hp : Tryd.prog.plainKey 3 = true := by kernel_rfl
  have p0 : (part 3 #[.int .i64 a0, .int .i64 a1, .int .i64 a2, .int .i64 a3] (0 * 1)).run Tryd.prog w = .ok (.int .i64 a0) w := run_part_plain w hp rfl
  have q0 : (part 3 #[.int .i64 b0, .int .i64 b1, .int .i64 b2, .int .i64 b3] (0 * 1)).run Tryd.prog w = .ok (.int .i64 b0) w := run_part_plain w hp rfl
  have e0 := run_equalIn_int (P := Tryd.prog) w d 3 .i64 .i64 a0 b0 u3
  have p1 : (part 3 #[.int .i64 a0, .int .i64 a1, .int .i64 a2, .int .i64 a3] (1 * 1)).run Tryd.prog w = .ok (.int .i64 a1) w := run_part_plain w hp rfl
  have q1 : (part 3 #[.int .i64 b0, .int .i64 b1, .int .i64 b2, .int .i64 b3] (1 * 1)).run Tryd.prog w = .ok (.int .i64 b1) w := run_part_plain w hp rfl
  have e1 := run_equalIn_int (P := Tryd.prog) w d 3 .i64 .i64 a1 b1 u3
  have p2 : (part 3 #[.int .i64 a0, .int .i64 a1, .int .i64 a2, .int .i64 a3] (2 * 1)).run Tryd.prog w = .ok (.int .i64 a2) w := run_part_plain w hp rfl
  have q2 : (part 3 #[.int .i64 b0, .int .i64 b1, .int .i64 b2, .int .i64 b3] (2 * 1)).run Tryd.prog w = .ok (.int .i64 b2) w := run_part_plain w hp rfl
  have e2 := run_equalIn_int (P := Tryd.prog) w d 3 .i64 .i64 a2 b2 u3
  have p3 : (part 3 #[.int .i64 a0, .int .i64 a1, .int .i64 a2, .int .i64 a3] (3 * 1)).run Tryd.prog w = .ok (.int .i64 a3) w := run_part_plain w hp rfl
  have q3 : (part 3 #[.int .i64 b0, .int .i64 b1, .int .i64 b2, .int .i64 b3] (3 * 1)).run Tryd.prog w = .ok (.int .i64 b3) w := run_part_plain w hp rfl
  have e3 := run_equalIn_int (P := Tryd.prog) w d 3 .i64 .i64 a3 b3 u3
  simp only [Sem.run_bind, p0, q0, Result.andThen_ok, e0]
  by_cases h0 : a0 = b0
  case neg =>
    have hb : (a0 == b0) = false := by simpa using h0
    rw [hb]
    simp
  subst h0
  simp only [beq_self_eq_true, Bool.not_true, Bool.false_eq_true, if_false, Bool.true_and]
  simp only [Sem.run_bind, p1, q1, Result.andThen_ok, e1]
  by_cases h1 : a1 = b1
  case neg =>
    have hb : (a1 == b1) = false := by simpa using h1
    rw [hb]
    simp
  subst h1
  simp only [beq_self_eq_true, Bool.not_true, Bool.false_eq_true, if_false, Bool.true_and]
  simp only [Sem.run_bind, p2, q2, Result.andThen_ok, e2]
  by_cases h2 : a2 = b2
  case neg =>
    have hb : (a2 == b2) = false := by simpa using h2
    rw [hb]
    simp
  subst h2
  simp only [beq_self_eq_true, Bool.not_true, Bool.false_eq_true, if_false, Bool.true_and]
  simp only [Sem.run_bind, p3, q3, Result.andThen_ok, e3]
  by_cases h3 : a3 = b3
  case neg =>
    have hb : (a3 == b3) = false := by simpa using h3
    rw [hb]
    simp
  subst h3
  simp only [beq_self_eq_true, Bool.not_true, Bool.false_eq_true, if_false]
  rfl
/-- a row of symbols: at each level its bits, and the rows of those whose bit is 0, and 1 -/
inductive Wt where
  | nil : Wt
  | node (h : Int) (b : Tr) (z o : Wt) : Wt
def Wt.hd : Wt → Int
  | .nil => 0
  | .node h _ _ _ => h
def Wt.size : Wt → Nat
  | .nil => 0
  | .node _ b _ _ => b.size
def Wt.bh : Wt → Int
  | .nil => 0
  | .node _ b _ _ => b.hd
def Wt.zh : Wt → Int
  | .nil => 0
  | .node _ _ z _ => z.hd
def Wt.oh : Wt → Int
  | .nil => 0
  | .node _ _ _ o => o.hd
def Wt.ones : Wt → Nat
  | .nil => 0
  | .node _ b _ _ => b.ones
/-- what an arena holds of it -/
def HeldW (S : St) : Wt → Prop
  | .nil => True
  | .node h b z o => 0 < S.cnt h ∧ (S.get h).nd = ⟨3, b.hd, z.hd, o.hd, 0, 0, 0⟩ ∧ RowT S b b.bits ∧ b.hd ≠ 0 ∧ b.size ≤ 30000 ∧ HeldW S z ∧ HeldW S o
/-- as one may be that has so many levels, of symbols that begin so -/
def Wt.ok : Nat → Nat → Wt → Prop
  | _, _, .nil => True
  | 0, _, .node _ _ _ _ => False
  | k + 1, a, .node _ b z o => 1 ≤ b.size ∧ (0 < b.ones → (2 * a + 1) * 2 ^ k < 257) ∧ (if k = 0 then z = .nil ∧ o = .nil else z.size = b.size - b.ones ∧ o.size = b.ones) ∧ z.ok k (2 * a) ∧ o.ok k (2 * a + 1)
theorem HeldW.pos {S : St} {t : Wt} (h : HeldW S t) (hs : t.size ≠ 0) : t.hd ≠ 0 := by
  cases t with
  | nil => exact absurd rfl hs
  | node g b z o =>
    intro e
    have h1 := h.1
    rw [show g = 0 from e, S.cnt_out (Or.inl (by omega))] at h1
    omega
theorem HeldW.few {S : St} {t : Wt} (h : HeldW S t) : t.size ≤ 30000 := by
  cases t with
  | nil => exact Nat.zero_le _
  | node g b z o => exact h.2.2.2.2.1
set_option maxRecDepth 100000 in
set_option maxHeartbeats 1000000 in
theorem claims_zero {p : Value} {S : St} {w : World} (hR : Rd p S w) {h : Int} (hc : S.cnt h = 0) :
    Calls Tryd.prog 78 #[p, .int .i64 h] w fun e w' => e = .returned (.int .i64 0) ∧ Below w.heap.size w w' := by
  have RD : Hid (Rd p S w) := hR
  have T1 : Hid (∀ W, Rd p S W → _) := fun W hR => getR hR h
  have T2 : Hid (∀ W, Rd p S W → _) := fun W hR => countQ hR h
  rw [hc] at T2
  generalize (S.get h).nd = nd at *
  obtain ⟨tg, k0, k1, k2, k3, a, b⟩ := nd
  generalize S.isB h = is at *
  unfold ndV at T1
  clear hR hc
  go_enter Tryd.func78, Tryd.ntmps78
  go_wp2_with (go_at_call 79; fail)
  refine (T1.out _ RD.out).mono ?_
  rintro e w1 ⟨rfl, hb⟩
  have hB : Below w.heap.size w w1 := (Below.refl w.heap.size w).trans (hb.mo)
  have sw1 : w.heap.size + 0 ≤ w1.heap.size := by have := hb.size; (try simp at this); omega
  have HB : Hid (Below _ _ _) := hB
  clear hB
  clear hb
  go_wp2_with (go_at_call 81; fail)
  have hsz := HB.out.size
  refine (T2.out _ (RD.out.later (HB.out.al _))).mono ?_
  rintro e w2 ⟨rfl, hb⟩
  clear hsz
  have hsz := HB.out.size
  have hB : Below w.heap.size w w2 := (HB.out.al _).trans (hb.mo)
  have sw2 : w1.heap.size + 1 ≤ w2.heap.size := by have := hb.size; (try simp at this); omega
  have bn : BlkAt w2 (w1.heap.size) 48 [.int .i64 tg, .int .i64 k0, .int .i64 k1, .int .i64 k2, .int .i64 k3, .int .u64 a, .int .u64 b] := (BlkAt.made (by first | rfl | simp) _ [.int .i64 tg, .int .i64 k0, .int .i64 k1, .int .i64 k2, .int .i64 k3, .int .u64 a, .int .u64 b]).later hb
  clear hsz HB
  have Bn : Hid (BlkAt _ _ _ _) := bn
  have HB : Hid (Below _ _ _) := hB
  clear hB bn
  clear hb
  go_wp2
  go_ret
  exact ⟨rfl, HB.out⟩
set_option maxRecDepth 100000 in
set_option maxHeartbeats 1000000 in
theorem claims_any {p : Value} {S : St} {w : World} (hR : Rd p S w) {t : Wt} (hH : HeldW S t) :
    Calls Tryd.prog 78 #[p, .int .i64 t.hd] w fun e w' => e = .returned (.int .i64 (t.size : Nat)) ∧ Below w.heap.size w w' := by
  cases t with
  | nil => exact claims_zero hR (S.cnt_out (Or.inl (by show (0 : Int) < 1; omega)))
  | node h b z o =>
  obtain ⟨hc0, hnd, hT, -, hsz0, -⟩ := hH
  show Calls Tryd.prog 78 #[p, .int .i64 h] w fun e w' => e = .returned (.int .i64 (b.size : Nat)) ∧ Below w.heap.size w w'
  have RD : Hid (Rd p S w) := hR
  have T1 : Hid (∀ W, Rd p S W → _) := fun W hR => getR hR h
  have T2 : Hid (∀ W, Rd p S W → _) := fun W hR => countQ hR h
  have T3 : Hid (∀ W, Rd p S W → _) := fun W hR => lenR hR hT (by rw [b.len]; exact hsz0)
  rw [b.len] at T3
  have d0 : decide (((S.cnt h : Nat) : Int) = 0) = false := decide_eq_false (by omega)
  have d00 : (((S.cnt h : Nat) : Int) == 0) = false := by simp; omega
  rw [hnd] at T1
  generalize S.cnt h = c at *
  generalize S.isB h = is at *
  unfold ndV at T1
  generalize b.hd = bh at *
  generalize z.hd = zh at *
  generalize o.hd = oh at *
  clear hR hT hc0 hnd hsz0
  go_enter Tryd.func78, Tryd.ntmps78
  go_wp2_with (go_at_call 79; fail)
  refine (T1.out _ RD.out).mono ?_
  rintro e w1 ⟨rfl, hb⟩
  have hB : Below w.heap.size w w1 := (Below.refl w.heap.size w).trans (hb.mo)
  have sw1 : w.heap.size + 0 ≤ w1.heap.size := by have := hb.size; (try simp at this); omega
  have HB : Hid (Below _ _ _) := hB
  clear hB
  clear hb
  go_wp2_with (go_at_call 81; fail)
  have hsz := HB.out.size
  refine (T2.out _ (RD.out.later (HB.out.al _))).mono ?_
  rintro e w2 ⟨rfl, hb⟩
  clear hsz
  have hsz := HB.out.size
  have hB : Below w.heap.size w w2 := (HB.out.al _).trans (hb.mo)
  have sw2 : w1.heap.size + 1 ≤ w2.heap.size := by have := hb.size; (try simp at this); omega
  have bn : BlkAt w2 (w1.heap.size) 48 [.int .i64 3, .int .i64 bh, .int .i64 zh, .int .i64 oh, .int .i64 0, .int .u64 0, .int .u64 0] := (BlkAt.made (by first | rfl | simp) _ [.int .i64 3, .int .i64 bh, .int .i64 zh, .int .i64 oh, .int .i64 0, .int .u64 0, .int .u64 0]).later hb
  clear hsz HB
  have Bn : Hid (BlkAt _ _ _ _) := bn
  have HB : Hid (Below _ _ _) := hB
  clear hB bn
  clear hb
  obtain ⟨c0n, c1n, c2n, c3n, c4n, c5n, c6n⟩ := cellsB7 Bn.out
  have t0n := Bn.out.lt
  have HK : (Op.equalIn 9999 45 (.agg #[.int .i64 bh, .int .i64 zh, .int .i64 oh, .int .i64 0]) (.agg #[.int .i64 bh, .int .i64 zh, .int .i64 oh, .int .i64 0])).run Tryd.prog w2 = .ok true w2 := by rw [Tryd.eqK4 bh zh oh 0 bh zh oh 0 9997 w2]; simp
  go_wp2_with (go_at_call 97; fail)
  have hsz := HB.out.size
  refine (T3.out _ (RD.out.later HB.out)).mono ?_
  rintro e w3 ⟨rfl, hb⟩
  clear hsz HK
  clear c0n c1n c2n c3n c4n c5n c6n t0n
  have hsz := HB.out.size
  have t1n := Bn.out.lt
  have hB : Below w.heap.size w w3 := HB.out.trans (hb.mo)
  have sw3 : w2.heap.size + 0 ≤ w3.heap.size := by have := hb.size; (try simp at this); omega
  have bn : BlkAt w3 (w1.heap.size) 48 [.int .i64 3, .int .i64 bh, .int .i64 zh, .int .i64 oh, .int .i64 0, .int .u64 0, .int .u64 0] := Bn.out.later hb
  clear t1n Bn hsz HB
  have Bn : Hid (BlkAt _ _ _ _) := bn
  have HB : Hid (Below _ _ _) := hB
  clear hB bn
  clear hb
  go_wp2
  go_ret
  exact ⟨rfl, HB.out⟩
set_option maxRecDepth 100000 in
set_option maxHeartbeats 1000000 in
theorem isOf_any {p : Value} {S : St} {w : World} (hR : Rd p S w) {t : Wt} (hH : HeldW S t) :
    Calls Tryd.prog 80 #[p, .int .i64 t.hd, .int .i64 (t.size : Nat)] w fun e w' => e = .returned (.bool true) ∧ Below w.heap.size w w' := by
  have RD : Hid (Rd p S w) := hR
  have T1 : Hid (∀ W, Rd p S W → _) := fun W hR => claims_any hR hH
  by_cases h0 : t.size = 0
  · have e0 : t.hd = 0 := by
      cases t with
      | nil => rfl
      | node g b z o =>
        have h1 : b.size = 0 := h0
        have h2 := hH.2.2.1
        have h3 := hH.2.2.2.1
        rw [Tr.zero h2.ok h1] at h3
        exact absurd rfl h3
    rw [h0, e0] at T1 ⊢
    clear hR hH h0 e0
    go_enter Tryd.func80, Tryd.ntmps80
    go_wp2_with (go_at_call 78; fail)
    refine (T1.out _ RD.out).mono ?_
    rintro e w1 ⟨rfl, hb⟩
    have hB : Below w.heap.size w w1 := (Below.refl w.heap.size w).trans (hb.mo)
    have sw1 : w.heap.size + 0 ≤ w1.heap.size := by have := hb.size; (try simp at this); omega
    have HB : Hid (Below _ _ _) := hB
    clear hB
    clear hb
    go_wp2
    go_ret
    exact ⟨rfl, HB.out⟩
  · have d0 : decide ((0 : Int) < ((t.size : Nat) : Int)) = true := decide_eq_true (by omega)
    have d1 : decide (0 < t.size) = true := decide_eq_true (by omega)
    clear hR hH h0
    generalize t.size = n at *
    generalize t.hd = h at *
    go_enter Tryd.func80, Tryd.ntmps80
    go_wp2_with (go_at_call 78; fail)
    refine (T1.out _ RD.out).mono ?_
    rintro e w1 ⟨rfl, hb⟩
    have hB : Below w.heap.size w w1 := (Below.refl w.heap.size w).trans (hb.mo)
    have sw1 : w.heap.size + 0 ≤ w1.heap.size := by have := hb.size; (try simp at this); omega
    have HB : Hid (Below _ _ _) := hB
    clear hB
    clear hb
    go_wp2
    go_ret
    exact ⟨rfl, HB.out⟩
set_option maxRecDepth 100000 in
set_option maxHeartbeats 1000000 in
theorem isLast_any (b k0 k1 s o : Int) (w : World) :
    Calls Tryd.prog 63 #[.agg #[.int .i64 b, .int .i64 k0, .int .i64 k1, .int .i64 s, .int .i64 o]] w fun e w' => e = .returned (.bool (k0 == 0 && k1 == 0)) ∧ Below w.heap.size w w' := by
  have HB : Hid (Below w.heap.size w (w.alloc (.cells #[.int .i64 b, .int .i64 k0, .int .i64 k1, .int .i64 s, .int .i64 o] 60))) := (Below.refl _ _).alloc (Nat.le_refl _) _
  have HK : ∀ W, (Op.equalIn 10000 58 (.agg #[.int .i64 k0, .int .i64 k1]) (.agg #[.int .i64 0, .int .i64 0])).run Tryd.prog W = .ok (k0 == 0 && k1 == 0) W := fun W => Tryd.eqK2 k0 k1 0 0 9998 W
  go_enter Tryd.func63, Tryd.ntmps63
  go_wp2
  go_ret
  exact ⟨rfl, HB.out⟩
set_option maxHeartbeats 1000000 in
theorem number_any (b : Bool) (w : World) :
    Calls Tryd.prog 37 #[.bool b] w fun e w' => e = .returned (.int .i64 (if b then 1 else 0)) ∧ Below w.heap.size w w' := by
  cases b
  · go_enter Tryd.func37, Tryd.ntmps37
    go_wp2
    go_ret
    exact ⟨rfl, Below.refl _ _⟩
  · go_enter Tryd.func37, Tryd.ntmps37
    go_wp2
    go_ret
    exact ⟨rfl, Below.refl _ _⟩
set_option maxHeartbeats 1000000 in
/-- whether there is a symbol that begins so -/
theorem begins_any {f l : Nat} (hl : l ≤ 9) (hf : f ≤ 100000) (w : World) :
    Calls Tryd.prog 64 #[.int .i64 (f : Nat), .int .i64 (l : Nat)] w fun e w' => e = .returned (.bool (decide (f * 2 ^ (9 - l) < 257))) ∧ Below w.heap.size w w' := by
  have hw : IntKind.i64.wrap (9 - (l : Int)) = ((9 - l : Nat) : Int) := by rw [IntKind.wrap_i64]; omega
  obtain ⟨d, hd⟩ : ∃ d, 9 - l = d := ⟨_, rfl⟩
  rw [hd] at hw ⊢
  have hd9 : d ≤ 9 := by omega
  have hp : 2 ^ d ≤ 2 ^ 9 := Nat.pow_le_pow_right (by omega) hd9
  have hp9 : (2 : Nat) ^ 9 = 512 := by decide
  have hm : f * 2 ^ d ≤ 100000 * 512 := Nat.mul_le_mul hf (by omega)
  have hsh : IntKind.i64.wrap ((f : Int) * 2 ^ d) = ((f * 2 ^ d : Nat) : Int) := by
    rw [show ((f : Int) * 2 ^ d) = ((f * 2 ^ d : Nat) : Int) by simp, IntKind.wrap_i64]
    omega
  have h0 : (0 : Int) ≤ (d : Int) := by omega
  have h64 : (d : Int) < 64 := by omega
  have h64n : d < 64 := by omega
  have hdec : decide (((f * 2 ^ d : Nat) : Int) < 257) = decide (f * 2 ^ d < 257) := by
    apply decide_eq_decide.2
    omega
  rw [← hdec]
  clear hd hp hp9 hm hl hf hdec
  generalize f * 2 ^ d = q at *
  go_enter Tryd.func64, Tryd.ntmps64
  go_wp2
  go_ret
  exact ⟨by simp, Below.refl _ _⟩
end Go.Proofs.YtjbiofjfjljeoaaDoor
namespace Go.Proofs.YtjbiofjfjljeoaaDoor
open Go Go.RowKit
theorem wsz1 (W : World) (o : Obj) : W.heap.size + 1 = (W.alloc o).heap.size := by simp
set_option maxRecDepth 100000 in
theorem ret_wr {fn : Func} {s t : Nat} {R : Ending → World → Prop} {a : Act} {W : World} {g : Nat} {b0 b1 b2 b3 b4 v : Value} (hf : fn.results = #[ResultVar.cell s 60, ResultVar.tmp t]) (hd : a.defers = []) (hp : a.tmps[s]?.getD undef = .pointer (some ⟨g, 0, none⟩)) (ht : a.tmps[t]?.getD undef = v) (hB : BlkAt W g 60 [b0, b1, b2, b3, b4]) (hR : R (.returned (.tuple #[.agg #[b0, b1, b2, b3, b4], v])) W) : bodyPost Tryd.prog fn R .ret a W := by
  have c0 : W.cell? ⟨g, 0, none⟩ = some b0 := hB.cell rfl
  have c1 : W.cell? ⟨g, 1, none⟩ = some b1 := hB.cell rfl
  have c2 : W.cell? ⟨g, 2, none⟩ = some b2 := hB.cell rfl
  have c3 : W.cell? ⟨g, 3, none⟩ = some b3 := hB.cell rfl
  have c4 : W.cell? ⟨g, 4, none⟩ = some b4 := hB.cell rfl
  exact bodyPost_ret (v := .tuple #[.agg #[b0, b1, b2, b3, b4], v]) (by simp [results, hf, go_sem, hp, ht, c0, c1, c2, c3, c4]) hd hR
set_option maxRecDepth 100000 in
set_option maxHeartbeats 16000000 in
theorem wsays_zero {p : Value} {S : St} {w : World} (hR : Rd p S w) {h : Int} (hc : S.cnt h = 0) :
    Calls Tryd.prog 44 #[p, .int .i64 h] w fun e w' => e = .returned (.tuple #[.agg #[.int .i64 0, .int .i64 0, .int .i64 0, .int .i64 0, .int .i64 0], .bool true]) ∧ Below w.heap.size w w' := by
  have hb0 := (Below.refl w.heap.size w).alloc (Nat.le_refl _) (.cells #[.int .i64 0, .int .i64 0, .int .i64 0, .int .i64 0, .int .i64 0] 60)
  have T1 : Hid (Calls _ _ _ _ _) := claims_zero (hR.later hb0) hc
  have HB0 : Hid (Below _ _ _) := hb0
  clear hR hc hb0
  go_enter Tryd.func44, Tryd.ntmps44
  go_wp2_with (go_at_call 78; fail)
  refine (T1.out).mono ?_
  rintro e w1 ⟨rfl, hb⟩
  have br : BlkAt w1 w.heap.size 60 [.int .i64 0, .int .i64 0, .int .i64 0, .int .i64 0, .int .i64 0] := (BlkAt.made rfl _ [.int .i64 0, .int .i64 0, .int .i64 0, .int .i64 0, .int .i64 0]).later hb
  have HBR : Hid (BlkAt _ _ _ _) := br
  have HB1 : Hid (Below w.heap.size w w1) := HB0.out.trans (hb.mono HB0.out.size)
  have z0 := br.cell (j := 0) rfl
  have f0 := br.frozen 0
  have z1 := br.cell (j := 1) rfl
  have f1 := br.frozen 1
  have z2 := br.cell (j := 2) rfl
  have f2 := br.frozen 2
  have z3 := br.cell (j := 3) rfl
  have f3 := br.frozen 3
  have z4 := br.cell (j := 4) rfl
  have f4 := br.frozen 4
  clear br hb T1 HB0
  go_wp2
  exact ret_wr Tryd.results44 rfl rfl rfl (HBR.out.set5 _ _ _ _ _) ⟨rfl, below5 HB1.out (Nat.le_refl _) _ _ _ _ _⟩
/-- the row that is asked lies beside the one that is told -/
structure WK (w W : World) (g9 : Nat) (cs : List Value) : Prop where
  lt : w.heap.size < g9
  b : Below w.heap.size w W
  r : BlkAt W g9 60 cs
  z : BlkAt W w.heap.size 60 [.int .i64 0, .int .i64 0, .int .i64 0, .int .i64 0, .int .i64 0]
theorem wk_mk {w w2 W : World} {g9 : Nat} {bh zh oh : Int} {cs : List Value} (hlz : w.heap.size < w2.heap.size) (h : (fun W => (W.cell? ⟨w2.heap.size, 1, none⟩ = some (.int .i64 bh) ∧ W.cell? ⟨w2.heap.size, 2, none⟩ = some (.int .i64 zh) ∧ W.cell? ⟨w2.heap.size, 3, none⟩ = some (.int .i64 oh)) ∧ (Below w.heap.size w W ∧ BlkAt W w2.heap.size 48 [.int .i64 3, .int .i64 bh, .int .i64 zh, .int .i64 oh, .int .i64 0, .int .u64 0, .int .u64 0] ∧ BlkAt W w.heap.size 60 [.int .i64 0, .int .i64 0, .int .i64 0, .int .i64 0, .int .i64 0])) W) (n : w2.heap.size < g9) (b9 : BlkAt W g9 60 cs) : WK w W g9 cs :=
  ⟨Nat.lt_trans hlz n, h.2.1, b9, h.2.2.2⟩
set_option maxRecDepth 100000 in
set_option maxHeartbeats 16000000 in
theorem wsays_node {p : Value} {S : St} {w : World} (hR : Rd p S w) {h bh zh oh : Int} {s c : Nat} (hs : 1 ≤ s) (hs3 : s ≤ 30000) (hcs : c ≤ s) (hnd : (S.get h).nd = ⟨3, bh, zh, oh, 0, 0, 0⟩)
    (hcl : ∀ W, Rd p S W → Calls Tryd.prog 78 #[p, .int .i64 h] W fun e w' => e = .returned (.int .i64 (s : Nat)) ∧ Below W.heap.size W w')
    (hrk : ∀ W, Rd p S W → Calls Tryd.prog 67 #[p, .int .i64 bh, .int .i64 (s : Nat)] W fun e w' => e = .returned (.int .i64 (c : Nat)) ∧ Below W.heap.size W w')
    (hk : zh = 0 ∧ oh = 0 ∨ ((zh == 0 && oh == 0) = false ∧ (∀ W, Rd p S W → Calls Tryd.prog 80 #[p, .int .i64 zh, .int .i64 ((s - c : Nat) : Int)] W fun e w' => e = .returned (.bool true) ∧ Below W.heap.size W w') ∧ (∀ W, Rd p S W → Calls Tryd.prog 80 #[p, .int .i64 oh, .int .i64 (c : Nat)] W fun e w' => e = .returned (.bool true) ∧ Below W.heap.size W w'))) :
    Calls Tryd.prog 44 #[p, .int .i64 h] w fun e w' => e = .returned (.tuple #[.agg #[.int .i64 bh, .int .i64 zh, .int .i64 oh, .int .i64 (s : Nat), .int .i64 (c : Nat)], .bool true]) ∧ Below w.heap.size w w' := by
  have RD : Hid (Rd p S w) := hR
  have TC : Hid (∀ W, Rd p S W → _) := hcl
  have TR : Hid (∀ W, Rd p S W → _) := hrk
  have TG : Hid (∀ W, Rd p S W → _) := fun W hR => getR hR h
  rw [hnd] at TG
  unfold ndV at TG
  generalize S.isB h = is at *
  have d0 : ((s : Int) == 0) = false := by simp; omega
  have d1 : decide ((s : Int) = 0) = false := decide_eq_false (by omega)
  have HK : Hid (_ ∨ _) := hk
  have hb0 := (Below.refl w.heap.size w).alloc (Nat.le_refl _) (.cells #[.int .i64 0, .int .i64 0, .int .i64 0, .int .i64 0, .int .i64 0] 60)
  have HB0 : Hid (Below _ _ _) := hb0
  clear hR hcl hrk hnd hk hb0
  go_enter Tryd.func44, Tryd.ntmps44
  go_wp2_with (go_at_call 78; fail)
  refine (TC.out _ (RD.out.later HB0.out)).mono ?_
  rintro e w1 ⟨rfl, hb⟩
  have br : BlkAt w1 w.heap.size 60 [.int .i64 0, .int .i64 0, .int .i64 0, .int .i64 0, .int .i64 0] := (BlkAt.made rfl _ [.int .i64 0, .int .i64 0, .int .i64 0, .int .i64 0, .int .i64 0]).later hb
  have HBR : Hid (BlkAt _ _ _ _) := br
  have HB1 : Hid (Below w.heap.size w w1) := HB0.out.trans (hb.mono HB0.out.size)
  clear hb br TC HB0
  go_wp2_with (go_at_call 79; fail)
  refine (TG.out _ (RD.out.later HB1.out)).mono ?_
  rintro e w2 ⟨rfl, hb⟩
  have hb2 : Below w.heap.size w w2 := HB1.out.trans (hb.mono HB1.out.size)
  have br2 : BlkAt w2 w.heap.size 60 [.int .i64 0, .int .i64 0, .int .i64 0, .int .i64 0, .int .i64 0] := HBR.out.later hb
  have hlt := br2.lt
  let PX19 : World → Prop := (fun W => (W.cell? ⟨w2.heap.size, 1, none⟩ = some (.int .i64 bh) ∧ W.cell? ⟨w2.heap.size, 2, none⟩ = some (.int .i64 zh) ∧ W.cell? ⟨w2.heap.size, 3, none⟩ = some (.int .i64 oh)) ∧ (Below w.heap.size w W ∧ BlkAt W w2.heap.size 48 [.int .i64 3, .int .i64 bh, .int .i64 zh, .int .i64 oh, .int .i64 0, .int .u64 0, .int .u64 0] ∧ BlkAt W w.heap.size 60 [.int .i64 0, .int .i64 0, .int .i64 0, .int .i64 0, .int .i64 0]))
  have hmk : Hid (∀ W, Below w.heap.size w W ∧ BlkAt W w2.heap.size 48 [.int .i64 3, .int .i64 bh, .int .i64 zh, .int .i64 oh, .int .i64 0, .int .u64 0, .int .u64 0] ∧ BlkAt W w.heap.size 60 [.int .i64 0, .int .i64 0, .int .i64 0, .int .i64 0, .int .i64 0] → PX19 W) := fun W h => ⟨⟨h.2.1.cell rfl, h.2.1.cell rfl, h.2.1.cell rfl⟩, h⟩
  have hS0 : PX19 (w2.alloc (.cells #[.int .i64 3, .int .i64 bh, .int .i64 zh, .int .i64 oh, .int .i64 0, .int .u64 0, .int .u64 0] 48)).drew := hmk.out _ ⟨(hb2.alloc (by omega) _).drew, (BlkAt.made rfl _ [.int .i64 3, .int .i64 bh, .int .i64 zh, .int .i64 oh, .int .i64 0, .int .u64 0, .int .u64 0]).drew, (br2.alloc _).drew⟩
  have hs1 : Hid (∀ o, PX19 ((w2.alloc (.cells #[.int .i64 3, .int .i64 bh, .int .i64 zh, .int .i64 oh, .int .i64 0, .int .u64 0, .int .u64 0] 48)).alloc o).drew) := fun o => hmk.out _ ⟨((hb2.alloc (by omega) _).alloc (by simp; omega) _).drew, ((BlkAt.made rfl _ [.int .i64 3, .int .i64 bh, .int .i64 zh, .int .i64 oh, .int .i64 0, .int .u64 0, .int .u64 0]).alloc _).drew, ((br2.alloc _).alloc _).drew⟩
  have R0 : Hid (∀ W, PX19 W → Calls Tryd.prog 67 #[p, .int .i64 bh, .int .i64 (s : Nat)] W fun e w' => e = .returned (.int .i64 (c : Nat)) ∧ PX19 w' ∧ Below W.heap.size W w') := fun W h => (TR.out W (RD.out.later h.2.1)).mono (fun e w' q => ⟨q.1, hmk.out _ ⟨h.2.1.trans (q.2.mono h.2.1.size), h.2.2.1.later q.2, h.2.2.2.later q.2⟩, q.2⟩)
  have hal : Hid (∀ W ob, PX19 W → PX19 (W.alloc ob)) := fun W ob h => hmk.out _ ⟨h.2.1.alloc h.2.1.size ob, h.2.2.1.alloc ob, h.2.2.2.alloc ob⟩
  have hst : Hid (∀ W gz b0 b1 b2 b3 b4, w2.heap.size < gz → PX19 W → PX19 (((((W.setCell ⟨gz, 0, none⟩ b0).setCell ⟨gz, 1, none⟩ b1).setCell ⟨gz, 2, none⟩ b2).setCell ⟨gz, 3, none⟩ b3).setCell ⟨gz, 4, none⟩ b4)) := fun W gz b0 b1 b2 b3 b4 hg h => hmk.out _ ⟨below5 h.2.1 (by omega) _ _ _ _ _, h.2.2.1.off5 (by omega) _ _ _ _ _, h.2.2.2.off5 (by omega) _ _ _ _ _⟩
  have hl8 : w2.heap.size < w2.heap.size + 1 := by omega
  have hlz : w.heap.size < w2.heap.size := hlt
  clear hb hb2 br2 HB1 HBR TG TR hmk
  go_wp2
  go_upto_region 5 with fail
  go_cut [9] (fun s9 wx => ∃ g9, s9 = .pointer (some ⟨g9, 0, none⟩) ∧ Hid (WK w wx g9 [.int .i64 bh, .int .i64 zh, .int .i64 oh, .int .i64 (s : Nat), .int .i64 (c : Nat)]))
  case first =>
    go_region_held3 (fun W => (W.cell? ⟨w2.heap.size, 1, none⟩ = some (.int .i64 bh) ∧ W.cell? ⟨w2.heap.size, 2, none⟩ = some (.int .i64 zh) ∧ W.cell? ⟨w2.heap.size, 3, none⟩ = some (.int .i64 oh)) ∧ (Below w.heap.size w W ∧ BlkAt W w2.heap.size 48 [.int .i64 3, .int .i64 bh, .int .i64 zh, .int .i64 oh, .int .i64 0, .int .u64 0, .int .u64 0] ∧ BlkAt W w.heap.size 60 [.int .i64 0, .int .i64 0, .int .i64 0, .int .i64 0, .int .i64 0])) (first | (with_reducible assumption) | (with_reducible exact hs1.out _) | (with_reducible exact hal.out _ _ (by with_reducible assumption)) | (with_reducible exact hst.out _ _ _ _ _ _ _ (by with_reducible assumption) (by with_reducible assumption))) ((first | (go_at_call 67; with_reducible refine (R0.out _ (by with_reducible assumption)).mono ?_; rintro e wr0 ⟨rfl, hS0z, hb0⟩; have hl0 : w2.heap.size < wr0.heap.size := hS0z.2.2.1.lt; (first | (have pa : BlkAt wr0 (w2.heap.size + 1) 60 [.int .i64 0, .int .i64 0, .int .i64 0, .int .i64 0, .int .i64 0] := ((BlkAt.made (by first | exact wsz1 _ _) _ [.int .i64 0, .int .i64 0, .int .i64 0, .int .i64 0, .int .i64 0]).drew).later hb0; have pal := pa.lt; have pac0 := pa.cell (j := 0) rfl; have paf0 := pa.frozen 0; have pac1 := pa.cell (j := 1) rfl; have paf1 := pa.frozen 1; have pac2 := pa.cell (j := 2) rfl; have paf2 := pa.frozen 2; have pac3 := pa.cell (j := 3) rfl; have paf3 := pa.frozen 3; have pac4 := pa.cell (j := 4) rfl; have paf4 := pa.frozen 4) | skip))))
    all_goals (go_wp2_with fail)
    all_goals go_meet
    all_goals (refine ⟨_, rfl, ?_⟩)
    all_goals (refine wk_mk hlz (by with_reducible assumption) (by omega) ?_)
    all_goals first | (with_reducible exact pa.set5 _ _ _ _ _) | (with_reducible exact BlkAt.made rfl _ [_, _, _, _, _])
  case rest =>
    obtain ⟨g9, rfl, HF⟩ := hcut
    obtain ⟨hg9, hbx, b9, bz⟩ := HF.out
    have hne9 : g9 ≠ w.heap.size := by omega
    have hne8 : w.heap.size ≠ g9 := by omega
    let PX18 : World → Prop := (fun W => (W.cell? ⟨g9, 0, none⟩ = some (.int .i64 bh) ∧ W.cell? ⟨g9, 1, none⟩ = some (.int .i64 zh) ∧ W.cell? ⟨g9, 2, none⟩ = some (.int .i64 oh) ∧ W.cell? ⟨g9, 3, none⟩ = some (.int .i64 (s : Nat)) ∧ W.cell? ⟨g9, 4, none⟩ = some (.int .i64 (c : Nat))) ∧ (Below w.heap.size w W ∧ BlkAt W g9 60 [.int .i64 bh, .int .i64 zh, .int .i64 oh, .int .i64 (s : Nat), .int .i64 (c : Nat)] ∧ BlkN W w.heap.size 60 5))
    have hmk6 : Hid (∀ W, Below w.heap.size w W ∧ BlkAt W g9 60 [.int .i64 bh, .int .i64 zh, .int .i64 oh, .int .i64 (s : Nat), .int .i64 (c : Nat)] ∧ BlkN W w.heap.size 60 5 → PX18 W) := fun W h => ⟨⟨h.2.1.cell rfl, h.2.1.cell rfl, h.2.1.cell rfl, h.2.1.cell rfl, h.2.1.cell rfl⟩, h⟩
    have hS6 := hmk6.out wc.drew ⟨hbx.drew, b9.drew, ⟨_, rfl, bz.drew⟩⟩
    have HZ : Hid (BlkAt wc.drew w.heap.size 60 [.int .i64 0, .int .i64 0, .int .i64 0, .int .i64 0, .int .i64 0]) := bz.drew
    have hzt := bz
    have R3 : Hid (∀ W, PX18 W → Calls Tryd.prog 63 #[.agg #[.int .i64 bh, .int .i64 zh, .int .i64 oh, .int .i64 (s : Nat), .int .i64 (c : Nat)]] W fun e w' => e = .returned (.bool (zh == 0 && oh == 0)) ∧ PX18 w' ∧ Below W.heap.size W w') := fun W h => (isLast_any bh zh oh (s : Nat) (c : Nat) W).mono (fun e w' q => ⟨q.1, hmk6.out _ ⟨h.2.1.trans (q.2.mono h.2.1.size), h.2.2.1.later q.2, (by obtain ⟨cs, e5, hb5⟩ := h.2.2.2; exact ⟨cs, e5, hb5.later q.2⟩)⟩, q.2⟩)
    have hsx : Hid (∀ W b0 b1 b2 b3 b4, PX18 W → PX18 (((((W.setCell ⟨w.heap.size, 0, none⟩ b0).setCell ⟨w.heap.size, 1, none⟩ b1).setCell ⟨w.heap.size, 2, none⟩ b2).setCell ⟨w.heap.size, 3, none⟩ b3).setCell ⟨w.heap.size, 4, none⟩ b4)) := fun W b0 b1 b2 b3 b4 h => hmk6.out _ ⟨below5 h.2.1 (Nat.le_refl _) _ _ _ _ _, h.2.2.1.off5 hne9 _ _ _ _ _, ((((h.2.2.2.set 0 b0).set 1 b1).set 2 b2).set 3 b3).set 4 b4⟩
    clear hzt hbx b9 bz HF hS0 hs1 R0 hal hst hl8 hlz hlt
    rcases HK.out with ⟨e1, e2⟩ | ⟨ef, q4, q5⟩
    · have R3x : Hid (∀ W, PX18 W → Calls Tryd.prog 63 #[.agg #[.int .i64 bh, .int .i64 zh, .int .i64 oh, .int .i64 (s : Nat), .int .i64 (c : Nat)]] W fun e w' => e = .returned (.bool true) ∧ PX18 w' ∧ Below W.heap.size W w') := fun W h => by have := R3.out W h; rw [show (zh == 0 && oh == 0) = true by rw [e1, e2]; rfl] at this; exact this
      clear R3 HK e1 e2
      go_upto_region 6 with fail
      refine wp_region_held_drew (S := fun W => (W.cell? ⟨g9, 0, none⟩ = some (.int .i64 bh) ∧ W.cell? ⟨g9, 1, none⟩ = some (.int .i64 zh) ∧ W.cell? ⟨g9, 2, none⟩ = some (.int .i64 oh) ∧ W.cell? ⟨g9, 3, none⟩ = some (.int .i64 (s : Nat)) ∧ W.cell? ⟨g9, 4, none⟩ = some (.int .i64 (c : Nat))) ∧ (Below w.heap.size w W ∧ BlkAt W g9 60 [.int .i64 bh, .int .i64 zh, .int .i64 oh, .int .i64 (s : Nat), .int .i64 (c : Nat)] ∧ BlkN W w.heap.size 60 5)) (by kernel_rfl) hS6 (fun hHeld => ?_)
      refine wpAnyH_take (i := 0) (oi := _) (v := .agg #[.int .i64 bh, .int .i64 zh, .int .i64 oh, .int .i64 (s : Nat), .int .i64 (c : Nat)]) rfl (by kernel_rfl) (by kernel_rfl) (by kernel_rfl) (fun _ _ _ h => h) (Or.inl ⟨by rfl, ?_⟩) (by assumption) ?_
      · intro w hSw
        (try dsimp only at hSw)
        go_simp
      (try simp only [Act.put, List.setIfInBounds_toArray])
      refine wpAnyH_take (i := 1) (oi := _) (v := .agg #[.int .i64 bh, .int .i64 zh, .int .i64 oh, .int .i64 (s : Nat), .int .i64 (c : Nat)]) rfl (by kernel_rfl) (by kernel_rfl) (by kernel_rfl) (fun _ _ _ h => h) (Or.inl ⟨by rfl, ?_⟩) (by assumption) ?_
      · intro w hSw
        (try dsimp only at hSw)
        go_simp
      (try simp only [Act.put])
      refine wpAnyH_ready (rs := [2]) (by kernel_rfl) (by simp) ?_
      refine AllReadyH.cons (o := _) rfl (fun K hK => ?_) AllReadyH.nil
      go_simp
      go_at_call 63
      with_reducible refine (R3x.out _ (by with_reducible assumption)).mono ?_
      rintro e wr0 ⟨rfl, hS0z, hb0⟩
      have hz0 : BlkAt wr0 w.heap.size 60 [.int .i64 0, .int .i64 0, .int .i64 0, .int .i64 0, .int .i64 0] := HZ.out.later hb0
      have z0 := hz0.cell (j := 0) rfl
      have f0 := hz0.frozen 0
      have z1 := hz0.cell (j := 1) rfl
      have f1 := hz0.frozen 1
      have z2 := hz0.cell (j := 2) rfl
      have f2 := hz0.frozen 2
      have z3 := hz0.cell (j := 3) rfl
      have f3 := hz0.frozen 3
      have z4 := hz0.cell (j := 4) rfl
      have f4 := hz0.frozen 4
      go_wp2_with fail
      refine hK.out _ _ ?_ (fun hHeld => ?_)
      · (try dsimp only)
        with_reducible assumption
      clear hK K
      (try simp only [Act.put, List.setIfInBounds_toArray, List.set_cons_zero, List.set_cons_succ])
      refine wpAnyH_take (i := 3) (oi := _) (v := .bool true) rfl (by kernel_rfl) (by kernel_rfl) (by kernel_rfl) (fun _ _ _ h => h) (Or.inl ⟨by rfl, ?_⟩) (by assumption) ?_
      · intro w hSw
        (try dsimp only at hSw)
        go_simp
      (try simp only [Act.put, List.setIfInBounds_toArray])
      refine wpAnyH_take (i := 4) (oi := _) (v := undef) rfl (by kernel_rfl) (by kernel_rfl) (by kernel_rfl) (fun _ _ _ h => h) (Or.inr ⟨by kernel_rfl, rfl⟩) (by assumption) ?_
      (try simp only [Act.put])
      refine wpAnyH_take (i := 5) (oi := _) (v := undef) rfl (by kernel_rfl) (by kernel_rfl) (by kernel_rfl) (fun _ _ _ h => h) (Or.inr ⟨by kernel_rfl, rfl⟩) (by assumption) ?_
      (try simp only [Act.put])
      refine wpAnyH_take (i := 6) (oi := _) (v := undef) rfl (by kernel_rfl) (by kernel_rfl) (by kernel_rfl) (fun _ _ _ h => h) (Or.inr ⟨by kernel_rfl, rfl⟩) (by assumption) ?_
      (try simp only [Act.put])
      refine wpAnyH_take (i := 7) (oi := _) (v := undef) rfl (by kernel_rfl) (by kernel_rfl) (by kernel_rfl) (fun _ _ _ h => h) (Or.inr ⟨by kernel_rfl, rfl⟩) (by assumption) ?_
      (try simp only [Act.put])
      refine wpAnyH_take (i := 8) (oi := _) (v := undef) rfl (by kernel_rfl) (by kernel_rfl) (by kernel_rfl) (fun _ _ _ h => h) (Or.inr ⟨by kernel_rfl, rfl⟩) (by assumption) ?_
      (try simp only [Act.put])
      refine wpAnyH_take (i := 9) (oi := _) (v := undef) rfl (by kernel_rfl) (by kernel_rfl) (by kernel_rfl) (fun _ _ _ h => h) (Or.inr ⟨by kernel_rfl, rfl⟩) (by assumption) ?_
      (try simp only [Act.put])
      refine wpAnyH_take (i := 10) (oi := _) (v := undef) rfl (by kernel_rfl) (by kernel_rfl) (by kernel_rfl) (fun _ _ _ h => h) (Or.inr ⟨by kernel_rfl, rfl⟩) (by assumption) ?_
      (try simp only [Act.put])
      refine wpAnyH_take (i := 11) (oi := _) (v := undef) rfl (by kernel_rfl) (by kernel_rfl) (by kernel_rfl) (fun _ _ _ h => h) (Or.inr ⟨by kernel_rfl, rfl⟩) (by assumption) ?_
      (try simp only [Act.put])
      refine wpAnyH_take (i := 12) (oi := _) (v := undef) rfl (by kernel_rfl) (by kernel_rfl) (by kernel_rfl) (fun _ _ _ h => h) (Or.inr ⟨by kernel_rfl, rfl⟩) (by assumption) ?_
      (try simp only [Act.put])
      refine wpAnyH_take (i := 13) (oi := _) (v := undef) rfl (by kernel_rfl) (by kernel_rfl) (by kernel_rfl) (fun _ _ _ h => h) (Or.inr ⟨by kernel_rfl, rfl⟩) (by assumption) ?_
      (try simp only [Act.put])
      refine wpAnyH_take (i := 14) (oi := _) (v := undef) rfl (by kernel_rfl) (by kernel_rfl) (by kernel_rfl) (fun _ _ _ h => h) (Or.inr ⟨by kernel_rfl, rfl⟩) (by assumption) ?_
      (try simp only [Act.put])
      refine wpAnyH_take (i := 15) (oi := _) (v := undef) rfl (by kernel_rfl) (by kernel_rfl) (by kernel_rfl) (fun _ _ _ h => h) (Or.inr ⟨by kernel_rfl, rfl⟩) (by assumption) ?_
      (try simp only [Act.put])
      refine wpAnyH_take (i := 16) (oi := _) (v := undef) rfl (by kernel_rfl) (by kernel_rfl) (by kernel_rfl) (fun _ _ _ h => h) (Or.inr ⟨by kernel_rfl, rfl⟩) (by assumption) ?_
      (try simp only [Act.put])
      refine wpAnyH_take (i := 17) (oi := _) (v := undef) rfl (by kernel_rfl) (by kernel_rfl) (by kernel_rfl) (fun _ _ _ h => h) (Or.inr ⟨by kernel_rfl, rfl⟩) (by assumption) ?_
      (try simp only [Act.put])
      refine wpAnyH_take (i := 18) (oi := _) (v := undef) rfl (by kernel_rfl) (by kernel_rfl) (by kernel_rfl) (fun _ _ _ h => h) (Or.inr ⟨by kernel_rfl, rfl⟩) (by assumption) ?_
      (try simp only [Act.put])
      refine wpAnyH_take (i := 19) (oi := _) (v := undef) rfl (by kernel_rfl) (by kernel_rfl) (by kernel_rfl) (fun _ _ _ h => h) (Or.inr ⟨by kernel_rfl, rfl⟩) (by assumption) ?_
      (try simp only [Act.put])
      refine wpAnyH_take (i := 20) (oi := _) (v := undef) rfl (by kernel_rfl) (by kernel_rfl) (by kernel_rfl) (fun _ _ _ h => h) (Or.inr ⟨by kernel_rfl, rfl⟩) (by assumption) ?_
      (try simp only [Act.put])
      refine wpAnyH_take (i := 21) (oi := _) (v := undef) rfl (by kernel_rfl) (by kernel_rfl) (by kernel_rfl) (fun _ _ _ h => h) (Or.inr ⟨by kernel_rfl, rfl⟩) (by assumption) ?_
      (try simp only [Act.put])
      refine wpAnyH_take (i := 22) (oi := _) (v := undef) rfl (by kernel_rfl) (by kernel_rfl) (by kernel_rfl) (fun _ _ _ h => h) (Or.inr ⟨by kernel_rfl, rfl⟩) (by assumption) ?_
      (try simp only [Act.put])
      refine wpAnyH_take (i := 23) (oi := _) (v := .bool true) rfl (by kernel_rfl) (by kernel_rfl) (by kernel_rfl) (fun _ _ _ h => h) (Or.inl ⟨by rfl, ?_⟩) (by assumption) ?_
      · intro w hSw
        (try dsimp only at hSw)
        go_simp
      (try simp only [Act.put])
      refine wpAnyH_ready (rs := [24]) (by kernel_rfl) (by simp) ?_
      refine AllReadyH.cons (o := _) rfl (fun K hK => ?_) AllReadyH.nil
      go_simp
      go_wp2_with fail
      refine hK.out _ _ ?_ (fun hHeld => ?_)
      · (try dsimp only)
        with_reducible exact hsx.out _ _ _ _ _ _ (by with_reducible assumption)
      clear hK K
      (try simp only [Act.put, List.setIfInBounds_toArray, List.set_cons_zero, List.set_cons_succ])
      refine wpAnyH_ready (rs := [25]) (by kernel_rfl) (by simp) ?_
      refine AllReadyH.cons (o := _) rfl (fun K hK => ?_) AllReadyH.nil
      go_simp
      go_wp2_with fail
      refine hK.out _ _ ?_ (fun hHeld => ?_)
      · (try dsimp only)
        with_reducible assumption
      clear hK K
      (try simp only [Act.put, List.setIfInBounds_toArray, List.set_cons_zero, List.set_cons_succ])
      refine wpAnyH_done (by kernel_rfl) ?_ _
      go_wp2
      exact ret_wr Tryd.results44 rfl rfl rfl (hz0.set5 _ _ _ _ _) ⟨rfl, below5 hS0z.2.1 (Nat.le_refl _) _ _ _ _ _⟩
    · have R3x : Hid (∀ W, PX18 W → Calls Tryd.prog 63 #[.agg #[.int .i64 bh, .int .i64 zh, .int .i64 oh, .int .i64 (s : Nat), .int .i64 (c : Nat)]] W fun e w' => e = .returned (.bool false) ∧ PX18 w' ∧ Below W.heap.size W w') := fun W h => by have := R3.out W h; rw [ef] at this; exact this
      have R4 : Hid (∀ W, PX18 W → Calls Tryd.prog 80 #[p, .int .i64 zh, .int .i64 ((s - c : Nat) : Int)] W fun e w' => e = .returned (.bool true) ∧ PX18 w' ∧ Below W.heap.size W w') := fun W h => (q4 W (RD.out.later h.2.1)).mono (fun e w' q => ⟨q.1, hmk6.out _ ⟨h.2.1.trans (q.2.mono h.2.1.size), h.2.2.1.later q.2, (by obtain ⟨cs, e5, hb5⟩ := h.2.2.2; exact ⟨cs, e5, hb5.later q.2⟩)⟩, q.2⟩)
      have R5 : Hid (∀ W, PX18 W → Calls Tryd.prog 80 #[p, .int .i64 oh, .int .i64 (c : Nat)] W fun e w' => e = .returned (.bool true) ∧ PX18 w' ∧ Below W.heap.size W w') := fun W h => (q5 W (RD.out.later h.2.1)).mono (fun e w' q => ⟨q.1, hmk6.out _ ⟨h.2.1.trans (q.2.mono h.2.1.size), h.2.2.1.later q.2, (by obtain ⟨cs, e5, hb5⟩ := h.2.2.2; exact ⟨cs, e5, hb5.later q.2⟩)⟩, q.2⟩)
      have hsub : IntKind.i64.wrap ((s : Int) - (c : Int)) = ((s - c : Nat) : Int) := by rw [IntKind.wrap_i64]; omega
      generalize s - c = sc at *
      clear R3 HK ef q4 q5
      go_upto_region 6 with fail
      go_region_held3 (fun W => (W.cell? ⟨g9, 0, none⟩ = some (.int .i64 bh) ∧ W.cell? ⟨g9, 1, none⟩ = some (.int .i64 zh) ∧ W.cell? ⟨g9, 2, none⟩ = some (.int .i64 oh) ∧ W.cell? ⟨g9, 3, none⟩ = some (.int .i64 (s : Nat)) ∧ W.cell? ⟨g9, 4, none⟩ = some (.int .i64 (c : Nat))) ∧ (Below w.heap.size w W ∧ BlkAt W g9 60 [.int .i64 bh, .int .i64 zh, .int .i64 oh, .int .i64 (s : Nat), .int .i64 (c : Nat)] ∧ BlkN W w.heap.size 60 5)) (first | (with_reducible assumption) | (with_reducible exact hsx.out _ _ _ _ _ _ (by with_reducible assumption))) ((first | (go_at_call 63; with_reducible refine (R3x.out _ (by with_reducible assumption)).mono ?_; rintro e wr0 ⟨rfl, hS0z, hb0⟩; have hz0 : BlkAt wr0 w.heap.size 60 [.int .i64 0, .int .i64 0, .int .i64 0, .int .i64 0, .int .i64 0] := HZ.out.later hb0; have hz0c0 := hz0.cell (j := 0) rfl; have hz0f0 := hz0.frozen 0; have hz0c1 := hz0.cell (j := 1) rfl; have hz0f1 := hz0.frozen 1; have hz0c2 := hz0.cell (j := 2) rfl; have hz0f2 := hz0.frozen 2; have hz0c3 := hz0.cell (j := 3) rfl; have hz0f3 := hz0.frozen 3; have hz0c4 := hz0.cell (j := 4) rfl; have hz0f4 := hz0.frozen 4) | (go_at_call 80; with_reducible refine (R4.out _ (by with_reducible assumption)).mono ?_; rintro e wr1 ⟨rfl, hS1z, hb1⟩; have hz1 : BlkAt wr1 w.heap.size 60 [.int .i64 0, .int .i64 0, .int .i64 0, .int .i64 0, .int .i64 0] := hz0.later hb1; have hz1c0 := hz1.cell (j := 0) rfl; have hz1f0 := hz1.frozen 0; have hz1c1 := hz1.cell (j := 1) rfl; have hz1f1 := hz1.frozen 1; have hz1c2 := hz1.cell (j := 2) rfl; have hz1f2 := hz1.frozen 2; have hz1c3 := hz1.cell (j := 3) rfl; have hz1f3 := hz1.frozen 3; have hz1c4 := hz1.cell (j := 4) rfl; have hz1f4 := hz1.frozen 4) | (go_at_call 80; with_reducible refine (R5.out _ (by with_reducible assumption)).mono ?_; rintro e wr2 ⟨rfl, hS2z, hb2⟩; have hz2 : BlkAt wr2 w.heap.size 60 [.int .i64 0, .int .i64 0, .int .i64 0, .int .i64 0, .int .i64 0] := hz1.later hb2; have hz2c0 := hz2.cell (j := 0) rfl; have hz2f0 := hz2.frozen 0; have hz2c1 := hz2.cell (j := 1) rfl; have hz2f1 := hz2.frozen 1; have hz2c2 := hz2.cell (j := 2) rfl; have hz2f2 := hz2.frozen 2; have hz2c3 := hz2.cell (j := 3) rfl; have hz2f3 := hz2.frozen 3; have hz2c4 := hz2.cell (j := 4) rfl; have hz2f4 := hz2.frozen 4)))
      go_wp2
      exact ret_wr Tryd.results44 rfl rfl rfl (hz2.set5 _ _ _ _ _) ⟨rfl, below5 hS2z.2.1 (Nat.le_refl _) _ _ _ _ _⟩
end Go.Proofs.YtjbiofjfjljeoaaDoor
namespace Go.Proofs.YtjbiofjfjljeoaaDoor
open Go Go.RowKit
/-- a row at one level, as the code has it -/
def Wt.val (t : Wt) : Value := .agg #[.int .i64 t.bh, .int .i64 t.zh, .int .i64 t.oh, .int .i64 (t.size : Nat), .int .i64 (t.ones : Nat)]
theorem Wt.last {S : St} {k a : Nat} {h : Int} {b : Tr} {z o : Wt} (ho : Wt.ok (k + 1) a (.node h b z o)) (hH : HeldW S (.node h b z o)) : (z.hd == 0 && o.hd == 0) = decide (k = 0) := by
  obtain ⟨h1, -, h3, -, -⟩ := ho
  obtain ⟨-, -, -, -, -, hz, hoo⟩ := hH
  by_cases hk : k = 0
  · rw [if_pos hk] at h3
    rw [h3.1, h3.2, hk]
    rfl
  · rw [if_neg hk] at h3
    rw [decide_eq_false hk]
    have hle := b.ones_le
    by_cases hx : z.size = 0
    · have hy : o.hd ≠ 0 := hoo.pos (by omega)
      simp [hy]
    · have hy : z.hd ≠ 0 := hz.pos hx
      simp [hy]
theorem says_row {p : Value} {S : St} {w : World} (hR : Rd p S w) {t : Wt} (hH : HeldW S t) {k a : Nat} (ho : t.ok k a) :
    Calls Tryd.prog 44 #[p, .int .i64 t.hd] w fun e w' => e = .returned (.tuple #[t.val, .bool true]) ∧ Below w.heap.size w w' := by
  cases t with
  | nil => exact wsays_zero hR (S.cnt_out (Or.inl (by show (0 : Int) < 1; omega)))
  | node h b z o =>
  cases k with
  | zero => exact absurd ho (fun h => h)
  | succ k =>
  have hlast := Wt.last ho hH
  have hcl : ∀ W, Rd p S W → Calls Tryd.prog 78 #[p, .int .i64 h] W fun e w' => e = .returned (.int .i64 (b.size : Nat)) ∧ Below W.heap.size W w' := fun W hR => claims_any hR hH
  obtain ⟨h1, -, h3, -, -⟩ := ho
  obtain ⟨hc0, hnd, hT, hb0, hs3, hz, hoo⟩ := hH
  have hrk : ∀ W, Rd p S W → Calls Tryd.prog 67 #[p, .int .i64 b.hd, .int .i64 (b.size : Nat)] W fun e w' => e = .returned (.int .i64 (b.ones : Nat)) ∧ Below W.heap.size W w' := fun W hR => by
    have := rankR hR hT (by rw [b.len]; exact hs3) (i := (b.size : Nat)) (by omega)
    rw [Int.toNat_natCast, List.take_of_length_le (by rw [b.len]; omega), b.ones_eq] at this
    exact this
  refine wsays_node hR h1 hs3 b.ones_le hnd hcl hrk ?_
  by_cases hk : k = 0
  · rw [if_pos hk] at h3
    exact Or.inl ⟨by rw [h3.1]; rfl, by rw [h3.2]; rfl⟩
  · rw [if_neg hk] at h3
    refine Or.inr ⟨hlast.trans (decide_eq_false hk), fun W hR => ?_, fun W hR => ?_⟩
    · have := isOf_any hR hz
      rw [h3.1] at this
      exact this
    · have := isOf_any hR hoo
      rw [h3.2] at this
      exact this
set_option maxRecDepth 100000 in
set_option maxHeartbeats 1000000 in
theorem wlen_any {p : Value} {S : St} {w : World} (hR : Rd p S w) {t : Wt} (hH : HeldW S t) {k a : Nat} (ho : t.ok k a) :
    Calls Tryd.prog 21 #[p, .int .i64 t.hd] w fun e w' => e = .returned (.int .i64 (t.size : Nat)) ∧ Below w.heap.size w w' := by
  have RD : Hid (Rd p S w) := hR
  have T1 : Hid (∀ W, Rd p S W → _) := fun W hR => says_row hR hH ho
  unfold Wt.val at T1
  generalize t.hd = h at *
  generalize t.size = n at *
  generalize t.bh = bh at *
  generalize t.zh = zh at *
  generalize t.oh = oh at *
  generalize t.ones = c at *
  clear hR hH ho
  go_enter Tryd.func21, Tryd.ntmps21
  go_wp2_with (go_at_call 44; fail)
  refine (T1.out _ RD.out).mono ?_
  rintro e w1 ⟨rfl, hb⟩
  have HB : Hid (Below _ _ _) := hb
  clear T1 RD hb
  go_wp2
  go_ret
  exact ⟨rfl, HB.out.alloc (by have := HB.out.size; omega) _⟩
end Go.Proofs.YtjbiofjfjljeoaaDoor
namespace Go.Proofs.YtjbiofjfjljeoaaDoor
open Go
/-- the slot of an operation holds nothing yet -/
def bare (tmps : Array Value) : Option Tmp → Bool
  | none => true
  | some d => match tmps[d]? with
    | some (.tuple vs) => vs.isEmpty
    | _ => false
theorem put_bare {a : Act} {d : Option Tmp} (h : bare a.tmps d = true) : a.put d undef = a := by
  cases d with
  | none => rfl
  | some d =>
    unfold bare at h
    simp only at h
    split at h
    · rename_i vs hv
      have hu : vs = #[] := by simpa using h
      subst hu
      have hlt : d < a.tmps.size := by
        rcases Nat.lt_or_ge d a.tmps.size with hl | hl
        · exact hl
        · rw [Array.getElem?_eq_none hl] at hv
          exact absurd hv (by simp)
      have hs : a.tmps.setIfInBounds d undef = a.tmps := by
        apply Array.ext_getElem?
        intro j
        rw [Array.getElem?_setIfInBounds]
        by_cases hj : d = j
        · subst hj
          rw [if_pos rfl, if_pos hlt, hv]
          rfl
        · rw [if_neg hj]
      show { a with tmps := a.tmps.setIfInBounds d undef } = a
      rw [hs]
    · exact absurd h (by simp)
/-- these operations come up one after another, none of them wanted, and their slots hold nothing -/
def idle (md : Region.Mode) (ops : Array Oper) (tmps : Array Value) : List Nat → Array Bool → Bool
  | [], _ => true
  | i :: is, l => (Region.free md ops l i && (Region.ready md ops l).contains i && (match ops[i]? with
      | some o => !(Region.wanted o (yielded ops tmps)) && bare tmps o.dst
      | none => false)) && idle md ops tmps is (l.setIfInBounds i true)
theorem wpAnyH_idle {P : Program} {ops : Array Oper} {Q : Exit → Act → World → Prop} {md : Region.Mode} {S : World → Prop} {a : Act} {w : World} (hs : Region.noSelect ops = true) (hQ : ∀ (d : Tmp) c (a : Act) w, Q (.panic c) (a.put (some d) undef) w → Q (.panic c) a w) (hS : S w) :
    ∀ (is : List Nat) (fuel : Nat) {m : Nat} {listed : Array Bool}, idle md ops a.tmps is listed = true → is.length + fuel = m →
      wpAnyH P md ops Q S fuel (is.foldl (fun l i => l.setIfInBounds i true) listed) a w → wpAnyH P md ops Q S m listed a w
  | [], fuel, m, listed, _, hm, h => by
    have : fuel = m := by simpa using hm
    subst this
    exact h
  | i :: is, fuel, m, listed, hd, hm, h => by
    unfold idle at hd
    rw [Bool.and_eq_true, Bool.and_eq_true, Bool.and_eq_true] at hd
    obtain ⟨⟨⟨h1, h2⟩, h3⟩, h4⟩ := hd
    cases ho : ops[i]? with
    | none => rw [ho] at h3; exact absurd h3 (by simp)
    | some o =>
      rw [ho] at h3
      simp only [Bool.and_eq_true, Bool.not_eq_true'] at h3
      have hp := put_bare h3.2
      have hm' : m = (is.length + fuel) + 1 := by simp only [List.length_cons] at hm; omega
      subst hm'
      refine wpAnyH_take (i := i) (oi := o) (v := undef) ho hs h1 h2 (fun c a' w' hq => (match o.dst, hq with | none, hq => hq | some d, hq => hQ d c a' w' hq)) (Or.inr ⟨h3.1, rfl⟩) hS ?_
      rw [hp]
      exact wpAnyH_idle hs hQ hS is fuel h4 rfl h
end Go.Proofs.YtjbiofjfjljeoaaDoor
namespace Go.Proofs.YtjbiofjfjljeoaaDoor
open Go Go.RowKit
set_option maxRecDepth 100000 in
set_option maxHeartbeats 16000000 in
theorem rowAt_zero {p : Value} {S : St} {w : World} (hR : Rd p S w) {h l a : Int}
    (hsy : ∀ W, Rd p S W → Calls Tryd.prog 44 #[p, .int .i64 h] W fun e w' => e = .returned (.tuple #[.agg #[.int .i64 0, .int .i64 0, .int .i64 0, .int .i64 0, .int .i64 0], .bool true]) ∧ Below W.heap.size W w') :
    Calls Tryd.prog 34 #[p, .int .i64 h, .int .i64 l, .int .i64 a] w fun e w' => e = .returned (.tuple #[.agg #[.int .i64 0, .int .i64 0, .int .i64 0, .int .i64 0, .int .i64 0], .bool true]) ∧ Below w.heap.size w w' := by
  have RD : Hid (Rd p S w) := hR
  have T1 : Hid (∀ W, Rd p S W → _) := hsy
  have hb0 := (Below.refl w.heap.size w).alloc (Nat.le_refl _) (.cells #[.int .i64 0, .int .i64 0, .int .i64 0, .int .i64 0, .int .i64 0] 60)
  have HB0 : Hid (Below _ _ _) := hb0
  clear hR hsy hb0
  go_enter Tryd.func34, Tryd.ntmps34
  go_wp2_with (go_at_call 44; fail)
  refine (T1.out _ (RD.out.later HB0.out)).mono ?_
  rintro e w1 ⟨rfl, hb⟩
  have br : BlkAt w1 w.heap.size 60 [.int .i64 0, .int .i64 0, .int .i64 0, .int .i64 0, .int .i64 0] := (BlkAt.made rfl _ [.int .i64 0, .int .i64 0, .int .i64 0, .int .i64 0, .int .i64 0]).later hb
  have hlt := br.lt
  have hb1 : Below w.heap.size w w1 := HB0.out.trans (hb.mono HB0.out.size)
  have hne9 : w1.heap.size ≠ w.heap.size := by omega
  let PX20 : World → Prop := (fun W => (W.cell? ⟨w1.heap.size, 0, none⟩ = some (.int .i64 0) ∧ W.cell? ⟨w1.heap.size, 1, none⟩ = some (.int .i64 0) ∧ W.cell? ⟨w1.heap.size, 2, none⟩ = some (.int .i64 0) ∧ W.cell? ⟨w1.heap.size, 3, none⟩ = some (.int .i64 0) ∧ W.cell? ⟨w1.heap.size, 4, none⟩ = some (.int .i64 0)) ∧ (Below w.heap.size w W ∧ BlkAt W w1.heap.size 60 [.int .i64 0, .int .i64 0, .int .i64 0, .int .i64 0, .int .i64 0] ∧ BlkN W w.heap.size 60 5))
  have hmk6 : Hid (∀ W, Below w.heap.size w W ∧ BlkAt W w1.heap.size 60 [.int .i64 0, .int .i64 0, .int .i64 0, .int .i64 0, .int .i64 0] ∧ BlkN W w.heap.size 60 5 → PX20 W) := fun W h => ⟨⟨h.2.1.cell rfl, h.2.1.cell rfl, h.2.1.cell rfl, h.2.1.cell rfl, h.2.1.cell rfl⟩, h⟩
  have hS6 : PX20 (w1.alloc (.cells #[.int .i64 0, .int .i64 0, .int .i64 0, .int .i64 0, .int .i64 0] 60)).drew := hmk6.out _ ⟨(hb1.alloc (by omega) _).drew, (BlkAt.made rfl _ [.int .i64 0, .int .i64 0, .int .i64 0, .int .i64 0, .int .i64 0]).drew, ⟨_, rfl, (br.alloc _).drew⟩⟩
  have HZ : Hid (BlkAt (w1.alloc (.cells #[.int .i64 0, .int .i64 0, .int .i64 0, .int .i64 0, .int .i64 0] 60)).drew w.heap.size 60 [.int .i64 0, .int .i64 0, .int .i64 0, .int .i64 0, .int .i64 0]) := (br.alloc _).drew
  have hz : BlkAt (w1.alloc (.cells #[.int .i64 0, .int .i64 0, .int .i64 0, .int .i64 0, .int .i64 0] 60)).drew w.heap.size 60 [.int .i64 0, .int .i64 0, .int .i64 0, .int .i64 0, .int .i64 0] := HZ.out
  have hsx : Hid (∀ W b0 b1 b2 b3 b4, PX20 W → PX20 (((((W.setCell ⟨w.heap.size, 0, none⟩ b0).setCell ⟨w.heap.size, 1, none⟩ b1).setCell ⟨w.heap.size, 2, none⟩ b2).setCell ⟨w.heap.size, 3, none⟩ b3).setCell ⟨w.heap.size, 4, none⟩ b4)) := fun W b0 b1 b2 b3 b4 h => hmk6.out _ ⟨below5 h.2.1 (Nat.le_refl _) _ _ _ _ _, h.2.2.1.off5 hne9 _ _ _ _ _, ((((h.2.2.2.set 0 b0).set 1 b1).set 2 b2).set 3 b3).set 4 b4⟩
  clear hb br hb1 hmk6 HB0 RD T1 hz
  go_upto_region 2 with fail
  refine wp_region_held_drew (S := fun W => (W.cell? ⟨w1.heap.size, 0, none⟩ = some (.int .i64 0) ∧ W.cell? ⟨w1.heap.size, 1, none⟩ = some (.int .i64 0) ∧ W.cell? ⟨w1.heap.size, 2, none⟩ = some (.int .i64 0) ∧ W.cell? ⟨w1.heap.size, 3, none⟩ = some (.int .i64 0) ∧ W.cell? ⟨w1.heap.size, 4, none⟩ = some (.int .i64 0)) ∧ (Below w.heap.size w W ∧ BlkAt W w1.heap.size 60 [.int .i64 0, .int .i64 0, .int .i64 0, .int .i64 0, .int .i64 0] ∧ BlkN W w.heap.size 60 5)) (by kernel_rfl) hS6 (fun hHeld => ?_)
  generalize (w1.alloc (.cells #[.int .i64 0, .int .i64 0, .int .i64 0, .int .i64 0, .int .i64 0] 60)).drew = wc at *
  have hgn : w1.heap.size = w1.heap.size := rfl
  clear hgn hS6
  have z0 := HZ.out.cell (j := 0) rfl
  have f0 := HZ.out.frozen 0
  have z1 := HZ.out.cell (j := 1) rfl
  have f1 := HZ.out.frozen 1
  have z2 := HZ.out.cell (j := 2) rfl
  have f2 := HZ.out.frozen 2
  have z3 := HZ.out.cell (j := 3) rfl
  have f3 := HZ.out.frozen 3
  have z4 := HZ.out.cell (j := 4) rfl
  have f4 := HZ.out.frozen 4
  refine wpAnyH_take (i := 0) (oi := _) (v := .agg #[.int .i64 0, .int .i64 0, .int .i64 0, .int .i64 0, .int .i64 0]) rfl (by kernel_rfl) (by kernel_rfl) (by kernel_rfl) (fun _ _ _ h => h) (Or.inl ⟨by kernel_rfl, ?_⟩) (by assumption) ?_
  · intro w hSw
    (try dsimp only at hSw)
    go_simp
  (try simp only [Act.put, List.setIfInBounds_toArray])
  refine wpAnyH_take (i := 1) (oi := _) (v := .bool true) rfl (by kernel_rfl) (by kernel_rfl) (by kernel_rfl) (fun _ _ _ h => h) (Or.inl ⟨by kernel_rfl, ?_⟩) (by assumption) ?_
  · intro w hSw
    (try dsimp only at hSw)
    go_simp
  (try simp only [Act.put])
  refine wpAnyH_take (i := 2) (oi := _) (v := .bool true) rfl (by kernel_rfl) (by kernel_rfl) (by kernel_rfl) (fun _ _ _ h => h) (Or.inl ⟨by kernel_rfl, ?_⟩) (by assumption) ?_
  · intro w hSw
    (try dsimp only at hSw)
    go_simp
  (try simp only [Act.put])
  refine wpAnyH_take (i := 3) (oi := _) (v := .pointer (some ⟨w1.heap.size, 3, none⟩)) rfl (by kernel_rfl) (by kernel_rfl) (by kernel_rfl) (fun _ _ _ h => h) (Or.inl ⟨by kernel_rfl, ?_⟩) (by assumption) ?_
  · intro w hSw
    (try dsimp only at hSw)
    go_simp
  (try simp only [Act.put])
  refine wpAnyH_take (i := 4) (oi := _) (v := .int .i64 0) rfl (by kernel_rfl) (by kernel_rfl) (by kernel_rfl) (fun _ _ _ h => h) (Or.inl ⟨by kernel_rfl, ?_⟩) (by assumption) ?_
  · intro w hSw
    (try dsimp only at hSw)
    go_simp
  (try simp only [Act.put])
  refine wpAnyH_take (i := 5) (oi := _) (v := .bool true) rfl (by kernel_rfl) (by kernel_rfl) (by kernel_rfl) (fun _ _ _ h => h) (Or.inl ⟨by kernel_rfl, ?_⟩) (by assumption) ?_
  · intro w hSw
    (try dsimp only at hSw)
    go_simp
  (try simp only [Act.put])
  refine wpAnyH_take (i := 6) (oi := _) (v := .bool true) rfl (by kernel_rfl) (by kernel_rfl) (by kernel_rfl) (fun _ _ _ h => h) (Or.inl ⟨by kernel_rfl, ?_⟩) (by assumption) ?_
  · intro w hSw
    (try dsimp only at hSw)
    go_simp
  (try simp only [Act.put])
  refine wpAnyH_idle (by kernel_rfl) (fun _ _ _ _ h => h) hHeld [7, 8, 9, 10, 11, 12, 13, 14, 15, 16, 17, 18, 19, 20, 21, 22, 23, 24] 4 (by kernel_rfl) (by rfl) ?_
  refine wpAnyH_take (i := 25) (oi := _) (v := .bool true) rfl (by kernel_rfl) (by kernel_rfl) (by kernel_rfl) (fun _ _ _ h => h) (Or.inl ⟨by kernel_rfl, ?_⟩) (by assumption) ?_
  · intro w hSw
    (try dsimp only at hSw)
    go_simp
  (try simp only [Act.put])
  refine wpAnyH_take (i := 26) (oi := _) (v := .bool true) rfl (by kernel_rfl) (by kernel_rfl) (by kernel_rfl) (fun _ _ _ h => h) (Or.inl ⟨by kernel_rfl, ?_⟩) (by assumption) ?_
  · intro w hSw
    (try dsimp only at hSw)
    go_simp
  (try simp only [Act.put])
  refine wpAnyH_ready (rs := [27]) (by kernel_rfl) (by simp) ?_
  refine AllReadyH.cons (o := _) rfl (fun K hK => ?_) AllReadyH.nil
  go_simp
  go_wp2_with fail
  refine hK.out _ _ ?_ (fun hHeld => ?_)
  · (try dsimp only)
    with_reducible exact hsx.out _ _ _ _ _ _ (by with_reducible assumption)
  clear hK K
  (try simp only [Act.put, List.setIfInBounds_toArray, List.set_cons_zero, List.set_cons_succ])
  refine wpAnyH_ready (rs := [28]) (by kernel_rfl) (by simp) ?_
  refine AllReadyH.cons (o := _) rfl (fun K hK => ?_) AllReadyH.nil
  go_simp
  go_wp2_with fail
  refine hK.out _ _ ?_ (fun hHeld => ?_)
  · (try dsimp only)
    with_reducible assumption
  clear hK K
  (try simp only [Act.put, List.setIfInBounds_toArray, List.set_cons_zero, List.set_cons_succ])
  refine wpAnyH_done (by kernel_rfl) ?_ _
  go_wp2
  exact ret_wr Tryd.results34 rfl rfl rfl (HZ.out.set5 _ _ _ _ _) ⟨rfl, hHeld.2.1⟩
set_option maxRecDepth 100000 in
set_option maxHeartbeats 16000000 in
theorem rowAt_one {p : Value} {S : St} {w : World} (hR : Rd p S w) {h l a bh zh oh : Int} {s : Nat} {lb : Bool} (hs : 1 ≤ s) (hlb : (zh == 0 && oh == 0) = lb) (hl : (l == 8) = lb)
    (hsy : ∀ W, Rd p S W → Calls Tryd.prog 44 #[p, .int .i64 h] W fun e w' => e = .returned (.tuple #[.agg #[.int .i64 bh, .int .i64 zh, .int .i64 oh, .int .i64 (s : Nat), .int .i64 0], .bool true]) ∧ Below W.heap.size W w') :
    Calls Tryd.prog 34 #[p, .int .i64 h, .int .i64 l, .int .i64 a] w fun e w' => e = .returned (.tuple #[.agg #[.int .i64 bh, .int .i64 zh, .int .i64 oh, .int .i64 (s : Nat), .int .i64 0], .bool true]) ∧ Below w.heap.size w w' := by
  have d0 : ((s : Int) == 0) = false := by simp; omega
  have d1 : decide ((s : Int) = 0) = false := decide_eq_false (by omega)
  have hl' : decide (l = 8) = lb := by rw [← hl]; rfl
  have HL : Hid (∀ W, Calls Tryd.prog 63 #[.agg #[.int .i64 bh, .int .i64 zh, .int .i64 oh, .int .i64 (s : Nat), .int .i64 0]] W fun e w' => e = .returned (.bool lb) ∧ Below W.heap.size W w') := fun W => by rw [← hlb]; exact isLast_any bh zh oh (s : Nat) _ W
  clear hlb
  have RD : Hid (Rd p S w) := hR
  have T1 : Hid (∀ W, Rd p S W → _) := hsy
  have hb0 := (Below.refl w.heap.size w).alloc (Nat.le_refl _) (.cells #[.int .i64 0, .int .i64 0, .int .i64 0, .int .i64 0, .int .i64 0] 60)
  have HB0 : Hid (Below _ _ _) := hb0
  clear hR hsy hb0
  go_enter Tryd.func34, Tryd.ntmps34
  go_wp2_with (go_at_call 44; fail)
  refine (T1.out _ (RD.out.later HB0.out)).mono ?_
  rintro e w1 ⟨rfl, hb⟩
  have br : BlkAt w1 w.heap.size 60 [.int .i64 0, .int .i64 0, .int .i64 0, .int .i64 0, .int .i64 0] := (BlkAt.made rfl _ [.int .i64 0, .int .i64 0, .int .i64 0, .int .i64 0, .int .i64 0]).later hb
  have hlt := br.lt
  have hb1 : Below w.heap.size w w1 := HB0.out.trans (hb.mono HB0.out.size)
  have hne9 : w1.heap.size ≠ w.heap.size := by omega
  let PX21 : World → Prop := (fun W => (W.cell? ⟨w1.heap.size, 0, none⟩ = some (.int .i64 bh) ∧ W.cell? ⟨w1.heap.size, 1, none⟩ = some (.int .i64 zh) ∧ W.cell? ⟨w1.heap.size, 2, none⟩ = some (.int .i64 oh) ∧ W.cell? ⟨w1.heap.size, 3, none⟩ = some (.int .i64 (s : Nat)) ∧ W.cell? ⟨w1.heap.size, 4, none⟩ = some (.int .i64 0)) ∧ (Below w.heap.size w W ∧ BlkAt W w1.heap.size 60 [.int .i64 bh, .int .i64 zh, .int .i64 oh, .int .i64 (s : Nat), .int .i64 0] ∧ BlkN W w.heap.size 60 5))
  have hmk6 : Hid (∀ W, Below w.heap.size w W ∧ BlkAt W w1.heap.size 60 [.int .i64 bh, .int .i64 zh, .int .i64 oh, .int .i64 (s : Nat), .int .i64 0] ∧ BlkN W w.heap.size 60 5 → PX21 W) := fun W h => ⟨⟨h.2.1.cell rfl, h.2.1.cell rfl, h.2.1.cell rfl, h.2.1.cell rfl, h.2.1.cell rfl⟩, h⟩
  have hS6 : PX21 (w1.alloc (.cells #[.int .i64 bh, .int .i64 zh, .int .i64 oh, .int .i64 (s : Nat), .int .i64 0] 60)).drew := hmk6.out _ ⟨(hb1.alloc (by omega) _).drew, (BlkAt.made rfl _ [.int .i64 bh, .int .i64 zh, .int .i64 oh, .int .i64 (s : Nat), .int .i64 0]).drew, ⟨_, rfl, (br.alloc _).drew⟩⟩
  have HZ : Hid (BlkAt (w1.alloc (.cells #[.int .i64 bh, .int .i64 zh, .int .i64 oh, .int .i64 (s : Nat), .int .i64 0] 60)).drew w.heap.size 60 [.int .i64 0, .int .i64 0, .int .i64 0, .int .i64 0, .int .i64 0]) := (br.alloc _).drew
  have hz : BlkAt (w1.alloc (.cells #[.int .i64 bh, .int .i64 zh, .int .i64 oh, .int .i64 (s : Nat), .int .i64 0] 60)).drew w.heap.size 60 [.int .i64 0, .int .i64 0, .int .i64 0, .int .i64 0, .int .i64 0] := HZ.out
  have hsx : Hid (∀ W b0 b1 b2 b3 b4, PX21 W → PX21 (((((W.setCell ⟨w.heap.size, 0, none⟩ b0).setCell ⟨w.heap.size, 1, none⟩ b1).setCell ⟨w.heap.size, 2, none⟩ b2).setCell ⟨w.heap.size, 3, none⟩ b3).setCell ⟨w.heap.size, 4, none⟩ b4)) := fun W b0 b1 b2 b3 b4 h => hmk6.out _ ⟨below5 h.2.1 (Nat.le_refl _) _ _ _ _ _, h.2.2.1.off5 hne9 _ _ _ _ _, ((((h.2.2.2.set 0 b0).set 1 b1).set 2 b2).set 3 b3).set 4 b4⟩
  have R3 : Hid (∀ W, PX21 W → Calls Tryd.prog 63 #[.agg #[.int .i64 bh, .int .i64 zh, .int .i64 oh, .int .i64 (s : Nat), .int .i64 0]] W fun e w' => e = .returned (.bool lb) ∧ PX21 w' ∧ Below W.heap.size W w') := fun W h => (HL.out W).mono (fun e w' q => ⟨q.1, hmk6.out _ ⟨h.2.1.trans (q.2.mono h.2.1.size), h.2.2.1.later q.2, (by obtain ⟨cs, e5, hb5⟩ := h.2.2.2; exact ⟨cs, e5, hb5.later q.2⟩)⟩, q.2⟩)
  clear hb br hb1 hmk6 HB0 RD T1 hz
  go_upto_region 2 with fail
  refine wp_region_held_drew (S := fun W => (W.cell? ⟨w1.heap.size, 0, none⟩ = some (.int .i64 bh) ∧ W.cell? ⟨w1.heap.size, 1, none⟩ = some (.int .i64 zh) ∧ W.cell? ⟨w1.heap.size, 2, none⟩ = some (.int .i64 oh) ∧ W.cell? ⟨w1.heap.size, 3, none⟩ = some (.int .i64 (s : Nat)) ∧ W.cell? ⟨w1.heap.size, 4, none⟩ = some (.int .i64 0)) ∧ (Below w.heap.size w W ∧ BlkAt W w1.heap.size 60 [.int .i64 bh, .int .i64 zh, .int .i64 oh, .int .i64 (s : Nat), .int .i64 0] ∧ BlkN W w.heap.size 60 5)) (by kernel_rfl) hS6 (fun hHeld => ?_)
  generalize (w1.alloc (.cells #[.int .i64 bh, .int .i64 zh, .int .i64 oh, .int .i64 (s : Nat), .int .i64 0] 60)).drew = wc at *
  have hgn : w1.heap.size = w1.heap.size := rfl
  clear hgn hS6
  refine wpAnyH_take (i := 0) (oi := _) (v := .agg #[.int .i64 bh, .int .i64 zh, .int .i64 oh, .int .i64 (s : Nat), .int .i64 0]) rfl (by kernel_rfl) (by kernel_rfl) (by kernel_rfl) (fun _ _ _ h => h) (Or.inl ⟨by kernel_rfl, ?_⟩) (by assumption) ?_
  · intro w hSw
    (try dsimp only at hSw)
    go_simp
  (try simp only [Act.put, List.setIfInBounds_toArray])
  refine wpAnyH_take (i := 1) (oi := _) (v := .bool true) rfl (by kernel_rfl) (by kernel_rfl) (by kernel_rfl) (fun _ _ _ h => h) (Or.inl ⟨by kernel_rfl, ?_⟩) (by assumption) ?_
  · intro w hSw
    (try dsimp only at hSw)
    go_simp
  (try simp only [Act.put])
  refine wpAnyH_take (i := 2) (oi := _) (v := .bool true) rfl (by kernel_rfl) (by kernel_rfl) (by kernel_rfl) (fun _ _ _ h => h) (Or.inl ⟨by kernel_rfl, ?_⟩) (by assumption) ?_
  · intro w hSw
    (try dsimp only at hSw)
    go_simp
  (try simp only [Act.put])
  refine wpAnyH_take (i := 3) (oi := _) (v := .pointer (some ⟨w1.heap.size, 3, none⟩)) rfl (by kernel_rfl) (by kernel_rfl) (by kernel_rfl) (fun _ _ _ h => h) (Or.inl ⟨by kernel_rfl, ?_⟩) (by assumption) ?_
  · intro w hSw
    (try dsimp only at hSw)
    go_simp
  (try simp only [Act.put])
  refine wpAnyH_take (i := 4) (oi := _) (v := .int .i64 (s : Nat)) rfl (by kernel_rfl) (by kernel_rfl) (by kernel_rfl) (fun _ _ _ h => h) (Or.inl ⟨by kernel_rfl, ?_⟩) (by assumption) ?_
  · intro w hSw
    (try dsimp only at hSw)
    go_simp
  (try simp only [Act.put])
  refine wpAnyH_take (i := 5) (oi := _) (v := .bool false) rfl (by kernel_rfl) (by kernel_rfl) (by kernel_rfl) (fun _ _ _ h => h) (Or.inl ⟨by kernel_rfl, ?_⟩) (by assumption) ?_
  · intro w hSw
    (try dsimp only at hSw)
    go_simp
  (try simp only [Act.put])
  refine wpAnyH_take (i := 6) (oi := _) (v := .bool false) rfl (by kernel_rfl) (by kernel_rfl) (by kernel_rfl) (fun _ _ _ h => h) (Or.inl ⟨by kernel_rfl, ?_⟩) (by assumption) ?_
  · intro w hSw
    (try dsimp only at hSw)
    go_simp
  (try simp only [Act.put])
  refine wpAnyH_take (i := 7) (oi := _) (v := .agg #[.int .i64 bh, .int .i64 zh, .int .i64 oh, .int .i64 (s : Nat), .int .i64 0]) rfl (by kernel_rfl) (by kernel_rfl) (by kernel_rfl) (fun _ _ _ h => h) (Or.inl ⟨by kernel_rfl, ?_⟩) (by assumption) ?_
  · intro w hSw
    (try dsimp only at hSw)
    go_simp
  (try simp only [Act.put])
  refine wpAnyH_take (i := 9) (oi := _) (v := .int .i64 l) rfl (by kernel_rfl) (by kernel_rfl) (by kernel_rfl) (fun _ _ _ h => h) (Or.inl ⟨by kernel_rfl, ?_⟩) (by assumption) ?_
  · intro w hSw
    (try dsimp only at hSw)
    go_simp
  (try simp only [Act.put])
  refine wpAnyH_take (i := 10) (oi := _) (v := .bool lb) rfl (by kernel_rfl) (by kernel_rfl) (by kernel_rfl) (fun _ _ _ h => h) (Or.inl ⟨by kernel_rfl, ?_⟩) (by assumption) ?_
  · intro w hSw
    (try dsimp only at hSw)
    go_simp
  (try simp only [Act.put])
  refine wpAnyH_ready (rs := [8]) (by kernel_rfl) (by simp) ?_
  refine AllReadyH.cons (o := _) rfl (fun K hK => ?_) AllReadyH.nil
  go_simp
  go_at_call 63
  with_reducible refine (R3.out _ (by with_reducible assumption)).mono ?_
  rintro e wr0 ⟨rfl, hS0z, hb0⟩
  have hz0 : BlkAt wr0 w.heap.size 60 [.int .i64 0, .int .i64 0, .int .i64 0, .int .i64 0, .int .i64 0] := HZ.out.later hb0
  have z0 := hz0.cell (j := 0) rfl
  have f0 := hz0.frozen 0
  have z1 := hz0.cell (j := 1) rfl
  have f1 := hz0.frozen 1
  have z2 := hz0.cell (j := 2) rfl
  have f2 := hz0.frozen 2
  have z3 := hz0.cell (j := 3) rfl
  have f3 := hz0.frozen 3
  have z4 := hz0.cell (j := 4) rfl
  have f4 := hz0.frozen 4
  go_wp2_with fail
  refine hK.out _ _ ?_ (fun hHeld => ?_)
  · (try dsimp only)
    with_reducible assumption
  clear hK K
  (try simp only [Act.put, List.setIfInBounds_toArray, List.set_cons_zero, List.set_cons_succ])
  refine wpAnyH_take (i := 11) (oi := _) (v := .bool true) rfl (by kernel_rfl) (by kernel_rfl) (by kernel_rfl) (fun _ _ _ h => h) (Or.inl ⟨by kernel_rfl, ?_⟩) (by assumption) ?_
  · intro w hSw
    (try dsimp only at hSw)
    go_simp
  (try simp only [Act.put, List.setIfInBounds_toArray])
  refine wpAnyH_take (i := 12) (oi := _) (v := .bool true) rfl (by kernel_rfl) (by kernel_rfl) (by kernel_rfl) (fun _ _ _ h => h) (Or.inl ⟨by kernel_rfl, ?_⟩) (by assumption) ?_
  · intro w hSw
    (try dsimp only at hSw)
    go_simp
  (try simp only [Act.put])
  refine wpAnyH_take (i := 13) (oi := _) (v := .pointer (some ⟨w1.heap.size, 4, none⟩)) rfl (by kernel_rfl) (by kernel_rfl) (by kernel_rfl) (fun _ _ _ h => h) (Or.inl ⟨by kernel_rfl, ?_⟩) (by assumption) ?_
  · intro w hSw
    (try dsimp only at hSw)
    go_simp
  (try simp only [Act.put])
  refine wpAnyH_take (i := 14) (oi := _) (v := .int .i64 0) rfl (by kernel_rfl) (by kernel_rfl) (by kernel_rfl) (fun _ _ _ h => h) (Or.inl ⟨by kernel_rfl, ?_⟩) (by assumption) ?_
  · intro w hSw
    (try dsimp only at hSw)
    go_simp
  (try simp only [Act.put])
  refine wpAnyH_take (i := 15) (oi := _) (v := .bool true) rfl (by kernel_rfl) (by kernel_rfl) (by kernel_rfl) (fun _ _ _ h => h) (Or.inl ⟨by kernel_rfl, ?_⟩) (by assumption) ?_
  · intro w hSw
    (try dsimp only at hSw)
    go_simp
  (try simp only [Act.put])
  refine wpAnyH_take (i := 16) (oi := _) (v := .bool true) rfl (by kernel_rfl) (by kernel_rfl) (by kernel_rfl) (fun _ _ _ h => h) (Or.inl ⟨by kernel_rfl, ?_⟩) (by assumption) ?_
  · intro w hSw
    (try dsimp only at hSw)
    go_simp
  (try simp only [Act.put])
  refine wpAnyH_idle (by kernel_rfl) (fun _ _ _ _ h => h) hHeld [17, 18, 19, 20, 21, 22] 6 (by kernel_rfl) (by rfl) ?_
  refine wpAnyH_take (i := 23) (oi := _) (v := .bool true) rfl (by kernel_rfl) (by kernel_rfl) (by kernel_rfl) (fun _ _ _ h => h) (Or.inl ⟨by kernel_rfl, ?_⟩) (by assumption) ?_
  · intro w hSw
    (try dsimp only at hSw)
    go_simp
  (try simp only [Act.put])
  refine wpAnyH_take (i := 24) (oi := _) (v := .bool true) rfl (by kernel_rfl) (by kernel_rfl) (by kernel_rfl) (fun _ _ _ h => h) (Or.inl ⟨by kernel_rfl, ?_⟩) (by assumption) ?_
  · intro w hSw
    (try dsimp only at hSw)
    go_simp
  (try simp only [Act.put])
  refine wpAnyH_take (i := 25) (oi := _) (v := .bool true) rfl (by kernel_rfl) (by kernel_rfl) (by kernel_rfl) (fun _ _ _ h => h) (Or.inl ⟨by kernel_rfl, ?_⟩) (by assumption) ?_
  · intro w hSw
    (try dsimp only at hSw)
    go_simp
  (try simp only [Act.put])
  refine wpAnyH_take (i := 26) (oi := _) (v := .bool true) rfl (by kernel_rfl) (by kernel_rfl) (by kernel_rfl) (fun _ _ _ h => h) (Or.inl ⟨by kernel_rfl, ?_⟩) (by assumption) ?_
  · intro w hSw
    (try dsimp only at hSw)
    go_simp
  (try simp only [Act.put])
  refine wpAnyH_ready (rs := [27]) (by kernel_rfl) (by simp) ?_
  refine AllReadyH.cons (o := _) rfl (fun K hK => ?_) AllReadyH.nil
  go_simp
  go_wp2_with fail
  refine hK.out _ _ ?_ (fun hHeld => ?_)
  · (try dsimp only)
    with_reducible exact hsx.out _ _ _ _ _ _ (by with_reducible assumption)
  clear hK K
  (try simp only [Act.put, List.setIfInBounds_toArray, List.set_cons_zero, List.set_cons_succ])
  refine wpAnyH_ready (rs := [28]) (by kernel_rfl) (by simp) ?_
  refine AllReadyH.cons (o := _) rfl (fun K hK => ?_) AllReadyH.nil
  go_simp
  go_wp2_with fail
  refine hK.out _ _ ?_ (fun hHeld => ?_)
  · (try dsimp only)
    with_reducible assumption
  clear hK K
  (try simp only [Act.put, List.setIfInBounds_toArray, List.set_cons_zero, List.set_cons_succ])
  refine wpAnyH_done (by kernel_rfl) ?_ _
  go_wp2
  exact ret_wr Tryd.results34 rfl rfl rfl (hz0.set5 _ _ _ _ _) ⟨rfl, hHeld.2.1⟩
set_option maxRecDepth 100000 in
set_option maxHeartbeats 16000000 in
theorem rowAt_two {p : Value} {S : St} {w : World} (hR : Rd p S w) {h l a bh zh oh : Int} {s c : Nat} {lb : Bool} (hs : 1 ≤ s) (hlb : (zh == 0 && oh == 0) = lb) (hl : (l == 8) = lb)
    (hsy : ∀ W, Rd p S W → Calls Tryd.prog 44 #[p, .int .i64 h] W fun e w' => e = .returned (.tuple #[.agg #[.int .i64 bh, .int .i64 zh, .int .i64 oh, .int .i64 (s : Nat), .int .i64 (c : Nat)], .bool true]) ∧ Below W.heap.size W w')
    (hc : 1 ≤ c) {a2 a3 l2 : Int} (h2 : IntKind.i64.wrap (2 * a) = a2) (h3 : IntKind.i64.wrap (a2 + 1) = a3) (h4 : IntKind.i64.wrap (l + 1) = l2)
    (hbg : ∀ W, Calls Tryd.prog 64 #[.int .i64 a3, .int .i64 l2] W fun e w' => e = .returned (.bool true) ∧ Below W.heap.size W w') :
    Calls Tryd.prog 34 #[p, .int .i64 h, .int .i64 l, .int .i64 a] w fun e w' => e = .returned (.tuple #[.agg #[.int .i64 bh, .int .i64 zh, .int .i64 oh, .int .i64 (s : Nat), .int .i64 (c : Nat)], .bool true]) ∧ Below w.heap.size w w' := by
  have d0 : ((s : Int) == 0) = false := by simp; omega
  have d1 : decide ((s : Int) = 0) = false := decide_eq_false (by omega)
  have hl' : decide (l = 8) = lb := by rw [← hl]; rfl
  have HL : Hid (∀ W, Calls Tryd.prog 63 #[.agg #[.int .i64 bh, .int .i64 zh, .int .i64 oh, .int .i64 (s : Nat), .int .i64 (c : Nat)]] W fun e w' => e = .returned (.bool lb) ∧ Below W.heap.size W w') := fun W => by rw [← hlb]; exact isLast_any bh zh oh (s : Nat) _ W
  clear hlb
  have e0 : ((c : Int) == 0) = false := by simp; omega
  have e1 : decide ((c : Int) = 0) = false := decide_eq_false (by omega)
  have HBG : Hid (∀ W, _) := hbg
  clear hbg
  have RD : Hid (Rd p S w) := hR
  have T1 : Hid (∀ W, Rd p S W → _) := hsy
  have hb0 := (Below.refl w.heap.size w).alloc (Nat.le_refl _) (.cells #[.int .i64 0, .int .i64 0, .int .i64 0, .int .i64 0, .int .i64 0] 60)
  have HB0 : Hid (Below _ _ _) := hb0
  clear hR hsy hb0
  go_enter Tryd.func34, Tryd.ntmps34
  go_wp2_with (go_at_call 44; fail)
  refine (T1.out _ (RD.out.later HB0.out)).mono ?_
  rintro e w1 ⟨rfl, hb⟩
  have br : BlkAt w1 w.heap.size 60 [.int .i64 0, .int .i64 0, .int .i64 0, .int .i64 0, .int .i64 0] := (BlkAt.made rfl _ [.int .i64 0, .int .i64 0, .int .i64 0, .int .i64 0, .int .i64 0]).later hb
  have hlt := br.lt
  have hb1 : Below w.heap.size w w1 := HB0.out.trans (hb.mono HB0.out.size)
  have hne9 : w1.heap.size ≠ w.heap.size := by omega
  let PX22 : World → Prop := (fun W => (W.cell? ⟨w1.heap.size, 0, none⟩ = some (.int .i64 bh) ∧ W.cell? ⟨w1.heap.size, 1, none⟩ = some (.int .i64 zh) ∧ W.cell? ⟨w1.heap.size, 2, none⟩ = some (.int .i64 oh) ∧ W.cell? ⟨w1.heap.size, 3, none⟩ = some (.int .i64 (s : Nat)) ∧ W.cell? ⟨w1.heap.size, 4, none⟩ = some (.int .i64 (c : Nat))) ∧ (Below w.heap.size w W ∧ BlkAt W w1.heap.size 60 [.int .i64 bh, .int .i64 zh, .int .i64 oh, .int .i64 (s : Nat), .int .i64 (c : Nat)] ∧ BlkN W w.heap.size 60 5))
  have hmk6 : Hid (∀ W, Below w.heap.size w W ∧ BlkAt W w1.heap.size 60 [.int .i64 bh, .int .i64 zh, .int .i64 oh, .int .i64 (s : Nat), .int .i64 (c : Nat)] ∧ BlkN W w.heap.size 60 5 → PX22 W) := fun W h => ⟨⟨h.2.1.cell rfl, h.2.1.cell rfl, h.2.1.cell rfl, h.2.1.cell rfl, h.2.1.cell rfl⟩, h⟩
  have hS6 : PX22 (w1.alloc (.cells #[.int .i64 bh, .int .i64 zh, .int .i64 oh, .int .i64 (s : Nat), .int .i64 (c : Nat)] 60)).drew := hmk6.out _ ⟨(hb1.alloc (by omega) _).drew, (BlkAt.made rfl _ [.int .i64 bh, .int .i64 zh, .int .i64 oh, .int .i64 (s : Nat), .int .i64 (c : Nat)]).drew, ⟨_, rfl, (br.alloc _).drew⟩⟩
  have HZ : Hid (BlkAt (w1.alloc (.cells #[.int .i64 bh, .int .i64 zh, .int .i64 oh, .int .i64 (s : Nat), .int .i64 (c : Nat)] 60)).drew w.heap.size 60 [.int .i64 0, .int .i64 0, .int .i64 0, .int .i64 0, .int .i64 0]) := (br.alloc _).drew
  have hz : BlkAt (w1.alloc (.cells #[.int .i64 bh, .int .i64 zh, .int .i64 oh, .int .i64 (s : Nat), .int .i64 (c : Nat)] 60)).drew w.heap.size 60 [.int .i64 0, .int .i64 0, .int .i64 0, .int .i64 0, .int .i64 0] := HZ.out
  have hsx : Hid (∀ W b0 b1 b2 b3 b4, PX22 W → PX22 (((((W.setCell ⟨w.heap.size, 0, none⟩ b0).setCell ⟨w.heap.size, 1, none⟩ b1).setCell ⟨w.heap.size, 2, none⟩ b2).setCell ⟨w.heap.size, 3, none⟩ b3).setCell ⟨w.heap.size, 4, none⟩ b4)) := fun W b0 b1 b2 b3 b4 h => hmk6.out _ ⟨below5 h.2.1 (Nat.le_refl _) _ _ _ _ _, h.2.2.1.off5 hne9 _ _ _ _ _, ((((h.2.2.2.set 0 b0).set 1 b1).set 2 b2).set 3 b3).set 4 b4⟩
  have R3 : Hid (∀ W, PX22 W → Calls Tryd.prog 63 #[.agg #[.int .i64 bh, .int .i64 zh, .int .i64 oh, .int .i64 (s : Nat), .int .i64 (c : Nat)]] W fun e w' => e = .returned (.bool lb) ∧ PX22 w' ∧ Below W.heap.size W w') := fun W h => (HL.out W).mono (fun e w' q => ⟨q.1, hmk6.out _ ⟨h.2.1.trans (q.2.mono h.2.1.size), h.2.2.1.later q.2, (by obtain ⟨cs, e5, hb5⟩ := h.2.2.2; exact ⟨cs, e5, hb5.later q.2⟩)⟩, q.2⟩)
  have R4 : Hid (∀ W, PX22 W → Calls Tryd.prog 64 #[.int .i64 a3, .int .i64 l2] W fun e w' => e = .returned (.bool true) ∧ PX22 w' ∧ Below W.heap.size W w') := fun W h => (HBG.out W).mono (fun e w' q => ⟨q.1, hmk6.out _ ⟨h.2.1.trans (q.2.mono h.2.1.size), h.2.2.1.later q.2, (by obtain ⟨cs, e5, hb5⟩ := h.2.2.2; exact ⟨cs, e5, hb5.later q.2⟩)⟩, q.2⟩)
  clear hb br hb1 hmk6 HB0 RD T1 hz
  go_upto_region 2 with fail
  refine wp_region_held_drew (S := fun W => (W.cell? ⟨w1.heap.size, 0, none⟩ = some (.int .i64 bh) ∧ W.cell? ⟨w1.heap.size, 1, none⟩ = some (.int .i64 zh) ∧ W.cell? ⟨w1.heap.size, 2, none⟩ = some (.int .i64 oh) ∧ W.cell? ⟨w1.heap.size, 3, none⟩ = some (.int .i64 (s : Nat)) ∧ W.cell? ⟨w1.heap.size, 4, none⟩ = some (.int .i64 (c : Nat))) ∧ (Below w.heap.size w W ∧ BlkAt W w1.heap.size 60 [.int .i64 bh, .int .i64 zh, .int .i64 oh, .int .i64 (s : Nat), .int .i64 (c : Nat)] ∧ BlkN W w.heap.size 60 5)) (by kernel_rfl) hS6 (fun hHeld => ?_)
  generalize (w1.alloc (.cells #[.int .i64 bh, .int .i64 zh, .int .i64 oh, .int .i64 (s : Nat), .int .i64 (c : Nat)] 60)).drew = wc at *
  have hgn : w1.heap.size = w1.heap.size := rfl
  clear hgn hS6
  refine wpAnyH_take (i := 0) (oi := _) (v := .agg #[.int .i64 bh, .int .i64 zh, .int .i64 oh, .int .i64 (s : Nat), .int .i64 (c : Nat)]) rfl (by kernel_rfl) (by kernel_rfl) (by kernel_rfl) (fun _ _ _ h => h) (Or.inl ⟨by kernel_rfl, ?_⟩) (by assumption) ?_
  · intro w hSw
    (try dsimp only at hSw)
    go_simp
  (try simp only [Act.put, List.setIfInBounds_toArray])
  refine wpAnyH_take (i := 1) (oi := _) (v := .bool true) rfl (by kernel_rfl) (by kernel_rfl) (by kernel_rfl) (fun _ _ _ h => h) (Or.inl ⟨by kernel_rfl, ?_⟩) (by assumption) ?_
  · intro w hSw
    (try dsimp only at hSw)
    go_simp
  (try simp only [Act.put])
  refine wpAnyH_take (i := 2) (oi := _) (v := .bool true) rfl (by kernel_rfl) (by kernel_rfl) (by kernel_rfl) (fun _ _ _ h => h) (Or.inl ⟨by kernel_rfl, ?_⟩) (by assumption) ?_
  · intro w hSw
    (try dsimp only at hSw)
    go_simp
  (try simp only [Act.put])
  refine wpAnyH_take (i := 3) (oi := _) (v := .pointer (some ⟨w1.heap.size, 3, none⟩)) rfl (by kernel_rfl) (by kernel_rfl) (by kernel_rfl) (fun _ _ _ h => h) (Or.inl ⟨by kernel_rfl, ?_⟩) (by assumption) ?_
  · intro w hSw
    (try dsimp only at hSw)
    go_simp
  (try simp only [Act.put])
  refine wpAnyH_take (i := 4) (oi := _) (v := .int .i64 (s : Nat)) rfl (by kernel_rfl) (by kernel_rfl) (by kernel_rfl) (fun _ _ _ h => h) (Or.inl ⟨by kernel_rfl, ?_⟩) (by assumption) ?_
  · intro w hSw
    (try dsimp only at hSw)
    go_simp
  (try simp only [Act.put])
  refine wpAnyH_take (i := 5) (oi := _) (v := .bool false) rfl (by kernel_rfl) (by kernel_rfl) (by kernel_rfl) (fun _ _ _ h => h) (Or.inl ⟨by kernel_rfl, ?_⟩) (by assumption) ?_
  · intro w hSw
    (try dsimp only at hSw)
    go_simp
  (try simp only [Act.put])
  refine wpAnyH_take (i := 6) (oi := _) (v := .bool false) rfl (by kernel_rfl) (by kernel_rfl) (by kernel_rfl) (fun _ _ _ h => h) (Or.inl ⟨by kernel_rfl, ?_⟩) (by assumption) ?_
  · intro w hSw
    (try dsimp only at hSw)
    go_simp
  (try simp only [Act.put])
  refine wpAnyH_take (i := 7) (oi := _) (v := .agg #[.int .i64 bh, .int .i64 zh, .int .i64 oh, .int .i64 (s : Nat), .int .i64 (c : Nat)]) rfl (by kernel_rfl) (by kernel_rfl) (by kernel_rfl) (fun _ _ _ h => h) (Or.inl ⟨by kernel_rfl, ?_⟩) (by assumption) ?_
  · intro w hSw
    (try dsimp only at hSw)
    go_simp
  (try simp only [Act.put])
  refine wpAnyH_take (i := 9) (oi := _) (v := .int .i64 l) rfl (by kernel_rfl) (by kernel_rfl) (by kernel_rfl) (fun _ _ _ h => h) (Or.inl ⟨by kernel_rfl, ?_⟩) (by assumption) ?_
  · intro w hSw
    (try dsimp only at hSw)
    go_simp
  (try simp only [Act.put])
  refine wpAnyH_take (i := 10) (oi := _) (v := .bool lb) rfl (by kernel_rfl) (by kernel_rfl) (by kernel_rfl) (fun _ _ _ h => h) (Or.inl ⟨by kernel_rfl, ?_⟩) (by assumption) ?_
  · intro w hSw
    (try dsimp only at hSw)
    go_simp
  (try simp only [Act.put])
  refine wpAnyH_ready (rs := [8]) (by kernel_rfl) (by simp) ?_
  refine AllReadyH.cons (o := _) rfl (fun K hK => ?_) AllReadyH.nil
  go_simp
  go_at_call 63
  with_reducible refine (R3.out _ (by with_reducible assumption)).mono ?_
  rintro e wr0 ⟨rfl, hS0z, hb0⟩
  have hz0 : BlkAt wr0 w.heap.size 60 [.int .i64 0, .int .i64 0, .int .i64 0, .int .i64 0, .int .i64 0] := HZ.out.later hb0
  have z0 := hz0.cell (j := 0) rfl
  have f0 := hz0.frozen 0
  have z1 := hz0.cell (j := 1) rfl
  have f1 := hz0.frozen 1
  have z2 := hz0.cell (j := 2) rfl
  have f2 := hz0.frozen 2
  have z3 := hz0.cell (j := 3) rfl
  have f3 := hz0.frozen 3
  have z4 := hz0.cell (j := 4) rfl
  have f4 := hz0.frozen 4
  go_wp2_with fail
  refine hK.out _ _ ?_ (fun hHeld => ?_)
  · (try dsimp only)
    with_reducible assumption
  clear hK K
  (try simp only [Act.put, List.setIfInBounds_toArray, List.set_cons_zero, List.set_cons_succ])
  refine wpAnyH_take (i := 11) (oi := _) (v := .bool true) rfl (by kernel_rfl) (by kernel_rfl) (by kernel_rfl) (fun _ _ _ h => h) (Or.inl ⟨by kernel_rfl, ?_⟩) (by assumption) ?_
  · intro w hSw
    (try dsimp only at hSw)
    go_simp
  (try simp only [Act.put, List.setIfInBounds_toArray])
  refine wpAnyH_take (i := 12) (oi := _) (v := .bool true) rfl (by kernel_rfl) (by kernel_rfl) (by kernel_rfl) (fun _ _ _ h => h) (Or.inl ⟨by kernel_rfl, ?_⟩) (by assumption) ?_
  · intro w hSw
    (try dsimp only at hSw)
    go_simp
  (try simp only [Act.put])
  refine wpAnyH_take (i := 13) (oi := _) (v := .pointer (some ⟨w1.heap.size, 4, none⟩)) rfl (by kernel_rfl) (by kernel_rfl) (by kernel_rfl) (fun _ _ _ h => h) (Or.inl ⟨by kernel_rfl, ?_⟩) (by assumption) ?_
  · intro w hSw
    (try dsimp only at hSw)
    go_simp
  (try simp only [Act.put])
  refine wpAnyH_take (i := 14) (oi := _) (v := .int .i64 (c : Nat)) rfl (by kernel_rfl) (by kernel_rfl) (by kernel_rfl) (fun _ _ _ h => h) (Or.inl ⟨by kernel_rfl, ?_⟩) (by assumption) ?_
  · intro w hSw
    (try dsimp only at hSw)
    go_simp
  (try simp only [Act.put])
  refine wpAnyH_take (i := 15) (oi := _) (v := .bool false) rfl (by kernel_rfl) (by kernel_rfl) (by kernel_rfl) (fun _ _ _ h => h) (Or.inl ⟨by kernel_rfl, ?_⟩) (by assumption) ?_
  · intro w hSw
    (try dsimp only at hSw)
    go_simp
  (try simp only [Act.put])
  refine wpAnyH_take (i := 16) (oi := _) (v := .bool false) rfl (by kernel_rfl) (by kernel_rfl) (by kernel_rfl) (fun _ _ _ h => h) (Or.inl ⟨by kernel_rfl, ?_⟩) (by assumption) ?_
  · intro w hSw
    (try dsimp only at hSw)
    go_simp
  (try simp only [Act.put])
  refine wpAnyH_take (i := 17) (oi := _) (v := .int .i64 a) rfl (by kernel_rfl) (by kernel_rfl) (by kernel_rfl) (fun _ _ _ h => h) (Or.inl ⟨by kernel_rfl, ?_⟩) (by assumption) ?_
  · intro w hSw
    (try dsimp only at hSw)
    go_simp
  (try simp only [Act.put])
  refine wpAnyH_take (i := 18) (oi := _) (v := .int .i64 a2) rfl (by kernel_rfl) (by kernel_rfl) (by kernel_rfl) (fun _ _ _ h => h) (Or.inl ⟨by kernel_rfl, ?_⟩) (by assumption) ?_
  · intro w hSw
    (try dsimp only at hSw)
    go_simp
  (try simp only [Act.put])
  refine wpAnyH_take (i := 19) (oi := _) (v := .int .i64 a3) rfl (by kernel_rfl) (by kernel_rfl) (by kernel_rfl) (fun _ _ _ h => h) (Or.inl ⟨by kernel_rfl, ?_⟩) (by assumption) ?_
  · intro w hSw
    (try dsimp only at hSw)
    go_simp
  (try simp only [Act.put])
  refine wpAnyH_take (i := 20) (oi := _) (v := .int .i64 l) rfl (by kernel_rfl) (by kernel_rfl) (by kernel_rfl) (fun _ _ _ h => h) (Or.inl ⟨by kernel_rfl, ?_⟩) (by assumption) ?_
  · intro w hSw
    (try dsimp only at hSw)
    go_simp
  (try simp only [Act.put])
  refine wpAnyH_take (i := 21) (oi := _) (v := .int .i64 l2) rfl (by kernel_rfl) (by kernel_rfl) (by kernel_rfl) (fun _ _ _ h => h) (Or.inl ⟨by kernel_rfl, ?_⟩) (by assumption) ?_
  · intro w hSw
    (try dsimp only at hSw)
    go_simp
  (try simp only [Act.put])
  refine wpAnyH_ready (rs := [22]) (by kernel_rfl) (by simp) ?_
  refine AllReadyH.cons (o := _) rfl (fun K hK => ?_) AllReadyH.nil
  go_simp
  go_at_call 64
  with_reducible refine (R4.out _ (by with_reducible assumption)).mono ?_
  rintro e wr1 ⟨rfl, hS1z, hb1⟩
  have hz1 : BlkAt wr1 w.heap.size 60 [.int .i64 0, .int .i64 0, .int .i64 0, .int .i64 0, .int .i64 0] := hz0.later hb1
  have z0 := hz1.cell (j := 0) rfl
  have f0 := hz1.frozen 0
  have z1 := hz1.cell (j := 1) rfl
  have f1 := hz1.frozen 1
  have z2 := hz1.cell (j := 2) rfl
  have f2 := hz1.frozen 2
  have z3 := hz1.cell (j := 3) rfl
  have f3 := hz1.frozen 3
  have z4 := hz1.cell (j := 4) rfl
  have f4 := hz1.frozen 4
  go_wp2_with fail
  refine hK.out _ _ ?_ (fun hHeld => ?_)
  · (try dsimp only)
    with_reducible assumption
  clear hK K
  (try simp only [Act.put, List.setIfInBounds_toArray, List.set_cons_zero, List.set_cons_succ])
  refine wpAnyH_take (i := 23) (oi := _) (v := .bool true) rfl (by kernel_rfl) (by kernel_rfl) (by kernel_rfl) (fun _ _ _ h => h) (Or.inl ⟨by kernel_rfl, ?_⟩) (by assumption) ?_
  · intro w hSw
    (try dsimp only at hSw)
    go_simp
  (try simp only [Act.put, List.setIfInBounds_toArray])
  refine wpAnyH_take (i := 24) (oi := _) (v := .bool true) rfl (by kernel_rfl) (by kernel_rfl) (by kernel_rfl) (fun _ _ _ h => h) (Or.inl ⟨by kernel_rfl, ?_⟩) (by assumption) ?_
  · intro w hSw
    (try dsimp only at hSw)
    go_simp
  (try simp only [Act.put])
  refine wpAnyH_take (i := 25) (oi := _) (v := .bool true) rfl (by kernel_rfl) (by kernel_rfl) (by kernel_rfl) (fun _ _ _ h => h) (Or.inl ⟨by kernel_rfl, ?_⟩) (by assumption) ?_
  · intro w hSw
    (try dsimp only at hSw)
    go_simp
  (try simp only [Act.put])
  refine wpAnyH_take (i := 26) (oi := _) (v := .bool true) rfl (by kernel_rfl) (by kernel_rfl) (by kernel_rfl) (fun _ _ _ h => h) (Or.inl ⟨by kernel_rfl, ?_⟩) (by assumption) ?_
  · intro w hSw
    (try dsimp only at hSw)
    go_simp
  (try simp only [Act.put])
  refine wpAnyH_ready (rs := [27]) (by kernel_rfl) (by simp) ?_
  refine AllReadyH.cons (o := _) rfl (fun K hK => ?_) AllReadyH.nil
  go_simp
  go_wp2_with fail
  refine hK.out _ _ ?_ (fun hHeld => ?_)
  · (try dsimp only)
    with_reducible exact hsx.out _ _ _ _ _ _ (by with_reducible assumption)
  clear hK K
  (try simp only [Act.put, List.setIfInBounds_toArray, List.set_cons_zero, List.set_cons_succ])
  refine wpAnyH_ready (rs := [28]) (by kernel_rfl) (by simp) ?_
  refine AllReadyH.cons (o := _) rfl (fun K hK => ?_) AllReadyH.nil
  go_simp
  go_wp2_with fail
  refine hK.out _ _ ?_ (fun hHeld => ?_)
  · (try dsimp only)
    with_reducible assumption
  clear hK K
  (try simp only [Act.put, List.setIfInBounds_toArray, List.set_cons_zero, List.set_cons_succ])
  refine wpAnyH_done (by kernel_rfl) ?_ _
  go_wp2
  exact ret_wr Tryd.results34 rfl rfl rfl (hz1.set5 _ _ _ _ _) ⟨rfl, hHeld.2.1⟩
end Go.Proofs.YtjbiofjfjljeoaaDoor
namespace Go.Proofs.YtjbiofjfjljeoaaDoor
open Go Go.RowKit
/-- a row at its level says what it is -/
theorem rowAt_any {p : Value} {S : St} {w : World} (hR : Rd p S w) {t : Wt} (hH : HeldW S t) {k a : Nat} (ho : t.ok k a) (hk : 1 ≤ k) (hk9 : k ≤ 9) (ha : a ≤ 40000) :
    Calls Tryd.prog 34 #[p, .int .i64 t.hd, .int .i64 ((9 - k : Nat) : Int), .int .i64 (a : Nat)] w fun e w' => e = .returned (.tuple #[t.val, .bool true]) ∧ Below w.heap.size w w' := by
  have hsy : ∀ W, Rd p S W → Calls Tryd.prog 44 #[p, .int .i64 t.hd] W fun e w' => e = .returned (.tuple #[t.val, .bool true]) ∧ Below W.heap.size W w' := fun W hR => says_row hR hH ho
  cases t with
  | nil => exact rowAt_zero hR hsy
  | node h b z o =>
  obtain ⟨k, rfl⟩ : ∃ m, k = m + 1 := ⟨k - 1, by omega⟩
  have hlast := Wt.last ho hH
  have h8 : (((9 - (k + 1) : Nat) : Int) == 8) = decide (k = 0) := by
    by_cases h0 : k = 0
    · subst h0; rfl
    · have : ((9 - (k + 1) : Nat) : Int) ≠ 8 := by omega
      rw [decide_eq_false h0]; simpa using this
  obtain ⟨h1, h2, -, -, -⟩ := ho
  by_cases hc : b.ones = 0
  · have hv : (Wt.node h b z o).val = .agg #[.int .i64 b.hd, .int .i64 z.hd, .int .i64 o.hd, .int .i64 (b.size : Nat), .int .i64 0] := by
      show Value.agg #[_, _, _, _, .int .i64 (b.ones : Nat)] = _
      rw [hc]; rfl
    rw [hv] at hsy ⊢
    exact rowAt_one hR h1 hlast h8 hsy
  · have hb := h2 (by omega)
    refine rowAt_two (s := b.size) (c := b.ones) hR h1 hlast h8 hsy (by omega) (a2 := ((2 * a : Nat) : Int)) (a3 := ((2 * a + 1 : Nat) : Int)) (l2 := ((9 - k : Nat) : Int)) (by rw [IntKind.wrap_i64]; omega) (by rw [IntKind.wrap_i64]; omega) (by rw [IntKind.wrap_i64]; omega) (fun W => ?_)
    have hx := begins_any (f := 2 * a + 1) (l := 9 - k) (by omega) (by omega) W
    rw [show 9 - (9 - k) = k by omega, decide_eq_true hb] at hx
    exact hx
set_option maxRecDepth 100000 in
set_option maxHeartbeats 1000000 in
theorem below_zero {p : Value} {S : St} {w : World} (hR : Rd p S w) {bh zh oh s c : Int} {i n : Nat} (hi : i ≤ 30000) (hn : n ≤ i)
    (hrk : ∀ W, Rd p S W → Calls Tryd.prog 67 #[p, .int .i64 bh, .int .i64 (i : Nat)] W fun e w' => e = .returned (.int .i64 (n : Nat)) ∧ Below W.heap.size W w') :
    Calls Tryd.prog 36 #[.agg #[.int .i64 bh, .int .i64 zh, .int .i64 oh, .int .i64 s, .int .i64 c], p, .bool false, .int .i64 (i : Nat)] w fun e w' => e = .returned (.tuple #[.int .i64 zh, .int .i64 ((i - n : Nat) : Int)]) ∧ Below w.heap.size w w' := by
  have RD : Hid (Rd p S w) := hR
  have TR : Hid (∀ W, Rd p S W → _) := hrk
  have hb0 := (Below.refl w.heap.size w).alloc (Nat.le_refl _) (.cells #[.int .i64 bh, .int .i64 zh, .int .i64 oh, .int .i64 s, .int .i64 c] 60)
  have HB0 : Hid (Below _ _ _) := hb0
  have hw : IntKind.i64.wrap ((i : Int) - (n : Int)) = ((i - n : Nat) : Int) := by rw [IntKind.wrap_i64]; omega
  clear hR hrk hb0
  go_enter Tryd.func36, Tryd.ntmps36
  go_wp2_with (go_at_call 67; fail)
  refine (TR.out _ (RD.out.later HB0.out)).mono ?_
  rintro e w1 ⟨rfl, hb⟩
  have br : BlkAt w1 w.heap.size 60 [.int .i64 bh, .int .i64 zh, .int .i64 oh, .int .i64 s, .int .i64 c] := (BlkAt.made rfl _ [.int .i64 bh, .int .i64 zh, .int .i64 oh, .int .i64 s, .int .i64 c]).later hb
  have HB : Hid (Below w.heap.size w w1) := HB0.out.trans (hb.mono HB0.out.size)
  have z0 := br.cell (j := 0) rfl
  have z1 := br.cell (j := 1) rfl
  have z2 := br.cell (j := 2) rfl
  have z3 := br.cell (j := 3) rfl
  have z4 := br.cell (j := 4) rfl
  clear br hb TR HB0 RD
  go_wp2
  exact bodyPost_ret (v := .tuple #[.int .i64 zh, .int .i64 ((i - n : Nat) : Int)]) (by simp [results, Tryd.results36, go_sem]) rfl ⟨rfl, HB.out⟩
set_option maxRecDepth 100000 in
set_option maxHeartbeats 1000000 in
theorem below_one {p : Value} {S : St} {w : World} (hR : Rd p S w) {bh zh oh s c : Int} {i n : Nat} (hi : i ≤ 30000) (hn : n ≤ i)
    (hrk : ∀ W, Rd p S W → Calls Tryd.prog 67 #[p, .int .i64 bh, .int .i64 (i : Nat)] W fun e w' => e = .returned (.int .i64 (n : Nat)) ∧ Below W.heap.size W w') :
    Calls Tryd.prog 36 #[.agg #[.int .i64 bh, .int .i64 zh, .int .i64 oh, .int .i64 s, .int .i64 c], p, .bool true, .int .i64 (i : Nat)] w fun e w' => e = .returned (.tuple #[.int .i64 oh, .int .i64 (n : Nat)]) ∧ Below w.heap.size w w' := by
  have RD : Hid (Rd p S w) := hR
  have TR : Hid (∀ W, Rd p S W → _) := hrk
  have hb0 := (Below.refl w.heap.size w).alloc (Nat.le_refl _) (.cells #[.int .i64 bh, .int .i64 zh, .int .i64 oh, .int .i64 s, .int .i64 c] 60)
  have HB0 : Hid (Below _ _ _) := hb0
  have hw : IntKind.i64.wrap ((i : Int) - (n : Int)) = ((i - n : Nat) : Int) := by rw [IntKind.wrap_i64]; omega
  clear hR hrk hb0
  go_enter Tryd.func36, Tryd.ntmps36
  go_wp2_with (go_at_call 67; fail)
  refine (TR.out _ (RD.out.later HB0.out)).mono ?_
  rintro e w1 ⟨rfl, hb⟩
  have br : BlkAt w1 w.heap.size 60 [.int .i64 bh, .int .i64 zh, .int .i64 oh, .int .i64 s, .int .i64 c] := (BlkAt.made rfl _ [.int .i64 bh, .int .i64 zh, .int .i64 oh, .int .i64 s, .int .i64 c]).later hb
  have HB : Hid (Below w.heap.size w w1) := HB0.out.trans (hb.mono HB0.out.size)
  have z0 := br.cell (j := 0) rfl
  have z1 := br.cell (j := 1) rfl
  have z2 := br.cell (j := 2) rfl
  have z3 := br.cell (j := 3) rfl
  have z4 := br.cell (j := 4) rfl
  clear br hb TR HB0 RD
  go_wp2
  exact bodyPost_ret (v := .tuple #[.int .i64 oh, .int .i64 (n : Nat)]) (by simp [results, Tryd.results36, go_sem]) rfl ⟨rfl, HB.out⟩
end Go.Proofs.YtjbiofjfjljeoaaDoor
namespace Go.Proofs.YtjbiofjfjljeoaaDoor
open Go Go.RowKit
/-! what stays of a list where some are struck -/

theorem filter_take {α : Type} (p : α → Bool) : ∀ (L : List α) (i : Nat), (L.filter p).take ((L.take i).countP p) = (L.take i).filter p
  | [], i => by simp
  | x :: L, 0 => by simp
  | x :: L, i + 1 => by
    cases h : p x with
    | true =>
      simp only [List.take_succ_cons, List.filter_cons, h, if_true, List.countP_cons]
      rw [filter_take p L i]
    | false =>
      simp only [List.take_succ_cons, List.filter_cons, h, List.countP_cons]
      simpa using filter_take p L i
theorem filter_drop {α : Type} (p : α → Bool) : ∀ (L : List α) (i : Nat), (L.filter p).drop ((L.take i).countP p) = (L.drop i).filter p
  | [], i => by simp
  | x :: L, 0 => by simp
  | x :: L, i + 1 => by
    cases h : p x with
    | true =>
      simp only [List.take_succ_cons, List.filter_cons, h, if_true, List.countP_cons, List.drop_succ_cons]
      exact filter_drop p L i
    | false =>
      simp only [List.take_succ_cons, List.filter_cons, h, List.countP_cons, List.drop_succ_cons]
      simpa using filter_drop p L i
theorem filter_get {α : Type} (p : α → Bool) {L : List α} {i : Nat} {s : α} (h : L[i]? = some s) (hp : p s = true) : (L.filter p)[(L.take i).countP p]? = some s := by
  have hd : L.drop i = s :: L.drop (i + 1) := by
    have hi := (List.getElem?_eq_some_iff.1 h).1
    rw [List.drop_eq_getElem_cons hi, (List.getElem?_eq_some_iff.1 h).2]
  have := filter_drop p L i
  rw [hd, List.filter_cons, if_pos hp] at this
  have h0 : ((L.filter p).drop ((L.take i).countP p))[0]? = some s := by rw [this]; rfl
  simpa using h0
theorem filter_ins {α : Type} (p : α → Bool) (L : List α) (i : Nat) {s : α} (hp : p s = true) :
    (L.take i ++ s :: L.drop i).filter p = (L.filter p).take ((L.take i).countP p) ++ s :: (L.filter p).drop ((L.take i).countP p) := by
  rw [List.filter_append, List.filter_cons, if_pos hp, filter_take, filter_drop]
theorem filter_ins_not {α : Type} (p : α → Bool) (L : List α) (i : Nat) {s : α} (hp : p s = false) :
    (L.take i ++ s :: L.drop i).filter p = L.filter p := by
  rw [List.filter_append, List.filter_cons, if_neg (by simp [hp]), ← List.filter_append, List.take_append_drop]
/-- how many of the first are none -/
theorem countP_not {α : Type} (p : α → Bool) (L : List α) : L.countP (fun s => !p s) = L.length - L.countP p := by
  have : L.countP p + L.countP (fun s => !p s) = L.length := by
    induction L with
    | nil => rfl
    | cons x L ih => cases h : p x <;> simp [h] <;> omega
  omega
/-- the list that so many levels stand for -/
def Wt.holds : Nat → Wt → List Nat → Prop
  | 0, t, _ => t = .nil
  | _ + 1, .nil, L => L = []
  | k + 1, .node _ b z o, L => L ≠ [] ∧ b.bits = L.map (fun s => s.testBit k) ∧ z.holds k (L.filter (fun s => !s.testBit k)) ∧ o.holds k (L.filter (fun s => s.testBit k))
theorem Wt.holds.size {k : Nat} {t : Wt} {L : List Nat} (h : t.holds (k + 1) L) : t.size = L.length := by
  cases t with
  | nil =>
    have : L = [] := h
    subst this; rfl
  | node g b z o =>
    obtain ⟨-, hb, -, -⟩ := h
    show b.size = _
    rw [← b.len, hb, List.length_map]
theorem Wt.holds.ones {k : Nat} {g : Int} {b : Tr} {z o : Wt} {L : List Nat} (h : (Wt.node g b z o).holds (k + 1) L) : b.ones = L.countP (fun s => s.testBit k) := by
  obtain ⟨-, hb, -, -⟩ := h
  rw [← b.ones_eq, hb]
  clear hb
  induction L with
  | nil => rfl
  | cons x L ih => rw [List.map_cons, List.count_cons, List.countP_cons, ih]; cases x.testBit k <;> rfl
theorem rank_holds {k : Nat} {b : Tr} {L : List Nat} (hb : b.bits = L.map (fun s => s.testBit k)) (i : Nat) : (b.bits.take i).count true = (L.take i).countP (fun s => s.testBit k) := by
  rw [hb, ← List.map_take]
  generalize L.take i = M
  induction M with
  | nil => rfl
  | cons x L ih => rw [List.map_cons, List.count_cons, List.countP_cons, ih]; cases x.testBit k <;> rfl
theorem half_testBit (s k : Nat) : s / 2 ^ k = 2 * (s / 2 ^ (k + 1)) + (if s.testBit k then 1 else 0) := by
  have h1 : s / 2 ^ (k + 1) = s / 2 ^ k / 2 := by rw [Nat.pow_succ, Nat.div_div_eq_div_mul]
  rw [h1, Nat.testBit_eq_decide_div_mod_eq]
  by_cases h : s / 2 ^ k % 2 = 1
  · simp only [h, decide_true, if_true]; omega
  · simp only [h, decide_false, Bool.false_eq_true, if_false]; omega
/-- what stands for a list of symbols that begin alike is a row as it may be -/
theorem Wt.holds.ok : ∀ {k a : Nat} {t : Wt} {L : List Nat}, t.holds k L → (∀ s ∈ L, s < 257 ∧ s / 2 ^ k = a) → t.ok k a
  | 0, a, t, L, h, _ => by
    have : t = .nil := h
    subst this; trivial
  | k + 1, a, .nil, L, h, _ => trivial
  | k + 1, a, .node g b z o, L, h, hs => by
    have hn := h.ones
    have hz := h.size
    obtain ⟨hne, hb, h0, h1⟩ := h
    have hlen : b.size = L.length := hz
    have hpos : 1 ≤ L.length := by
      cases L with
      | nil => exact absurd rfl hne
      | cons x L => simp
    refine ⟨by omega, fun ho => ?_, ?_, h0.ok (fun s hm => ?_), h1.ok (fun s hm => ?_)⟩
    · rw [hn] at ho
      obtain ⟨s, hm, hp⟩ := List.countP_pos_iff.1 ho
      obtain ⟨hlt, hq⟩ := hs s hm
      have := half_testBit s k
      rw [hq, if_pos (by simpa using hp)] at this
      have h3 := Nat.div_mul_le_self s (2 ^ k)
      rw [this] at h3
      omega
    · by_cases hk : k = 0
      · subst hk
        rw [if_pos rfl]
        exact ⟨h0, h1⟩
      · obtain ⟨m, rfl⟩ : ∃ m, k = m + 1 := ⟨k - 1, by omega⟩
        rw [if_neg (by omega)]
        refine ⟨?_, ?_⟩
        · rw [h0.size, hlen, hn, ← List.countP_eq_length_filter, countP_not]
        · rw [h1.size, hn, ← List.countP_eq_length_filter]
    · obtain ⟨hm, hp⟩ := List.mem_filter.1 hm
      obtain ⟨hlt, hq⟩ := hs s hm
      have := half_testBit s k
      rw [hq, if_neg (by simpa using hp)] at this
      exact ⟨hlt, this⟩
    · obtain ⟨hm, hp⟩ := List.mem_filter.1 hm
      obtain ⟨hlt, hq⟩ := hs s hm
      have := half_testBit s k
      rw [hq, if_pos (by simpa using hp)] at this
      exact ⟨hlt, this⟩
end Go.Proofs.YtjbiofjfjljeoaaDoor
namespace Go.Proofs.YtjbiofjfjljeoaaDoor
open Go Go.RowKit
/-- the row of those whose bit is this one -/
def Wt.kid (one : Bool) : Wt → Wt
  | .nil => .nil
  | .node _ _ z o => if one then o else z
/-- whether a symbol's bit at a level is this one -/
def isAt (k : Nat) (one : Bool) (s : Nat) : Bool := s.testBit k == one
theorem isAt_one (k : Nat) : isAt k true = fun s => s.testBit k := by
  funext s
  unfold isAt
  cases s.testBit k <;> rfl
theorem isAt_zero (k : Nat) : isAt k false = fun s => !s.testBit k := by
  funext s
  unfold isAt
  cases s.testBit k <;> rfl
theorem Wt.holds.kid {k : Nat} {t : Wt} {L : List Nat} (h : t.holds (k + 1) L) (one : Bool) : (t.kid one).holds k (L.filter (isAt k one)) := by
  cases t with
  | nil =>
    have : L = [] := h
    subst this
    cases k with
    | zero => exact rfl
    | succ k => exact rfl
  | node g b z o =>
    obtain ⟨-, -, h0, h1⟩ := h
    cases one with
    | true => rw [isAt_one]; exact h1
    | false => rw [isAt_zero]; exact h0
theorem HeldW.kid {S : St} {t : Wt} (h : HeldW S t) (one : Bool) : HeldW S (t.kid one) := by
  cases t with
  | nil => exact h
  | node g b z o =>
    obtain ⟨-, -, -, -, -, h0, h1⟩ := h
    cases one with
    | true => exact h1
    | false => exact h0
theorem kid_begins {k a : Nat} {L : List Nat} (hs : ∀ s ∈ L, s < 257 ∧ s / 2 ^ (k + 1) = a) (one : Bool) : ∀ s ∈ L.filter (isAt k one), s < 257 ∧ s / 2 ^ k = 2 * a + (if one then 1 else 0) := by
  intro s hm
  obtain ⟨hm, hp⟩ := List.mem_filter.1 hm
  obtain ⟨hlt, hq⟩ := hs s hm
  have := half_testBit s k
  have hb : s.testBit k = one := by simpa [isAt] using hp
  rw [hq, hb] at this
  exact ⟨hlt, this⟩
/-- what the bits of a row's level tell of the first -/
theorem bits_rank {p : Value} {S : St} {w : World} (hR : Rd p S w) {t : Wt} (hH : HeldW S t) {k : Nat} {L : List Nat} (h : t.holds (k + 1) L) {i : Nat} (hi : i ≤ 30000) :
    Calls Tryd.prog 67 #[p, .int .i64 t.bh, .int .i64 (i : Nat)] w fun e w' => e = .returned (.int .i64 ((L.take i).countP (isAt k true) : Nat)) ∧ Below w.heap.size w w' := by
  cases t with
  | nil =>
    have : L = [] := h
    subst this
    have hx := rankR hR (RowT.none S) (by simp) (i := (i : Int)) (by omega)
    simp only [List.take_nil, List.count_nil] at hx
    simp only [List.take_nil, List.countP_nil]
    exact hx
  | node g b z o =>
    obtain ⟨-, -, hT, -, h3, -, -⟩ := hH
    have hb := h.2.1
    have hx := rankR hR hT (by rw [b.len]; exact h3) (i := (i : Int)) (by omega)
    rw [Int.toNat_natCast, rank_holds hb i] at hx
    rw [isAt_one]
    exact hx
theorem below_holds {p : Value} {S : St} {w : World} (hR : Rd p S w) {t : Wt} (hH : HeldW S t) {k : Nat} {L : List Nat} (h : t.holds (k + 1) L) (hl : L.length ≤ 30000) {i : Nat} (hi : i ≤ L.length) (one : Bool) :
    Calls Tryd.prog 36 #[t.val, p, .bool one, .int .i64 (i : Nat)] w fun e w' => e = .returned (.tuple #[.int .i64 (t.kid one).hd, .int .i64 ((L.take i).countP (isAt k one) : Nat)]) ∧ Below w.heap.size w w' := by
  have hn : (L.take i).countP (isAt k true) ≤ i := Nat.le_trans List.countP_le_length (by rw [List.length_take]; omega)
  have hrk : ∀ W, Rd p S W → _ := fun W hR => bits_rank hR hH h (i := i) (by omega)
  cases one with
  | true =>
    have hx := below_one (zh := t.zh) (oh := t.oh) (s := (t.size : Nat)) (c := (t.ones : Nat)) hR (by omega) hn hrk
    have hk : (t.kid true).hd = t.oh := by cases t <;> rfl
    rw [hk]
    exact hx
  | false =>
    have hx := below_zero (zh := t.zh) (oh := t.oh) (s := (t.size : Nat)) (c := (t.ones : Nat)) hR (by omega) hn hrk
    have hk : (t.kid false).hd = t.zh := by cases t <;> rfl
    have hc : (L.take i).countP (isAt k false) = i - (L.take i).countP (isAt k true) := by
      rw [isAt_zero, countP_not, isAt_one, List.length_take, Nat.min_eq_left hi]
    rw [hk, hc]
    exact hx
end Go.Proofs.YtjbiofjfjljeoaaDoor
namespace Go.Proofs.YtjbiofjfjljeoaaDoor
open Go Go.RowKit
/-- a place in a row is gone down to -/
structure WayAt (S : St) (w W : World) (t : Wt) (k a : Nat) (L : List Nat) (i s : Nat) : Prop where
  holds : t.holds k L
  held : HeldW S t
  beg : ∀ x ∈ L, x < 257 ∧ x / 2 ^ k = a
  few : L.length ≤ 30000
  at_ : L[i]? = some s
  b : Below w.heap.size w W
/-- which level is meant -/
def levOf (v : Value) : Nat := (9 - intOf v).toNat
theorem WayAt.next {S : St} {w W W' : World} {t : Wt} {k a : Nat} {L : List Nat} {i s : Nat} (h : WayAt S w W t (k + 1) a L i s) (hb : Below w.heap.size w W') :
    WayAt S w W' (t.kid (s.testBit k)) k (2 * a + (if s.testBit k then 1 else 0)) (L.filter (isAt k (s.testBit k))) ((L.take i).countP (isAt k (s.testBit k))) s :=
  ⟨h.holds.kid _, h.held.kid _, kid_begins h.beg _, Nat.le_trans (List.length_filter_le _ _) h.few, filter_get _ h.at_ (by simp [isAt]), hb⟩
/-- all that one round asks -/
theorem WayAt.round {p : Value} {S : St} {w W0 : World} {t : Wt} {k a : Nat} {L : List Nat} {i s : Nat} (h : WayAt S w W0 t (k + 1) a L i s) (hk : k ≤ 8) :
    (∀ W, Rd p S W → Calls Tryd.prog 34 #[p, .int .i64 t.hd, .int .i64 (8 - (k : Int)), .int .i64 (a : Nat)] W fun e w' => e = .returned (.tuple #[t.val, .bool true]) ∧ Below W.heap.size W w') ∧
    (∀ W, Rd p S W → Calls Tryd.prog 35 #[p, .int .i64 t.bh, .int .i64 (i : Nat)] W fun e w' => e = .returned (.tuple #[.bool (s.testBit k), .bool true]) ∧ Below W.heap.size W w') ∧
    (∀ W, Rd p S W → Calls Tryd.prog 36 #[t.val, p, .bool (s.testBit k), .int .i64 (i : Nat)] W fun e w' => e = .returned (.tuple #[.int .i64 (t.kid (s.testBit k)).hd, .int .i64 ((L.take i).countP (isAt k (s.testBit k)) : Nat)]) ∧ Below W.heap.size W w') ∧ a ≤ 256 := by
  have hi := (List.getElem?_eq_some_iff.1 h.at_).1
  have hm : s ∈ L := List.mem_of_getElem? h.at_
  have ha : a ≤ 256 := by
    obtain ⟨h1, h2⟩ := h.beg s hm
    have := Nat.div_le_self s (2 ^ (k + 1))
    omega
  refine ⟨fun W hR => ?_, fun W hR => ?_, fun W hR => below_holds hR h.held h.holds h.few (by omega) _, ha⟩
  · have hx := rowAt_any (w := W) hR h.held (h.holds.ok h.beg) (by omega) (by omega) (by omega)
    rw [show ((9 - (k + 1) : Nat) : Int) = 8 - (k : Int) by omega] at hx
    exact hx
  · have hh := h.held
    have ho := h.holds
    cases t with
    | nil =>
      have : L = [] := ho
      subst this
      exact absurd hi (by simp)
    | node g b z o =>
      obtain ⟨-, -, hT, -, h3, -, -⟩ := hh
      have hb := ho.2.1
      exact getbR hR hT (by rw [b.len]; exact h3) i (by rw [hb, List.getElem?_map, h.at_]; rfl)
set_option maxRecDepth 100000 in
set_option maxHeartbeats 4000000 in
/-- Get tells what stands there -/
theorem wget_in {p : Value} {S : St} {w : World} (hR : Rd p S w) {t : Wt} (hH : HeldW S t) {L : List Nat} (ho : t.holds 9 L) (hs : ∀ x ∈ L, x < 257) (hl : L.length ≤ 30000) {i s : Nat} (hi : L[i]? = some s) :
    Calls Tryd.prog 16 #[p, .int .i64 t.hd, .int .i64 (i : Nat)] w fun e w' => e = .returned (.tuple #[.int .i64 (s : Nat), .bool true]) ∧ Below w.heap.size w w' := by
  have RD : Hid (Rd p S w) := hR
  have HN : Hid (WayAt S w w t (8 + 1) 0 L i s) := ⟨ho, hH, fun x hx => ⟨hs x hx, Nat.div_eq_of_lt (by have := hs x hx; omega)⟩, hl, hi, Below.refl _ _⟩
  clear hR hH ho hs hl hi
  go_enter Tryd.func16, Tryd.ntmps16
  go_wp2
  refine wp_scope_jumps 0 (fun a' w' => ∃ (t1 : Wt) (k1 a1 i1 : Nat) (L1 : List Nat) (lv av iv hv : Int), Hid (WayAt S w w' t1 (k1 + 1) a1 L1 i1 s) ∧ (lv = 8 - (k1 : Int) ∧ k1 ≤ 8 ∧ av = (a1 : Nat) ∧ iv = (i1 : Nat) ∧ hv = t1.hd) ∧ ∃ (u10 u11 u12 u13 u14 u15 u16 u17 u18 u19 u20 u21 u22 u23 u24 u25 u26 u27 u28 u29 u30 u31 u32 u33 u34 u35 u36 u37 u38 u39 u40 u41 u42 u43 u44 u45 u46 u47 u48 u49 u50 u51 u52 u53 : Value), a' = { tmps := #[p, .int .i64 hv, .int .i64 iv, undef, undef, undef, .int .i64 0, .bool false, .int .i64 av, .int .i64 lv, u10, u11, u12, u13, u14, u15, u16, u17, u18, u19, u20, u21, u22, u23, u24, u25, u26, u27, u28, u29, u30, u31, u32, u33, u34, u35, u36, u37, u38, u39, u40, u41, u42, u43, u44, u45, u46, u47, u48, u49, u50, u51, u52, u53], defers := [] }) (fun a' _ => levOf (a'.tmps.getD 9 undef)) rfl ?_ ?_
  · obtain ⟨q1, q2, q3, -⟩ := WayAt.round (p := p) HN.out (by omega)
    have q4 : ∀ W, _ := fun W => number_any (s.testBit 8) W
    rw [show (8 : Int) - ((8 : Nat) : Int) = 0 from rfl, show ((0 : Nat) : Int) = 0 from rfl] at q1
    have HB : Hid (Below w.heap.size w w) := Below.refl _ _
    have hm : IntKind.i64.wrap (if s.testBit 8 then 1 else 0 : Int) = ((2 * 0 + (if s.testBit 8 then 1 else 0) : Nat) : Int) := by cases s.testBit 8 <;> rfl
    obtain ⟨W0, hW0⟩ : ∃ W0, W0 = w := ⟨w, rfl⟩
    have HX : Hid (∀ W', Below w.heap.size w W' → WayAt S w W' _ _ _ _ _ s) := fun W' hb => HN.out.next hb
    generalize (2 * 0 + (if s.testBit 8 then 1 else 0) : Nat) = a2 at *
    generalize (List.take i L).countP (isAt 8 (s.testBit 8)) = i2 at *
    generalize t.kid (s.testBit 8) = t2 at *
    generalize L.filter (isAt 8 (s.testBit 8)) = L2 at *
    generalize (if s.testBit 8 then 1 else 0 : Int) = nb at *
    generalize s.testBit 8 = bb at *
    unfold Wt.val at q1 q3
    generalize t.hd = h0 at *
    generalize t.bh = bh at *
    generalize t.zh = zh at *
    generalize t.oh = oh at *
    generalize ((t.size : Nat) : Int) = sz at *
    generalize ((t.ones : Nat) : Int) = cn at *
    generalize hh2 : t2.hd = h2 at *
    have T1 : Hid (∀ W, Rd p S W → _) := q1
    have T2 : Hid (∀ W, Rd p S W → _) := q2
    have T3 : Hid (∀ W, Rd p S W → _) := q3
    have T4 : Hid (∀ W, _) := q4
    clear q1 q2 q3 q4 HN
    go_wp2
    go_step3
    go_wp2_with (go_at_call 34; fail)
    refine (T1.out _ (RD.out.later HB.out)).mono ?_
    rintro e w1 ⟨rfl, hb⟩
    have H1 : Hid (Below w.heap.size w (w1.alloc (.cells #[.int .i64 bh, .int .i64 zh, .int .i64 oh, .int .i64 sz, .int .i64 cn] 60))) := (HB.out.trans (hb.mono HB.out.size)).alloc (by have := HB.out.size; have := hb.size; omega) _
    clear hb T1
    go_wp2_with (go_at_call 35; fail)
    refine (T2.out _ (RD.out.later H1.out)).mono ?_
    rintro e w2 ⟨rfl, hb⟩
    have br : BlkAt w2 w1.heap.size 60 [.int .i64 bh, .int .i64 zh, .int .i64 oh, .int .i64 sz, .int .i64 cn] := (BlkAt.made rfl _ [.int .i64 bh, .int .i64 zh, .int .i64 oh, .int .i64 sz, .int .i64 cn]).later hb
    have z0 := br.cell (j := 0) rfl
    have z1 := br.cell (j := 1) rfl
    have z2 := br.cell (j := 2) rfl
    have z3 := br.cell (j := 3) rfl
    have z4 := br.cell (j := 4) rfl
    have H2 : Hid (Below w.heap.size w w2) := H1.out.trans (hb.mono H1.out.size)
    clear hb T2 br H1
    go_wp2_with (go_at_call 36; fail)
    refine (T3.out _ (RD.out.later H2.out)).mono ?_
    rintro e w3 ⟨rfl, hb⟩
    have H3 : Hid (Below w.heap.size w w3) := H2.out.trans (hb.mono H2.out.size)
    clear hb T3 H2 z0 z1 z2 z3 z4
    go_wp2_with (go_at_call 37; fail)
    refine (T4.out _).mono ?_
    rintro e w4 ⟨rfl, hb⟩
    have H4 : Hid (Below w.heap.size w w4) := H3.out.trans (hb.mono H3.out.size)
    clear hb T4 H3
    go_wp2
    go_step3
    exact ⟨rfl, t2, 7, a2, i2, L2, 1, _, _, _, HX.out _ H4.out, ⟨rfl, by omega, rfl, rfl, hh2.symm⟩, _, _, _, _, _, _, _, _, _, _, _, _, _, _, _, _, _, _, _, _, _, _, _, _, _, _, _, _, _, _, _, _, _, _, _, _, _, _, _, _, _, _, _, _, rfl⟩
  · rintro a' W0 ⟨t, k, a1, i1, L1, lv, av, iv, hv, HN, ⟨hlv, hk8, hav, hiv, hhv⟩, hu⟩
    obtain ⟨q1, q2, q3, ha⟩ := WayAt.round (p := p) HN.out hk8
    have q4 : ∀ W, _ := fun W => number_any (s.testBit k) W
    have HB : Hid (Below w.heap.size w W0) := HN.out.b
    have hm : IntKind.i64.wrap (2 * av + (if s.testBit k then 1 else 0 : Int)) = ((2 * a1 + (if s.testBit k then 1 else 0) : Nat) : Int) := by
      rw [IntKind.wrap_i64, hav]; cases s.testBit k <;> simp <;> omega
    have hm2 : IntKind.i64.wrap (2 * av) = 2 * av := by rw [IntKind.wrap_i64]; omega
    have hm3 : IntKind.i64.wrap (lv + 1) = lv + 1 := by rw [IntKind.wrap_i64]; omega
    have HX : Hid (∀ W', Below w.heap.size w W' → WayAt S w W' _ _ _ _ _ s) := fun W' hb => HN.out.next hb
    rw [← hlv, ← hav, ← hhv] at q1
    rw [← hiv] at q2 q3
    generalize (2 * a1 + (if s.testBit k then 1 else 0) : Nat) = a2 at *
    generalize (List.take i1 L1).countP (isAt k (s.testBit k)) = i2 at *
    generalize t.kid (s.testBit k) = t2 at *
    generalize L1.filter (isAt k (s.testBit k)) = L2 at *
    generalize (if s.testBit k then 1 else 0 : Int) = nb at *
    generalize s.testBit k = bb at *
    unfold Wt.val at q1 q3
    clear HN hhv hav hiv
    generalize t.bh = bh at *
    generalize t.zh = zh at *
    generalize t.oh = oh at *
    generalize ((t.size : Nat) : Int) = sz at *
    generalize ((t.ones : Nat) : Int) = cn at *
    generalize hh2 : t2.hd = h2 at *
    have T1 : Hid (∀ W, Rd p S W → _) := q1
    have T2 : Hid (∀ W, Rd p S W → _) := q2
    have T3 : Hid (∀ W, Rd p S W → _) := q3
    have T4 : Hid (∀ W, _) := q4
    clear q1 q2 q3 q4
    obtain ⟨u10, u11, u12, u13, u14, u15, u16, u17, u18, u19, u20, u21, u22, u23, u24, u25, u26, u27, u28, u29, u30, u31, u32, u33, u34, u35, u36, u37, u38, u39, u40, u41, u42, u43, u44, u45, u46, u47, u48, u49, u50, u51, u52, u53, rfl⟩ := hu
    by_cases hk : k = 0
    · have d : decide (lv + 1 < 9) = false := decide_eq_false (by omega)
      have ha2 : a2 = s := by
        have h := HX.out _ HB.out
        have h2 := (h.beg s (List.mem_of_getElem? h.at_)).2
        rw [hk, Nat.pow_zero, Nat.div_one] at h2
        exact h2.symm
      clear HX hk hlv hk8
      go_wp2_with (go_at_call 34; fail)
      refine (T1.out _ (RD.out.later HB.out)).mono ?_
      rintro e w1 ⟨rfl, hb⟩
      have H1 : Hid (Below w.heap.size w (w1.alloc (.cells #[.int .i64 bh, .int .i64 zh, .int .i64 oh, .int .i64 sz, .int .i64 cn] 60))) := (HB.out.trans (hb.mono HB.out.size)).alloc (by have := HB.out.size; have := hb.size; omega) _
      clear hb T1
      go_wp2_with (go_at_call 35; fail)
      refine (T2.out _ (RD.out.later H1.out)).mono ?_
      rintro e w2 ⟨rfl, hb⟩
      have br : BlkAt w2 w1.heap.size 60 [.int .i64 bh, .int .i64 zh, .int .i64 oh, .int .i64 sz, .int .i64 cn] := (BlkAt.made rfl _ [.int .i64 bh, .int .i64 zh, .int .i64 oh, .int .i64 sz, .int .i64 cn]).later hb
      have z0 := br.cell (j := 0) rfl
      have z1 := br.cell (j := 1) rfl
      have z2 := br.cell (j := 2) rfl
      have z3 := br.cell (j := 3) rfl
      have z4 := br.cell (j := 4) rfl
      have H2 : Hid (Below w.heap.size w w2) := H1.out.trans (hb.mono H1.out.size)
      clear hb T2 br H1
      go_wp2_with (go_at_call 36; fail)
      refine (T3.out _ (RD.out.later H2.out)).mono ?_
      rintro e w3 ⟨rfl, hb⟩
      have H3 : Hid (Below w.heap.size w w3) := H2.out.trans (hb.mono H2.out.size)
      clear hb T3 H2 z0 z1 z2 z3 z4
      go_wp2_with (go_at_call 37; fail)
      refine (T4.out _).mono ?_
      rintro e w4 ⟨rfl, hb⟩
      have H4 : Hid (Below w.heap.size w w4) := H3.out.trans (hb.mono H3.out.size)
      clear hb T4 H3
      go_wp2
      simp only [Exit.jump]
      exact bodyPost_ret (v := .tuple #[.int .i64 (s : Nat), .bool true]) (by simp [results, Tryd.results16, go_sem]) rfl ⟨rfl, H4.out⟩
    · have d : decide (lv + 1 < 9) = true := decide_eq_true (by omega)
      obtain ⟨m, rfl⟩ : ∃ m, k = m + 1 := ⟨k - 1, by omega⟩
      have HLV : Hid (lv = 8 - ((m + 1 : Nat) : Int) ∧ m + 1 ≤ 8) := ⟨hlv, hk8⟩
      clear hlv hk8 hk ha
      go_wp2_with (go_at_call 34; fail)
      refine (T1.out _ (RD.out.later HB.out)).mono ?_
      rintro e w1 ⟨rfl, hb⟩
      have H1 : Hid (Below w.heap.size w (w1.alloc (.cells #[.int .i64 bh, .int .i64 zh, .int .i64 oh, .int .i64 sz, .int .i64 cn] 60))) := (HB.out.trans (hb.mono HB.out.size)).alloc (by have := HB.out.size; have := hb.size; omega) _
      clear hb T1
      go_wp2_with (go_at_call 35; fail)
      refine (T2.out _ (RD.out.later H1.out)).mono ?_
      rintro e w2 ⟨rfl, hb⟩
      have br : BlkAt w2 w1.heap.size 60 [.int .i64 bh, .int .i64 zh, .int .i64 oh, .int .i64 sz, .int .i64 cn] := (BlkAt.made rfl _ [.int .i64 bh, .int .i64 zh, .int .i64 oh, .int .i64 sz, .int .i64 cn]).later hb
      have z0 := br.cell (j := 0) rfl
      have z1 := br.cell (j := 1) rfl
      have z2 := br.cell (j := 2) rfl
      have z3 := br.cell (j := 3) rfl
      have z4 := br.cell (j := 4) rfl
      have H2 : Hid (Below w.heap.size w w2) := H1.out.trans (hb.mono H1.out.size)
      clear hb T2 br H1
      go_wp2_with (go_at_call 36; fail)
      refine (T3.out _ (RD.out.later H2.out)).mono ?_
      rintro e w3 ⟨rfl, hb⟩
      have H3 : Hid (Below w.heap.size w w3) := H2.out.trans (hb.mono H2.out.size)
      clear hb T3 H2 z0 z1 z2 z3 z4
      go_wp2_with (go_at_call 37; fail)
      refine (T4.out _).mono ?_
      rintro e w4 ⟨rfl, hb⟩
      have H4 : Hid (Below w.heap.size w w4) := H3.out.trans (hb.mono H3.out.size)
      clear hb T4 H3
      go_wp2
      go_step3
      obtain ⟨hlv, hk8⟩ := HLV.out
      exact ⟨rfl, ⟨t2, m, a2, i2, L2, lv + 1, _, _, _, HX.out _ H4.out, ⟨by omega, by omega, rfl, rfl, hh2.symm⟩, _, _, _, _, _, _, _, _, _, _, _, _, _, _, _, _, _, _, _, _, _, _, _, _, _, _, _, _, _, _, _, _, _, _, _, _, _, _, _, _, _, _, _, _, rfl⟩, by show (9 - (lv + 1)).toNat < (9 - lv).toNat; omega⟩
end Go.Proofs.YtjbiofjfjljeoaaDoor
namespace Go.Proofs.YtjbiofjfjljeoaaDoor
open Go Go.RowKit
set_option maxRecDepth 100000 in
set_option maxHeartbeats 2000000 in
theorem getT_lo {p : Value} {S : St} {w : World} (hR : Rd p S w) {t : Tr} (ho : t.ok) (hs : t.size ≤ 1000000000) (hm : t.hd ≠ 0 ∨ t = .nil) (hH : Held S t) {i : Int} (hi : i ≤ 9223372036854775807) (h0 : i < 0) :
    Calls Tryd.prog 35 #[p, .int .i64 t.hd, .int .i64 i] w fun e w' => e = .returned (.tuple #[.bool false, .bool false]) ∧ Below w.heap.size w w' := by
  have RD : Hid (Rd p S w) := hR
  have T0 : Hid (∀ W, Rd p S W → _) := fun W hR => seek_any hR ho hs hm hH hi
  obtain ⟨a1, a2, a3, a4, a5⟩ := leaf_ok i ho
  have T1 : Hid (∀ W, _) := fun W => lget_any (leafT t i).1 (by have := pow_le64 a2; omega) ((leafT t i).2.1 : Nat) (leafT t i).2.2 W
  have d0 : decide (0 ≤ (leafT t i).2.2) = false := decide_eq_false (fun h => by have := a3.1 h; omega)
  have hg : getB (leafT t i).1 ((leafT t i).2.1 : Nat) (leafT t i).2.2 = false := by
    unfold getB hasB
    rw [d0]
    simp
  rw [hg] at T1
  clear a1 a2 a3 a4 a5 hR ho hs hm hH hi hg h0

  generalize (leafT t i).2.2 = a at *
  generalize (leafT t i).2.1 = n at *
  generalize (leafT t i).1 = x at *
  generalize onesT t i = o at *
  go_enter Tryd.func35, Tryd.ntmps35
  go_wp2_with (go_at_call 65; fail)
  refine (T0.out _ RD.out).mono ?_
  rintro e w1 ⟨rfl, hb⟩
  have hB : Below w.heap.size w w1 := (Below.refl w.heap.size w).trans (hb.mo)
  have sw1 : w.heap.size + 0 ≤ w1.heap.size := by have := hb.size; (try simp at this); omega
  have HB : Hid (Below _ _ _) := hB
  clear hB
  clear hb
  go_wp2
  have hsz := HB.out.size
  have hR0 : Bs w [(w1.heap.size, 93, [.int .u64 ((x : Nat) : Int), .int .i64 ((n : Nat) : Int)])] (w1.alloc (.cells #[.int .u64 ((x : Nat) : Int), .int .i64 ((n : Nat) : Int)] 93)) := Bs.cons (BlkAt.made (by first | rfl | simp) _ [.int .u64 ((x : Nat) : Int), .int .i64 ((n : Nat) : Int)]) (Bs.nil (HB.out.al _))
  let PX23 : World → Prop := (fun W => (W.cell? ⟨w1.heap.size, 0, none⟩ = some (.int .u64 ((x : Nat) : Int)) ∧ W.cell? ⟨w1.heap.size, 1, none⟩ = some (.int .i64 ((n : Nat) : Int))) ∧ Bs w [(w1.heap.size, 93, [.int .u64 ((x : Nat) : Int), .int .i64 ((n : Nat) : Int)])] W)
  have hmk : Hid (∀ W, Bs w [(w1.heap.size, 93, [.int .u64 ((x : Nat) : Int), .int .i64 ((n : Nat) : Int)])] W → PX23 W) := fun W h => ⟨⟨(h.at 0 rfl).cell rfl, (h.at 0 rfl).cell rfl⟩, h⟩
  have hS0 := hmk.out _ hR0.drew
  have R0 : Hid (∀ W, PX23 W → _) := fun W h => heldQ hmk.out (fun _ h => h.2) (fun _ _ h hb => h.later hb) h (fun hR => T1.out W)
  have hget : Hid (∀ W, PX23 W → Bs w [(w1.heap.size, 93, [.int .u64 ((x : Nat) : Int), .int .i64 ((n : Nat) : Int)])] W) := fun W h => h.2
  clear hR0 hmk HB
  refine wp_region_held_drew (S := (fun W => (W.cell? ⟨w1.heap.size, 0, none⟩ = some (.int .u64 ((x : Nat) : Int)) ∧ W.cell? ⟨w1.heap.size, 1, none⟩ = some (.int .i64 ((n : Nat) : Int))) ∧ Bs w [(w1.heap.size, 93, [.int .u64 ((x : Nat) : Int), .int .i64 ((n : Nat) : Int)])] W)) (by kernel_rfl) hS0 (fun hHeld => ?_)
  refine wpAnyH_take (i := 0) (oi := _) (v := .agg #[.int .u64 ((x : Nat) : Int), .int .i64 ((n : Nat) : Int)]) rfl (by kernel_rfl) (by kernel_rfl) (by kernel_rfl) (fun _ _ _ h => h) (Or.inl ⟨by kernel_rfl, ?_⟩) (by assumption) ?_
  · intro w hSw
    (try dsimp only at hSw)
    go_simp
  (try simp only [Act.put, List.setIfInBounds_toArray])
  refine wpAnyH_take (i := 1) (oi := _) (v := .int .i64 a) rfl (by kernel_rfl) (by kernel_rfl) (by kernel_rfl) (fun _ _ _ h => h) (Or.inl ⟨by kernel_rfl, ?_⟩) (by assumption) ?_
  · intro w hSw
    (try dsimp only at hSw)
    go_simp
  (try simp only [Act.put])
  refine wpAnyH_take (i := 3) (oi := _) (v := .int .i64 a) rfl (by kernel_rfl) (by kernel_rfl) (by kernel_rfl) (fun _ _ _ h => h) (Or.inl ⟨by kernel_rfl, ?_⟩) (by assumption) ?_
  · intro w hSw
    (try dsimp only at hSw)
    go_simp
  (try simp only [Act.put])
  refine wpAnyH_take (i := 4) (oi := _) (v := .bool false) rfl (by kernel_rfl) (by kernel_rfl) (by kernel_rfl) (fun _ _ _ h => h) (Or.inl ⟨by kernel_rfl, ?_⟩) (by assumption) ?_
  · intro w hSw
    (try dsimp only at hSw)
    go_simp
  (try simp only [Act.put])
  refine wpAnyH_ready (rs := [2]) (by kernel_rfl) (by simp) ?_
  refine AllReadyH.cons (o := _) rfl (fun K hK => ?_) AllReadyH.nil
  go_simp
  go_at_call 66
  with_reducible refine (R0.out _ (by with_reducible assumption)).mono ?_
  rintro e wr0 ⟨rfl, hS0z, hb0⟩
  go_wp2_with fail
  refine hK.out _ _ ?_ (fun hHeld => ?_)
  · (try dsimp only)
    with_reducible assumption
  clear hK K
  (try simp only [Act.put, List.setIfInBounds_toArray, List.set_cons_zero, List.set_cons_succ])
  refine wpAnyH_take (i := 5) (oi := _) (v := .bool false) rfl (by kernel_rfl) (by kernel_rfl) (by kernel_rfl) (fun _ _ _ h => h) (Or.inl ⟨by kernel_rfl, ?_⟩) (by assumption) ?_
  · intro w hSw
    (try dsimp only at hSw)
    go_simp
  (try simp only [Act.put, List.setIfInBounds_toArray])
  refine wpAnyH_idle (by kernel_rfl) (fun _ _ _ _ h => h) hHeld [6, 7, 8, 9] 3 (by kernel_rfl) (by rfl) ?_
  refine wpAnyH_take (i := 10) (oi := _) (v := .bool false) rfl (by kernel_rfl) (by kernel_rfl) (by kernel_rfl) (fun _ _ _ h => h) (Or.inl ⟨by kernel_rfl, ?_⟩) (by assumption) ?_
  · intro w hSw
    (try dsimp only at hSw)
    go_simp
  (try simp only [Act.put])
  refine wpAnyH_ready (rs := [11]) (by kernel_rfl) (by simp) ?_
  refine AllReadyH.cons (o := _) rfl (fun K hK => ?_) AllReadyH.nil
  go_simp
  go_wp2_with fail
  refine hK.out _ _ ?_ (fun hHeld => ?_)
  · (try dsimp only)
    with_reducible assumption
  clear hK K
  (try simp only [Act.put, List.setIfInBounds_toArray, List.set_cons_zero, List.set_cons_succ])
  refine wpAnyH_ready (rs := [12]) (by kernel_rfl) (by simp) ?_
  refine AllReadyH.cons (o := _) rfl (fun K hK => ?_) AllReadyH.nil
  go_simp
  go_wp2_with fail
  refine hK.out _ _ ?_ (fun hHeld => ?_)
  · (try dsimp only)
    with_reducible assumption
  clear hK K
  (try simp only [Act.put, List.setIfInBounds_toArray, List.set_cons_zero, List.set_cons_succ])
  refine wpAnyH_done (by kernel_rfl) ?_ _
  have HBX : Hid (Bs _ _ _) := hget.out _ hS0z
  have HB : Hid (Below _ _ _) := HBX.out.b
  have Bl : Hid (BlkAt _ _ _ _) := HBX.out.at 0 rfl
  go_wp2
  go_ret2
  exact ⟨rfl, HB.out⟩
end Go.Proofs.YtjbiofjfjljeoaaDoor
namespace Go.Proofs.YtjbiofjfjljeoaaDoor
open Go Go.RowKit
set_option maxRecDepth 100000 in
set_option maxHeartbeats 4000000 in
/-- Get tells nothing where the bits tell nothing -/
theorem wget_none {p : Value} {S : St} {w : World} (hR : Rd p S w) {h0 bh zh oh sz cn i0 : Int}
    (q1 : ∀ W, Rd p S W → Calls Tryd.prog 34 #[p, .int .i64 h0, .int .i64 0, .int .i64 0] W fun e w' => e = .returned (.tuple #[.agg #[.int .i64 bh, .int .i64 zh, .int .i64 oh, .int .i64 sz, .int .i64 cn], .bool true]) ∧ Below W.heap.size W w')
    (q2 : ∀ W, Rd p S W → Calls Tryd.prog 35 #[p, .int .i64 bh, .int .i64 i0] W fun e w' => e = .returned (.tuple #[.bool false, .bool false]) ∧ Below W.heap.size W w') :
    Calls Tryd.prog 16 #[p, .int .i64 h0, .int .i64 i0] w fun e w' => e = .returned (.tuple #[.int .i64 0, .bool false]) ∧ Below w.heap.size w w' := by
  have RD : Hid (Rd p S w) := hR
  have HB : Hid (Below w.heap.size w w) := Below.refl _ _
  have T1 : Hid (∀ W, Rd p S W → _) := q1
  have T2 : Hid (∀ W, Rd p S W → _) := q2
  clear q1 q2 hR
  go_enter Tryd.func16, Tryd.ntmps16
  go_wp2
  refine wp_scope_jumps 0 (fun _ _ => False) (fun _ _ => 0) rfl ?_ ?_
  · go_wp2
    go_step3
    go_wp2_with (go_at_call 34; fail)
    refine (T1.out _ (RD.out.later HB.out)).mono ?_
    rintro e w1 ⟨rfl, hb⟩
    have H1 : Hid (Below w.heap.size w (w1.alloc (.cells #[.int .i64 bh, .int .i64 zh, .int .i64 oh, .int .i64 sz, .int .i64 cn] 60))) := (HB.out.trans (hb.mono HB.out.size)).alloc (by have := HB.out.size; have := hb.size; omega) _
    clear hb T1
    go_wp2_with (go_at_call 35; fail)
    refine (T2.out _ (RD.out.later H1.out)).mono ?_
    rintro e w2 ⟨rfl, hb⟩
    have H2 : Hid (Below w.heap.size w w2) := H1.out.trans (hb.mono H1.out.size)
    clear hb T2 H1
    go_wp2
    simp only [Exit.jump]
    exact bodyPost_ret (v := .tuple #[.int .i64 0, .bool false]) (by simp [results, Tryd.results16, go_sem]) rfl ⟨rfl, H2.out⟩
  · rintro a' W0 hF
    exact hF.elim
/-- Get tells nothing of a place that is not there -/
theorem wget_out {p : Value} {S : St} {w : World} (hR : Rd p S w) {t : Wt} (hH : HeldW S t) {L : List Nat} (ho : t.holds 9 L) (hs : ∀ x ∈ L, x < 257) {i : Int} (hi : i ≤ 9223372036854775807) (hx : i < 0 ∨ (L.length : Int) ≤ i) :
    Calls Tryd.prog 16 #[p, .int .i64 t.hd, .int .i64 i] w fun e w' => e = .returned (.tuple #[.int .i64 0, .bool false]) ∧ Below w.heap.size w w' := by
  have hok : t.ok 9 0 := ho.ok (fun x hx => ⟨hs x hx, Nat.div_eq_of_lt (by have := hs x hx; omega)⟩)
  obtain ⟨b, hT, hbh, hsz, h3⟩ : ∃ b : Tr, RowT S b b.bits ∧ b.hd = t.bh ∧ b.size = t.size ∧ b.size ≤ 30000 := by
    cases t with
    | nil => exact ⟨.nil, RowT.none S, rfl, rfl, by show (0 : Nat) ≤ _; omega⟩
    | node g b z o =>
      obtain ⟨-, -, hT, -, h3, -, -⟩ := hH
      exact ⟨b, hT, rfl, rfl, h3⟩
  have hl := ho.size
  refine wget_none (bh := t.bh) (zh := t.zh) (oh := t.oh) (sz := (t.size : Nat)) (cn := (t.ones : Nat)) hR (fun W hR => ?_) (fun W hR => ?_)
  · have hx := rowAt_any (w := W) hR hH hok (by omega) (by omega) (by omega)
    rw [show ((9 - 9 : Nat) : Int) = 0 from rfl] at hx
    exact hx
  · rw [← hbh]
    by_cases h0 : i < 0
    · exact getT_lo hR hT.ok (by omega) hT.made hT.held hi h0
    · exact getT_hi hR hT.ok (by omega) hT.made hT.held hi (by omega) (by omega)
end Go.Proofs.YtjbiofjfjljeoaaDoor
namespace Go.Proofs.YtjbiofjfjljeoaaDoor
open Go Go.RowKit
def symB (s : Int) : Bool := decide (0 ≤ s ∧ s < 257)
theorem is_any (s : Int) (w : World) :
    Calls Tryd.prog 62 #[.int .i64 s] w fun e w' => e = .returned (.bool (symB s)) ∧ w' = w := by
  by_cases h0 : 0 ≤ s
  · by_cases h1 : s < 257
    · have e : symB s = true := by simp [symB]; omega
      rw [e]; clear e
      go_enter Tryd.func62, Tryd.ntmps62
      go_wp2
      go_ret
      exact ⟨rfl, rfl⟩
    · have e : symB s = false := by simp [symB]; omega
      rw [e]; clear e
      go_enter Tryd.func62, Tryd.ntmps62
      go_wp2
      go_ret
      exact ⟨rfl, rfl⟩
  · have e : symB s = false := by simp [symB]; omega
    rw [e]; clear e
    go_enter Tryd.func62, Tryd.ntmps62
    go_wp2
    go_ret
    exact ⟨rfl, rfl⟩
theorem and_one (n : Int) : bits .and .i64 n 1 = n % 2 := by
  have h1 : (BitVec.ofInt 64 1).toNat = 2 ^ 1 - 1 := by decide
  have key : (BitVec.ofInt 64 n &&& BitVec.ofInt 64 1).toNat = (n % ((2 ^ 64 : Nat) : Int)).toNat % 2 ^ 1 := by
    rw [BitVec.toNat_and, BitVec.toNat_ofInt, h1, Nat.and_two_pow_sub_one_eq_mod]
  show IntKind.i64.wrap ((BitVec.ofInt 64 n &&& BitVec.ofInt 64 1).toNat : Nat) = n % 2
  rw [key, IntKind.wrap_i64]
  omega
/-- a symbol's bit, as a number reckons it -/
def bitB (s l : Int) : Bool := decide (0 ≤ s ∧ s < 257 ∧ 0 ≤ l ∧ l < 9) && (s / 2 ^ (8 - l).toNat % 2 == 1)
theorem bit_any (s l : Int) (w : World) :
    Calls Tryd.prog 33 #[.int .i64 s, .int .i64 l] w fun e w' => e = .returned (.bool (bitB s l)) ∧ w' = w := by
  by_cases h0 : 0 ≤ s ∧ s < 257
  · have e : symB s = true := by simp [symB]; omega
    by_cases h2 : 0 ≤ l
    · by_cases h3 : l < 9
      · have hb : bitB s l = (bits BinOp.and IntKind.i64 (s / 2 ^ (8 - l).toNat) 1 == 1) := by
          rw [and_one]; simp only [bitB, h0.1, h0.2, h2, h3, and_self, decide_true, Bool.true_and]
        rw [hb]; clear hb
        obtain ⟨h0, h1⟩ := h0
        go_enter Tryd.func33, Tryd.ntmps33
        go_wp2_with (go_at_call 62; refine (is_any _ _).mono ?_; rintro e w' ⟨rfl, rfl⟩)
        go_ret
        exact ⟨rfl, rfl⟩
      · have hb : bitB s l = false := by simp [bitB]; omega
        rw [hb]; clear hb
        go_enter Tryd.func33, Tryd.ntmps33
        go_wp2_with (go_at_call 62; refine (is_any _ _).mono ?_; rintro e w' ⟨rfl, rfl⟩)
        go_ret
        exact ⟨rfl, rfl⟩
    · have hb : bitB s l = false := by simp [bitB]; omega
      rw [hb]; clear hb
      go_enter Tryd.func33, Tryd.ntmps33
      go_wp2_with (go_at_call 62; refine (is_any _ _).mono ?_; rintro e w' ⟨rfl, rfl⟩)
      go_ret
      exact ⟨rfl, rfl⟩
  · have e : symB s = false := by simp [symB]; omega
    have hb : bitB s l = false := by simp [bitB]; omega
    rw [hb]; clear hb h0
    go_enter Tryd.func33, Tryd.ntmps33
    go_wp2_with (go_at_call 62; refine (is_any _ _).mono ?_; rintro e w' ⟨rfl, rfl⟩)
    go_ret
    exact ⟨rfl, rfl⟩
theorem bit_nat {s k : Nat} (hs : s < 257) (hk : k ≤ 8) : bitB (s : Nat) (8 - (k : Int)) = s.testBit k := by
  have h1 : (8 - (8 - (k : Int))).toNat = k := by omega
  have h2 : (0 : Int) ≤ (s : Nat) ∧ ((s : Nat) : Int) < 257 ∧ (0 : Int) ≤ 8 - (k : Int) ∧ 8 - (k : Int) < 9 := by omega
  have h3 : ((s : Int) / 2 ^ k % 2 : Int) = ((s / 2 ^ k % 2 : Nat) : Int) := by
    rw [Int.natCast_emod, Int.natCast_ediv, Int.natCast_pow]; rfl
  unfold bitB
  rw [decide_eq_true h2, Bool.true_and, h1, h3, Nat.testBit_eq_decide_div_mod_eq]
  by_cases h : s / 2 ^ k % 2 = 1
  · rw [h]; rfl
  · rw [decide_eq_false h]
    have : s / 2 ^ k % 2 = 0 := by omega
    rw [this]; rfl
/-- a symbol's bit at a level -/
theorem bit_at {s k : Nat} (hs : s < 257) (hk : k ≤ 8) (w : World) :
    Calls Tryd.prog 33 #[.int .i64 (s : Nat), .int .i64 (8 - (k : Int))] w fun e w' => e = .returned (.bool (s.testBit k)) ∧ w' = w := by
  rw [← bit_nat hs hk]
  exact bit_any _ _ w
theorem wsym_any (s : Int) (w : World) :
    Calls Tryd.prog 29 #[.int .i64 s] w fun e w' => e = .returned (.bool (decide (0 ≤ s) && decide (s < 257))) ∧ w' = w := by
  by_cases h0 : 0 ≤ s
  · have d0 : decide (0 ≤ s) = true := decide_eq_true h0
    go_enter Tryd.func29, Tryd.ntmps29
    go_wp2
    go_ret
    exact ⟨by rw [d0]; simp, rfl⟩
  · have d0 : decide (0 ≤ s) = false := decide_eq_false h0
    go_enter Tryd.func29, Tryd.ntmps29
    go_wp2
    go_ret
    exact ⟨rfl, rfl⟩
end Go.Proofs.YtjbiofjfjljeoaaDoor
namespace Go.Proofs.YtjbiofjfjljeoaaDoor
open Go Go.RowKit
/-- the rows that a symbol's bits lead by, and the places in them -/
def goW (s : Nat) : Nat → Wt → List Nat → Nat → List (Wt × Nat)
  | 0, _, _, _ => []
  | k + 1, t, L, i => (t, i) :: goW s k (t.kid (s.testBit k)) (L.filter (isAt k (s.testBit k))) ((L.take i).countP (isAt k (s.testBit k)))
/-- the place that is left at the end -/
def endW (s : Nat) : Nat → List Nat → Nat → Nat
  | 0, _, i => i
  | k + 1, L, i => endW s k (L.filter (isAt k (s.testBit k))) ((L.take i).countP (isAt k (s.testBit k)))
theorem goW_len (s : Nat) : ∀ (k : Nat) (t : Wt) (L : List Nat) (i : Nat), (goW s k t L i).length = k
  | 0, _, _, _ => rfl
  | k + 1, t, L, i => by simp [goW, goW_len s k]
/-- whether two have the same last bits -/
theorem same_bits (s x k : Nat) : (x % 2 ^ (k + 1) == s % 2 ^ (k + 1)) = ((x % 2 ^ k == s % 2 ^ k) && isAt k (s.testBit k) x) := by
  rw [Nat.mod_pow_succ, Nat.mod_pow_succ (x := s)]
  have h1 := Nat.mod_lt x (show 0 < 2 ^ k from Nat.two_pow_pos k)
  have h2 := Nat.mod_lt s (show 0 < 2 ^ k from Nat.two_pow_pos k)
  unfold isAt
  rw [Nat.testBit_eq_decide_div_mod_eq, Nat.testBit_eq_decide_div_mod_eq]
  have h3 : x / 2 ^ k % 2 = 0 ∨ x / 2 ^ k % 2 = 1 := by omega
  have h4 : s / 2 ^ k % 2 = 0 ∨ s / 2 ^ k % 2 = 1 := by omega
  generalize x % 2 ^ k = a at *
  generalize s % 2 ^ k = b at *
  generalize 2 ^ k = c at *
  rcases h3 with h3 | h3 <;> rcases h4 with h4 | h4 <;> rw [h3, h4] <;> simp
  · intro e
    omega
  · intro e
    omega
  · rw [Bool.eq_iff_iff, beq_iff_eq, beq_iff_eq]
    omega
theorem endW_count (s : Nat) : ∀ (k : Nat) (L : List Nat) (i : Nat), i ≤ L.length → endW s k L i = (L.take i).countP (fun x => x % 2 ^ k == s % 2 ^ k)
  | 0, L, i, h => by
    have : (fun x : Nat => x % 2 ^ 0 == s % 2 ^ 0) = fun _ => true := by
      funext x
      simp [Nat.mod_one]
    rw [this]
    simp [endW, Nat.min_eq_left h]
  | k + 1, L, i, h => by
    have hc : (L.take i).countP (isAt k (s.testBit k)) ≤ (L.filter (isAt k (s.testBit k))).length := by
      rw [← List.countP_eq_length_filter]
      exact (List.take_sublist i L).countP_le
    show endW s k _ _ = _
    rw [endW_count s k _ _ hc, filter_take, List.countP_filter]
    refine List.countP_congr fun x _ => ?_
    rw [same_bits]
/-- how often a symbol is among the first -/
theorem endW_all {s : Nat} (hs : s < 257) {L : List Nat} (hL : ∀ x ∈ L, x < 257) {i : Nat} (hi : i ≤ L.length) : endW s 9 L i = (L.take i).count s := by
  rw [endW_count s 9 L i hi]
  refine List.countP_congr fun x hx => ?_
  have h1 := hL x (List.mem_of_mem_take hx)
  rw [Nat.mod_eq_of_lt (by omega), Nat.mod_eq_of_lt (by omega)]
/-- a way as the memory has it -/
def wayV (l : List (Wt × Nat)) : List Value := l.flatMap fun x => [.int .i64 x.1.bh, .int .i64 x.1.zh, .int .i64 x.1.oh, .int .i64 (x.1.size : Nat), .int .i64 (x.1.ones : Nat), .int .i64 (x.2 : Nat)]
def zer (n : Nat) : List Value := List.replicate n (.int .i64 0)
theorem wayV_snoc (l : List (Wt × Nat)) (t : Wt) (i : Nat) : wayV (l ++ [(t, i)]) = wayV l ++ [.int .i64 t.bh, .int .i64 t.zh, .int .i64 t.oh, .int .i64 (t.size : Nat), .int .i64 (t.ones : Nat), .int .i64 (i : Nat)] := by simp [wayV]
theorem wayV_len : ∀ l : List (Wt × Nat), (wayV l).length = 6 * l.length
  | [] => rfl
  | x :: l => by
    have : wayV (x :: l) = [.int .i64 x.1.bh, .int .i64 x.1.zh, .int .i64 x.1.oh, .int .i64 (x.1.size : Nat), .int .i64 (x.1.ones : Nat), .int .i64 (x.2 : Nat)] ++ wayV l := rfl
    rw [this, List.length_append, wayV_len l]
    simp
    omega
theorem way_zero {l : List Value} {n j : Nat} (h0 : l.length ≤ j) (h1 : j < l.length + n) : (l ++ zer n)[j]? = some (.int .i64 0) := by
  rw [List.getElem?_append_right h0]
  unfold zer
  rw [List.getElem?_replicate, if_pos (by omega)]
/-- six of the zeros are written -/
theorem way_six {w : World} {g : Nat} {e : TypeId} {l : List Value} {n : Nat} (h : BlkAt w g e (l ++ zer (n + 6))) (b0 b1 b2 b3 b4 b5 : Value) :
    BlkAt ((((((w.setCell ⟨g, l.length, none⟩ b0).setCell ⟨g, l.length + 1, none⟩ b1).setCell ⟨g, l.length + 2, none⟩ b2).setCell ⟨g, l.length + 3, none⟩ b3).setCell ⟨g, l.length + 4, none⟩ b4).setCell ⟨g, l.length + 5, none⟩ b5) g e (l ++ [b0, b1, b2, b3, b4, b5] ++ zer n) := by
  have h6 := (((((h.set l.length b0).set (l.length + 1) b1).set (l.length + 2) b2).set (l.length + 3) b3).set (l.length + 4) b4).set (l.length + 5) b5
  have e : zer (n + 6) = .int .i64 0 :: .int .i64 0 :: .int .i64 0 :: .int .i64 0 :: .int .i64 0 :: .int .i64 0 :: zer n := rfl
  rw [e] at h6
  have : (((((((l ++ .int .i64 0 :: .int .i64 0 :: .int .i64 0 :: .int .i64 0 :: .int .i64 0 :: .int .i64 0 :: zer n).set l.length b0).set (l.length + 1) b1).set (l.length + 2) b2).set (l.length + 3) b3).set (l.length + 4) b4).set (l.length + 5) b5) = l ++ [b0, b1, b2, b3, b4, b5] ++ zer n := by
    simp
  rw [this] at h6
  exact h6
theorem off_six {w : World} {g k : Nat} {e : TypeId} {cs : List Value} (h : BlkAt w g e cs) (hg : g ≠ k) {m0 m1 m2 m3 m4 m5 : Nat} (b0 b1 b2 b3 b4 b5 : Value) :
    BlkAt ((((((w.setCell ⟨k, m0, none⟩ b0).setCell ⟨k, m1, none⟩ b1).setCell ⟨k, m2, none⟩ b2).setCell ⟨k, m3, none⟩ b3).setCell ⟨k, m4, none⟩ b4).setCell ⟨k, m5, none⟩ b5) g e cs :=
  (((((h.off (a := ⟨k, m0, none⟩) hg b0).off (a := ⟨k, m1, none⟩) hg b1).off (a := ⟨k, m2, none⟩) hg b2).off (a := ⟨k, m3, none⟩) hg b3).off (a := ⟨k, m4, none⟩) hg b4).off (a := ⟨k, m5, none⟩) hg b5
theorem below_six {n : Nat} {w0 w : World} (h : Below n w0 w) {k : Nat} (hk : n ≤ k) {m0 m1 m2 m3 m4 m5 : Nat} (b0 b1 b2 b3 b4 b5 : Value) :
    Below n w0 ((((((w.setCell ⟨k, m0, none⟩ b0).setCell ⟨k, m1, none⟩ b1).setCell ⟨k, m2, none⟩ b2).setCell ⟨k, m3, none⟩ b3).setCell ⟨k, m4, none⟩ b4).setCell ⟨k, m5, none⟩ b5) :=
  (((((h.setCell (p := ⟨k, m0, none⟩) hk b0).setCell (p := ⟨k, m1, none⟩) hk b1).setCell (p := ⟨k, m2, none⟩) hk b2).setCell (p := ⟨k, m3, none⟩) hk b3).setCell (p := ⟨k, m4, none⟩) hk b4).setCell (p := ⟨k, m5, none⟩) hk b5
theorem size_six (w : World) {k m0 m1 m2 m3 m4 m5 : Nat} (b0 b1 b2 b3 b4 b5 : Value) :
    ((((((w.setCell ⟨k, m0, none⟩ b0).setCell ⟨k, m1, none⟩ b1).setCell ⟨k, m2, none⟩ b2).setCell ⟨k, m3, none⟩ b3).setCell ⟨k, m4, none⟩ b4).setCell ⟨k, m5, none⟩ b5).heap.size = w.heap.size := by simp
theorem way_six2 {w : World} {g : Nat} {e : TypeId} {l : List Value} {n m : Nat} (hm : l.length = m) (h : BlkAt w g e (l ++ zer (n + 6))) (b0 b1 b2 b3 b4 b5 : Value) :
    BlkAt ((((((w.setCell ⟨g, m, none⟩ b0).setCell ⟨g, m + 1, none⟩ b1).setCell ⟨g, m + 2, none⟩ b2).setCell ⟨g, m + 3, none⟩ b3).setCell ⟨g, m + 4, none⟩ b4).setCell ⟨g, m + 5, none⟩ b5) g e (l ++ [b0, b1, b2, b3, b4, b5] ++ zer n) := by
  subst hm
  exact way_six h b0 b1 b2 b3 b4 b5
end Go.Proofs.YtjbiofjfjljeoaaDoor
namespace Go.Proofs.YtjbiofjfjljeoaaDoor
open Go Go.RowKit
/-- what a round of the way down has before it -/
structure DownAt (S : St) (w W : World) (t0 : Wt) (L0 : List Nat) (i0 s : Nat) (pre : List (Wt × Nat)) (t : Wt) (k : Nat) (L : List Nat) (i : Nat) : Prop where
  holds : t.holds k L
  held : HeldW S t
  beg : ∀ x ∈ L, x < 257 ∧ x / 2 ^ k = s / 2 ^ k
  few : L.length ≤ 30000
  at_ : i ≤ L.length
  way : goW s 9 t0 L0 i0 = pre ++ goW s k t L i
  fin : endW s 9 L0 i0 = endW s k L i
  len : pre.length + k = 9
  blk : BlkAt W (w.heap.size + 1) 63 (wayV pre ++ zer (6 * k))
  res : BlkAt W w.heap.size 63 (zer 54)
  b : Below w.heap.size w W
theorem DownAt.next {S : St} {w W W' : World} {t0 t : Wt} {L0 L : List Nat} {i0 s k i : Nat} {pre : List (Wt × Nat)} (h : DownAt S w W t0 L0 i0 s pre t (k + 1) L i) (hb : Below w.heap.size w W')
    (hB : BlkAt W' (w.heap.size + 1) 63 (wayV (pre ++ [(t, i)]) ++ zer (6 * k))) (hr : BlkAt W' w.heap.size 63 (zer 54)) :
    DownAt S w W' t0 L0 i0 s (pre ++ [(t, i)]) (t.kid (s.testBit k)) k (L.filter (isAt k (s.testBit k))) ((L.take i).countP (isAt k (s.testBit k))) :=
  ⟨h.holds.kid _, h.held.kid _, fun x hx => by
      have h1 := kid_begins h.beg (s.testBit k) x hx
      refine ⟨h1.1, ?_⟩
      rw [h1.2, half_testBit s k], Nat.le_trans (List.length_filter_le _ _) h.few, by
      rw [← List.countP_eq_length_filter]
      exact (List.take_sublist i L).countP_le, by rw [h.way]; simp [goW], by rw [h.fin]; rfl, by have := h.len; simp; omega, hB, hr, hb⟩
/-- all that one round asks -/
theorem DownAt.round {p : Value} {S : St} {w W0 : World} {t0 t : Wt} {L0 L : List Nat} {i0 s k i : Nat} {pre : List (Wt × Nat)} (h : DownAt S w W0 t0 L0 i0 s pre t (k + 1) L i) (hs : s < 257) (hk : k ≤ 8) :
    (∀ W, Rd p S W → Calls Tryd.prog 34 #[p, .int .i64 t.hd, .int .i64 (8 - (k : Int)), .int .i64 (s / 2 ^ (k + 1) : Nat)] W fun e w' => e = .returned (.tuple #[t.val, .bool true]) ∧ Below W.heap.size W w') ∧
    (∀ W, Calls Tryd.prog 33 #[.int .i64 (s : Nat), .int .i64 (8 - (k : Int))] W fun e w' => e = .returned (.bool (s.testBit k)) ∧ w' = W) ∧
    (∀ W, Rd p S W → Calls Tryd.prog 36 #[t.val, p, .bool (s.testBit k), .int .i64 (i : Nat)] W fun e w' => e = .returned (.tuple #[.int .i64 (t.kid (s.testBit k)).hd, .int .i64 ((L.take i).countP (isAt k (s.testBit k)) : Nat)]) ∧ Below W.heap.size W w') ∧ i ≤ t.size := by
  refine ⟨fun W hR => ?_, fun W => bit_at hs hk W, fun W hR => below_holds hR h.held h.holds h.few h.at_ _, by rw [h.holds.size]; exact h.at_⟩
  have hx := rowAt_any (w := W) hR h.held (h.holds.ok h.beg) (by omega) (by omega) (by have := Nat.div_le_self s (2 ^ (k + 1)); omega)
  rw [show ((9 - (k + 1) : Nat) : Int) = 8 - (k : Int) by omega] at hx
  exact hx
end Go.Proofs.YtjbiofjfjljeoaaDoor
namespace Go.Proofs.YtjbiofjfjljeoaaDoor
open Go Go.RowKit
/-- a load, by what it loads -/
theorem wl_load {P : Program} {o : Oper} {a : Act} {w : World} {K : Act → World → Prop} {Q : Exit → Act → World → Prop} {t : TypeId} {x : Operand} {v : Value} (ho : o.op = .load t x) (h : (Instr.loadAt t (a.eval x)).run P w = .ok v w) (hk : K (a.put o.dst v) w) : o.wp P a w K Q := by
  unfold Oper.wp execOp
  rw [ho]
  simp only [Sem.run_bind, h, Result.andThen, Sem.run_pure]
  exact hk
/-- a store, by the world behind it -/
theorem wl_store {P : Program} {o : Oper} {a : Act} {w w' : World} {K : Act → World → Prop} {Q : Exit → Act → World → Prop} {t : TypeId} {x y : Operand} (ho : o.op = .store t x y) (h : (Instr.storeAt t (a.eval x) (a.eval y)).run P w = .ok () w') (hk : K (a.put o.dst undef) w') : o.wp P a w K Q := by
  unfold Oper.wp execOp
  rw [ho]
  simp only [Sem.run_bind, h, Result.andThen, Sem.run_pure]
  exact hk
theorem Tryd.isAggWay (w : World) : (isAgg 63).run Tryd.prog w = .ok true w := by kernel_rfl
theorem Tryd.sizeOfWay (w : World) : (sizeOf 63).run Tryd.prog w = .ok 54 w := by kernel_rfl
theorem load_var_way {W : World} {g : Nat} {e : TypeId} {cs : List Value} (h : BlkAt W g e cs) (hl : cs.length = 54) :
    (loadVar 63 ⟨g, 0, none⟩).run Tryd.prog W = .ok (.agg cs.toArray) W := by
  have h := run_loadCells_list (P := Tryd.prog) W ⟨g, 0, none⟩ cs (fun j u hu => by
    have hadd : (⟨g, 0, none⟩ : Addr).add j = ⟨g, j, none⟩ := by unfold Addr.add; split <;> simp_all
    rw [hadd]
    exact h.cell hu)
  rw [hl] at h
  simp only [loadVar, Sem.run_bind, Sem.run_pure, Result.andThen, Tryd.isAggWay, Tryd.sizeOfWay, if_true, h]
theorem load_way {W : World} {g : Nat} {e : TypeId} {cs : List Value} (h : BlkAt W g e cs) (hl : cs.length = 54) :
    (Instr.loadAt 63 (.pointer (some ⟨g, 0, none⟩))).run Tryd.prog W = .ok (.agg cs.toArray) W := by
  simp only [Instr.loadAt, Instr.sureAddr, Sem.run_bind, Sem.run_pure, Result.andThen, load_var_way h hl]
theorem store_way {W : World} {g : Nat} {e : TypeId} {old cs : List Value} (h : BlkAt W g e old) (ho : old.length = 54) (hl : cs.length = 54) (h1 : ∀ v ∈ cs, v.oneCell' = true) :
    (Instr.storeAt 63 (.pointer (some ⟨g, 0, none⟩)) (.agg cs.toArray)).run Tryd.prog W = .ok () (W.setRow g cs.toArray) := by
  have h := run_storeCells_atF Tryd.prog g 0 e (0, 0) cs 0 old.toArray W h (Nat.le_refl _) (by simp [ho, hl]) h1
  have e1 : (old.toArray.toList.take (0 + 0) ++ cs ++ old.toArray.toList.drop (0 + 0 + cs.length)) = cs := by simp [ho, hl]
  rw [e1] at h
  simp only [Instr.storeAt, Instr.sureAddr, storeVar, Value.cells, Sem.run_bind, Sem.run_pure, Result.andThen, Tryd.sizeOfWay, List.size_toArray, hl, ne_eq, not_true_eq_false, if_false, h]
theorem BlkAt.setRow {W : World} {g : Nat} {e : TypeId} {old : List Value} (h : BlkAt W g e old) (cs : List Value) : BlkAt (W.setRow g cs.toArray) g e cs := setRow_heap W g old.toArray cs.toArray e _ h
theorem way_one {l : List (Wt × Nat)} : ∀ v ∈ wayV l, v.oneCell' = true := fun v hv => by
  obtain ⟨x, -, hx⟩ := List.mem_flatMap.1 hv
  simp at hx
  rcases hx with rfl | rfl | rfl | rfl | rfl | rfl <;> rfl
/-- what a way and a number that are told end in -/
theorem ret_way {fn : Func} {s t : Nat} {R : Ending → World → Prop} {a : Act} {W : World} {g : Nat} {e : TypeId} {cs : List Value} {v : Value} (hf : fn.results = #[ResultVar.cell s 63, ResultVar.tmp t]) (hd : a.defers = []) (hp : a.tmps[s]?.getD undef = .pointer (some ⟨g, 0, none⟩)) (ht : a.tmps[t]?.getD undef = v) (hB : BlkAt W g e cs) (hl : cs.length = 54) (hR : R (.returned (.tuple #[.agg cs.toArray, v])) W) : bodyPost Tryd.prog fn R .ret a W := by
  have hL := load_var_way hB hl
  exact bodyPost_ret (v := .tuple #[.agg cs.toArray, v]) (by simp [results, hf, hp, ht, hL, Result.andThen, asAddr]) hd hR
end Go.Proofs.YtjbiofjfjljeoaaDoor
