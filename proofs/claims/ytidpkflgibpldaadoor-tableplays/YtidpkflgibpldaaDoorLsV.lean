/- Lists of pairs as a statement has them: what a change makes, which nodes a list has, what stays, what each call tells. -/
import Derived.Test.YtidpkflgibpldaaDoorLsU
import Derived.Test.YtidpkflgibpldaaDoorGr
namespace Go.Proofs.YtidpkflgibpldaaDoor.Ls
open Go Go.RowKit Go.Shelf

/-! ### What a change makes -/

theorem miss_hd {t : Tr} (h : t.hd ≠ 0) : t.miss = 0 := by
  cases t with
  | nil => rfl
  | item g a b => exact if_neg h
  | fork g l r => exact if_neg h

theorem join_miss (f o : Tr) : (joinT f o).miss ≤ f.miss + o.miss + 1 := by
  unfold joinT
  split
  · omega
  · split
    · omega
    · show (if (0 : Int) = 0 then 1 + f.miss + o.miss else 0) ≤ _
      rw [if_pos rfl]
      omega

theorem parts_miss {S : St} {t : Tr} (hH : Held S t) : (partA t).miss + (partB t).miss ≤ t.miss := by
  cases t with
  | nil => exact Nat.zero_le _
  | item g a b => exact Nat.zero_le _
  | fork g l r =>
    by_cases h : g = 0
    · have e : (Tr.fork g l r).miss = 1 + l.miss + r.miss := if_pos h
      show l.miss + r.miss ≤ _
      omega
    · obtain ⟨a, b, -⟩ := hH.2.2 h
      show l.miss + r.miss ≤ _
      rw [miss_hd a, miss_hd b]
      exact Nat.zero_le _

theorem ff_miss {S : St} {f o : Tr} (hH : Held S f) : (ffT f o).miss ≤ f.miss + o.miss + 3 := by
  have h1 := parts_miss hH
  have h2 := parts_miss (partB_held hH)
  unfold ffT
  split
  · have h3 := join_miss (partB f) o
    have h4 := join_miss (partA f) (joinT (partB f) o)
    omega
  · have h3 := join_miss (partA f) (partA (partB f))
    have h4 := join_miss (partB (partB f)) o
    have h5 := join_miss (joinT (partA f) (partA (partB f))) (joinT (partB (partB f)) o)
    omega

theorem fo_miss {S : St} {f o : Tr} (hH : Held S o) : (foT f o).miss ≤ f.miss + o.miss + 3 := by
  have h1 := parts_miss hH
  have h2 := parts_miss (partA_held hH)
  unfold foT
  split
  · have h3 := join_miss f (partA o)
    have h4 := join_miss (joinT f (partA o)) (partB o)
    omega
  · have h3 := join_miss f (partA (partA o))
    have h4 := join_miss (partB (partA o)) (partB o)
    have h5 := join_miss (joinT f (partA (partA o))) (joinT (partB (partA o)) (partB o))
    omega

theorem even_miss {S : St} {f o : Tr} (hf : Held S f) (ho : Held S o) : (evenT f o).miss ≤ f.miss + o.miss + 3 := by
  have hj := join_miss f o
  unfold evenT
  split
  · omega
  · split
    · exact ff_miss hf
    · split
      · exact fo_miss ho
      · omega

/-- what is left aside is made, and lies on one side -/
def asideOk (w : List (Tr × Tr)) : Prop := ∀ s ∈ w, (s.1 = .nil ∧ s.2.miss = 0) ∨ (s.2 = .nil ∧ s.1.miss = 0)

theorem up_miss {S : St} {T : Nat} : ∀ {w : List (Tr × Tr)} {r : Tr}, WayOk S w T → r.ok → Held S r → asideOk w → (upT w r).miss ≤ r.miss + 3 * w.length
  | [], _, _, _, _, _ => by show _ ≤ _ + 3 * 0; exact Nat.le_refl _
  | s :: w, r, hw, hr, hH, hn => by
    have hw' : WayOk S w T := ⟨fun x h => hw.ok x (by simp [h]), fun x h => hw.held x (by simp [h]), fun x h => hw.flat x (by simp [h]), fun x h => hw.few x (by simp [h])⟩
    have ih := up_miss hw' hr hH (fun x h => hn x (by simp [h]))
    have hk := up_all_ok hw' hr hH
    obtain ⟨o1, o2⟩ := hw.ok s (by simp)
    obtain ⟨g1, g2⟩ := hw.held s (by simp)
    show (evenT (evenT s.1 (upT w r)) s.2).miss ≤ r.miss + 3 * (w.length + 1)
    rcases hn s (by simp) with ⟨e, e2⟩ | ⟨e, e2⟩
    · rw [e, even_nil_left]
      have := even_miss (o := s.2) hk.2 g2
      omega
    · rw [e, even_nil_right (even_ok o1 hk.1)]
      have := even_miss g1 hk.2
      omega

theorem down_cost {S : St} : ∀ {t : Tr} (i : Int), Held S t → (t.hd ≠ 0 ∨ t = .nil) → asideOk (downT t i).1 ∧ (downT t i).1.length + 1 ≤ t.deep + 1 ∧ (downT t i).2.1.miss = 0 ∧ (1 ≤ t.deep → (downT t i).1.length + 1 ≤ t.deep)
  | .nil, _, _, _ => ⟨(fun s hs => by cases hs), Nat.le_refl _, rfl, fun h => h⟩
  | .item g a b, i, _, hm => ⟨(fun s hs => by cases hs), by show 0 + 1 ≤ 1 + 1; omega, miss_hd (hm.elim id (fun e => nomatch e)), fun _ => Nat.le_refl _⟩
  | .fork g l r, i, hH, hm => by
    have hg : g ≠ 0 := hm.elim id (fun e => nomatch e)
    obtain ⟨a, b, -⟩ := hH.2.2 hg
    unfold downT
    split
    · obtain ⟨h1, h2, h3, h4⟩ := down_cost (t := l) i hH.1 (Or.inl a)
      have hl : (downT l i).1.length ≤ max l.deep r.deep := by omega
      have hl2 : (downT l i).1.length + 1 ≤ max l.deep r.deep := by
        have : 1 ≤ l.deep := by cases l with
          | nil => exact absurd rfl a
          | item _ _ _ => exact Nat.le_refl _
          | fork _ _ _ => exact Nat.le_add_left _ _
        have := h4 this
        omega
      refine ⟨fun s hs => ?_, by show _ + 1 + 1 ≤ max l.deep r.deep + 1 + 1; omega, h3, fun _ => by show _ + 1 + 1 ≤ max l.deep r.deep + 1; omega⟩
      rcases List.mem_cons.1 hs with rfl | hs
      · exact Or.inl ⟨rfl, miss_hd b⟩
      · exact h1 s hs
    · obtain ⟨h1, h2, h3, h4⟩ := down_cost (t := r) (i - l.size) hH.2.1 (Or.inl b)
      have hl2 : (downT r (i - l.size)).1.length + 1 ≤ max l.deep r.deep := by
        have : 1 ≤ r.deep := by cases r with
          | nil => exact absurd rfl b
          | item _ _ _ => exact Nat.le_refl _
          | fork _ _ _ => exact Nat.le_add_left _ _
        have := h4 this
        omega
      refine ⟨fun s hs => ?_, by show _ + 1 + 1 ≤ max l.deep r.deep + 1 + 1; omega, h3, fun _ => by show _ + 1 + 1 ≤ max l.deep r.deep + 1; omega⟩
      rcases List.mem_cons.1 hs with rfl | hs
      · exact Or.inr ⟨rfl, miss_hd a⟩
      · exact h1 s hs

theorem flat_of {t : Tr} (h : t.hd ≠ 0 ∨ t = .nil) : t.flat := h.imp id (fun e => by rw [e]; rfl)

theorem ins_miss {S : St} {t : Tr} {i : Int} {a b : Nat} (ho : t.ok) (hH : Held S t) (hm : t.hd ≠ 0 ∨ t = .nil) (ha : a ≤ 9223372036854775807) (hb : b ≤ 9223372036854775807) : (insT t i a b).miss ≤ 2 + 3 * t.deep := by
  have hw := down_way (S := S) i ho hH (flat_of hm)
  obtain ⟨c1, c2, c3, -⟩ := down_cost i hH hm
  have hd := (down_spec i ho).2.1
  have he := (down_end i hH (flat_of hm)).1
  have hx := item_ok ha hb
  have hi : (Tr.item 0 a b).miss = 1 := if_pos rfl
  unfold insT
  split
  · have hu := up_miss hw (join_ok hx hd) (join_held (item_held S a b) he) c1
    have := join_miss (.item 0 a b) (downT t i).2.1
    omega
  · have hu := up_miss hw (join_ok hd hx) (join_held he (item_held S a b)) c1
    have := join_miss (downT t i).2.1 (.item 0 a b)
    omega
theorem del_miss {S : St} {t : Tr} {i : Int} (ho : t.ok) (hH : Held S t) (hm : t.hd ≠ 0 ∨ t = .nil) : (delT t i).miss ≤ 3 * t.deep := by
  have hw := down_way (S := S) i ho hH (flat_of hm)
  obtain ⟨c1, c2, -, -⟩ := down_cost i hH hm
  have hu := up_miss (r := .nil) hw trivial trivial c1
  have h0 : Tr.nil.miss = 0 := rfl
  unfold delT
  omega
theorem set_miss {S : St} {t : Tr} {i : Int} {a b : Nat} (ho : t.ok) (hH : Held S t) (hm : t.hd ≠ 0 ∨ t = .nil) (ha : a ≤ 9223372036854775807) (hb : b ≤ 9223372036854775807) : (setT t i a b).miss ≤ 1 + 3 * t.deep := by
  have hw := down_way (S := S) i ho hH (flat_of hm)
  obtain ⟨c1, c2, -, -⟩ := down_cost i hH hm
  have hu := up_miss hw (item_ok ha hb) (item_held S a b) c1
  have hi : (Tr.item 0 a b).miss = 1 := if_pos rfl
  unfold setT
  omega

/-! ### Which nodes a list has -/

def Tr.hs : Tr → List Int
  | .nil => []
  | .item h _ _ => [h]
  | .fork h l r => h :: (l.hs ++ r.hs)

theorem hs_len : ∀ t : Tr, t.hs.length = t.nodes
  | .nil => rfl
  | .item _ _ _ => rfl
  | .fork h l r => by
    show (l.hs ++ r.hs).length + 1 = l.nodes + r.nodes + 1
    rw [List.length_append, hs_len l, hs_len r]

theorem hd_mem {t : Tr} (h : t.hd ≠ 0) : t.hd ∈ t.hs := by
  cases t with
  | nil => exact absurd rfl h
  | item g x n => exact List.mem_singleton.2 rfl
  | fork g l r => exact List.mem_cons_self

theorem hs_closed {S : St} : ∀ {t : Tr}, Held S t → (t.hd ≠ 0 ∨ t = .nil) → ∀ g ∈ t.hs, ∀ k ∈ (S.get g).nd.kids, k = 0 ∨ k ∈ t.hs
  | .nil, _, _, g, hg, _, _ => by cases hg
  | .item h x n, hH, hm, g, hg, k, hk => by
    have h0 : h ≠ 0 := hm.elim id (fun e => nomatch e)
    obtain rfl := List.mem_singleton.1 hg
    rw [(hH h0).2] at hk
    exact Or.inl (by simpa [Nd.kids] using hk)
  | .fork h l r, hH, hm, g, hg, k, hk => by
    have h0 : h ≠ 0 := hm.elim id (fun e => nomatch e)
    obtain ⟨a, b, c, d⟩ := hH.2.2 h0
    show k = 0 ∨ k ∈ h :: (l.hs ++ r.hs)
    rcases List.mem_cons.1 hg with rfl | hg
    · rw [d] at hk
      have : k = l.hd ∨ k = r.hd ∨ k = 0 := by simpa [Nd.kids] using hk
      rcases this with e | e | e
      · exact Or.inr (by rw [e]; simp [hd_mem a])
      · exact Or.inr (by rw [e]; simp [hd_mem b])
      · exact Or.inl e
    · rcases List.mem_append.1 hg with hg | hg
      · rcases hs_closed hH.1 (Or.inl a) g hg k hk with e | e
        · exact Or.inl e
        · exact Or.inr (by simp [e])
      · rcases hs_closed hH.2.1 (Or.inl b) g hg k hk with e | e
        · exact Or.inl e
        · exact Or.inr (by simp [e])

theorem rch_hs {S : St} {t : Tr} (hH : Held S t) (hm : t.hd ≠ 0 ∨ t = .nil) {g : Int} (r : Rch S [t.hd] g) : g ∈ t.hs := by
  have hz : S.liveB 0 = false := decide_eq_false (by rw [S.cnt_out (Or.inl (by omega))]; omega)
  induction r with
  | root h1 h2 =>
    obtain rfl := List.mem_singleton.1 h1
    rcases hm with e | e
    · exact hd_mem e
    · rw [e] at h2
      exact absurd h2 (by rw [show Tr.nil.hd = 0 from rfl, hz]; simp)
  | kid _ h1 h2 ih =>
    rcases hs_closed hH hm _ ih _ h1 with e | e
    · rw [e, hz] at h2
      cases h2
    · exact e

theorem reach_nodes {S : St} {t : Tr} (hH : Held S t) (hm : t.hd ≠ 0 ∨ t = .nil) {seen : List Bool} (I : ReInv S [t.hd] seen [] []) : (risingL 0 seen).length ≤ t.nodes := by
  rw [← hs_len]
  exact List.Nodup.length_le_of_subset (rise_nodup seen) (fun x hx => rch_hs hH hm ((I.done x).1 ((mem_rise seen x).1 hx)))

/-! ### A list as a statement has it -/

structure RowT (S : St) (t : Tr) (bs : List (Nat × Nat)) : Prop where
  ok : t.ok
  bal : t.bal
  held : Held S t
  made : t.hd ≠ 0 ∨ t = .nil
  bits : t.bits = bs

theorem RowT.size {S : St} {t : Tr} {bs : List (Nat × Nat)} (T : RowT S t bs) : t.size = bs.length := by rw [← T.bits, t.len]
theorem RowT.grows {S S' : St} {t : Tr} {bs : List (Nat × Nat)} (T : RowT S t bs) (h : Grows S S') : RowT S' t bs := ⟨T.ok, T.bal, Held.grows h T.held, T.made, T.bits⟩
theorem RowT.none (S : St) : RowT S .nil [] := ⟨trivial, trivial, trivial, Or.inr rfl, rfl⟩
theorem RowT.zero {S : St} {t : Tr} {bs : List (Nat × Nat)} (T : RowT S t bs) : t.hd = 0 ↔ bs = [] := by
  rw [← T.bits]
  constructor
  · intro h
    rcases T.made with e | e
    · exact absurd h e
    · rw [e]; rfl
  · intro h
    have : t.size = 0 := by rw [← t.len, h]; rfl
    rw [Tr.zero T.ok this]
    rfl
theorem RowT.nodes {S : St} {t : Tr} {bs : List (Nat × Nat)} (T : RowT S t bs) : t.nodes ≤ 2 * bs.length := by
  have := nodes_le T.ok
  rw [T.size] at this
  exact this
theorem RowT.deep {S : St} {t : Tr} {bs : List (Nat × Nat)} (T : RowT S t bs) {d : Nat} (h : bs.length < leastN (d + 1)) : t.deep ≤ d := deep_lt T.ok T.bal (by rw [T.size]; exact h)

/-- what is told of a list that was made of another one -/
theorem RowT.made_of {S : St} {mine : List Int} {u : Tr} {bs : List (Nat × Nat)} (I : Inv S) (C : CI S mine) (ho : u.ok) (hb : u.bal) (hH : Held S u) (he : u.bits = bs) (hr : usedN S.sl + u.miss ≤ S.n) :
    RowT (mdT u S).1 (mdT u S).2 bs ∧ Grows S (mdT u S).1 ∧ CI (mdT u S).1 (if (mdT u S).2.hd = 0 then mine else mine ++ [(mdT u S).2.hd]) ∧ usedN (mdT u S).1.sl = usedN S.sl + u.miss ∧ (mdT u S).2.deep = u.deep := by
  have M := Go.Proofs.YtidpkflgibpldaaDoor.Ls.made_of I C hH ho hr
  exact ⟨⟨M.ok, M.bal hb, M.held, M.made, M.bits.trans he⟩, M.grows, M.ci, M.used, M.deep⟩

theorem flat_bal {t : Tr} (h : t.isF = false) : t.bal := by
  cases t with
  | nil => trivial
  | item _ _ _ => trivial
  | fork _ _ _ => cases h

theorem ins_bal {t : Tr} {i : Int} {a b : Nat} (ho : t.ok) (hb : t.bal) (ha : a ≤ 9223372036854775807) (hbx : b ≤ 9223372036854775807) : (insT t i a b).bal := by
  obtain ⟨d1, d2, d3, d5, d6⟩ := down_spec i ho
  have hx := item_ok ha hbx
  have hq : (downT t i).2.1.size ≤ 1 := Nat.le_of_not_lt (fun h => by rw [(Tr.two d2).2 h] at d3; cases d3)
  have h1 : (Tr.item 0 a b).size = 1 := rfl
  unfold insT
  split
  · have hs := join_size hx d2
    exact up_bal i ho hb (join_ok hx d2) (Tr.bal_small (join_ok hx d2) (by omega)) (by omega) (by omega)
  · have hs := join_size d2 hx
    exact up_bal i ho hb (join_ok d2 hx) (Tr.bal_small (join_ok d2 hx) (by omega)) (by omega) (by omega)
theorem del_bal {t : Tr} {i : Int} (ho : t.ok) (hb : t.bal) : (delT t i).bal := by
  obtain ⟨d1, d2, d3, d5, d6⟩ := down_spec i ho
  have hq : (downT t i).2.1.size ≤ 1 := Nat.le_of_not_lt (fun h => by rw [(Tr.two d2).2 h] at d3; cases d3)
  unfold delT
  exact up_bal (r := .nil) i ho hb trivial trivial (Nat.zero_le _) (by show _ ≤ 0 + 1; omega)
theorem set_bal {t : Tr} {i : Int} {a b : Nat} (ho : t.ok) (hb : t.bal) (ha : a ≤ 9223372036854775807) (hbx : b ≤ 9223372036854775807) : (setT t i a b).bal := by
  obtain ⟨d1, d2, d3, d5, d6⟩ := down_spec i ho
  have hq : (downT t i).2.1.size ≤ 1 := Nat.le_of_not_lt (fun h => by rw [(Tr.two d2).2 h] at d3; cases d3)
  have h1 : (Tr.item 0 a b).size = 1 := rfl
  unfold setT
  exact up_bal i ho hb (item_ok ha hbx) trivial (by omega) (by omega)

/-- a list whose root is live stays -/
theorem held_top {S T : St} {mine : List Int} (C : CI T mine) (hK : Keeps S T) : ∀ {t : Tr}, Held S t → (t.hd ≠ 0 ∨ t = .nil) → (t.hd ≠ 0 → 0 < T.cnt t.hd) → Held T t
  | .nil, _, _, _ => trivial
  | .item h x n, hH, _, hl => fun h0 => by
    have := hl h0
    exact ⟨this, (hK.2 h this).trans (hH h0).2⟩
  | .fork h l r, hH, hm, hl => by
    have h0 : h ≠ 0 := hm.elim id (fun e => nomatch e)
    obtain ⟨a, b, c, d⟩ := hH.2.2 h0
    have hc := hl h0
    have hd := (hK.2 h hc).trans d
    have kid : ∀ t : Tr, Held S t → t.hd ≠ 0 → t.hd ∈ (T.get h).nd.kids → 0 < T.cnt t.hd := fun t hH ht hk => by
      have hlv : 0 < S.cnt t.hd := by
        cases t with
        | nil => exact absurd rfl ht
        | item g x n => exact (hH ht).1
        | fork g l r => exact (hH.2.2 ht).2.2.1
      obtain ⟨r1, r2⟩ := S.live_in (h := t.hd) (decide_eq_true hlv)
      exact cnt_kid C hk r1 (by rw [hK.1]; exact r2)
    have hkl : l.hd ∈ (T.get h).nd.kids := by rw [hd]; simp [Nd.kids]
    have hkr : r.hd ∈ (T.get h).nd.kids := by rw [hd]; simp [Nd.kids]
    exact ⟨held_top C hK hH.1 (Or.inl a) (fun _ => kid l hH.1 a hkl), held_top C hK hH.2.1 (Or.inl b) (fun _ => kid r hH.2.1 b hkr), fun _ => ⟨a, b, hc, hd⟩⟩

theorem RowT.carry {S T : St} {mine : List Int} {t : Tr} {bs : List (Nat × Nat)} (R : RowT S t bs) (C : CI T mine) (hK : Keeps S T) (hm : t.hd = 0 ∨ t.hd ∈ mine) : RowT T t bs :=
  ⟨R.ok, R.bal, held_top C hK R.held R.made (fun h0 => hm.elim (fun e => absurd e h0) (fun e => T.live_pos (C.live e))), R.made, R.bits⟩

/-- where a list is made nobody comes to wait -/
theorem mdT_wt : ∀ {t : Tr} {S : St} {mine : List Int}, Inv S → CI S mine → Held S t → t.ok → usedN S.sl + t.miss ≤ S.n → (mdT t S).1.wt = S.wt
  | .nil, _, _, _, _, _, _, _ => rfl
  | .item h x n, S, mine, I, C, hH, ho, hr => by
    by_cases h0 : h = 0
    · have hmd : mdT (.item h x n) S = (S.mk1 (leafNd x n), .item (S.mkH (leafNd x n)) x n) := if_pos h0
      rw [hmd]
      exact wt_mk1 S _
    · have hmd : mdT (.item h x n) S = (S.keep h, .item h x n) := if_neg h0
      rw [hmd]
      exact S.wt_keep h
  | .fork h l r, S, mine, I, C, hH, ho, hr => by
    by_cases h0 : h = 0
    · subst h0
      obtain ⟨ol, or_, l1, r1⟩ := ho
      have hm : (Tr.fork 0 l r).miss = 1 + l.miss + r.miss := rfl
      rw [hm] at hr
      have M1 := made_of (S := S) (mine := mine) (t := l) I C hH.1 ol (by omega)
      have W1 := mdT_wt (S := S) (mine := mine) (t := l) I C hH.1 ol (by omega)
      have hmd : mdT (.fork 0 l r) S = ((((mdT r (mdT l S).1).1.mk1 (forkNd (mdT l S).2 (mdT r (mdT l S).1).2)).drop (mdT l S).2.hd).drop (mdT r (mdT l S).1).2.hd, .fork ((mdT r (mdT l S).1).1.mkH (forkNd (mdT l S).2 (mdT r (mdT l S).1).2)) (mdT l S).2 (mdT r (mdT l S).1).2) := if_pos rfl
      rw [hmd]
      generalize (mdT l S).1 = S1 at *
      generalize (mdT l S).2 = l' at *
      have hl0 : l'.hd ≠ 0 := M1.made.elim id (fun e => by have := M1.size; rw [e] at this; have e0 : Tr.nil.size = 0 := rfl; omega)
      have C1 := M1.ci
      rw [if_neg hl0] at C1
      have M2 := made_of (S := S1) (mine := mine ++ [l'.hd]) (t := r) M1.inv C1 (Held.grows M1.grows hH.2.1) or_ (by rw [M1.used, M1.grows.1]; omega)
      have W2 := mdT_wt (S := S1) (mine := mine ++ [l'.hd]) (t := r) M1.inv C1 (Held.grows M1.grows hH.2.1) or_ (by rw [M1.used, M1.grows.1]; omega)
      generalize (mdT r S1).1 = S2 at *
      generalize (mdT r S1).2 = r' at *
      have hr0 : r'.hd ≠ 0 := M2.made.elim id (fun e => by have := M2.size; rw [e] at this; have e0 : Tr.nil.size = 0 := rfl; omega)
      have C2 := M2.ci
      rw [if_neg hr0] at C2
      have hu2 := M2.used
      have hu1 := M1.used
      have hn2 := M2.grows.1
      have hn1 := M1.grows.1
      obtain ⟨i, hl⟩ := room_least (S := S2) (by omega)
      have ml : l'.hd ∈ mine ++ [l'.hd] ++ [r'.hd] := by simp
      have mr : r'.hd ∈ mine ++ [l'.hd] ++ [r'.hd] := by simp
      have hk1 : ∀ k ∈ (forkNd l' r').kids, k = 0 ∨ S2.liveB k = true := fun k hk => by
        have : k = l'.hd ∨ k = r'.hd ∨ k = 0 := by simpa [forkNd, Nd.kids] using hk
        rcases this with e | e | e
        · exact Or.inr (e ▸ C2.live ml)
        · exact Or.inr (e ▸ C2.live mr)
        · exact Or.inl e
      obtain ⟨-, -, hc0, -, h2⟩ := mk_told M2.inv (n := forkNd l' r') rfl hk1 hl
      have pl := S2.live_pos (C2.live ml)
      have pr := S2.live_pos (C2.live mr)
      have ql := (C2.mem _ ml).1
      have qr := (C2.mem _ mr).1
      have cl := h2 _ ql
      have cr := h2 _ qr
      rw [if_neg (fun e => by rw [e, hc0] at pl; omega)] at cl
      rw [if_neg (fun e => by rw [e, hc0] at pr; omega)] at cr
      have kl : 1 ≤ (forkNd l' r').kids.count l'.hd := List.count_pos_iff.2 (by simp [forkNd, Nd.kids])
      have kr : 1 ≤ (forkNd l' r').kids.count r'.hd := List.count_pos_iff.2 (by simp [forkNd, Nd.kids])
      rw [St.wt_drop, if_neg ?_, St.wt_drop, if_neg (by omega), wt_mk1, W2, W1]
      rw [St.cnt_drop]
      split
      · next q =>
        have e : r'.hd = l'.hd := q
        have k2 : 2 ≤ (forkNd l' r').kids.count r'.hd := by simp [forkNd, Nd.kids, e]
        omega
      · omega
    · have hmd : mdT (.fork h l r) S = (S.keep h, .fork h l r) := if_neg h0
      rw [hmd]
      exact S.wt_keep h

theorem hs_live {S : St} : ∀ {t : Tr}, Held S t → (t.hd ≠ 0 ∨ t = .nil) → ∀ g ∈ t.hs, S.liveB g = true
  | .nil, _, _, g, hg => by cases hg
  | .item h x n, hH, hm, g, hg => by
    obtain rfl := List.mem_singleton.1 hg
    exact decide_eq_true (hH (hm.elim id (fun e => nomatch e))).1
  | .fork h l r, hH, hm, g, hg => by
    have h0 : h ≠ 0 := hm.elim id (fun e => nomatch e)
    obtain ⟨a, b, c, -⟩ := hH.2.2 h0
    rcases List.mem_cons.1 hg with rfl | hg
    · exact decide_eq_true c
    · rcases List.mem_append.1 hg with hg | hg
      · exact hs_live hH.1 (Or.inl a) g hg
      · exact hs_live hH.2.1 (Or.inl b) g hg

theorem hs_rch {S : St} : ∀ {t : Tr}, Held S t → (t.hd ≠ 0 ∨ t = .nil) → ∀ g ∈ t.hs, Rch S [t.hd] g
  | .nil, _, _, g, hg => by cases hg
  | .item h x n, hH, hm, g, hg => by
    have hl := hs_live hH hm g hg
    obtain rfl := List.mem_singleton.1 hg
    exact .root (List.mem_singleton.2 rfl) hl
  | .fork h l r, hH, hm, g, hg => by
    have h0 : h ≠ 0 := hm.elim id (fun e => nomatch e)
    obtain ⟨a, b, c, d⟩ := hH.2.2 h0
    have hroot : Rch S [h] h := .root (List.mem_singleton.2 rfl) (decide_eq_true c)
    show Rch S [h] g
    rcases List.mem_cons.1 hg with rfl | hg
    · exact hroot
    · rcases List.mem_append.1 hg with hg | hg
      · refine rch_trans ?_ (hs_rch hH.1 (Or.inl a) g hg)
        exact .kid hroot (by rw [d]; simp [Nd.kids]) (hs_live hH.1 (Or.inl a) _ (hd_mem a))
      · refine rch_trans ?_ (hs_rch hH.2.1 (Or.inl b) g hg)
        exact .kid hroot (by rw [d]; simp [Nd.kids]) (hs_live hH.2.1 (Or.inl b) _ (hd_mem b))

theorem rise_same {S S' : St} {t : Tr} (hH : Held S t) (hH' : Held S' t) (hm : t.hd ≠ 0 ∨ t = .nil) {a b : List Bool} (A : ReInv S [t.hd] a [] []) (B : ReInv S' [t.hd] b [] []) : (risingL 0 a).length = (risingL 0 b).length := by
  have key : ∀ x, x ∈ risingL 0 a ↔ x ∈ risingL 0 b := fun x => by
    rw [mem_rise, mem_rise, A.done, B.done]
    exact ⟨fun h => hs_rch hH' hm x (rch_hs hH hm h), fun h => hs_rch hH hm x (rch_hs hH' hm h)⟩
  exact Nat.le_antisymm (List.Nodup.length_le_of_subset (rise_nodup a) (fun x hx => (key x).1 hx)) (List.Nodup.length_le_of_subset (rise_nodup b) (fun x hx => (key x).2 hx))

/-- how many nodes a list has, each counted once -/
def hsN (t : Tr) : Nat := (once t.hs).length

theorem rise_row {S : St} {t : Tr} (hH : Held S t) (hm : t.hd ≠ 0 ∨ t = .nil) {a : List Bool} (A : ReInv S [t.hd] a [] []) : (risingL 0 a).length = hsN t := by
  have key : ∀ x, x ∈ risingL 0 a ↔ x ∈ once t.hs := fun x => by
    rw [mem_rise, A.done, mem_once]
    exact ⟨fun h => rch_hs hH hm h, fun h => hs_rch hH hm x h⟩
  exact Nat.le_antisymm (List.Nodup.length_le_of_subset (rise_nodup a) (fun x hx => (key x).1 hx)) (List.Nodup.length_le_of_subset (once_nodup t.hs) (fun x hx => (key x).2 hx))

theorem hsN_le (t : Tr) : hsN t ≤ t.nodes := by
  rw [← hs_len]
  exact List.Nodup.length_le_of_subset (once_nodup t.hs) (fun x hx => (mem_once t.hs x).1 hx)

/-- one row alone, none waits: as many are used as it has nodes, whatever was there in between -/
theorem row_used {S S' : St} {mine mine' : List Int} {t : Tr} (C : CI S mine) (I : Inv S) (hw : S.wt = []) (hm1 : ∀ x ∈ mine, x = t.hd) (C' : CI S' mine') (I' : Inv S') (hw' : S'.wt = []) (hm2 : ∀ x ∈ mine', x = t.hd) (hH : Held S t) (hH' : Held S' t) (hm : t.hd ≠ 0 ∨ t = .nil) : usedN S.sl = usedN S'.sl := by
  obtain ⟨a, A⟩ := reInv_ex S [t.hd]
  obtain ⟨b, B⟩ := reInv_ex S' [t.hd]
  rw [← reach_all C I hw A (fun x hx => by rw [hm1 x hx]; simp), ← reach_all C' I' hw' B (fun x hx => by rw [hm2 x hx]; simp)]
  exact rise_same hH hH' hm A B

/-- one row alone, none waits -/
theorem used_row {S : St} {mine : List Int} {t : Tr} (C : CI S mine) (I : Inv S) (hw : S.wt = []) (hm1 : ∀ x ∈ mine, x = t.hd) (hH : Held S t) (hm : t.hd ≠ 0 ∨ t = .nil) : usedN S.sl = hsN t := by
  obtain ⟨a, A⟩ := reInv_ex S [t.hd]
  rw [← reach_all C I hw A (fun x hx => by rw [hm1 x hx]; simp)]
  exact rise_row hH hm A

/-! ### What is told -/

theorem insR {w0 w : World} {G : Nat} {S : St} {md c : Nat} {mine : List Int} (hA : AB w0 G w S md c) (C : CI S mine) {t : Tr} {bs : List (Nat × Nat)} (T : RowT S t bs) (hl : bs.length ≤ 860) (i : Nat) (hi : i ≤ bs.length) {a b : Nat} (ha : a ≤ 9223372036854775807) (hbx : b ≤ 9223372036854775807) (hr : usedN S.sl + (2 + 3 * t.deep) ≤ S.n) (hn : 0 < S.n) (hc : c ≤ 800000000) (hmd : md ≤ 800000000) (hdp : t.deep ≤ 1000) :
    Calls Tryd.prog 18 #[.pointer (some ⟨G, 0, none⟩), .int .i64 t.hd, .int .i64 i, .agg #[.int .i64 (a : Nat), .int .i64 (b : Nat)]] w fun e w' => ∃ S' t' m, e = .returned (.tuple #[.int .i64 t'.hd, .int .i64 0]) ∧ AB w0 G w' S' (md + m) (c + 10000) ∧ CI S' (mine ++ [t'.hd]) ∧ Grows S S' ∧ RowT S' t' (bs.take i ++ (a, b) :: bs.drop i) ∧ usedN S'.sl = usedN S.sl + m ∧ m ≤ 2 + 3 * t.deep ∧ t'.hd ≠ 0 ∧ Sp G w w' ∧ S'.wt = S.wt := by
  have hs := T.size
  have h0 : (0 : Int) ≤ (i : Nat) := by omega
  have h1 : ((i : Nat) : Int) ≤ t.size := by omega
  obtain ⟨q1, q2, q3⟩ := ins_tree (S := S) T.ok T.held T.made h0 h1 ha hbx
  have q4 : (insT t (i : Int) a b).bal := ins_bal T.ok T.bal ha hbx
  have q5 := ins_size T.ok T.held T.made h0 h1 ha hbx
  have q6 := ins_miss (i := (i : Int)) T.ok T.held T.made ha hbx
  have q7 := nodes_le q1
  rw [T.bits, Int.toNat_natCast] at q3
  obtain ⟨r1, r2, r3, r4, -⟩ := RowT.made_of hA.inv C q1 q4 q2 q3 (by omega)
  have hwt := mdT_wt hA.inv C q2 q1 (show usedN S.sl + (insT t (i : Int) a b).miss ≤ S.n by omega)
  have hz : (mdT (insT t (i : Int) a b) S).2.hd ≠ 0 := fun e => by
    have := r1.zero.1 e
    simp at this
  rw [if_neg hz] at r3
  refine (ins_make hA C T.ok (by omega) T.made T.held h0 h1 ha hbx (by omega) hn (by omega) (by omega)).mono ?_
  rintro e w' ⟨rfl, hA', hS⟩
  exact ⟨_, _, _, rfl, hA'.mono (by omega), r3, r2, r1, r4, q6, hz, hS, hwt⟩

theorem delR {w0 w : World} {G : Nat} {S : St} {md c : Nat} {mine : List Int} (hA : AB w0 G w S md c) (C : CI S mine) {t : Tr} {bs : List (Nat × Nat)} (T : RowT S t bs) (hl : bs.length ≤ 860) (i : Nat) (hi : i < bs.length) (hr : usedN S.sl + (3 * t.deep) ≤ S.n) (hn : 0 < S.n) (hc : c ≤ 800000000) (hmd : md ≤ 800000000) (hdp : t.deep ≤ 1000) :
    Calls Tryd.prog 19 #[.pointer (some ⟨G, 0, none⟩), .int .i64 t.hd, .int .i64 i] w fun e w' => ∃ S' t' m, e = .returned (.tuple #[.int .i64 t'.hd, .int .i64 0]) ∧ AB w0 G w' S' (md + m) (c + 10000) ∧ CI S' (if t'.hd = 0 then mine else mine ++ [t'.hd]) ∧ Grows S S' ∧ RowT S' t' (bs.take i ++ bs.drop (i + 1)) ∧ usedN S'.sl = usedN S.sl + m ∧ m ≤ 3 * t.deep ∧ Sp G w w' ∧ S'.wt = S.wt := by
  have hs := T.size
  have h0 : (0 : Int) ≤ (i : Nat) := by omega
  have h1 : ((i : Nat) : Int) < t.size := by omega
  obtain ⟨q1, q2, q3⟩ := del_tree (S := S) T.ok T.held T.made h0 h1
  have q4 : (delT t (i : Int)).bal := del_bal T.ok T.bal
  have q5 := del_size T.ok T.held T.made h0 h1
  have q6 := del_miss (i := (i : Int)) T.ok T.held T.made
  have q7 := nodes_le q1
  rw [T.bits, Int.toNat_natCast] at q3
  obtain ⟨r1, r2, r3, r4, -⟩ := RowT.made_of hA.inv C q1 q4 q2 q3 (by omega)
  have hwt := mdT_wt hA.inv C q2 q1 (show usedN S.sl + (delT t (i : Int)).miss ≤ S.n by omega)
  refine (del_make hA C T.ok (by omega) T.made T.held h0 h1 (by omega) hn (by omega) (by omega)).mono ?_
  rintro e w' ⟨rfl, hA', hS⟩
  exact ⟨_, _, _, rfl, hA'.mono (by omega), r3, r2, r1, r4, q6, hS, hwt⟩

theorem lenR {p : Value} {S : St} {w : World} (hR : Rd p S w) {t : Tr} {bs : List (Nat × Nat)} (T : RowT S t bs) (hl : bs.length ≤ 30000) :
    Calls Tryd.prog 25 #[p, .int .i64 t.hd] w fun e w' => e = .returned (.int .i64 (bs.length : Nat)) ∧ Below w.heap.size w w' := by
  have := len_any hR T.ok (by rw [T.size]; omega) T.made T.held
  rw [T.size] at this
  exact this

theorem getR_in {p : Value} {S : St} {w : World} (hR : Rd p S w) {t : Tr} {bs : List (Nat × Nat)} (T : RowT S t bs) (hl : bs.length ≤ 30000) (i : Nat) {a b : Nat} (hx : bs[i]? = some (a, b)) :
    Calls Tryd.prog 26 #[p, .int .i64 t.hd, .int .i64 i] w fun e w' => e = .returned (.tuple #[.agg #[.int .i64 (a : Nat), .int .i64 (b : Nat)], .bool true]) ∧ Below w.heap.size w w' := by
  have hi : i < bs.length := (List.getElem?_eq_some_iff.1 hx).1
  exact get_in hR T.ok (by rw [T.size]; omega) T.made T.held (i := (i : Int)) (by omega) (by rw [T.size]; omega) (by rw [T.bits, Int.toNat_natCast]; exact hx)

/-- a list of pairs in memory -/
structure HasItems (w : World) (ao : Option Addr) (xs : List (Int × Int)) : Prop where
  cell : ∀ j (hj : j < xs.length), ∃ g o, ao = some ⟨g, o, none⟩ ∧ w.cell? ⟨g, o + j * 2, none⟩ = some (.int .i64 xs[j].1) ∧ w.cell? ⟨g, o + j * 2 + 1, none⟩ = some (.int .i64 xs[j].2)

theorem HasItems.later {w w' : World} {ao : Option Addr} {xs : List (Int × Int)} (h : HasItems w ao xs) (hb : Below w.heap.size w w') : HasItems w' ao xs :=
  ⟨fun j hj => by
    obtain ⟨g, o, h1, h2, h3⟩ := h.cell j hj
    exact ⟨g, o, h1, (World.cell?_of_block (w := w) (hb.block g (World.block_lt_of_cell? _ _ h2))).trans h2, (World.cell?_of_block (w := w) (hb.block g (World.block_lt_of_cell? _ _ h3))).trans h3⟩⟩

/-- pairs as the memory has them -/
def zp (x : Nat × Nat) : Int × Int := ((x.1 : Int), (x.2 : Int))

theorem itemsC_at : ∀ (l : List (Nat × Nat)) (j : Nat) (hj : j < l.length), (itemsC l)[j * 2]? = some (.int .i64 (l[j].1 : Nat)) ∧ (itemsC l)[j * 2 + 1]? = some (.int .i64 (l[j].2 : Nat))
  | x :: l, 0, _ => ⟨rfl, rfl⟩
  | x :: l, j + 1, hj => by
    obtain ⟨a, b⟩ := itemsC_at l j (by simpa using hj)
    have e : itemsC (x :: l) = .int .i64 (x.1 : Nat) :: .int .i64 (x.2 : Nat) :: itemsC l := rfl
    rw [e, show (j + 1) * 2 + 1 = j * 2 + 1 + 1 + 1 by omega, show (j + 1) * 2 = j * 2 + 1 + 1 by omega]
    exact ⟨a, b⟩

theorem allR {p : Value} {S : St} {w : World} (hR : Rd p S w) {t : Tr} {bs : List (Nat × Nat)} (T : RowT S t bs) (hl : bs.length ≤ 30000) :
    Calls Tryd.prog 42 #[p, .int .i64 t.hd] w fun e w' => ∃ ao cap, e = .returned (.slice ao bs.length cap) ∧ HasItems w' ao (bs.map zp) ∧ Below w.heap.size w w' := by
  refine (all_any hR T.ok (by rw [T.size]; omega) T.made T.held).mono ?_
  rintro e w' ⟨v, rfl, hO, hb⟩
  rw [T.bits] at hO
  obtain ⟨ao, cap, rfl, hc, -⟩ := owns_cells hO
  refine ⟨ao, cap, rfl, ⟨fun j hj => ?_⟩, hb⟩
  have hj2 : j < bs.length := by simpa using hj
  obtain ⟨a, b⟩ := itemsC_at bs j hj2
  obtain ⟨g, o, e1, c1⟩ := hc _ _ a
  obtain ⟨g', o', e2, c2⟩ := hc _ _ b
  rw [e1] at e2
  cases e2
  refine ⟨g, o, e1, ?_, ?_⟩
  · rw [c1]; simp [zp]
  · rw [Nat.add_assoc, c2]; simp [zp]

end Go.Proofs.YtidpkflgibpldaaDoor.Ls
