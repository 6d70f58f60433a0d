/- Rows of bits as a statement has them: what is held of one, how many nodes a change makes, which nodes a row has, how many there are. -/
import Derived.Test.YtfkfnibeipddaabDoorBcA
import Derived.Test.YtfkfnibeipddaabDoorMe
namespace Go.Proofs.YtfkfnibeipddaabDoor

/-! ### What a change makes -/

theorem miss_hd {t : Tr} (h : t.hd ≠ 0) : t.miss = 0 := by
  cases t with
  | nil => rfl
  | leaf g x n => exact if_neg h
  | fork g l r => exact if_neg h

theorem join_miss (f o : Tr) : (joinT f o).miss ≤ f.miss + o.miss + 1 := by
  unfold joinT
  split
  · omega
  · split
    · omega
    · split
      · show (if (0 : Int) = 0 then 1 else 0) ≤ _
        rw [if_pos rfl]
        omega
      · show (if (0 : Int) = 0 then 1 + f.miss + o.miss else 0) ≤ _
        rw [if_pos rfl]
        omega

theorem half_miss (g : Int) (x n : Nat) : (partA (.leaf g x n)).miss + (partB (.leaf g x n)).miss ≤ 2 := by
  have h1 := ofL_miss (x % 2 ^ (n / 2)) (n / 2)
  have h2 := ofL_miss (x / 2 ^ (n / 2)) (n - n / 2)
  show (ofL _ _).miss + (ofL _ _).miss ≤ 2
  omega

theorem parts_fork {S : St} {g : Int} {l r : Tr} (hH : Held S (.fork g l r)) : l.miss + r.miss ≤ (Tr.fork g l r).miss := by
  by_cases h : g = 0
  · have e : (Tr.fork g l r).miss = 1 + l.miss + r.miss := if_pos h
    omega
  · obtain ⟨a, b, -⟩ := hH.2.2 h
    rw [miss_hd a, miss_hd b]
    exact Nat.zero_le _

theorem parts_miss {S : St} {t : Tr} (hH : Held S t) : (partA t).miss + (partB t).miss ≤ t.miss + 2 := by
  cases t with
  | nil => exact Nat.zero_le _
  | leaf g x n => have := half_miss g x n; omega
  | fork g l r => have := parts_fork hH; show l.miss + r.miss ≤ _; omega

theorem ff_miss {S : St} {f o : Tr} (hH : Held S f) (h4 : 4 ≤ f.size) : (ffT f o).miss ≤ f.miss + o.miss + 5 := by
  unfold ffT
  split
  · have h1 := parts_miss hH
    have h2 := join_miss (partB f) o
    have h3 := join_miss (partA f) (joinT (partB f) o)
    omega
  · next hc =>
    cases f with
    | nil => exact absurd h4 (by show ¬ 4 ≤ 0; omega)
    | leaf g x n =>
      refine absurd ?_ hc
      have h5 : 4 ≤ n := h4
      show (ofL _ _).size < 2 * (ofL _ _).size
      rw [ofL_size, ofL_size]
      omega
    | fork g l r =>
      have h1 := parts_fork hH
      have h2 := parts_miss hH.2.1
      have h3 := join_miss l (partA r)
      have h4 := join_miss (partB r) o
      have h5 := join_miss (joinT l (partA r)) (joinT (partB r) o)
      show (joinT (joinT l (partA r)) (joinT (partB r) o)).miss ≤ _
      omega

theorem fo_miss {S : St} {f o : Tr} (hH : Held S o) (h4 : 4 ≤ o.size) : (foT f o).miss ≤ f.miss + o.miss + 5 := by
  unfold foT
  split
  · have h1 := parts_miss hH
    have h2 := join_miss f (partA o)
    have h3 := join_miss (joinT f (partA o)) (partB o)
    omega
  · next hc =>
    cases o with
    | nil => exact absurd h4 (by show ¬ 4 ≤ 0; omega)
    | leaf g x n =>
      refine absurd ?_ hc
      have h5 : 4 ≤ n := h4
      show (ofL _ _).size < 2 * (ofL _ _).size
      rw [ofL_size, ofL_size]
      omega
    | fork g l r =>
      have h1 := parts_fork hH
      have h2 := parts_miss hH.1
      have h3 := join_miss f (partA l)
      have h4 := join_miss (partB l) r
      have h5 := join_miss (joinT f (partA l)) (joinT (partB l) r)
      show (joinT (joinT f (partA l)) (joinT (partB l) r)).miss ≤ _
      omega

theorem even_miss {S : St} {f o : Tr} (hf : Held S f) (ho : Held S o) : (evenT f o).miss ≤ f.miss + o.miss + 5 := by
  have hj := join_miss f o
  unfold evenT
  split
  · omega
  · next h0 =>
    split
    · exact ff_miss hf (by omega)
    · split
      · exact fo_miss ho (by omega)
      · omega

/-- what is left aside: how much of it is not made -/
def asideN : List (Tr × Tr) → Nat
  | [] => 0
  | s :: w => s.1.miss + s.2.miss + asideN w

theorem up_miss {S : St} {T : Nat} : ∀ {w : List (Tr × Tr)} {r : Tr}, WayOk S w T → r.ok → Held S r → (∀ s ∈ w, s.1 = .nil ∨ s.2 = .nil) → (upT w r).miss ≤ r.miss + 5 * w.length + asideN w
  | [], _, _, _, _, _ => by show _ ≤ _ + 5 * 0 + 0; exact Nat.le_refl _
  | s :: w, r, hw, hr, hH, hn => by
    have hw' : WayOk S w T := ⟨fun x h => hw.ok x (by simp [h]), fun x h => hw.held x (by simp [h]), fun x h => hw.flat x (by simp [h]), fun x h => hw.few x (by simp [h])⟩
    have ih := up_miss hw' hr hH (fun x h => hn x (by simp [h]))
    have hk := upP_ok hw' hr hH (uptoS _ w.length)
    rw [upP_all] at hk
    obtain ⟨o1, o2⟩ := hw.ok s (by simp)
    obtain ⟨g1, g2⟩ := hw.held s (by simp)
    show (evenT (evenT s.1 (upT w r)) s.2).miss ≤ r.miss + 5 * (w.length + 1) + (s.1.miss + s.2.miss + asideN w)
    rcases hn s (by simp) with e | e
    · rw [e, even_nil_left]
      have := even_miss (o := s.2) hk.2.1 g2
      omega
    · rw [e, even_nil_right (even_ok o1 hk.1)]
      have := even_miss g1 hk.2.1
      omega

theorem down_cost {S : St} {most : Nat} : ∀ {t : Tr} (i : Int), Held S t → (t.hd ≠ 0 ∨ t = .nil) → (∀ s ∈ (downT most t i).1, s.1 = .nil ∨ s.2 = .nil) ∧ asideN (downT most t i).1 ≤ 1 ∧ (downT most t i).1.length ≤ t.deep
  | .nil, _, _, _ => ⟨(fun s hs => by cases hs), Nat.zero_le _, Nat.le_refl _⟩
  | .leaf g x n, i, _, _ => by
    unfold downT
    split
    · exact ⟨(fun s hs => by cases hs), Nat.zero_le _, Nat.zero_le _⟩
    · split
      · refine ⟨fun s hs => ?_, ?_, Nat.le_refl _⟩
        · obtain rfl := List.mem_singleton.1 hs
          exact Or.inl rfl
        · have := ofL_miss (x / 2 ^ (n / 2)) (n - n / 2)
          show 0 + (ofL _ _).miss + 0 ≤ 1
          omega
      · refine ⟨fun s hs => ?_, ?_, Nat.le_refl _⟩
        · obtain rfl := List.mem_singleton.1 hs
          exact Or.inr rfl
        · have := ofL_miss (x % 2 ^ (n / 2)) (n / 2)
          show (ofL _ _).miss + 0 + 0 ≤ 1
          omega
  | .fork g l r, i, hH, hm => by
    have hg : g ≠ 0 := hm.elim id (fun e => nomatch e)
    obtain ⟨a, b, -⟩ := hH.2.2 hg
    unfold downT
    split
    · obtain ⟨h1, h2, h3⟩ := down_cost (most := most) (t := l) i hH.1 (Or.inl a)
      refine ⟨fun s hs => ?_, ?_, ?_⟩
      · rcases List.mem_cons.1 hs with rfl | hs
        · exact Or.inl rfl
        · exact h1 s hs
      · show 0 + r.miss + asideN (downT most l i).1 ≤ 1
        rw [miss_hd b]
        omega
      · show (downT most l i).1.length + 1 ≤ max l.deep r.deep + 1
        omega
    · obtain ⟨h1, h2, h3⟩ := down_cost (most := most) (t := r) (i - l.size) hH.2.1 (Or.inl b)
      refine ⟨fun s hs => ?_, ?_, ?_⟩
      · rcases List.mem_cons.1 hs with rfl | hs
        · exact Or.inr rfl
        · exact h1 s hs
      · show l.miss + 0 + asideN (downT most r (i - l.size)).1 ≤ 1
        rw [miss_hd a]
        omega
      · show (downT most r (i - l.size)).1.length + 1 ≤ max l.deep r.deep + 1
        omega

theorem flat_of {t : Tr} (h : t.hd ≠ 0 ∨ t = .nil) : t.flat := h.imp id (fun e => by rw [e]; rfl)

theorem ins_miss {S : St} {t : Tr} {i : Int} {b : Bool} (ho : t.ok) (hH : Held S t) (hm : t.hd ≠ 0 ∨ t = .nil) (_h0 : 0 ≤ i) (h1 : i ≤ t.size) : (insT t i b).miss ≤ 2 + 5 * t.deep := by
  obtain ⟨d1, d2, d3, d4, d5, d6⟩ := down_spec 63 (by omega) i ho
  obtain ⟨e1, e2, -⟩ := down_in 63 i ho
  have hw := down_way (S := S) (most := 63) (by omega) i ho hH (flat_of hm)
  obtain ⟨c1, c2, c3⟩ := down_cost (most := 63) i hH hm
  unfold insT
  have hx := insN_lt d2 (show (downT 63 t i).2.2.2.toNat ≤ (downT 63 t i).2.2.1 by omega) b
  have hr : (Tr.leaf 0 (insN (downT 63 t i).2.1 (downT 63 t i).2.2.2.toNat b) ((downT 63 t i).2.2.1 + 1)).ok := ⟨by omega, by omega, hx⟩
  have hrH : Held S (Tr.leaf 0 (insN (downT 63 t i).2.1 (downT 63 t i).2.2.2.toNat b) ((downT 63 t i).2.2.1 + 1)) := fun h => absurd rfl h
  have hu := up_miss hw hr hrH c1
  have hl : (Tr.leaf 0 (insN (downT 63 t i).2.1 (downT 63 t i).2.2.2.toNat b) ((downT 63 t i).2.2.1 + 1)).miss = 1 := if_pos rfl
  rw [hl] at hu
  omega

theorem ins_small {t : Tr} {i : Int} {b : Bool} (ho : t.ok) (hs : t.size < 64) : (insT t i b).miss ≤ 1 := by
  unfold insT
  have hw : (downT 63 t i).1 = [] := by
    rcases Tr.small ho (by omega) with rfl | ⟨g, x, n, rfl, -⟩
    · rfl
    · have : n < 64 := hs
      unfold downT
      rw [if_pos (by omega)]
  rw [hw]
  exact Nat.le_of_eq (if_pos rfl)

theorem del_miss {S : St} {t : Tr} {i : Int} (ho : t.ok) (hH : Held S t) (hm : t.hd ≠ 0 ∨ t = .nil) (h0 : 0 ≤ i) (h1 : i < t.size) : (delT t i).miss ≤ 2 + 5 * t.deep := by
  obtain ⟨d1, d2, d3, d4, d5, d6⟩ := down_spec 64 (by omega) i ho
  obtain ⟨e1, -, e2⟩ := down_in 64 i ho
  have hw := down_way (S := S) (most := 64) (by omega) i ho hH (flat_of hm)
  obtain ⟨c1, c2, c3⟩ := down_cost (most := 64) i hH hm
  unfold delT
  have hj : (downT 64 t i).2.2.2.toNat < (downT 64 t i).2.2.1 := by omega
  have hx := delN_lt d2 hj
  have hr := ofL_ok (x := delN (downT 64 t i).2.1 (downT 64 t i).2.2.2.toNat) (n := (downT 64 t i).2.2.1 - 1) hx (by omega)
  have hu := up_miss hw hr (ofL_held S _ _) c1
  have hl := ofL_miss (delN (downT 64 t i).2.1 (downT 64 t i).2.2.2.toNat) ((downT 64 t i).2.2.1 - 1)
  omega

/-! ### What an Insert makes at least -/

theorem part_pos {t : Tr} (h : t.ok) (h2 : 2 ≤ t.size) : 1 ≤ (partA t).size ∧ 1 ≤ (partB t).size := by
  cases t with
  | nil => exact absurd h2 (by show ¬ 2 ≤ 0; omega)
  | leaf g x n =>
    have h3 : 2 ≤ n := h2
    show 1 ≤ (ofL _ _).size ∧ 1 ≤ (ofL _ _).size
    rw [ofL_size, ofL_size]
    omega
  | fork g l r => exact ⟨h.2.2.1, h.2.2.2.1⟩

theorem join_hd0 {f o : Tr} (hf : f.size ≠ 0) (ho : o.size ≠ 0) : (joinT f o).hd = 0 := by
  unfold joinT
  rw [if_neg hf, if_neg ho]
  split <;> rfl

theorem even_hd0 {f o : Tr} (hf : f.ok) (ho : o.ok) (h1 : f.size = 0 → o.hd = 0) (h2 : o.size = 0 → f.hd = 0) : (evenT f o).hd = 0 := by
  unfold evenT
  split
  · next h =>
    unfold joinT
    by_cases hz : f.size = 0
    · rw [if_pos hz]; exact h1 hz
    · rw [if_neg hz]
      have hz2 : o.size = 0 := by omega
      rw [if_pos hz2]; exact h2 hz2
  · next h =>
    split
    · next hc =>
      obtain ⟨p1, p2⟩ := part_pos hf (by omega)
      unfold ffT
      split
      · exact join_hd0 (by omega) (by rw [join_size (partB_ok hf) ho]; omega)
      · exact join_hd0 (by rw [join_size (partA_ok hf) (partA_ok (partB_ok hf))]; omega) (by rw [join_size (partB_ok (partB_ok hf)) ho]; omega)
    · split
      · next hc =>
        obtain ⟨p1, p2⟩ := part_pos ho (by omega)
        unfold foT
        split
        · exact join_hd0 (by rw [join_size hf (partA_ok ho)]; omega) (by omega)
        · exact join_hd0 (by rw [join_size hf (partA_ok (partA_ok ho))]; omega) (by rw [join_size (partB_ok (partA_ok ho)) (partB_ok ho)]; omega)
      · exact join_hd0 (by omega) (by omega)

theorem up_hd0 : ∀ {w : List (Tr × Tr)} {r : Tr}, wayOk w → r.ok → r.hd = 0 → 1 ≤ r.size → (∀ s ∈ w, s.1 = .nil ∨ s.2 = .nil) → (upT w r).hd = 0
  | [], _, _, _, h, _, _ => h
  | s :: w, r, hw, hr, h, h1, hn => by
    have hw' : wayOk w := fun x hx => hw x (by simp [hx])
    have ih := up_hd0 hw' hr h h1 (fun x hx => hn x (by simp [hx]))
    have hu := up_ok hw' hr
    have hs := up_size hw' hr
    have hk := hw s (by simp)
    show (evenT (evenT s.1 (upT w r)) s.2).hd = 0
    rcases hn s (by simp) with e | e
    · rw [e, even_nil_left]
      exact even_hd0 hu hk.2 (fun e => by omega) (fun _ => ih)
    · rw [e, even_nil_right (even_ok hk.1 hu)]
      exact even_hd0 hk.1 hu (fun _ => ih) (fun e => by omega)

theorem miss_pos {t : Tr} (h : t.hd = 0) (hs : t ≠ .nil) : 1 ≤ t.miss := by
  cases t with
  | nil => exact absurd rfl hs
  | leaf g x n => exact Nat.le_of_eq (if_pos h).symm
  | fork g l r =>
    have : (Tr.fork g l r).miss = 1 + l.miss + r.miss := if_pos h
    omega

theorem ins_one {S : St} {t : Tr} {i : Int} {b : Bool} (ho : t.ok) (hH : Held S t) (hm : t.hd ≠ 0 ∨ t = .nil) (h0 : 0 ≤ i) (h1 : i ≤ t.size) : 1 ≤ (insT t i b).miss := by
  obtain ⟨d1, d2, d3, d4, d5, d6⟩ := down_spec 63 (by omega) i ho
  obtain ⟨e1, e2, -⟩ := down_in 63 i ho
  obtain ⟨c1, -, -⟩ := down_cost (most := 63) i hH hm
  have hx := insN_lt d2 (show (downT 63 t i).2.2.2.toNat ≤ (downT 63 t i).2.2.1 by omega) b
  have hr : (Tr.leaf 0 (insN (downT 63 t i).2.1 (downT 63 t i).2.2.2.toNat b) ((downT 63 t i).2.2.1 + 1)).ok := ⟨by omega, by omega, hx⟩
  have hsz := ins_size (b := b) ho hH hm h0 h1
  refine miss_pos (up_hd0 d1 hr rfl (by show 1 ≤ _ + 1; omega) c1) (fun e => ?_)
  rw [show insT t i b = .nil from e] at hsz
  have : Tr.nil.size = 0 := rfl
  omega

/-! ### Which nodes a row has -/

def Tr.hs : Tr → List Int
  | .nil => []
  | .leaf h _ _ => [h]
  | .fork h l r => h :: (l.hs ++ r.hs)

theorem hs_len : ∀ t : Tr, t.hs.length = t.nodes
  | .nil => rfl
  | .leaf _ _ _ => rfl
  | .fork h l r => by
    show (l.hs ++ r.hs).length + 1 = l.nodes + r.nodes + 1
    rw [List.length_append, hs_len l, hs_len r]

theorem hd_mem {t : Tr} (h : t.hd ≠ 0) : t.hd ∈ t.hs := by
  cases t with
  | nil => exact absurd rfl h
  | leaf g x n => exact List.mem_singleton.2 rfl
  | fork g l r => exact List.mem_cons_self

theorem hs_closed {S : St} : ∀ {t : Tr}, Held S t → (t.hd ≠ 0 ∨ t = .nil) → ∀ g ∈ t.hs, ∀ k ∈ (S.get g).nd.kids, k = 0 ∨ k ∈ t.hs
  | .nil, _, _, g, hg, _, _ => by cases hg
  | .leaf h x n, hH, hm, g, hg, k, hk => by
    have h0 : h ≠ 0 := hm.elim id (fun e => nomatch e)
    obtain rfl := List.mem_singleton.1 hg
    rw [(hH h0).2] at hk
    exact Or.inl (by simpa [Nd.kids] using hk)
  | .fork h l r, hH, hm, g, hg, k, hk => by
    have h0 : h ≠ 0 := hm.elim id (fun e => nomatch e)
    obtain ⟨a, b, c, d⟩ := hH.2.2 h0
    show k = 0 ∨ k ∈ h :: (l.hs ++ r.hs)
    rcases List.mem_cons.1 hg with rfl | hg
    · rw [d] at hk
      have : k = l.hd ∨ k = r.hd ∨ k = 0 := by simpa [Nd.kids] using hk
      rcases this with e | e | e
      · exact Or.inr (by rw [e]; simp [hd_mem a])
      · exact Or.inr (by rw [e]; simp [hd_mem b])
      · exact Or.inl e
    · rcases List.mem_append.1 hg with hg | hg
      · rcases hs_closed hH.1 (Or.inl a) g hg k hk with e | e
        · exact Or.inl e
        · exact Or.inr (by simp [e])
      · rcases hs_closed hH.2.1 (Or.inl b) g hg k hk with e | e
        · exact Or.inl e
        · exact Or.inr (by simp [e])

theorem rch_hs {S : St} {t : Tr} (hH : Held S t) (hm : t.hd ≠ 0 ∨ t = .nil) {g : Int} (r : Rch S [t.hd] g) : g ∈ t.hs := by
  have hz : S.liveB 0 = false := decide_eq_false (by rw [S.cnt_out (Or.inl (by omega))]; omega)
  induction r with
  | root h1 h2 =>
    obtain rfl := List.mem_singleton.1 h1
    rcases hm with e | e
    · exact hd_mem e
    · rw [e] at h2
      exact absurd h2 (by rw [show Tr.nil.hd = 0 from rfl, hz]; simp)
  | kid _ h1 h2 ih =>
    rcases hs_closed hH hm _ ih _ h1 with e | e
    · rw [e, hz] at h2
      cases h2
    · exact e

theorem rise_nodup (l : List Bool) : (risingL 0 l).Nodup := (rising_sorted l 0).imp (fun h => by omega)

theorem reach_nodes {S : St} {t : Tr} (hH : Held S t) (hm : t.hd ≠ 0 ∨ t = .nil) {seen : List Bool} (I : ReInv S [t.hd] seen [] []) : (risingL 0 seen).length ≤ t.nodes := by
  rw [← hs_len]
  exact List.Nodup.length_le_of_subset (rise_nodup seen) (fun x hx => rch_hs hH hm ((I.done x).1 ((mem_rise seen x).1 hx)))

/-! ### How many nodes there are -/

theorem rising_count : ∀ (l : List Bool) (i : Nat), (risingL i l).length = l.countP id
  | [], _ => rfl
  | b :: l, i => by
    have ih := rising_count l (i + 1)
    cases b
    · simpa [risingL] using ih
    · simp [risingL, ih]

theorem tag_in {S : St} {h : Int} (ht : (S.get h).nd.tag ≠ 0) : 1 ≤ h ∧ h ≤ S.n := by
  by_cases q : 1 ≤ h ∧ h ≤ S.n
  · exact q
  · rw [S.get_out (by omega)] at ht
    exact absurd rfl ht

/-- where none waits, each that is used is reached from what somebody has -/
theorem used_rch {S : St} {mine : List Int} (C : CI S mine) (I : Inv S) (hw : S.wt = []) {rs : List Int} (hr : ∀ x ∈ mine, x ∈ rs) : ∀ h, (S.get h).nd.tag ≠ 0 → Rch S rs h := by
  obtain ⟨b, hb⟩ := C.born
  have hbound : ∀ n : Nat, ∃ M, ∀ g : Int, 1 ≤ g → g ≤ n → b g ≤ M := by
    intro n
    induction n with
    | zero => exact ⟨0, fun g h1 h2 => by omega⟩
    | succ n ih =>
      obtain ⟨M, hM⟩ := ih
      refine ⟨M + b ((n : Int) + 1), fun g h1 h2 => ?_⟩
      by_cases e : g = (n : Int) + 1
      · rw [e]; omega
      · have := hM g h1 (by omega)
        omega
  obtain ⟨M, hM⟩ := hbound S.n
  have key : ∀ (m : Nat) (h : Int), (S.get h).nd.tag ≠ 0 → M ≤ b h + m → Rch S rs h := by
    intro m
    induction m with
    | zero =>
      intro h ht hm
      obtain ⟨h1, h2⟩ := tag_in ht
      have hcp : 0 < S.cnt h := by
        cases e : S.cnt h with
        | zero => have := I.all h h1 h2 ht e; rw [hw] at this; cases this
        | succ c => omega
      have hl : S.liveB h = true := decide_eq_true hcp
      rw [C.cnt h h1 h2] at hcp
      rcases Nat.eq_zero_or_pos (mine.count h) with e | e
      · obtain ⟨g, g1, g2, g3⟩ := kidsN_pos (S := S) (h := h) (by omega)
        have hgt : (S.get g).nd.tag ≠ 0 := fun e => by
          rw [I.zer g e] at g3
          have : h = 0 := by simpa [nd0, Nd.kids] using g3
          omega
        have := (hb g h hgt g3 (by omega)).2
        have := hM g g1 g2
        omega
      · exact .root (hr _ (List.count_pos_iff.1 e)) hl
    | succ m ih =>
      intro h ht hm
      obtain ⟨h1, h2⟩ := tag_in ht
      have hcp : 0 < S.cnt h := by
        cases e : S.cnt h with
        | zero => have := I.all h h1 h2 ht e; rw [hw] at this; cases this
        | succ c => omega
      have hl : S.liveB h = true := decide_eq_true hcp
      rw [C.cnt h h1 h2] at hcp
      rcases Nat.eq_zero_or_pos (mine.count h) with e | e
      · obtain ⟨g, g1, g2, g3⟩ := kidsN_pos (S := S) (h := h) (by omega)
        have hgt : (S.get g).nd.tag ≠ 0 := fun e => by
          rw [I.zer g e] at g3
          have : h = 0 := by simpa [nd0, Nd.kids] using g3
          omega
        have h3 := (hb g h hgt g3 (by omega)).2
        exact .kid (ih g hgt (by omega)) g3 hl
      · exact .root (hr _ (List.count_pos_iff.1 e)) hl
  exact fun h ht => key M h ht (by omega)

theorem seen_le {S : St} {seen : List Bool} (hl : seen.length = S.n) (h : ∀ g, sawB seen g = true → (S.get g).nd.tag ≠ 0) : seen.countP id ≤ usedN S.sl ∧ ((∀ g, (S.get g).nd.tag ≠ 0 → sawB seen g = true) → seen.countP id = usedN S.sl) := by
  have hsl : S.sl.length = seen.length := hl.symm
  have hat : ∀ i (h1 : i < seen.length) (h2 : i < S.sl.length), sawB seen ((i : Int) + 1) = seen[i] ∧ S.get ((i : Int) + 1) = S.sl[i] := fun i h1 h2 => by
    refine ⟨?_, S.get_in h2⟩
    unfold sawB
    rw [if_pos (by omega), show ((i : Int) + 1).toNat - 1 = i by omega, List.getD_eq_getElem?_getD, List.getElem?_eq_getElem h1]
    rfl
  have gen : ∀ (a : List Bool) (c : List Sl), c.length = a.length → (∀ i (h1 : i < a.length) (h2 : i < c.length), a[i] = true → c[i].nd.tag ≠ 0) → a.countP id ≤ usedN c ∧ ((∀ i (h1 : i < a.length) (h2 : i < c.length), c[i].nd.tag ≠ 0 → a[i] = true) → a.countP id = usedN c) := by
    intro a
    induction a with
    | nil =>
      intro c hc _
      obtain rfl := List.length_eq_zero_iff.1 hc
      exact ⟨Nat.le_refl _, fun _ => rfl⟩
    | cons x a ih =>
      intro c hc hi
      cases c with
      | nil => cases hc
      | cons y c =>
        obtain ⟨i1, i2⟩ := ih c (by simpa using hc) (fun i h1 h2 h => hi (i + 1) (by simpa using h1) (by simpa using h2) h)
        have h0 := hi 0 (by simp) (by simp)
        unfold usedN at i1 i2 ⊢
        rw [List.countP_cons, List.countP_cons]
        refine ⟨?_, fun hj => ?_⟩
        · cases x
          · simp; omega
          · have := h0 rfl
            simp at this
            simp [this]
            exact i1
        · have e := i2 (fun i h1 h2 h => hj (i + 1) (by simpa using h1) (by simpa using h2) h)
          rw [e]
          have hz := hj 0 (by simp) (by simp)
          simp at hz h0
          cases x
          · simp at hz
            simp [hz]
          · have := h0 rfl
            simp [this]
  obtain ⟨g1, g2⟩ := gen seen S.sl hsl (fun i h1 h2 e => by
    obtain ⟨a, b⟩ := hat i h1 h2
    rw [← b]
    exact h _ (by rw [a, e]))
  refine ⟨g1, fun hu => g2 (fun i h1 h2 e => ?_)⟩
  obtain ⟨a, b⟩ := hat i h1 h2
  rw [← a]
  exact hu _ (by rw [b]; exact e)

theorem reach_used {S : St} {rs : List Int} {seen : List Bool} (I : Inv S) (R : ReInv S rs seen [] []) : (risingL 0 seen).length ≤ usedN S.sl := by
  rw [rising_count]
  exact (seen_le R.len (fun g hg => I.liv g (S.live_pos ((R.done g).1 hg).live))).1

theorem reach_all {S : St} {mine rs : List Int} {seen : List Bool} (C : CI S mine) (I : Inv S) (hw : S.wt = []) (R : ReInv S rs seen [] []) (hr : ∀ x ∈ mine, x ∈ rs) : (risingL 0 seen).length = usedN S.sl := by
  rw [rising_count]
  exact (seen_le R.len (fun g hg => I.liv g (S.live_pos ((R.done g).1 hg).live))).2 (fun g hg => (R.done g).2 (used_rch C I hw hr g hg))

/-- so much work: none waits, or so many were freed -/
theorem work_used : ∀ (k : Nat) {S : St}, Inv S → (St.workN k S).2.wt = [] ∧ usedN (St.workN k S).2.sl + (St.workN k S).1 = usedN S.sl ∨ usedN (St.workN k S).2.sl + k = usedN S.sl ∧ (St.workN k S).1 = k
  | 0, _, _ => Or.inr ⟨rfl, rfl⟩
  | k + 1, S, I => by
    unfold St.workN
    split
    · next h => exact Or.inl ⟨h, rfl⟩
    · next h =>
      have hu := used_free1 I h
      rcases work_used k (I.free1 h) with ⟨a, b⟩ | ⟨a, b⟩
      · refine Or.inl ⟨a, ?_⟩
        show usedN (St.workN k S.free1).2.sl + ((St.workN k S.free1).1 + 1) = _
        omega
      · refine Or.inr ⟨?_, ?_⟩
        · show usedN (St.workN k S.free1).2.sl + (k + 1) = _
          omega
        · show (St.workN k S.free1).1 + 1 = k + 1
          omega

theorem work_all {k : Nat} {S : St} (I : Inv S) (h : usedN S.sl ≤ k) : (St.workN k S).2.wt = [] ∧ usedN (St.workN k S).2.sl + (St.workN k S).1 = usedN S.sl := by
  rcases work_used k I with e | ⟨e1, e2⟩
  · exact e
  · refine ⟨?_, by omega⟩
    have h0 : usedN (St.workN k S).2.sl = 0 := by omega
    have I2 := Inv.workN k I
    cases e : (St.workN k S).2.wt with
    | nil => rfl
    | cons x t =>
      obtain ⟨x1, x2, -, x4⟩ := I2.wtIn x (by rw [e]; simp)
      have hx : x.toNat - 1 < (St.workN k S).2.sl.length := by unfold St.n at x2; omega
      have h1 := (List.countP_eq_zero.1 h0) _ (List.getElem_mem hx)
      rw [← St.get_in _ hx, show ((x.toNat - 1 : Nat) : Int) + 1 = x by omega] at h1
      simp at h1
      exact absurd h1 x4

/-! ### A row as a statement has it -/

structure RowT (S : St) (t : Tr) (bs : List Bool) : Prop where
  ok : t.ok
  bal : t.bal
  held : Held S t
  made : t.hd ≠ 0 ∨ t = .nil
  bits : t.bits = bs

theorem RowT.size {S : St} {t : Tr} {bs : List Bool} (T : RowT S t bs) : t.size = bs.length := by rw [← T.bits, t.len]
theorem RowT.grows {S S' : St} {t : Tr} {bs : List Bool} (T : RowT S t bs) (h : Grows S S') : RowT S' t bs := ⟨T.ok, T.bal, Held.grows h T.held, T.made, T.bits⟩
theorem RowT.none (S : St) : RowT S .nil [] := ⟨trivial, trivial, trivial, Or.inr rfl, rfl⟩
theorem RowT.zero {S : St} {t : Tr} {bs : List Bool} (T : RowT S t bs) : t.hd = 0 ↔ bs = [] := by
  rw [← T.bits]
  constructor
  · intro h
    rcases T.made with e | e
    · exact absurd h e
    · rw [e]; rfl
  · intro h
    have : t.size = 0 := by rw [← t.len, h]; rfl
    rw [Tr.zero T.ok this]
    rfl
theorem RowT.nodes {S : St} {t : Tr} {bs : List Bool} (T : RowT S t bs) : t.nodes ≤ 1 + bs.length / 4 := by
  have := nodes_few T.ok T.bal
  rw [T.size] at this
  exact this
theorem RowT.deep {S : St} {t : Tr} {bs : List Bool} (T : RowT S t bs) (h : bs.length ≤ 873) : t.deep ≤ 10 := deep_few T.ok T.bal (by rw [T.size]; omega)

/-- what is told of a row that was made of another one -/
theorem RowT.made_of {S : St} {mine : List Int} {u : Tr} {bs : List Bool} (I : Inv S) (C : CI S mine) (ho : u.ok) (hb : u.bal) (hH : Held S u) (he : u.bits = bs) (hr : usedN S.sl + u.miss ≤ S.n) :
    RowT (mdT u S).1 (mdT u S).2 bs ∧ Grows S (mdT u S).1 ∧ CI (mdT u S).1 (if (mdT u S).2.hd = 0 then mine else mine ++ [(mdT u S).2.hd]) ∧ usedN (mdT u S).1.sl = usedN S.sl + u.miss ∧ (mdT u S).2.deep = u.deep := by
  have M := Go.Proofs.YtfkfnibeipddaabDoor.made_of I C hH ho hr
  exact ⟨⟨M.ok, M.bal hb, M.held, M.made, M.bits.trans he⟩, M.grows, M.ci, M.used, M.deep⟩

theorem ins_bal {t : Tr} {i : Int} {b : Bool} (ho : t.ok) (hb : t.bal) (_h0 : 0 ≤ i) (h1 : i ≤ t.size) : (insT t i b).bal := by
  obtain ⟨d1, d2, d3, d4, d5, d6⟩ := down_spec 63 (by omega) i ho
  obtain ⟨e1, e2, -⟩ := down_in 63 i ho
  unfold insT
  have hx := insN_lt d2 (show (downT 63 t i).2.2.2.toNat ≤ (downT 63 t i).2.2.1 by omega) b
  exact up_bal 63 (by omega) i ho hb ⟨by omega, by omega, hx⟩ trivial (Nat.le_refl _) (by show _ ≤ _ + 1 + 1; omega)

theorem del_bal {t : Tr} {i : Int} (ho : t.ok) (hb : t.bal) (h0 : 0 ≤ i) (h1 : i < t.size) : (delT t i).bal := by
  obtain ⟨d1, d2, d3, d4, d5, d6⟩ := down_spec 64 (by omega) i ho
  obtain ⟨e1, -, e2⟩ := down_in 64 i ho
  unfold delT
  have hx := delN_lt d2 (show (downT 64 t i).2.2.2.toNat < (downT 64 t i).2.2.1 by omega)
  exact up_bal 64 (by omega) i ho hb (ofL_ok hx (by omega)) (ofL_bal _ _) (by rw [ofL_size]; omega) (by rw [ofL_size]; omega)

end Go.Proofs.YtfkfnibeipddaabDoor

namespace Go.Proofs.YtfkfnibeipddaabDoor
open Go Go.RowKit Go.Shelf

/-! ### What becomes of rows -/

/-- what is live there was the same node here -/
def Keeps (S T : St) : Prop := T.n = S.n ∧ ∀ g, 0 < T.cnt g → (T.get g).nd = (S.get g).nd

theorem Keeps.refl (S : St) : Keeps S S := ⟨rfl, fun _ _ => rfl⟩
theorem Keeps.drop (S : St) (x : Int) : Keeps S (S.drop x) := ⟨S.n_drop x, fun g _ => S.nd_drop x g⟩

theorem free1_live {S : St} (I : Inv S) (hw : S.wt ≠ []) {g : Int} (h : 0 < S.free1.cnt g) : (S.free1.get g).nd = (S.get g).nd ∧ 0 < S.cnt g := by
  have h0 := cnt_free1_le I hw g
  cases e : S.wt with
  | nil => exact absurd e hw
  | cons x t =>
    obtain ⟨x1, x2, x3, x4⟩ := I.wtIn x (by rw [e]; simp)
    have hf : S.free1 = (S.rid x).drops (S.get x).nd.kids := by unfold St.free1; rw [e]; rfl
    have hg : (S.rid x).get g = if g = x then sl0 else S.get g := S.get_put sl0 x1 x2 g
    refine ⟨?_, by omega⟩
    rw [hf, St.nd_drops, hg, if_neg (fun q => ?_)]
    rw [q] at h0 h
    omega

theorem Keeps.workN : ∀ (k : Nat) {S : St}, Inv S → Keeps S (St.workN k S).2
  | 0, S, _ => Keeps.refl S
  | k + 1, S, I => by
    refine ⟨St.n_workN _ _, fun g hg => ?_⟩
    unfold St.workN at hg ⊢
    split
    · rfl
    · next h =>
      rw [if_neg h] at hg
      have ih := Keeps.workN k (I.free1 h)
      have h1 := ih.2 g hg
      have h2 := cnt_workN_le k (I.free1 h) g
      have h3 : 0 < S.free1.cnt g := by
        have : 0 < (St.workN k S.free1).2.cnt g := hg
        omega
      exact h1.trans (free1_live I h h3).1

theorem cnt_kid {S : St} {mine : List Int} (C : CI S mine) {g k : Int} (hk : k ∈ (S.get g).nd.kids) (h1 : 1 ≤ k) (h2 : k ≤ S.n) : 0 < S.cnt k := by
  rw [C.cnt k h1 h2]
  rcases kidsN_ge S g k with h | h
  · have := List.count_pos_iff.2 hk
    omega
  · rw [h] at hk
    have : k = 0 := by simpa [sl0, nd0, Nd.kids] using hk
    omega

/-- a row whose root is live stays -/
theorem held_top {S T : St} {mine : List Int} (C : CI T mine) (hK : Keeps S T) : ∀ {t : Tr}, Held S t → (t.hd ≠ 0 ∨ t = .nil) → (t.hd ≠ 0 → 0 < T.cnt t.hd) → Held T t
  | .nil, _, _, _ => trivial
  | .leaf h x n, hH, _, hl => fun h0 => by
    have := hl h0
    exact ⟨this, (hK.2 h this).trans (hH h0).2⟩
  | .fork h l r, hH, hm, hl => by
    have h0 : h ≠ 0 := hm.elim id (fun e => nomatch e)
    obtain ⟨a, b, c, d⟩ := hH.2.2 h0
    have hc := hl h0
    have hd := (hK.2 h hc).trans d
    have kid : ∀ t : Tr, Held S t → t.hd ≠ 0 → t.hd ∈ (T.get h).nd.kids → 0 < T.cnt t.hd := fun t hH ht hk => by
      have hlv : 0 < S.cnt t.hd := by
        cases t with
        | nil => exact absurd rfl ht
        | leaf g x n => exact (hH ht).1
        | fork g l r => exact (hH.2.2 ht).2.2.1
      obtain ⟨r1, r2⟩ := S.live_in (h := t.hd) (decide_eq_true hlv)
      exact cnt_kid C hk r1 (by rw [hK.1]; exact r2)
    have hkl : l.hd ∈ (T.get h).nd.kids := by rw [hd]; simp [Nd.kids]
    have hkr : r.hd ∈ (T.get h).nd.kids := by rw [hd]; simp [Nd.kids]
    exact ⟨held_top C hK hH.1 (Or.inl a) (fun _ => kid l hH.1 a hkl), held_top C hK hH.2.1 (Or.inl b) (fun _ => kid r hH.2.1 b hkr), fun _ => ⟨a, b, hc, hd⟩⟩

theorem RowT.carry {S T : St} {mine : List Int} {t : Tr} {bs : List Bool} (R : RowT S t bs) (C : CI T mine) (hK : Keeps S T) (hm : t.hd = 0 ∨ t.hd ∈ mine) : RowT T t bs :=
  ⟨R.ok, R.bal, held_top C hK R.held R.made (fun h0 => hm.elim (fun e => absurd e h0) (fun e => T.live_pos (C.live e))), R.made, R.bits⟩

/-! ### Who waits -/

theorem wt_mk1 (S : St) (n : Nd) : (S.mk1 n).wt = S.wt := by
  unfold St.mk1
  split
  · exact St.wt_keeps _ _
  · rfl

/-- where a row is made nobody comes to wait -/
theorem mdT_wt : ∀ {t : Tr} {S : St} {mine : List Int}, Inv S → CI S mine → Held S t → t.ok → usedN S.sl + t.miss ≤ S.n → (mdT t S).1.wt = S.wt
  | .nil, _, _, _, _, _, _, _ => rfl
  | .leaf h x n, S, mine, I, C, hH, ho, hr => by
    by_cases h0 : h = 0
    · have hmd : mdT (.leaf h x n) S = (S.mk1 (leafNd x n), .leaf (S.mkH (leafNd x n)) x n) := if_pos h0
      rw [hmd]
      exact wt_mk1 S _
    · have hmd : mdT (.leaf h x n) S = (S.keep h, .leaf h x n) := if_neg h0
      rw [hmd]
      exact S.wt_keep h
  | .fork h l r, S, mine, I, C, hH, ho, hr => by
    by_cases h0 : h = 0
    · subst h0
      obtain ⟨ol, or_, l1, r1, h64⟩ := ho
      have hm : (Tr.fork 0 l r).miss = 1 + l.miss + r.miss := rfl
      rw [hm] at hr
      have M1 := made_of (S := S) (mine := mine) (t := l) I C hH.1 ol (by omega)
      have W1 := mdT_wt (S := S) (mine := mine) (t := l) I C hH.1 ol (by omega)
      have hmd : mdT (.fork 0 l r) S = ((((mdT r (mdT l S).1).1.mk1 (forkNd (mdT l S).2 (mdT r (mdT l S).1).2)).drop (mdT l S).2.hd).drop (mdT r (mdT l S).1).2.hd, .fork ((mdT r (mdT l S).1).1.mkH (forkNd (mdT l S).2 (mdT r (mdT l S).1).2)) (mdT l S).2 (mdT r (mdT l S).1).2) := if_pos rfl
      rw [hmd]
      generalize (mdT l S).1 = S1 at *
      generalize (mdT l S).2 = l' at *
      have hl0 : l'.hd ≠ 0 := M1.made.elim id (fun e => by have := M1.size; rw [e] at this; have e0 : Tr.nil.size = 0 := rfl; omega)
      have C1 := M1.ci
      rw [if_neg hl0] at C1
      have M2 := made_of (S := S1) (mine := mine ++ [l'.hd]) (t := r) M1.inv C1 (Held.grows M1.grows hH.2.1) or_ (by rw [M1.used, M1.grows.1]; omega)
      have W2 := mdT_wt (S := S1) (mine := mine ++ [l'.hd]) (t := r) M1.inv C1 (Held.grows M1.grows hH.2.1) or_ (by rw [M1.used, M1.grows.1]; omega)
      generalize (mdT r S1).1 = S2 at *
      generalize (mdT r S1).2 = r' at *
      have hr0 : r'.hd ≠ 0 := M2.made.elim id (fun e => by have := M2.size; rw [e] at this; have e0 : Tr.nil.size = 0 := rfl; omega)
      have C2 := M2.ci
      rw [if_neg hr0] at C2
      have hu2 := M2.used
      have hu1 := M1.used
      have hn2 := M2.grows.1
      have hn1 := M1.grows.1
      obtain ⟨i, hl⟩ := room_least (S := S2) (by omega)
      have ml : l'.hd ∈ mine ++ [l'.hd] ++ [r'.hd] := by simp
      have mr : r'.hd ∈ mine ++ [l'.hd] ++ [r'.hd] := by simp
      have hk1 : ∀ k ∈ (forkNd l' r').kids, k = 0 ∨ S2.liveB k = true := fun k hk => by
        have : k = l'.hd ∨ k = r'.hd ∨ k = 0 := by simpa [forkNd, Nd.kids] using hk
        rcases this with e | e | e
        · exact Or.inr (e ▸ C2.live ml)
        · exact Or.inr (e ▸ C2.live mr)
        · exact Or.inl e
      obtain ⟨-, -, hc0, -, h2⟩ := mk_told M2.inv (n := forkNd l' r') rfl hk1 hl
      have pl := S2.live_pos (C2.live ml)
      have pr := S2.live_pos (C2.live mr)
      have ql := (C2.mem _ ml).1
      have qr := (C2.mem _ mr).1
      have cl := h2 _ ql
      have cr := h2 _ qr
      rw [if_neg (fun e => by rw [e, hc0] at pl; omega)] at cl
      rw [if_neg (fun e => by rw [e, hc0] at pr; omega)] at cr
      have kl : 1 ≤ (forkNd l' r').kids.count l'.hd := List.count_pos_iff.2 (by simp [forkNd, Nd.kids])
      have kr : 1 ≤ (forkNd l' r').kids.count r'.hd := List.count_pos_iff.2 (by simp [forkNd, Nd.kids])
      rw [St.wt_drop, if_neg ?_, St.wt_drop, if_neg (by omega), wt_mk1, W2, W1]
      rw [St.cnt_drop]
      split
      · next q =>
        have e : r'.hd = l'.hd := q
        have k2 : 2 ≤ (forkNd l' r').kids.count r'.hd := by simp [forkNd, Nd.kids, e]
        omega
      · omega
    · have hmd : mdT (.fork h l r) S = (S.keep h, .fork h l r) := if_neg h0
      rw [hmd]
      exact S.wt_keep h

/-! ### What is told -/

theorem workP {w0 w : World} {G : Nat} {S : St} {md k : Nat} (h : AB w0 G w S md k) (hk : k ≤ 1000000000) (most : Int) :
    Calls Tryd.prog 33 #[.pointer (some ⟨G, 0, none⟩), .int .i64 most] w fun e w' => e = .returned (.int .i64 ((St.workN most.toNat S).1 : Int)) ∧ AB w0 G w' (St.workN most.toNat S).2 md k ∧ Sp G w w' := by
  obtain ⟨o, q, rfl, hA, hg, hb, hc, hq⟩ := h.norm
  refine (work_any hA (fun g => by have := hc g; omega) most).mono ?_
  rintro e w' ⟨he, q', hA', hS⟩
  exact ⟨he, AB.step hA' hS hg hb (fun g => Nat.le_trans (cnt_workN_le _ hA.1 g) (hc g)), step_sp hA hq hS hA'⟩

/-- a new list of numbers is not the arena's -/
theorem AB.loose {w0 w w' : World} {G : Nat} {S : St} {md k : Nat} (h : AB w0 G w S md k) (hb : Below w.heap.size w w') {g : Nat} (hg : w.heap.size ≤ g) {cur : Array Value} {r : Nat × Nat} (hc : w'.heap[g]? = some (.cells cur 3 r)) : Loose G w' g := by
  obtain ⟨o, q, rfl, hA, -, -, -, hq⟩ := h.norm
  obtain ⟨-, -, -, fw, wv, hR, -⟩ := hA
  have hcell : w.cell? ⟨o.G, 2, none⟩ = some wv := hR.ar.cell rfl
  have hql := hR.ql
  obtain ⟨ao, cap, e1, -, -, e4⟩ := hR.qu
  refine ⟨⟨cur, r, hc⟩, ao, _, cap, ((World.cell?_of_block (w := w) (hb.block o.G (World.block_lt_of_cell? _ _ hcell))).trans hcell).trans (by rw [e1]), ?_⟩
  rcases e4 with e4 | ⟨off, cur', e5, -⟩
  · exact Or.inl e4
  · refine Or.inr (fun o' e => ?_)
    rw [e5] at e
    cases e
    omega

theorem insR {w0 w : World} {G : Nat} {S : St} {md c : Nat} {mine : List Int} (hA : AB w0 G w S md c) (C : CI S mine) {t : Tr} {bs : List Bool} (T : RowT S t bs) (hl : bs.length ≤ 860) (i : Nat) (hi : i ≤ bs.length) (b : Bool) (hr : usedN S.sl + (2 + 5 * t.deep) ≤ S.n) (hc : c ≤ 800000000) (hmd : md ≤ 800000000) :
    Calls Tryd.prog 12 #[.pointer (some ⟨G, 0, none⟩), .int .i64 t.hd, .int .i64 i, .bool b] w fun e w' => ∃ S' t' m, e = .returned (.tuple #[.int .i64 t'.hd, .int .i64 0]) ∧ AB w0 G w' S' (md + m) (c + 1300) ∧ CI S' (mine ++ [t'.hd]) ∧ Grows S S' ∧ RowT S' t' (bs.take i ++ b :: bs.drop i) ∧ usedN S'.sl = usedN S.sl + m ∧ m ≤ 2 + 5 * t.deep ∧ (1 ≤ m ∧ (bs.length < 64 → m ≤ 1)) ∧ t'.hd ≠ 0 ∧ Sp G w w' ∧ S'.wt = S.wt := by
  have hs := T.size
  have hd := T.deep (by omega)
  have h0 : (0 : Int) ≤ (i : Nat) := by omega
  have h1 : ((i : Nat) : Int) ≤ t.size := by omega
  obtain ⟨q1, q2, q3⟩ := ins_tree (S := S) (b := b) T.ok T.held T.made h0 h1
  have q4 := ins_bal (b := b) T.ok T.bal h0 h1
  have q5 := ins_size (b := b) T.ok T.held T.made h0 h1
  have q6 := ins_miss (b := b) T.ok T.held T.made h0 h1
  have q7 := nodes_few q1 q4
  rw [T.bits, Int.toNat_natCast] at q3
  obtain ⟨r1, r2, r3, r4, -⟩ := RowT.made_of hA.inv C q1 q4 q2 q3 (by omega)
  have hwt := mdT_wt hA.inv C q2 q1 (show usedN S.sl + (insT t i b).miss ≤ S.n by omega)
  have hz : (mdT (insT t i b) S).2.hd ≠ 0 := fun e => by
    have := r1.zero.1 e
    simp at this
  rw [if_neg hz] at r3
  refine (ins_make hA C T.ok (by omega) T.made T.held h0 h1 b (by omega) (by omega) (by omega) (by omega)).mono ?_
  rintro e w' ⟨rfl, hA', hS⟩
  exact ⟨_, _, _, rfl, hA'.mono (by omega), r3, r2, r1, r4, q6, ⟨ins_one T.ok T.held T.made h0 h1, fun h => ins_small T.ok (by omega)⟩, hz, hS, hwt⟩

theorem delR {w0 w : World} {G : Nat} {S : St} {md c : Nat} {mine : List Int} (hA : AB w0 G w S md c) (C : CI S mine) {t : Tr} {bs : List Bool} (T : RowT S t bs) (hl : bs.length ≤ 860) (i : Nat) (hi : i < bs.length) (hr : usedN S.sl + (2 + 5 * t.deep) ≤ S.n) (hc : c ≤ 800000000) (hmd : md ≤ 800000000) :
    Calls Tryd.prog 13 #[.pointer (some ⟨G, 0, none⟩), .int .i64 t.hd, .int .i64 i] w fun e w' => ∃ S' t' m, e = .returned (.tuple #[.int .i64 t'.hd, .int .i64 0]) ∧ AB w0 G w' S' (md + m) (c + 1300) ∧ CI S' (if t'.hd = 0 then mine else mine ++ [t'.hd]) ∧ Grows S S' ∧ RowT S' t' (bs.take i ++ bs.drop (i + 1)) ∧ usedN S'.sl = usedN S.sl + m ∧ m ≤ 2 + 5 * t.deep ∧ Sp G w w' ∧ S'.wt = S.wt := by
  have hs := T.size
  have hd := T.deep (by omega)
  have h0 : (0 : Int) ≤ (i : Nat) := by omega
  have h1 : ((i : Nat) : Int) < t.size := by omega
  obtain ⟨q1, q2, q3⟩ := del_tree (S := S) T.ok T.held T.made h0 h1
  have q4 := del_bal T.ok T.bal h0 h1
  have q5 := del_size T.ok T.held T.made h0 h1
  have q6 := del_miss T.ok T.held T.made h0 h1
  have q7 := nodes_few q1 q4
  rw [T.bits, Int.toNat_natCast] at q3
  obtain ⟨r1, r2, r3, r4, -⟩ := RowT.made_of hA.inv C q1 q4 q2 q3 (by omega)
  have hwt := mdT_wt hA.inv C q2 q1 (show usedN S.sl + (delT t i).miss ≤ S.n by omega)
  refine (del_make hA C T.ok (by omega) T.made T.held h0 h1 (by omega) (by omega) (by omega) (by omega)).mono ?_
  rintro e w' ⟨rfl, hA', hS⟩
  exact ⟨_, _, _, rfl, hA'.mono (by omega), r3, r2, r1, r4, q6, hS, hwt⟩

theorem dropR {w0 w : World} {G : Nat} {S : St} {md k : Nat} {mine : List Int} (h : AB w0 G w S md k) (C : CI S mine) (hk : k ≤ 1000000000) {x : Int} (hx : x ∈ mine) :
    Calls Tryd.prog 32 #[.pointer (some ⟨G, 0, none⟩), .int .i64 x] w fun e w' => e = .returned (.int .i64 0) ∧ AB w0 G w' (S.drop x) md k ∧ CI (S.drop x) (mine.erase x) ∧ Keeps S (S.drop x) ∧ usedN (S.drop x).sl = usedN S.sl ∧ Sp G w w' := by
  refine (dropP h hk x).mono ?_
  rintro e w' ⟨rfl, hA, hS⟩
  refine ⟨?_, hA, C.drop hx, Keeps.drop S x, used_drop _ _, hS⟩
  unfold St.errB
  rw [if_pos (C.live hx)]

theorem workR {w0 w : World} {G : Nat} {S : St} {md k : Nat} {mine : List Int} (h : AB w0 G w S md k) (C : CI S mine) (hk : k ≤ 1000000000) (n : Nat) :
    Calls Tryd.prog 33 #[.pointer (some ⟨G, 0, none⟩), .int .i64 (n : Nat)] w fun e w' => ∃ S' f, e = .returned (.int .i64 (f : Nat)) ∧ AB w0 G w' S' md k ∧ CI S' mine ∧ Keeps S S' ∧ (S'.wt = [] ∧ usedN S'.sl + f = usedN S.sl ∨ usedN S'.sl + n = usedN S.sl ∧ f = n) ∧ (usedN S.sl ≤ n → S'.wt = [] ∧ usedN S'.sl + f = usedN S.sl) ∧ Sp G w w' := by
  have I := h.inv
  refine (workP h hk (n : Nat)).mono ?_
  rintro e w' ⟨rfl, hA, hS⟩
  rw [Int.toNat_natCast] at hA ⊢
  exact ⟨_, _, rfl, hA, C.workN n I, Keeps.workN n I, work_used n I, fun hu => work_all I hu, hS⟩

theorem newR {w0 w : World} (hb : Below w0.heap.size w0 w) (hT : Tab w) (n : Nat) (h1 : 1 ≤ n) (hn : n ≤ 6000) :
    Calls Tryd.prog 9 #[.int .i64 n] w fun e w' => ∃ G S, e = .returned (.pointer (some ⟨G, 0, none⟩)) ∧ AB w0 G w' S 0 0 ∧ CI S [] ∧ S.n = n ∧ usedN S.sl = 0 ∧ S.wt = [] := by
  refine (newB hb hT n h1 hn).mono ?_
  rintro e w' ⟨G, rfl, hA⟩
  exact ⟨G, _, rfl, hA, CI.new n, n_new n, used_new n, rfl⟩

theorem RowT.deep1 {S : St} {t : Tr} {bs : List Bool} (T : RowT S t bs) (h : bs.length ≤ 64) : t.deep ≤ 1 := by
  rcases Tr.small T.ok (by rw [T.size]; exact h) with e | ⟨g, x, n, e, -⟩
  · rw [e]; exact Nat.zero_le _
  · rw [e]; exact Nat.le_refl _

theorem lenR {p : Value} {S : St} {w : World} (hR : Rd p S w) {t : Tr} {bs : List Bool} (T : RowT S t bs) (hl : bs.length ≤ 30000) :
    Calls Tryd.prog 15 #[p, .int .i64 t.hd] w fun e w' => e = .returned (.int .i64 (bs.length : Nat)) ∧ Below w.heap.size w w' := by
  have := len_any hR T.ok (by rw [T.size]; omega) T.made T.held
  rw [T.size] at this
  exact this

theorem rankR {p : Value} {S : St} {w : World} (hR : Rd p S w) {t : Tr} {bs : List Bool} (T : RowT S t bs) (hl : bs.length ≤ 30000) {i : Int} (hi : i ≤ 9223372036854775807) :
    Calls Tryd.prog 16 #[p, .int .i64 t.hd, .int .i64 i] w fun e w' => e = .returned (.int .i64 ((bs.take i.toNat).count true : Nat)) ∧ Below w.heap.size w w' := by
  have := rankT_any hR T.ok (by rw [T.size]; omega) T.made T.held hi
  rw [T.bits] at this
  exact this

theorem allR {p : Value} {S : St} {w : World} (hR : Rd p S w) {t : Tr} {bs : List Bool} (T : RowT S t bs) (hl : bs.length ≤ 30000) :
    Calls Tryd.prog 17 #[p, .int .i64 t.hd] w fun e w' => ∃ ao cap, e = .returned (.slice ao bs.length cap) ∧ HasBools w' ao bs ∧ Below w.heap.size w w' := by
  refine (all_any hR T.ok (by rw [T.size]; omega) T.made T.held).mono ?_
  rintro e w' ⟨v, rfl, hO, hb⟩
  rw [T.bits] at hO
  obtain ⟨ao, cap, rfl, hc, -⟩ := owns_cells hO
  exact ⟨ao, cap, rfl, ⟨fun j hj => hc j (.bool bs[j]) (by simp [hj])⟩, hb⟩

end Go.Proofs.YtfkfnibeipddaabDoor

namespace Go.Proofs.YtfkfnibeipddaabDoor
open Go.RowKit

set_option maxHeartbeats 400000 in
theorem sameB (xs : List Bool) (ao bo : Option Addr) (na nb ca cb : Nat) (w : World) (hna : na = xs.length) (hnb : nb = xs.length) (hx : xs.length ≤ 1000000) (ha : HasBools w ao xs) (hb : HasBools w bo xs) :
    Calls Tryd.prog 36 #[.slice ao na ca, .slice bo nb cb] w fun e w' => e = .returned (.bool true) ∧ Below w.heap.size w w' := by
  subst hna
  subst hnb
  have HA : Hid (HasBools w ao xs) := ha
  have HB : Hid (HasBools w bo xs) := hb
  have hne : ((xs.length : Int) != (xs.length : Int)) = false := by simp
  clear ha hb
  go_enter Tryd.func36, Tryd.ntmps36
  go_wp2
  go_loopw [5] (fun i wr => ∃ k : Nat, k ≤ xs.length ∧ i = .int .i64 k ∧ ∃ n, wr = w.drewN n) (fun i _ => xs.length - (intOf i).toNat)
  case atStart => exact ⟨0, Nat.zero_le _, rfl, 0, rfl⟩
  case round =>
    obtain ⟨k, hk, rfl, n, rfl⟩ := hrel
    by_cases hlt : k < xs.length
    · obtain ⟨b, o, rfl, hc⟩ := HA.out.cell k hlt
      obtain ⟨b2, o2, rfl, hc2⟩ := HB.out.cell k hlt
      have heq : (xs[k] == xs[k]) = true := by simp
      go_wp2
      go_region
      go_wp2
      go_roundw
      case rel => exact ⟨k + 1, by omega, by go_num, n + 1, rfl⟩
      case measure => simp [intOf]; omega
    · obtain rfl : k = xs.length := by omega
      go_wp2
      go_ret
      exact ⟨rfl, below_drewN (Below.refl _ _) _⟩

set_option maxHeartbeats 400000 in
/-- how many nodes a change makes at most -/
theorem made8_any (n : Nat) (hn : n ≤ 100000) (w : World) :
    Calls Tryd.prog 35 #[.int .i64 n] w fun e w' => (∃ k : Nat, e = .returned (.int .i64 (4 + 4 * (k : Int))) ∧ n / 16 < 2 ^ k ∧ k ≤ 13) ∧ w' = w := by
  go_enter Tryd.func35, Tryd.ntmps35
  go_wp2
  go_loopw [3] (fun i wr => ∃ k : Nat, k ≤ 13 ∧ i = .int .i64 k ∧ wr = w) (fun i _ => 13 - (intOf i).toNat)
  case atStart => exact ⟨0, by omega, rfl, rfl⟩
  case round =>
    obtain ⟨k, hk, rfl, hwr⟩ := hrel
    obtain rfl := hwr.symm
    have hp : 1 ≤ 2 ^ k := Nat.one_le_two_pow
    have hp2 : 2 ^ k ≤ 2 ^ 13 := Nat.pow_le_pow_right (by omega) hk
    have hp3 : (2 : Nat) ^ 13 = 8192 := by decide
    have hk0 : (0 : Int) ≤ (k : Int) := by omega
    have hk64 : (k : Int) < 64 := by omega
    have hk64n : k < 64 := by omega
    have hsh2 : IntKind.i64.wrap ((2 : Int) ^ k) = ((2 ^ k : Nat) : Int) := by
      rw [IntKind.wrap_i64, show ((2 : Int) ^ k) = ((2 ^ k : Nat) : Int) from (Int.natCast_pow 2 k).symm]
      omega
    have hdv : (n : Int).tdiv 16 = ((n / 16 : Nat) : Int) := rfl
    by_cases hlt : 2 ^ k ≤ n / 16
    · have hk2 : k < 13 := by
        rcases Nat.lt_or_ge k 13 with h | h
        · exact h
        · obtain rfl : k = 13 := by omega
          omega
      have d0 : decide (((2 ^ k : Nat) : Int) ≤ ((n / 16 : Nat) : Int)) = true := decide_eq_true (by omega)
      have d1 : decide (2 ^ k ≤ n / 16) = true := decide_eq_true (by omega)
      clear hp hp2 hp3 hlt
      generalize hq : (2 : Nat) ^ k = q at *
      generalize hn16 : n / 16 = m at *
      go_wp2
      go_roundw
      case rel => exact ⟨k + 1, by omega, by go_num, by first | rfl | trivial⟩
      case measure => simp [intOf]; omega
    · have d0 : decide (((2 ^ k : Nat) : Int) ≤ ((n / 16 : Nat) : Int)) = false := decide_eq_false (by omega)
      have d1 : decide (2 ^ k ≤ n / 16) = false := decide_eq_false (by omega)
      have HL : Hid (n / 16 < 2 ^ k) := by show n / 16 < 2 ^ k; omega
      have hm4 : IntKind.i64.wrap (4 * (k : Int)) = 4 * (k : Int) := by rw [IntKind.wrap_i64]; omega
      have hm5 : IntKind.i64.wrap (4 + 4 * (k : Int)) = 4 + 4 * (k : Int) := by rw [IntKind.wrap_i64]; omega
      clear hp hp2 hp3 hlt
      generalize hq : (2 : Nat) ^ k = q at *
      generalize hn16 : n / 16 = m at *
      go_wp2
      go_ret
      exact ⟨⟨k, rfl, by rw [hq]; exact HL.out, hk⟩, rfl⟩

end Go.Proofs.YtfkfnibeipddaabDoor
