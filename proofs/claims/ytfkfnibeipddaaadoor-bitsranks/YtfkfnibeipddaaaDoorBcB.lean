/- Rows of bits as a statement has them: what is held of one, how many nodes a change makes, which nodes a row has, how many there are. -/
import Derived.Test.YtfkfnibeipddaaaDoorBcA
import Derived.Test.YtfkfnibeipddaaaDoorArReach
namespace Go.Proofs.YtfkfnibeipddaaaDoor

/-! ### What a change makes -/

theorem miss_hd {t : Tr} (h : t.hd ≠ 0) : t.miss = 0 := by
  cases t with
  | nil => rfl
  | leaf g x n => exact if_neg h
  | fork g l r => exact if_neg h

theorem join_miss (f o : Tr) : (joinT f o).miss ≤ f.miss + o.miss + 1 := by
  unfold joinT
  split
  · omega
  · split
    · omega
    · split
      · show (if (0 : Int) = 0 then 1 else 0) ≤ _
        rw [if_pos rfl]
        omega
      · show (if (0 : Int) = 0 then 1 + f.miss + o.miss else 0) ≤ _
        rw [if_pos rfl]
        omega

theorem half_miss (g : Int) (x n : Nat) : (partA (.leaf g x n)).miss + (partB (.leaf g x n)).miss ≤ 2 := by
  have h1 := ofL_miss (x % 2 ^ (n / 2)) (n / 2)
  have h2 := ofL_miss (x / 2 ^ (n / 2)) (n - n / 2)
  show (ofL _ _).miss + (ofL _ _).miss ≤ 2
  omega

theorem parts_fork {S : St} {g : Int} {l r : Tr} (hH : Held S (.fork g l r)) : l.miss + r.miss ≤ (Tr.fork g l r).miss := by
  by_cases h : g = 0
  · have e : (Tr.fork g l r).miss = 1 + l.miss + r.miss := if_pos h
    omega
  · obtain ⟨a, b, -⟩ := hH.2.2 h
    rw [miss_hd a, miss_hd b]
    exact Nat.zero_le _

theorem parts_miss {S : St} {t : Tr} (hH : Held S t) : (partA t).miss + (partB t).miss ≤ t.miss + 2 := by
  cases t with
  | nil => exact Nat.zero_le _
  | leaf g x n => have := half_miss g x n; omega
  | fork g l r => have := parts_fork hH; show l.miss + r.miss ≤ _; omega

theorem ff_miss {S : St} {f o : Tr} (hH : Held S f) (h4 : 4 ≤ f.size) : (ffT f o).miss ≤ f.miss + o.miss + 5 := by
  unfold ffT
  split
  · have h1 := parts_miss hH
    have h2 := join_miss (partB f) o
    have h3 := join_miss (partA f) (joinT (partB f) o)
    omega
  · next hc =>
    cases f with
    | nil => exact absurd h4 (by show ¬ 4 ≤ 0; omega)
    | leaf g x n =>
      refine absurd ?_ hc
      have h5 : 4 ≤ n := h4
      show (ofL _ _).size < 2 * (ofL _ _).size
      rw [ofL_size, ofL_size]
      omega
    | fork g l r =>
      have h1 := parts_fork hH
      have h2 := parts_miss hH.2.1
      have h3 := join_miss l (partA r)
      have h4 := join_miss (partB r) o
      have h5 := join_miss (joinT l (partA r)) (joinT (partB r) o)
      show (joinT (joinT l (partA r)) (joinT (partB r) o)).miss ≤ _
      omega

theorem fo_miss {S : St} {f o : Tr} (hH : Held S o) (h4 : 4 ≤ o.size) : (foT f o).miss ≤ f.miss + o.miss + 5 := by
  unfold foT
  split
  · have h1 := parts_miss hH
    have h2 := join_miss f (partA o)
    have h3 := join_miss (joinT f (partA o)) (partB o)
    omega
  · next hc =>
    cases o with
    | nil => exact absurd h4 (by show ¬ 4 ≤ 0; omega)
    | leaf g x n =>
      refine absurd ?_ hc
      have h5 : 4 ≤ n := h4
      show (ofL _ _).size < 2 * (ofL _ _).size
      rw [ofL_size, ofL_size]
      omega
    | fork g l r =>
      have h1 := parts_fork hH
      have h2 := parts_miss hH.1
      have h3 := join_miss f (partA l)
      have h4 := join_miss (partB l) r
      have h5 := join_miss (joinT f (partA l)) (joinT (partB l) r)
      show (joinT (joinT f (partA l)) (joinT (partB l) r)).miss ≤ _
      omega

theorem even_miss {S : St} {f o : Tr} (hf : Held S f) (ho : Held S o) : (evenT f o).miss ≤ f.miss + o.miss + 5 := by
  have hj := join_miss f o
  unfold evenT
  split
  · omega
  · next h0 =>
    split
    · exact ff_miss hf (by omega)
    · split
      · exact fo_miss ho (by omega)
      · omega

/-- what is left aside: how much of it is not made -/
def asideN : List (Tr × Tr) → Nat
  | [] => 0
  | s :: w => s.1.miss + s.2.miss + asideN w

theorem up_miss {S : St} {T : Nat} : ∀ {w : List (Tr × Tr)} {r : Tr}, WayOk S w T → r.ok → Held S r → (∀ s ∈ w, s.1 = .nil ∨ s.2 = .nil) → (upT w r).miss ≤ r.miss + 5 * w.length + asideN w
  | [], _, _, _, _, _ => by show _ ≤ _ + 5 * 0 + 0; exact Nat.le_refl _
  | s :: w, r, hw, hr, hH, hn => by
    have hw' : WayOk S w T := ⟨fun x h => hw.ok x (by simp [h]), fun x h => hw.held x (by simp [h]), fun x h => hw.flat x (by simp [h]), fun x h => hw.few x (by simp [h])⟩
    have ih := up_miss hw' hr hH (fun x h => hn x (by simp [h]))
    have hk := upP_ok hw' hr hH (uptoS _ w.length)
    rw [upP_all] at hk
    obtain ⟨o1, o2⟩ := hw.ok s (by simp)
    obtain ⟨g1, g2⟩ := hw.held s (by simp)
    show (evenT (evenT s.1 (upT w r)) s.2).miss ≤ r.miss + 5 * (w.length + 1) + (s.1.miss + s.2.miss + asideN w)
    rcases hn s (by simp) with e | e
    · rw [e, even_nil_left]
      have := even_miss (o := s.2) hk.2.1 g2
      omega
    · rw [e, even_nil_right (even_ok o1 hk.1)]
      have := even_miss g1 hk.2.1
      omega

theorem down_cost {S : St} {most : Nat} : ∀ {t : Tr} (i : Int), Held S t → (t.hd ≠ 0 ∨ t = .nil) → (∀ s ∈ (downT most t i).1, s.1 = .nil ∨ s.2 = .nil) ∧ asideN (downT most t i).1 ≤ 1 ∧ (downT most t i).1.length ≤ t.deep
  | .nil, _, _, _ => ⟨(fun s hs => by cases hs), Nat.zero_le _, Nat.le_refl _⟩
  | .leaf g x n, i, _, _ => by
    unfold downT
    split
    · exact ⟨(fun s hs => by cases hs), Nat.zero_le _, Nat.zero_le _⟩
    · split
      · refine ⟨fun s hs => ?_, ?_, Nat.le_refl _⟩
        · obtain rfl := List.mem_singleton.1 hs
          exact Or.inl rfl
        · have := ofL_miss (x / 2 ^ (n / 2)) (n - n / 2)
          show 0 + (ofL _ _).miss + 0 ≤ 1
          omega
      · refine ⟨fun s hs => ?_, ?_, Nat.le_refl _⟩
        · obtain rfl := List.mem_singleton.1 hs
          exact Or.inr rfl
        · have := ofL_miss (x % 2 ^ (n / 2)) (n / 2)
          show (ofL _ _).miss + 0 + 0 ≤ 1
          omega
  | .fork g l r, i, hH, hm => by
    have hg : g ≠ 0 := hm.elim id (fun e => nomatch e)
    obtain ⟨a, b, -⟩ := hH.2.2 hg
    unfold downT
    split
    · obtain ⟨h1, h2, h3⟩ := down_cost (most := most) (t := l) i hH.1 (Or.inl a)
      refine ⟨fun s hs => ?_, ?_, ?_⟩
      · rcases List.mem_cons.1 hs with rfl | hs
        · exact Or.inl rfl
        · exact h1 s hs
      · show 0 + r.miss + asideN (downT most l i).1 ≤ 1
        rw [miss_hd b]
        omega
      · show (downT most l i).1.length + 1 ≤ max l.deep r.deep + 1
        omega
    · obtain ⟨h1, h2, h3⟩ := down_cost (most := most) (t := r) (i - l.size) hH.2.1 (Or.inl b)
      refine ⟨fun s hs => ?_, ?_, ?_⟩
      · rcases List.mem_cons.1 hs with rfl | hs
        · exact Or.inr rfl
        · exact h1 s hs
      · show l.miss + 0 + asideN (downT most r (i - l.size)).1 ≤ 1
        rw [miss_hd a]
        omega
      · show (downT most r (i - l.size)).1.length + 1 ≤ max l.deep r.deep + 1
        omega

theorem flat_of {t : Tr} (h : t.hd ≠ 0 ∨ t = .nil) : t.flat := h.imp id (fun e => by rw [e]; rfl)

theorem ins_miss {S : St} {t : Tr} {i : Int} {b : Bool} (ho : t.ok) (hH : Held S t) (hm : t.hd ≠ 0 ∨ t = .nil) (_h0 : 0 ≤ i) (h1 : i ≤ t.size) : (insT t i b).miss ≤ 2 + 5 * t.deep := by
  obtain ⟨d1, d2, d3, d4, d5, d6⟩ := down_spec 63 (by omega) i ho
  obtain ⟨e1, e2, -⟩ := down_in 63 i ho
  have hw := down_way (S := S) (most := 63) (by omega) i ho hH (flat_of hm)
  obtain ⟨c1, c2, c3⟩ := down_cost (most := 63) i hH hm
  unfold insT
  have hx := insN_lt d2 (show (downT 63 t i).2.2.2.toNat ≤ (downT 63 t i).2.2.1 by omega) b
  have hr : (Tr.leaf 0 (insN (downT 63 t i).2.1 (downT 63 t i).2.2.2.toNat b) ((downT 63 t i).2.2.1 + 1)).ok := ⟨by omega, by omega, hx⟩
  have hrH : Held S (Tr.leaf 0 (insN (downT 63 t i).2.1 (downT 63 t i).2.2.2.toNat b) ((downT 63 t i).2.2.1 + 1)) := fun h => absurd rfl h
  have hu := up_miss hw hr hrH c1
  have hl : (Tr.leaf 0 (insN (downT 63 t i).2.1 (downT 63 t i).2.2.2.toNat b) ((downT 63 t i).2.2.1 + 1)).miss = 1 := if_pos rfl
  rw [hl] at hu
  omega

theorem ins_small {t : Tr} {i : Int} {b : Bool} (ho : t.ok) (hs : t.size < 64) : (insT t i b).miss ≤ 1 := by
  unfold insT
  have hw : (downT 63 t i).1 = [] := by
    rcases Tr.small ho (by omega) with rfl | ⟨g, x, n, rfl, -⟩
    · rfl
    · have : n < 64 := hs
      unfold downT
      rw [if_pos (by omega)]
  rw [hw]
  exact Nat.le_of_eq (if_pos rfl)

theorem del_miss {S : St} {t : Tr} {i : Int} (ho : t.ok) (hH : Held S t) (hm : t.hd ≠ 0 ∨ t = .nil) (h0 : 0 ≤ i) (h1 : i < t.size) : (delT t i).miss ≤ 2 + 5 * t.deep := by
  obtain ⟨d1, d2, d3, d4, d5, d6⟩ := down_spec 64 (by omega) i ho
  obtain ⟨e1, -, e2⟩ := down_in 64 i ho
  have hw := down_way (S := S) (most := 64) (by omega) i ho hH (flat_of hm)
  obtain ⟨c1, c2, c3⟩ := down_cost (most := 64) i hH hm
  unfold delT
  have hj : (downT 64 t i).2.2.2.toNat < (downT 64 t i).2.2.1 := by omega
  have hx := delN_lt d2 hj
  have hr := ofL_ok (x := delN (downT 64 t i).2.1 (downT 64 t i).2.2.2.toNat) (n := (downT 64 t i).2.2.1 - 1) hx (by omega)
  have hu := up_miss hw hr (ofL_held S _ _) c1
  have hl := ofL_miss (delN (downT 64 t i).2.1 (downT 64 t i).2.2.2.toNat) ((downT 64 t i).2.2.1 - 1)
  omega

/-! ### Which nodes a row has -/

def Tr.hs : Tr → List Int
  | .nil => []
  | .leaf h _ _ => [h]
  | .fork h l r => h :: (l.hs ++ r.hs)

theorem hs_len : ∀ t : Tr, t.hs.length = t.nodes
  | .nil => rfl
  | .leaf _ _ _ => rfl
  | .fork h l r => by
    show (l.hs ++ r.hs).length + 1 = l.nodes + r.nodes + 1
    rw [List.length_append, hs_len l, hs_len r]

theorem hd_mem {t : Tr} (h : t.hd ≠ 0) : t.hd ∈ t.hs := by
  cases t with
  | nil => exact absurd rfl h
  | leaf g x n => exact List.mem_singleton.2 rfl
  | fork g l r => exact List.mem_cons_self

theorem hs_closed {S : St} : ∀ {t : Tr}, Held S t → (t.hd ≠ 0 ∨ t = .nil) → ∀ g ∈ t.hs, ∀ k ∈ (S.get g).nd.kids, k = 0 ∨ k ∈ t.hs
  | .nil, _, _, g, hg, _, _ => by cases hg
  | .leaf h x n, hH, hm, g, hg, k, hk => by
    have h0 : h ≠ 0 := hm.elim id (fun e => nomatch e)
    obtain rfl := List.mem_singleton.1 hg
    rw [(hH h0).2] at hk
    exact Or.inl (by simpa [Nd.kids] using hk)
  | .fork h l r, hH, hm, g, hg, k, hk => by
    have h0 : h ≠ 0 := hm.elim id (fun e => nomatch e)
    obtain ⟨a, b, c, d⟩ := hH.2.2 h0
    show k = 0 ∨ k ∈ h :: (l.hs ++ r.hs)
    rcases List.mem_cons.1 hg with rfl | hg
    · rw [d] at hk
      have : k = l.hd ∨ k = r.hd ∨ k = 0 := by simpa [Nd.kids] using hk
      rcases this with e | e | e
      · exact Or.inr (by rw [e]; simp [hd_mem a])
      · exact Or.inr (by rw [e]; simp [hd_mem b])
      · exact Or.inl e
    · rcases List.mem_append.1 hg with hg | hg
      · rcases hs_closed hH.1 (Or.inl a) g hg k hk with e | e
        · exact Or.inl e
        · exact Or.inr (by simp [e])
      · rcases hs_closed hH.2.1 (Or.inl b) g hg k hk with e | e
        · exact Or.inl e
        · exact Or.inr (by simp [e])

theorem rch_hs {S : St} {t : Tr} (hH : Held S t) (hm : t.hd ≠ 0 ∨ t = .nil) {g : Int} (r : Rch S [t.hd] g) : g ∈ t.hs := by
  have hz : S.liveB 0 = false := decide_eq_false (by rw [S.cnt_out (Or.inl (by omega))]; omega)
  induction r with
  | root h1 h2 =>
    obtain rfl := List.mem_singleton.1 h1
    rcases hm with e | e
    · exact hd_mem e
    · rw [e] at h2
      exact absurd h2 (by rw [show Tr.nil.hd = 0 from rfl, hz]; simp)
  | kid _ h1 h2 ih =>
    rcases hs_closed hH hm _ ih _ h1 with e | e
    · rw [e, hz] at h2
      cases h2
    · exact e

theorem rise_nodup (l : List Bool) : (risingL 0 l).Nodup := (rising_sorted l 0).imp (fun h => by omega)

theorem reach_nodes {S : St} {t : Tr} (hH : Held S t) (hm : t.hd ≠ 0 ∨ t = .nil) {seen : List Bool} (I : ReInv S [t.hd] seen [] []) : (risingL 0 seen).length ≤ t.nodes := by
  rw [← hs_len]
  exact List.Nodup.length_le_of_subset (rise_nodup seen) (fun x hx => rch_hs hH hm ((I.done x).1 ((mem_rise seen x).1 hx)))

/-! ### How many nodes there are -/

theorem rising_count : ∀ (l : List Bool) (i : Nat), (risingL i l).length = l.countP id
  | [], _ => rfl
  | b :: l, i => by
    have ih := rising_count l (i + 1)
    cases b
    · simpa [risingL] using ih
    · simp [risingL, ih]

theorem tag_in {S : St} {h : Int} (ht : (S.get h).nd.tag ≠ 0) : 1 ≤ h ∧ h ≤ S.n := by
  by_cases q : 1 ≤ h ∧ h ≤ S.n
  · exact q
  · rw [S.get_out (by omega)] at ht
    exact absurd rfl ht

/-- where none waits, each that is used is reached from what somebody has -/
theorem used_rch {S : St} {mine : List Int} (C : CI S mine) (I : Inv S) (hw : S.wt = []) {rs : List Int} (hr : ∀ x ∈ mine, x ∈ rs) : ∀ h, (S.get h).nd.tag ≠ 0 → Rch S rs h := by
  obtain ⟨b, hb⟩ := C.born
  have hbound : ∀ n : Nat, ∃ M, ∀ g : Int, 1 ≤ g → g ≤ n → b g ≤ M := by
    intro n
    induction n with
    | zero => exact ⟨0, fun g h1 h2 => by omega⟩
    | succ n ih =>
      obtain ⟨M, hM⟩ := ih
      refine ⟨M + b ((n : Int) + 1), fun g h1 h2 => ?_⟩
      by_cases e : g = (n : Int) + 1
      · rw [e]; omega
      · have := hM g h1 (by omega)
        omega
  obtain ⟨M, hM⟩ := hbound S.n
  have key : ∀ (m : Nat) (h : Int), (S.get h).nd.tag ≠ 0 → M ≤ b h + m → Rch S rs h := by
    intro m
    induction m with
    | zero =>
      intro h ht hm
      obtain ⟨h1, h2⟩ := tag_in ht
      have hcp : 0 < S.cnt h := by
        cases e : S.cnt h with
        | zero => have := I.all h h1 h2 ht e; rw [hw] at this; cases this
        | succ c => omega
      have hl : S.liveB h = true := decide_eq_true hcp
      rw [C.cnt h h1 h2] at hcp
      rcases Nat.eq_zero_or_pos (mine.count h) with e | e
      · obtain ⟨g, g1, g2, g3⟩ := kidsN_pos (S := S) (h := h) (by omega)
        have hgt : (S.get g).nd.tag ≠ 0 := fun e => by
          rw [I.zer g e] at g3
          have : h = 0 := by simpa [nd0, Nd.kids] using g3
          omega
        have := (hb g h hgt g3 (by omega)).2
        have := hM g g1 g2
        omega
      · exact .root (hr _ (List.count_pos_iff.1 e)) hl
    | succ m ih =>
      intro h ht hm
      obtain ⟨h1, h2⟩ := tag_in ht
      have hcp : 0 < S.cnt h := by
        cases e : S.cnt h with
        | zero => have := I.all h h1 h2 ht e; rw [hw] at this; cases this
        | succ c => omega
      have hl : S.liveB h = true := decide_eq_true hcp
      rw [C.cnt h h1 h2] at hcp
      rcases Nat.eq_zero_or_pos (mine.count h) with e | e
      · obtain ⟨g, g1, g2, g3⟩ := kidsN_pos (S := S) (h := h) (by omega)
        have hgt : (S.get g).nd.tag ≠ 0 := fun e => by
          rw [I.zer g e] at g3
          have : h = 0 := by simpa [nd0, Nd.kids] using g3
          omega
        have h3 := (hb g h hgt g3 (by omega)).2
        exact .kid (ih g hgt (by omega)) g3 hl
      · exact .root (hr _ (List.count_pos_iff.1 e)) hl
  exact fun h ht => key M h ht (by omega)

theorem seen_le {S : St} {seen : List Bool} (hl : seen.length = S.n) (h : ∀ g, sawB seen g = true → (S.get g).nd.tag ≠ 0) : seen.countP id ≤ usedN S.sl ∧ ((∀ g, (S.get g).nd.tag ≠ 0 → sawB seen g = true) → seen.countP id = usedN S.sl) := by
  have hsl : S.sl.length = seen.length := hl.symm
  have hat : ∀ i (h1 : i < seen.length) (h2 : i < S.sl.length), sawB seen ((i : Int) + 1) = seen[i] ∧ S.get ((i : Int) + 1) = S.sl[i] := fun i h1 h2 => by
    refine ⟨?_, S.get_in h2⟩
    unfold sawB
    rw [if_pos (by omega), show ((i : Int) + 1).toNat - 1 = i by omega, List.getD_eq_getElem?_getD, List.getElem?_eq_getElem h1]
    rfl
  have gen : ∀ (a : List Bool) (c : List Sl), c.length = a.length → (∀ i (h1 : i < a.length) (h2 : i < c.length), a[i] = true → c[i].nd.tag ≠ 0) → a.countP id ≤ usedN c ∧ ((∀ i (h1 : i < a.length) (h2 : i < c.length), c[i].nd.tag ≠ 0 → a[i] = true) → a.countP id = usedN c) := by
    intro a
    induction a with
    | nil =>
      intro c hc _
      obtain rfl := List.length_eq_zero_iff.1 hc
      exact ⟨Nat.le_refl _, fun _ => rfl⟩
    | cons x a ih =>
      intro c hc hi
      cases c with
      | nil => cases hc
      | cons y c =>
        obtain ⟨i1, i2⟩ := ih c (by simpa using hc) (fun i h1 h2 h => hi (i + 1) (by simpa using h1) (by simpa using h2) h)
        have h0 := hi 0 (by simp) (by simp)
        unfold usedN at i1 i2 ⊢
        rw [List.countP_cons, List.countP_cons]
        refine ⟨?_, fun hj => ?_⟩
        · cases x
          · simp; omega
          · have := h0 rfl
            simp at this
            simp [this]
            exact i1
        · have e := i2 (fun i h1 h2 h => hj (i + 1) (by simpa using h1) (by simpa using h2) h)
          rw [e]
          have hz := hj 0 (by simp) (by simp)
          simp at hz h0
          cases x
          · simp at hz
            simp [hz]
          · have := h0 rfl
            simp [this]
  obtain ⟨g1, g2⟩ := gen seen S.sl hsl (fun i h1 h2 e => by
    obtain ⟨a, b⟩ := hat i h1 h2
    rw [← b]
    exact h _ (by rw [a, e]))
  refine ⟨g1, fun hu => g2 (fun i h1 h2 e => ?_)⟩
  obtain ⟨a, b⟩ := hat i h1 h2
  rw [← a]
  exact hu _ (by rw [b]; exact e)

theorem reach_used {S : St} {rs : List Int} {seen : List Bool} (I : Inv S) (R : ReInv S rs seen [] []) : (risingL 0 seen).length ≤ usedN S.sl := by
  rw [rising_count]
  exact (seen_le R.len (fun g hg => I.liv g (S.live_pos ((R.done g).1 hg).live))).1

theorem reach_all {S : St} {mine rs : List Int} {seen : List Bool} (C : CI S mine) (I : Inv S) (hw : S.wt = []) (R : ReInv S rs seen [] []) (hr : ∀ x ∈ mine, x ∈ rs) : (risingL 0 seen).length = usedN S.sl := by
  rw [rising_count]
  exact (seen_le R.len (fun g hg => I.liv g (S.live_pos ((R.done g).1 hg).live))).2 (fun g hg => (R.done g).2 (used_rch C I hw hr g hg))

/-- so much work: none waits, or so many were freed -/
theorem work_used : ∀ (k : Nat) {S : St}, Inv S → (St.workN k S).2.wt = [] ∧ usedN (St.workN k S).2.sl + (St.workN k S).1 = usedN S.sl ∨ usedN (St.workN k S).2.sl + k = usedN S.sl ∧ (St.workN k S).1 = k
  | 0, _, _ => Or.inr ⟨rfl, rfl⟩
  | k + 1, S, I => by
    unfold St.workN
    split
    · next h => exact Or.inl ⟨h, rfl⟩
    · next h =>
      have hu := used_free1 I h
      rcases work_used k (I.free1 h) with ⟨a, b⟩ | ⟨a, b⟩
      · refine Or.inl ⟨a, ?_⟩
        show usedN (St.workN k S.free1).2.sl + ((St.workN k S.free1).1 + 1) = _
        omega
      · refine Or.inr ⟨?_, ?_⟩
        · show usedN (St.workN k S.free1).2.sl + (k + 1) = _
          omega
        · show (St.workN k S.free1).1 + 1 = k + 1
          omega

theorem work_all {k : Nat} {S : St} (I : Inv S) (h : usedN S.sl ≤ k) : (St.workN k S).2.wt = [] ∧ usedN (St.workN k S).2.sl + (St.workN k S).1 = usedN S.sl := by
  rcases work_used k I with e | ⟨e1, e2⟩
  · exact e
  · refine ⟨?_, by omega⟩
    have h0 : usedN (St.workN k S).2.sl = 0 := by omega
    have I2 := Inv.workN k I
    cases e : (St.workN k S).2.wt with
    | nil => rfl
    | cons x t =>
      obtain ⟨x1, x2, -, x4⟩ := I2.wtIn x (by rw [e]; simp)
      have hx : x.toNat - 1 < (St.workN k S).2.sl.length := by unfold St.n at x2; omega
      have h1 := (List.countP_eq_zero.1 h0) _ (List.getElem_mem hx)
      rw [← St.get_in _ hx, show ((x.toNat - 1 : Nat) : Int) + 1 = x by omega] at h1
      simp at h1
      exact absurd h1 x4

/-! ### A row as a statement has it -/

structure RowT (S : St) (t : Tr) (bs : List Bool) : Prop where
  ok : t.ok
  bal : t.bal
  held : Held S t
  made : t.hd ≠ 0 ∨ t = .nil
  bits : t.bits = bs

theorem RowT.size {S : St} {t : Tr} {bs : List Bool} (T : RowT S t bs) : t.size = bs.length := by rw [← T.bits, t.len]
theorem RowT.grows {S S' : St} {t : Tr} {bs : List Bool} (T : RowT S t bs) (h : Grows S S') : RowT S' t bs := ⟨T.ok, T.bal, Held.grows h T.held, T.made, T.bits⟩
theorem RowT.none (S : St) : RowT S .nil [] := ⟨trivial, trivial, trivial, Or.inr rfl, rfl⟩
theorem RowT.zero {S : St} {t : Tr} {bs : List Bool} (T : RowT S t bs) : t.hd = 0 ↔ bs = [] := by
  rw [← T.bits]
  constructor
  · intro h
    rcases T.made with e | e
    · exact absurd h e
    · rw [e]; rfl
  · intro h
    have : t.size = 0 := by rw [← t.len, h]; rfl
    rw [Tr.zero T.ok this]
    rfl
theorem RowT.nodes {S : St} {t : Tr} {bs : List Bool} (T : RowT S t bs) : t.nodes ≤ 1 + bs.length / 4 := by
  have := nodes_few T.ok T.bal
  rw [T.size] at this
  exact this
theorem RowT.deep {S : St} {t : Tr} {bs : List Bool} (T : RowT S t bs) (h : bs.length ≤ 873) : t.deep ≤ 10 := deep_few T.ok T.bal (by rw [T.size]; omega)

/-- what is told of a row that was made of another one -/
theorem RowT.made_of {S : St} {mine : List Int} {u : Tr} {bs : List Bool} (I : Inv S) (C : CI S mine) (ho : u.ok) (hb : u.bal) (hH : Held S u) (he : u.bits = bs) (hr : usedN S.sl + u.miss ≤ S.n) :
    RowT (mdT u S).1 (mdT u S).2 bs ∧ Grows S (mdT u S).1 ∧ CI (mdT u S).1 (if (mdT u S).2.hd = 0 then mine else mine ++ [(mdT u S).2.hd]) ∧ usedN (mdT u S).1.sl = usedN S.sl + u.miss ∧ (mdT u S).2.deep = u.deep := by
  have M := Go.Proofs.YtfkfnibeipddaaaDoor.made_of I C hH ho hr
  exact ⟨⟨M.ok, M.bal hb, M.held, M.made, M.bits.trans he⟩, M.grows, M.ci, M.used, M.deep⟩

theorem ins_bal {t : Tr} {i : Int} {b : Bool} (ho : t.ok) (hb : t.bal) (_h0 : 0 ≤ i) (h1 : i ≤ t.size) : (insT t i b).bal := by
  obtain ⟨d1, d2, d3, d4, d5, d6⟩ := down_spec 63 (by omega) i ho
  obtain ⟨e1, e2, -⟩ := down_in 63 i ho
  unfold insT
  have hx := insN_lt d2 (show (downT 63 t i).2.2.2.toNat ≤ (downT 63 t i).2.2.1 by omega) b
  exact up_bal 63 (by omega) i ho hb ⟨by omega, by omega, hx⟩ trivial (Nat.le_refl _) (by show _ ≤ _ + 1 + 1; omega)

theorem del_bal {t : Tr} {i : Int} (ho : t.ok) (hb : t.bal) (h0 : 0 ≤ i) (h1 : i < t.size) : (delT t i).bal := by
  obtain ⟨d1, d2, d3, d4, d5, d6⟩ := down_spec 64 (by omega) i ho
  obtain ⟨e1, -, e2⟩ := down_in 64 i ho
  unfold delT
  have hx := delN_lt d2 (show (downT 64 t i).2.2.2.toNat < (downT 64 t i).2.2.1 by omega)
  exact up_bal 64 (by omega) i ho hb (ofL_ok hx (by omega)) (ofL_bal _ _) (by rw [ofL_size]; omega) (by rw [ofL_size]; omega)

end Go.Proofs.YtfkfnibeipddaaaDoor
