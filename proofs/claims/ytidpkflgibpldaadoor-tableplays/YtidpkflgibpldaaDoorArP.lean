/- Counts are how often a node is a kid, and how often somebody has it, plainly. -/
import Derived.Test.YtidpkflgibpldaaDoorArS
namespace Go.Proofs.YtidpkflgibpldaaDoor

/-- how often a handle is a kid -/
def kidsN (S : St) (h : Int) : Nat := (S.sl.map fun s => s.nd.kids.count h).sum

theorem sum_set {α : Type} (f : α → Nat) : ∀ (l : List α) (i : Nat) (hi : i < l.length) (a : α), ((l.set i a).map f).sum + f l[i] = (l.map f).sum + f a
  | x :: t, 0, _, a => by
    simp only [List.set_cons_zero, List.map_cons, List.sum_cons, List.getElem_cons_zero]
    omega
  | x :: t, i + 1, hi, a => by
    have := sum_set f t i (by simpa using hi) a
    simp only [List.set_cons_succ, List.map_cons, List.sum_cons, List.getElem_cons_succ]
    omega

theorem sum_ge {α : Type} (f : α → Nat) : ∀ (l : List α) (i : Nat) (hi : i < l.length), f l[i] ≤ (l.map f).sum
  | x :: t, 0, _ => by simp
  | x :: t, i + 1, hi => by
    have := sum_ge f t i (by simpa using hi)
    simp only [List.map_cons, List.sum_cons, List.getElem_cons_succ]
    omega

theorem sum_pos {α : Type} (f : α → Nat) : ∀ (l : List α), 0 < (l.map f).sum → ∃ (i : Nat) (hi : i < l.length), 0 < f l[i]
  | [], h => by simp at h
  | x :: t, h => by
    by_cases hx : 0 < f x
    · exact ⟨0, by simp, hx⟩
    · simp only [List.map_cons, List.sum_cons] at h
      obtain ⟨i, hi, h2⟩ := sum_pos f t (by omega)
      exact ⟨i + 1, by simpa using hi, h2⟩

theorem kidsN_put (S : St) {h : Int} (h1 : 1 ≤ h) (h2 : h ≤ S.n) (s : Sl) (g : Int) : kidsN (S.put h s) g + (S.get h).nd.kids.count g = kidsN S g + s.nd.kids.count g := by
  unfold St.n at h2
  have hi : h.toNat - 1 < S.sl.length := by omega
  have := sum_set (fun s : Sl => s.nd.kids.count g) S.sl (h.toNat - 1) hi s
  have e : S.get h = S.sl[h.toNat - 1] := by
    rw [← S.get_in hi, show ((h.toNat - 1 : Nat) : Int) + 1 = h by omega]
  rw [e]
  exact this

theorem kidsN_same {S T : St} (hn : S.n = T.n) (h : ∀ g, (S.get g).nd = (T.get g).nd) (x : Int) : kidsN S x = kidsN T x := by
  have e : ∀ S : St, kidsN S x = ((S.sl.map (·.nd)).map fun n => n.kids.count x).sum := by
    intro S
    rw [List.map_map]
    rfl
  rw [e, e, map_nd hn h]

theorem kidsN_ge (S : St) (g h : Int) : (S.get g).nd.kids.count h ≤ kidsN S h ∨ (S.get g) = sl0 := by
  by_cases hg : g < 1 ∨ (S.n : Int) < g
  · exact Or.inr (S.get_out hg)
  · unfold St.n at hg
    have hi : g.toNat - 1 < S.sl.length := by omega
    have := sum_ge (fun s : Sl => s.nd.kids.count h) S.sl (g.toNat - 1) hi
    refine Or.inl ?_
    rw [show S.get g = S.sl[g.toNat - 1] by rw [← S.get_in hi, show ((g.toNat - 1 : Nat) : Int) + 1 = g by omega]]
    exact this

theorem kidsN_pos {S : St} {h : Int} (hp : 0 < kidsN S h) : ∃ g : Int, 1 ≤ g ∧ g ≤ S.n ∧ h ∈ (S.get g).nd.kids := by
  obtain ⟨i, hi, h2⟩ := sum_pos (fun s : Sl => s.nd.kids.count h) S.sl hp
  refine ⟨(i : Int) + 1, by omega, by unfold St.n; omega, ?_⟩
  rw [S.get_in hi]
  exact List.count_pos_iff.1 h2

theorem drops_cnt : ∀ (ks : List Int) (S : St) (g : Int), (S.drops ks).cnt g = S.cnt g - ks.count g
  | [], S, g => by show S.cnt g = _; simp
  | k :: ks, S, g => by
    show ((S.drop k).drops ks).cnt g = _
    rw [drops_cnt ks (S.drop k) g, S.cnt_drop, List.count_cons]
    by_cases e : g = k
    · subst e
      simp
      omega
    · have : (k == g) = false := by simpa using fun h : k = g => e h.symm
      rw [if_neg e, this]
      simp

theorem keeps_cnt : ∀ (ks : List Int) (S : St) (g : Int), 1 ≤ g → (∀ k ∈ ks, k = 0 ∨ S.liveB k = true) → (S.keeps ks).cnt g = S.cnt g + ks.count g
  | [], S, g, _, _ => by show S.cnt g = _; simp
  | k :: ks, S, g, hg, hk => by
    show ((S.keep k).keeps ks).cnt g = _
    have hk2 : ∀ j ∈ ks, j = 0 ∨ (S.keep k).liveB j = true := by
      intro j hj
      rcases hk j (by simp [hj]) with e | e
      · exact Or.inl e
      · refine Or.inr (decide_eq_true ?_)
        have := S.live_pos e
        rw [S.cnt_keep]
        split <;> omega
    rw [keeps_cnt ks (S.keep k) g hg hk2, S.cnt_keep, List.count_cons]
    by_cases e : g = k
    · subst e
      have hl : S.liveB g = true := by
        rcases hk g (by simp) with e | e
        · omega
        · exact e
      rw [if_pos ⟨rfl, hl⟩]
      simp
      omega
    · have : (k == g) = false := by simpa using fun h : k = g => e h.symm
      rw [if_neg (fun h => e h.1), this]
      simp

/-- each count is how often it is a kid, and how often somebody has it; kids were born earlier -/
structure CI (S : St) (mine : List Int) : Prop where
  cnt : ∀ h : Int, 1 ≤ h → h ≤ S.n → S.cnt h = kidsN S h + mine.count h
  mem : ∀ m ∈ mine, 1 ≤ m ∧ m ≤ S.n
  born : ∃ b : Int → Nat, ∀ h k : Int, (S.get h).nd.tag ≠ 0 → k ∈ (S.get h).nd.kids → k ≠ 0 → (S.get k).nd.tag ≠ 0 ∧ b k < b h

theorem CI.live {S : St} {mine : List Int} (C : CI S mine) {x : Int} (hx : x ∈ mine) : S.liveB x = true := by
  obtain ⟨h1, h2⟩ := C.mem x hx
  refine decide_eq_true ?_
  rw [C.cnt x h1 h2]
  have := List.count_pos_iff.2 hx
  omega

theorem kidsN_new (n : Nat) {h : Int} (hh : 1 ≤ h) : kidsN (newS n) h = 0 := by
  cases e : kidsN (newS n) h with
  | zero => rfl
  | succ k =>
    obtain ⟨g, -, -, h3⟩ := kidsN_pos (S := newS n) (h := h) (by omega)
    rw [get_new] at h3
    have : h = 0 := by simpa [sl0, nd0, Nd.kids] using h3
    omega

theorem CI.new (n : Nat) : CI (newS n) [] := by
  refine ⟨fun h h1 _ => ?_, fun m hm => by simp at hm, fun _ => 0, fun h k ht => ?_⟩
  · rw [kidsN_new n h1]
    unfold St.cnt
    rw [get_new]
    rfl
  · rw [get_new] at ht
    exact absurd rfl ht

theorem CI.keep {S : St} {mine : List Int} (C : CI S mine) {x : Int} (hx : x ∈ mine) : CI (S.keep x) (mine ++ [x]) := by
  have hl := C.live hx
  refine ⟨fun h h1 h2 => ?_, fun m hm => ?_, ?_⟩
  · rw [S.n_keep] at h2
    rw [S.cnt_keep, kidsN_same (S.n_keep x) (S.nd_keep x), List.count_append, C.cnt h h1 h2]
    by_cases e : h = x
    · subst e
      rw [if_pos ⟨rfl, hl⟩]
      simp
      omega
    · have : (x == h) = false := by simpa using fun q : x = h => e q.symm
      rw [if_neg (fun q => e q.1), List.count_singleton, this]
      simp
  · rw [S.n_keep]
    rcases List.mem_append.1 hm with h | h
    · exact C.mem m h
    · rw [List.mem_singleton.1 h]
      exact C.mem x hx
  · obtain ⟨b, hb⟩ := C.born
    exact ⟨b, fun h k h1 h2 h3 => by rw [S.nd_keep] at h1 h2 ⊢; exact hb h k h1 h2 h3⟩

theorem CI.drop {S : St} {mine : List Int} (C : CI S mine) {x : Int} (hx : x ∈ mine) : CI (S.drop x) (mine.erase x) := by
  refine ⟨fun h h1 h2 => ?_, fun m hm => ?_, ?_⟩
  · rw [S.n_drop] at h2
    rw [S.cnt_drop, kidsN_same (S.n_drop x) (S.nd_drop x)]
    by_cases e : h = x
    · subst e
      have := List.count_pos_iff.2 hx
      rw [if_pos rfl, List.count_erase_self, C.cnt h h1 h2]
      omega
    · rw [if_neg e, List.count_erase_of_ne e, C.cnt h h1 h2]
  · rw [S.n_drop]
    exact C.mem m (List.mem_of_mem_erase hm)
  · obtain ⟨b, hb⟩ := C.born
    exact ⟨b, fun h k h1 h2 h3 => by rw [S.nd_drop] at h1 h2 ⊢; exact hb h k h1 h2 h3⟩

/-- a node is made of those that somebody has -/
theorem CI.make {S : St} {mine : List Int} (C : CI S mine) (I : Inv S) {n : Nd} (ht : tagB n = true) (hk : ∀ k ∈ n.kids, k = 0 ∨ k ∈ mine) {i : Nat} (hl : S.leastO = some i) :
    S.mkE n = 0 ∧ S.mkH n = (i : Int) + 1 ∧ CI (S.mk1 n) (mine ++ [(i : Int) + 1]) := by
  have hlv : ∀ k ∈ n.kids, k = 0 ∨ S.liveB k = true := fun k h => (hk k h).imp id (fun q => C.live q)
  have hkb : S.kidsB n = true := by
    unfold St.kidsB
    rw [List.all_eq_true]
    intro k h
    rcases hlv k h with e | e <;> simp [e]
  obtain ⟨e1, e2, e3⟩ := St.mk_eq ht hkb hl
  obtain ⟨f1, f2, f3⟩ := (least_some hl).1
  have hc0 : S.cnt ((i : Int) + 1) = 0 := by
    cases e : S.cnt ((i : Int) + 1) with
    | zero => rfl
    | succ c => exact absurd f3 (I.liv _ (by omega))
  have hnm : ∀ k, S.liveB k = true → k ≠ (i : Int) + 1 := fun k h e => by
    have := S.live_pos h
    rw [e, hc0] at this
    omega
  have hgl : ∀ g, (S.lay ((i : Int) + 1) n).get g = if g = (i : Int) + 1 then ⟨n, 1⟩ else S.get g := fun g => S.get_put _ f1 f2 g
  have hcl : ∀ g, (S.lay ((i : Int) + 1) n).cnt g = if g = (i : Int) + 1 then 1 else S.cnt g := by
    intro g
    unfold St.cnt
    rw [hgl]
    split <;> rfl
  have hlv2 : ∀ k ∈ n.kids, k = 0 ∨ (S.lay ((i : Int) + 1) n).liveB k = true := fun k h => (hlv k h).imp id (fun q => decide_eq_true (by
    rw [hcl, if_neg (hnm k q)]
    exact S.live_pos q))
  have hnd : ∀ g, ((S.mk1 n).get g).nd = if g = (i : Int) + 1 then n else (S.get g).nd := by
    intro g
    rw [e3, St.nd_keeps, hgl]
    split <;> rfl
  have hz := I.zer ((i : Int) + 1) f3
  have hkn : ∀ g, 1 ≤ g → kidsN (S.mk1 n) g = kidsN S g + n.kids.count g := by
    intro g hg
    have h1 := kidsN_put S f1 f2 ⟨n, 1⟩ g
    rw [hz] at h1
    have h2 : nd0.kids.count g = 0 := List.count_eq_zero.2 (by simp [nd0, Nd.kids]; omega)
    rw [h2] at h1
    have h3 : kidsN (S.mk1 n) g = kidsN (S.lay ((i : Int) + 1) n) g := by
      rw [e3]
      exact kidsN_same (St.n_keeps _ _) (St.nd_keeps _ _) g
    rw [h3]
    exact h1
  have hnn : (S.mk1 n).n = S.n := S.n_mk1 n
  refine ⟨e1, e2, fun h h1 h2 => ?_, fun m hm => ?_, ?_⟩
  · rw [hnn] at h2
    rw [hkn h h1, e3, keeps_cnt n.kids _ h h1 hlv2, hcl, List.count_append]
    by_cases e : h = (i : Int) + 1
    · have h3 := C.cnt h h1 h2
      rw [e, hc0] at h3
      rw [if_pos e, e]
      simp
      omega
    · have : ((i : Int) + 1 == h) = false := by simpa using fun q : (i : Int) + 1 = h => e q.symm
      rw [if_neg e, C.cnt h h1 h2, List.count_singleton, this]
      simp
      omega
  · rw [hnn]
    rcases List.mem_append.1 hm with h | h
    · exact C.mem m h
    · rw [List.mem_singleton.1 h]
      exact ⟨f1, f2⟩
  · obtain ⟨b, hb⟩ := C.born
    refine ⟨fun g => if g = (i : Int) + 1 then b n.k0 + b n.k1 + b n.k2 + b n.k3 + 1 else b g, fun h k h1 h2 h3 => ?_⟩
    rw [hnd] at h1 h2 ⊢
    by_cases e : h = (i : Int) + 1
    · rw [if_pos e] at h2
      have hkl : S.liveB k = true := by
        rcases hlv k h2 with q | q
        · exact absurd q h3
        · exact q
      have hkn2 := hnm k hkl
      show (if k = (i : Int) + 1 then n else (S.get k).nd).tag ≠ 0 ∧ (if k = (i : Int) + 1 then b n.k0 + b n.k1 + b n.k2 + b n.k3 + 1 else b k) < (if h = (i : Int) + 1 then b n.k0 + b n.k1 + b n.k2 + b n.k3 + 1 else b h)
      rw [if_neg hkn2, if_neg hkn2, if_pos e]
      refine ⟨I.liv k (S.live_pos hkl), ?_⟩
      have : k = n.k0 ∨ k = n.k1 ∨ k = n.k2 ∨ k = n.k3 := by simpa [Nd.kids] using h2
      rcases this with q | q | q | q <;> rw [q] <;> omega
    · rw [if_neg e] at h1 h2
      obtain ⟨q1, q2⟩ := hb h k h1 h2 h3
      have hkn2 : k ≠ (i : Int) + 1 := fun q => q1 (by rw [q]; exact f3)
      show (if k = (i : Int) + 1 then n else (S.get k).nd).tag ≠ 0 ∧ (if k = (i : Int) + 1 then b n.k0 + b n.k1 + b n.k2 + b n.k3 + 1 else b k) < (if h = (i : Int) + 1 then b n.k0 + b n.k1 + b n.k2 + b n.k3 + 1 else b h)
      rw [if_neg hkn2, if_neg hkn2, if_neg e]
      exact ⟨q1, q2⟩

theorem CI.free1 {S : St} {mine : List Int} (C : CI S mine) (I : Inv S) (hw : S.wt ≠ []) : CI S.free1 mine := by
  cases e : S.wt with
  | nil => exact absurd e hw
  | cons x t =>
    obtain ⟨x1, x2, x3, x4⟩ := I.wtIn x (by rw [e]; simp)
    have hf : S.free1 = (S.rid x).drops (S.get x).nd.kids := by unfold St.free1; rw [e]; rfl
    have hg : ∀ g, (S.rid x).get g = if g = x then sl0 else S.get g := fun g => S.get_put sl0 x1 x2 g
    have hc : ∀ g, (S.rid x).cnt g = S.cnt g := by
      intro g
      unfold St.cnt
      rw [hg]
      split
      · next q => rw [q]; exact x3.symm
      · rfl
    have hnn : S.free1.n = S.n := S.n_free1
    have hnd : ∀ g, (S.free1.get g).nd = if g = x then nd0 else (S.get g).nd := by
      intro g
      rw [hf, St.nd_drops, hg]
      split <;> rfl
    have hkn : ∀ g, 1 ≤ g → kidsN S.free1 g + (S.get x).nd.kids.count g = kidsN S g := by
      intro g hg1
      have h1 := kidsN_put S x1 x2 sl0 g
      have h2 : sl0.nd.kids.count g = 0 := List.count_eq_zero.2 (by simp [sl0, nd0, Nd.kids]; omega)
      have h3 : kidsN S.free1 g = kidsN (S.put x sl0) g := by
        rw [hf]
        refine kidsN_same ?_ ?_ g
        · rw [St.n_drops]; rfl
        · intro y; rw [St.nd_drops]; rfl
      omega
    have hx0 : kidsN S x = 0 ∧ mine.count x = 0 := by
      have := C.cnt x x1 x2
      omega
    refine ⟨fun h h1 h2 => ?_, fun m hm => by rw [hnn]; exact C.mem m hm, ?_⟩
    · rw [hnn] at h2
      have h3 := hkn h h1
      have h4 := C.cnt h h1 h2
      rw [hf, drops_cnt, hc, ← hf]
      omega
    · obtain ⟨b, hb⟩ := C.born
      refine ⟨b, fun h k h1 h2 h3 => ?_⟩
      rw [hnd] at h1 h2 ⊢
      by_cases q : h = x
      · rw [if_pos q] at h1
        exact absurd rfl h1
      · rw [if_neg q] at h1 h2
        obtain ⟨q1, q2⟩ := hb h k h1 h2 h3
        refine ⟨?_, q2⟩
        have hkx : k ≠ x := by
          intro r
          rcases kidsN_ge S h k with h5 | h5
          · have h6 := List.count_pos_iff.2 h2
            rw [r] at h5 h6
            omega
          · rw [h5] at h1
            exact h1 rfl
        rw [if_neg hkx]
        exact q1

theorem CI.workN : ∀ (k : Nat) {S : St} {mine : List Int}, CI S mine → Inv S → CI (St.workN k S).2 mine
  | 0, _, _, C, _ => C
  | k + 1, S, mine, C, I => by
    unfold St.workN
    split
    · exact C
    · next h => exact CI.workN k (C.free1 I h) (I.free1 h)

/-- nobody has any, none waits: none is used -/
theorem CI.over {S : St} (C : CI S []) (I : Inv S) (hw : S.wt = []) : usedN S.sl = 0 := by
  obtain ⟨b, hb⟩ := C.born
  have key : ∀ (m : Nat) (h : Int), (S.get h).nd.tag ≠ 0 → 1 ≤ h → h ≤ S.n → (∀ g : Int, 1 ≤ g → g ≤ S.n → b g ≤ b h + m) → False := by
    intro m
    induction m with
    | zero =>
      intro h ht h1 h2 hmax
      have hcp : 0 < S.cnt h := by
        cases e : S.cnt h with
        | zero =>
          have := I.all h h1 h2 ht e
          rw [hw] at this
          simp at this
        | succ c => omega
      rw [C.cnt h h1 h2] at hcp
      obtain ⟨g, g1, g2, g3⟩ := kidsN_pos (S := S) (h := h) (by simpa using hcp)
      have hgt : (S.get g).nd.tag ≠ 0 := fun e => by
        rw [I.zer g e] at g3
        have : h = 0 := by simpa [nd0, Nd.kids] using g3
        omega
      have := (hb g h hgt g3 (by omega)).2
      have := hmax g g1 g2
      omega
    | succ m ih =>
      intro h ht h1 h2 hmax
      have hcp : 0 < S.cnt h := by
        cases e : S.cnt h with
        | zero =>
          have := I.all h h1 h2 ht e
          rw [hw] at this
          simp at this
        | succ c => omega
      rw [C.cnt h h1 h2] at hcp
      obtain ⟨g, g1, g2, g3⟩ := kidsN_pos (S := S) (h := h) (by simpa using hcp)
      have hgt : (S.get g).nd.tag ≠ 0 := fun e => by
        rw [I.zer g e] at g3
        have : h = 0 := by simpa [nd0, Nd.kids] using g3
        omega
      have hlt := (hb g h hgt g3 (by omega)).2
      exact ih g hgt g1 g2 (fun y y1 y2 => by have := hmax y y1 y2; omega)
  have hbound : ∀ n : Nat, ∃ M, ∀ g : Int, 1 ≤ g → g ≤ n → b g ≤ M := by
    intro n
    induction n with
    | zero => exact ⟨0, fun g h1 h2 => by omega⟩
    | succ n ih =>
      obtain ⟨M, hM⟩ := ih
      refine ⟨M + b ((n : Int) + 1), fun g h1 h2 => ?_⟩
      by_cases e : g = (n : Int) + 1
      · rw [e]; omega
      · have := hM g h1 (by omega)
        omega
  obtain ⟨M, hM⟩ := hbound S.n
  unfold usedN
  rw [List.countP_eq_zero]
  intro s hs ht
  obtain ⟨i, hi, rfl⟩ := List.mem_iff_getElem.1 hs
  refine key M ((i : Int) + 1) ?_ (by omega) (by unfold St.n; omega) (fun g h1 h2 => by have := hM g h1 h2; omega)
  rw [S.get_in hi]
  simpa using ht

/-- all are used where none is free -/
theorem used_full {S : St} (h : S.leastO = none) : usedN S.sl = S.n := by
  unfold usedN St.n
  rw [List.countP_eq_length]
  intro s hs
  obtain ⟨i, hi, rfl⟩ := List.mem_iff_getElem.1 hs
  have := least_none h ((i : Int) + 1)
  unfold St.free at this
  rw [S.get_in hi] at this
  simp only [bne_iff_ne, ne_eq]
  intro e
  exact this ⟨by omega, by unfold St.n; omega, e⟩

end Go.Proofs.YtidpkflgibpldaaDoor
