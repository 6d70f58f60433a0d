/- An arena as a statement has it: what is reached, how many are used, what stays live, what its words tell. -/
import Derived.Test.YtidpkflgibpldaaDoorGm
import Derived.Test.YtidpkflgibpldaaDoorMe
namespace Go.Proofs.YtidpkflgibpldaaDoor
open Go Go.RowKit

theorem rise_nodup (l : List Bool) : (risingL 0 l).Nodup := (rising_sorted l 0).imp (fun h => by omega)


/-! ### How many nodes there are -/

theorem rising_count : ∀ (l : List Bool) (i : Nat), (risingL i l).length = l.countP id
  | [], _ => rfl
  | b :: l, i => by
    have ih := rising_count l (i + 1)
    cases b
    · simpa [risingL] using ih
    · simp [risingL, ih]

theorem tag_in {S : St} {h : Int} (ht : (S.get h).nd.tag ≠ 0) : 1 ≤ h ∧ h ≤ S.n := by
  by_cases q : 1 ≤ h ∧ h ≤ S.n
  · exact q
  · rw [S.get_out (by omega)] at ht
    exact absurd rfl ht

/-- where none waits, each that is used is reached from what somebody has -/
theorem used_rch {S : St} {mine : List Int} (C : CI S mine) (I : Inv S) (hw : S.wt = []) {rs : List Int} (hr : ∀ x ∈ mine, x ∈ rs) : ∀ h, (S.get h).nd.tag ≠ 0 → Rch S rs h := by
  obtain ⟨b, hb⟩ := C.born
  have hbound : ∀ n : Nat, ∃ M, ∀ g : Int, 1 ≤ g → g ≤ n → b g ≤ M := by
    intro n
    induction n with
    | zero => exact ⟨0, fun g h1 h2 => by omega⟩
    | succ n ih =>
      obtain ⟨M, hM⟩ := ih
      refine ⟨M + b ((n : Int) + 1), fun g h1 h2 => ?_⟩
      by_cases e : g = (n : Int) + 1
      · rw [e]; omega
      · have := hM g h1 (by omega)
        omega
  obtain ⟨M, hM⟩ := hbound S.n
  have key : ∀ (m : Nat) (h : Int), (S.get h).nd.tag ≠ 0 → M ≤ b h + m → Rch S rs h := by
    intro m
    induction m with
    | zero =>
      intro h ht hm
      obtain ⟨h1, h2⟩ := tag_in ht
      have hcp : 0 < S.cnt h := by
        cases e : S.cnt h with
        | zero => have := I.all h h1 h2 ht e; rw [hw] at this; cases this
        | succ c => omega
      have hl : S.liveB h = true := decide_eq_true hcp
      rw [C.cnt h h1 h2] at hcp
      rcases Nat.eq_zero_or_pos (mine.count h) with e | e
      · obtain ⟨g, g1, g2, g3⟩ := kidsN_pos (S := S) (h := h) (by omega)
        have hgt : (S.get g).nd.tag ≠ 0 := fun e => by
          rw [I.zer g e] at g3
          have : h = 0 := by simpa [nd0, Nd.kids] using g3
          omega
        have := (hb g h hgt g3 (by omega)).2
        have := hM g g1 g2
        omega
      · exact .root (hr _ (List.count_pos_iff.1 e)) hl
    | succ m ih =>
      intro h ht hm
      obtain ⟨h1, h2⟩ := tag_in ht
      have hcp : 0 < S.cnt h := by
        cases e : S.cnt h with
        | zero => have := I.all h h1 h2 ht e; rw [hw] at this; cases this
        | succ c => omega
      have hl : S.liveB h = true := decide_eq_true hcp
      rw [C.cnt h h1 h2] at hcp
      rcases Nat.eq_zero_or_pos (mine.count h) with e | e
      · obtain ⟨g, g1, g2, g3⟩ := kidsN_pos (S := S) (h := h) (by omega)
        have hgt : (S.get g).nd.tag ≠ 0 := fun e => by
          rw [I.zer g e] at g3
          have : h = 0 := by simpa [nd0, Nd.kids] using g3
          omega
        have h3 := (hb g h hgt g3 (by omega)).2
        exact .kid (ih g hgt (by omega)) g3 hl
      · exact .root (hr _ (List.count_pos_iff.1 e)) hl
  exact fun h ht => key M h ht (by omega)

theorem seen_le {S : St} {seen : List Bool} (hl : seen.length = S.n) (h : ∀ g, sawB seen g = true → (S.get g).nd.tag ≠ 0) : seen.countP id ≤ usedN S.sl ∧ ((∀ g, (S.get g).nd.tag ≠ 0 → sawB seen g = true) → seen.countP id = usedN S.sl) := by
  have hsl : S.sl.length = seen.length := hl.symm
  have hat : ∀ i (h1 : i < seen.length) (h2 : i < S.sl.length), sawB seen ((i : Int) + 1) = seen[i] ∧ S.get ((i : Int) + 1) = S.sl[i] := fun i h1 h2 => by
    refine ⟨?_, S.get_in h2⟩
    unfold sawB
    rw [if_pos (by omega), show ((i : Int) + 1).toNat - 1 = i by omega, List.getD_eq_getElem?_getD, List.getElem?_eq_getElem h1]
    rfl
  have gen : ∀ (a : List Bool) (c : List Sl), c.length = a.length → (∀ i (h1 : i < a.length) (h2 : i < c.length), a[i] = true → c[i].nd.tag ≠ 0) → a.countP id ≤ usedN c ∧ ((∀ i (h1 : i < a.length) (h2 : i < c.length), c[i].nd.tag ≠ 0 → a[i] = true) → a.countP id = usedN c) := by
    intro a
    induction a with
    | nil =>
      intro c hc _
      obtain rfl := List.length_eq_zero_iff.1 hc
      exact ⟨Nat.le_refl _, fun _ => rfl⟩
    | cons x a ih =>
      intro c hc hi
      cases c with
      | nil => cases hc
      | cons y c =>
        obtain ⟨i1, i2⟩ := ih c (by simpa using hc) (fun i h1 h2 h => hi (i + 1) (by simpa using h1) (by simpa using h2) h)
        have h0 := hi 0 (by simp) (by simp)
        unfold usedN at i1 i2 ⊢
        rw [List.countP_cons, List.countP_cons]
        refine ⟨?_, fun hj => ?_⟩
        · cases x
          · simp; omega
          · have := h0 rfl
            simp at this
            simp [this]
            exact i1
        · have e := i2 (fun i h1 h2 h => hj (i + 1) (by simpa using h1) (by simpa using h2) h)
          rw [e]
          have hz := hj 0 (by simp) (by simp)
          simp at hz h0
          cases x
          · simp at hz
            simp [hz]
          · have := h0 rfl
            simp [this]
  obtain ⟨g1, g2⟩ := gen seen S.sl hsl (fun i h1 h2 e => by
    obtain ⟨a, b⟩ := hat i h1 h2
    rw [← b]
    exact h _ (by rw [a, e]))
  refine ⟨g1, fun hu => g2 (fun i h1 h2 e => ?_)⟩
  obtain ⟨a, b⟩ := hat i h1 h2
  rw [← a]
  exact hu _ (by rw [b]; exact e)

theorem reach_used {S : St} {rs : List Int} {seen : List Bool} (I : Inv S) (R : ReInv S rs seen [] []) : (risingL 0 seen).length ≤ usedN S.sl := by
  rw [rising_count]
  exact (seen_le R.len (fun g hg => I.liv g (S.live_pos ((R.done g).1 hg).live))).1

theorem reach_all {S : St} {mine rs : List Int} {seen : List Bool} (C : CI S mine) (I : Inv S) (hw : S.wt = []) (R : ReInv S rs seen [] []) (hr : ∀ x ∈ mine, x ∈ rs) : (risingL 0 seen).length = usedN S.sl := by
  rw [rising_count]
  exact (seen_le R.len (fun g hg => I.liv g (S.live_pos ((R.done g).1 hg).live))).2 (fun g hg => (R.done g).2 (used_rch C I hw hr g hg))

/-- so much work: none waits, or so many were freed -/
theorem work_used : ∀ (k : Nat) {S : St}, Inv S → (St.workN k S).2.wt = [] ∧ usedN (St.workN k S).2.sl + (St.workN k S).1 = usedN S.sl ∨ usedN (St.workN k S).2.sl + k = usedN S.sl ∧ (St.workN k S).1 = k
  | 0, _, _ => Or.inr ⟨rfl, rfl⟩
  | k + 1, S, I => by
    unfold St.workN
    split
    · next h => exact Or.inl ⟨h, rfl⟩
    · next h =>
      have hu := used_free1 I h
      rcases work_used k (I.free1 h) with ⟨a, b⟩ | ⟨a, b⟩
      · refine Or.inl ⟨a, ?_⟩
        show usedN (St.workN k S.free1).2.sl + ((St.workN k S.free1).1 + 1) = _
        omega
      · refine Or.inr ⟨?_, ?_⟩
        · show usedN (St.workN k S.free1).2.sl + (k + 1) = _
          omega
        · show (St.workN k S.free1).1 + 1 = k + 1
          omega

theorem work_all {k : Nat} {S : St} (I : Inv S) (h : usedN S.sl ≤ k) : (St.workN k S).2.wt = [] ∧ usedN (St.workN k S).2.sl + (St.workN k S).1 = usedN S.sl := by
  rcases work_used k I with e | ⟨e1, e2⟩
  · exact e
  · refine ⟨?_, by omega⟩
    have h0 : usedN (St.workN k S).2.sl = 0 := by omega
    have I2 := Inv.workN k I
    cases e : (St.workN k S).2.wt with
    | nil => rfl
    | cons x t =>
      obtain ⟨x1, x2, -, x4⟩ := I2.wtIn x (by rw [e]; simp)
      have hx : x.toNat - 1 < (St.workN k S).2.sl.length := by unfold St.n at x2; omega
      have h1 := (List.countP_eq_zero.1 h0) _ (List.getElem_mem hx)
      rw [← St.get_in _ hx, show ((x.toNat - 1 : Nat) : Int) + 1 = x by omega] at h1
      simp at h1
      exact absurd h1 x4


/-- what is live there was the same node here -/
def Keeps (S T : St) : Prop := T.n = S.n ∧ ∀ g, 0 < T.cnt g → (T.get g).nd = (S.get g).nd

theorem Keeps.refl (S : St) : Keeps S S := ⟨rfl, fun _ _ => rfl⟩
theorem Keeps.drop (S : St) (x : Int) : Keeps S (S.drop x) := ⟨S.n_drop x, fun g _ => S.nd_drop x g⟩

theorem free1_live {S : St} (I : Inv S) (hw : S.wt ≠ []) {g : Int} (h : 0 < S.free1.cnt g) : (S.free1.get g).nd = (S.get g).nd ∧ 0 < S.cnt g := by
  have h0 := cnt_free1_le I hw g
  cases e : S.wt with
  | nil => exact absurd e hw
  | cons x t =>
    obtain ⟨x1, x2, x3, x4⟩ := I.wtIn x (by rw [e]; simp)
    have hf : S.free1 = (S.rid x).drops (S.get x).nd.kids := by unfold St.free1; rw [e]; rfl
    have hg : (S.rid x).get g = if g = x then sl0 else S.get g := S.get_put sl0 x1 x2 g
    refine ⟨?_, by omega⟩
    rw [hf, St.nd_drops, hg, if_neg (fun q => ?_)]
    rw [q] at h0 h
    omega

theorem Keeps.workN : ∀ (k : Nat) {S : St}, Inv S → Keeps S (St.workN k S).2
  | 0, S, _ => Keeps.refl S
  | k + 1, S, I => by
    refine ⟨St.n_workN _ _, fun g hg => ?_⟩
    unfold St.workN at hg ⊢
    split
    · rfl
    · next h =>
      rw [if_neg h] at hg
      have ih := Keeps.workN k (I.free1 h)
      have h1 := ih.2 g hg
      have h2 := cnt_workN_le k (I.free1 h) g
      have h3 : 0 < S.free1.cnt g := by
        have : 0 < (St.workN k S.free1).2.cnt g := hg
        omega
      exact h1.trans (free1_live I h h3).1

theorem cnt_kid {S : St} {mine : List Int} (C : CI S mine) {g k : Int} (hk : k ∈ (S.get g).nd.kids) (h1 : 1 ≤ k) (h2 : k ≤ S.n) : 0 < S.cnt k := by
  rw [C.cnt k h1 h2]
  rcases kidsN_ge S g k with h | h
  · have := List.count_pos_iff.2 hk
    omega
  · rw [h] at hk
    have : k = 0 := by simpa [sl0, nd0, Nd.kids] using hk
    omega


theorem wt_mk1 (S : St) (n : Nd) : (S.mk1 n).wt = S.wt := by
  unfold St.mk1
  split
  · exact St.wt_keeps _ _
  · rfl


theorem workP {w0 w : World} {G : Nat} {S : St} {md k : Nat} (h : AB w0 G w S md k) (hk : k ≤ 1000000000) (most : Int) :
    Calls Tryd.prog 10 #[.pointer (some ⟨G, 0, none⟩), .int .i64 most] w fun e w' => e = .returned (.int .i64 ((St.workN most.toNat S).1 : Int)) ∧ AB w0 G w' (St.workN most.toNat S).2 md k ∧ Sp G w w' := by
  obtain ⟨o, q, rfl, hA, hg, hb, hc, hq⟩ := h.norm
  refine (work_any hA (fun g => by have := hc g; omega) most).mono ?_
  rintro e w' ⟨he, q', hA', hS⟩
  exact ⟨he, AB.step hA' hS hg hb (fun g => Nat.le_trans (cnt_workN_le _ hA.1 g) (hc g)), step_sp hA hq hS hA'⟩

/-- a new list of numbers is not the arena's -/
theorem AB.loose {w0 w w' : World} {G : Nat} {S : St} {md k : Nat} (h : AB w0 G w S md k) (hb : Below w.heap.size w w') {g : Nat} (hg : w.heap.size ≤ g) {cur : Array Value} {r : Nat × Nat} (hc : w'.heap[g]? = some (.cells cur 3 r)) : Loose G w' g := by
  obtain ⟨o, q, rfl, hA, -, -, -, hq⟩ := h.norm
  obtain ⟨-, -, -, fw, wv, hR, -⟩ := hA
  have hcell : w.cell? ⟨o.G, 2, none⟩ = some wv := hR.ar.cell rfl
  have hql := hR.ql
  obtain ⟨ao, cap, e1, -, -, e4⟩ := hR.qu
  refine ⟨⟨cur, r, hc⟩, ao, _, cap, ((World.cell?_of_block (w := w) (hb.block o.G (World.block_lt_of_cell? _ _ hcell))).trans hcell).trans (by rw [e1]), ?_⟩
  rcases e4 with e4 | ⟨off, cur', e5, -⟩
  · exact Or.inl e4
  · refine Or.inr (fun o' e => ?_)
    rw [e5] at e
    cases e
    omega


theorem dropR {w0 w : World} {G : Nat} {S : St} {md k : Nat} {mine : List Int} (h : AB w0 G w S md k) (C : CI S mine) (hk : k ≤ 1000000000) {x : Int} (hx : x ∈ mine) :
    Calls Tryd.prog 13 #[.pointer (some ⟨G, 0, none⟩), .int .i64 x] w fun e w' => e = .returned (.int .i64 0) ∧ AB w0 G w' (S.drop x) md k ∧ CI (S.drop x) (mine.erase x) ∧ Keeps S (S.drop x) ∧ usedN (S.drop x).sl = usedN S.sl ∧ Sp G w w' := by
  refine (dropP h hk x).mono ?_
  rintro e w' ⟨rfl, hA, hS⟩
  refine ⟨?_, hA, C.drop hx, Keeps.drop S x, used_drop _ _, hS⟩
  unfold St.errB
  rw [if_pos (C.live hx)]

theorem workR {w0 w : World} {G : Nat} {S : St} {md k : Nat} {mine : List Int} (h : AB w0 G w S md k) (C : CI S mine) (hk : k ≤ 1000000000) (n : Nat) :
    Calls Tryd.prog 10 #[.pointer (some ⟨G, 0, none⟩), .int .i64 (n : Nat)] w fun e w' => ∃ S' f, e = .returned (.int .i64 (f : Nat)) ∧ AB w0 G w' S' md k ∧ CI S' mine ∧ Keeps S S' ∧ (S'.wt = [] ∧ usedN S'.sl + f = usedN S.sl ∨ usedN S'.sl + n = usedN S.sl ∧ f = n) ∧ (usedN S.sl ≤ n → S'.wt = [] ∧ usedN S'.sl + f = usedN S.sl) ∧ Sp G w w' := by
  have I := h.inv
  refine (workP h hk (n : Nat)).mono ?_
  rintro e w' ⟨rfl, hA, hS⟩
  rw [Int.toNat_natCast] at hA ⊢
  exact ⟨_, _, rfl, hA, C.workN n I, Keeps.workN n I, work_used n I, fun hu => work_all I hu, hS⟩

theorem newR {w0 w : World} (hb : Below w0.heap.size w0 w) (hT : Tab w) (n : Nat) (h1 : 1 ≤ n) (hn : n ≤ 6000) :
    Calls Tryd.prog 5 #[.int .i64 n] w fun e w' => ∃ G S, e = .returned (.pointer (some ⟨G, 0, none⟩)) ∧ AB w0 G w' S 0 0 ∧ CI S [] ∧ S.n = n ∧ usedN S.sl = 0 ∧ S.wt = [] := by
  refine (newB hb hT n h1 hn).mono ?_
  rintro e w' ⟨G, rfl, hA⟩
  exact ⟨G, _, rfl, hA, CI.new n, n_new n, used_new n, rfl⟩


theorem rch_trans {S : St} {rs : List Int} {x g : Int} (h : Rch S rs x) (k : Rch S [x] g) : Rch S rs g := by
  induction k with
  | root h1 _ => rw [List.mem_singleton.1 h1]; exact h
  | kid _ h1 h2 ih => exact .kid ih h1 h2


/-- each once -/
def once : List Int → List Int
  | [] => []
  | x :: l => if x ∈ l then once l else x :: once l

theorem mem_once : ∀ (l : List Int) (x : Int), x ∈ once l ↔ x ∈ l
  | [], x => Iff.rfl
  | y :: l, x => by
    unfold once
    split
    · next h =>
      rw [mem_once l x, List.mem_cons]
      exact ⟨Or.inr, fun q => q.elim (fun e => by rw [e]; exact h) id⟩
    · rw [List.mem_cons, List.mem_cons, mem_once l x]

theorem once_nodup : ∀ l : List Int, (once l).Nodup
  | [] => List.nodup_nil
  | y :: l => by
    unfold once
    split
    · exact once_nodup l
    · next h => exact List.nodup_cons.2 ⟨fun q => h ((mem_once l y).1 q), once_nodup l⟩


/-- there is such a search -/
theorem reInv_ex (S : St) (rs : List Int) : ∃ seen, ReInv S rs seen [] [] := by
  classical
  refine ⟨(List.range S.n).map (fun i : Nat => decide (Rch S rs ((i : Int) + 1))), ?_⟩
  have hs : ∀ g, sawB ((List.range S.n).map (fun i : Nat => decide (Rch S rs ((i : Int) + 1)))) g = true ↔ Rch S rs g := fun g => by
    unfold sawB
    constructor
    · intro h
      split at h
      · next h1 =>
        rw [List.getD_eq_getElem?_getD] at h
        by_cases h2 : g.toNat - 1 < S.n
        · simp [h2] at h
          rw [show ((g.toNat - 1 : Nat) : Int) + 1 = g by omega] at h
          exact h
        · simp [h2] at h
      · simp at h
    · intro h
      obtain ⟨h1, h2⟩ := S.live_in h.live
      rw [if_pos h1, List.getD_eq_getElem?_getD]
      have h3 : g.toNat - 1 < S.n := by omega
      simp [h3]
      rw [show ((g.toNat - 1 : Nat) : Int) + 1 = g by omega]
      exact h
  exact ⟨by simp, fun g h => (hs g).1 h, fun k hk => (nomatch hk), fun g hg => (nomatch hg), fun r hr hl => Or.inl ((hs r).2 (.root hr hl)), fun g hg _ k hk hl => Or.inl ((hs k).2 (.kid ((hs g).1 hg) hk hl))⟩


theorem two_left {a b x : Int} : x ∈ ([a] ++ [b]).erase b ↔ x = a := by
  by_cases e : a = b
  · subst e; simp
  · have : (a == b) = false := by simpa using e
    simp [this]


end Go.Proofs.YtidpkflgibpldaaDoor
