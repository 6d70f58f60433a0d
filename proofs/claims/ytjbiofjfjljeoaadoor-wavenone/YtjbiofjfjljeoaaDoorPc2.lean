/- What the statements on rows of symbols lean on, part 2. -/
import Derived.Test.YtjbiofjfjljeoaaDoorPc1
namespace Go.Proofs.YtjbiofjfjljeoaaDoor
open Go Go.RowKit
theorem rise_nodup (l : List Bool) : (risingL 0 l).Nodup := (rising_sorted l 0).imp (fun h => by omega)
/-! ### How many nodes there are -/

theorem rising_count : ∀ (l : List Bool) (i : Nat), (risingL i l).length = l.countP id
  | [], _ => rfl
  | b :: l, i => by
    have ih := rising_count l (i + 1)
    cases b
    · simpa [risingL] using ih
    · simp [risingL, ih]
theorem tag_in {S : St} {h : Int} (ht : (S.get h).nd.tag ≠ 0) : 1 ≤ h ∧ h ≤ S.n := by
  by_cases q : 1 ≤ h ∧ h ≤ S.n
  · exact q
  · rw [S.get_out (by omega)] at ht
    exact absurd rfl ht
/-- where none waits, each that is used is reached from what somebody has -/
theorem used_rch {S : St} {mine : List Int} (C : CI S mine) (I : Inv S) (hw : S.wt = []) {rs : List Int} (hr : ∀ x ∈ mine, x ∈ rs) : ∀ h, (S.get h).nd.tag ≠ 0 → Rch S rs h := by
  obtain ⟨b, hb⟩ := C.born
  have hbound : ∀ n : Nat, ∃ M, ∀ g : Int, 1 ≤ g → g ≤ n → b g ≤ M := by
    intro n
    induction n with
    | zero => exact ⟨0, fun g h1 h2 => by omega⟩
    | succ n ih =>
      obtain ⟨M, hM⟩ := ih
      refine ⟨M + b ((n : Int) + 1), fun g h1 h2 => ?_⟩
      by_cases e : g = (n : Int) + 1
      · rw [e]; omega
      · have := hM g h1 (by omega)
        omega
  obtain ⟨M, hM⟩ := hbound S.n
  have key : ∀ (m : Nat) (h : Int), (S.get h).nd.tag ≠ 0 → M ≤ b h + m → Rch S rs h := by
    intro m
    induction m with
    | zero =>
      intro h ht hm
      obtain ⟨h1, h2⟩ := tag_in ht
      have hcp : 0 < S.cnt h := by
        cases e : S.cnt h with
        | zero => have := I.all h h1 h2 ht e; rw [hw] at this; cases this
        | succ c => omega
      have hl : S.liveB h = true := decide_eq_true hcp
      rw [C.cnt h h1 h2] at hcp
      rcases Nat.eq_zero_or_pos (mine.count h) with e | e
      · obtain ⟨g, g1, g2, g3⟩ := kidsN_pos (S := S) (h := h) (by omega)
        have hgt : (S.get g).nd.tag ≠ 0 := fun e => by
          rw [I.zer g e] at g3
          have : h = 0 := by simpa [nd0, Nd.kids] using g3
          omega
        have := (hb g h hgt g3 (by omega)).2
        have := hM g g1 g2
        omega
      · exact .root (hr _ (List.count_pos_iff.1 e)) hl
    | succ m ih =>
      intro h ht hm
      obtain ⟨h1, h2⟩ := tag_in ht
      have hcp : 0 < S.cnt h := by
        cases e : S.cnt h with
        | zero => have := I.all h h1 h2 ht e; rw [hw] at this; cases this
        | succ c => omega
      have hl : S.liveB h = true := decide_eq_true hcp
      rw [C.cnt h h1 h2] at hcp
      rcases Nat.eq_zero_or_pos (mine.count h) with e | e
      · obtain ⟨g, g1, g2, g3⟩ := kidsN_pos (S := S) (h := h) (by omega)
        have hgt : (S.get g).nd.tag ≠ 0 := fun e => by
          rw [I.zer g e] at g3
          have : h = 0 := by simpa [nd0, Nd.kids] using g3
          omega
        have h3 := (hb g h hgt g3 (by omega)).2
        exact .kid (ih g hgt (by omega)) g3 hl
      · exact .root (hr _ (List.count_pos_iff.1 e)) hl
  exact fun h ht => key M h ht (by omega)
theorem seen_le {S : St} {seen : List Bool} (hl : seen.length = S.n) (h : ∀ g, sawB seen g = true → (S.get g).nd.tag ≠ 0) : seen.countP id ≤ usedN S.sl ∧ ((∀ g, (S.get g).nd.tag ≠ 0 → sawB seen g = true) → seen.countP id = usedN S.sl) := by
  have hsl : S.sl.length = seen.length := hl.symm
  have hat : ∀ i (h1 : i < seen.length) (h2 : i < S.sl.length), sawB seen ((i : Int) + 1) = seen[i] ∧ S.get ((i : Int) + 1) = S.sl[i] := fun i h1 h2 => by
    refine ⟨?_, S.get_in h2⟩
    unfold sawB
    rw [if_pos (by omega), show ((i : Int) + 1).toNat - 1 = i by omega, List.getD_eq_getElem?_getD, List.getElem?_eq_getElem h1]
    rfl
  have gen : ∀ (a : List Bool) (c : List Sl), c.length = a.length → (∀ i (h1 : i < a.length) (h2 : i < c.length), a[i] = true → c[i].nd.tag ≠ 0) → a.countP id ≤ usedN c ∧ ((∀ i (h1 : i < a.length) (h2 : i < c.length), c[i].nd.tag ≠ 0 → a[i] = true) → a.countP id = usedN c) := by
    intro a
    induction a with
    | nil =>
      intro c hc _
      obtain rfl := List.length_eq_zero_iff.1 hc
      exact ⟨Nat.le_refl _, fun _ => rfl⟩
    | cons x a ih =>
      intro c hc hi
      cases c with
      | nil => cases hc
      | cons y c =>
        obtain ⟨i1, i2⟩ := ih c (by simpa using hc) (fun i h1 h2 h => hi (i + 1) (by simpa using h1) (by simpa using h2) h)
        have h0 := hi 0 (by simp) (by simp)
        unfold usedN at i1 i2 ⊢
        rw [List.countP_cons, List.countP_cons]
        refine ⟨?_, fun hj => ?_⟩
        · cases x
          · simp; omega
          · have := h0 rfl
            simp at this
            simp [this]
            exact i1
        · have e := i2 (fun i h1 h2 h => hj (i + 1) (by simpa using h1) (by simpa using h2) h)
          rw [e]
          have hz := hj 0 (by simp) (by simp)
          simp at hz h0
          cases x
          · simp at hz
            simp [hz]
          · have := h0 rfl
            simp [this]
  obtain ⟨g1, g2⟩ := gen seen S.sl hsl (fun i h1 h2 e => by
    obtain ⟨a, b⟩ := hat i h1 h2
    rw [← b]
    exact h _ (by rw [a, e]))
  refine ⟨g1, fun hu => g2 (fun i h1 h2 e => ?_)⟩
  obtain ⟨a, b⟩ := hat i h1 h2
  rw [← a]
  exact hu _ (by rw [b]; exact e)
theorem reach_all {S : St} {mine rs : List Int} {seen : List Bool} (C : CI S mine) (I : Inv S) (hw : S.wt = []) (R : ReInv S rs seen [] []) (hr : ∀ x ∈ mine, x ∈ rs) : (risingL 0 seen).length = usedN S.sl := by
  rw [rising_count]
  exact (seen_le R.len (fun g hg => I.liv g (S.live_pos ((R.done g).1 hg).live))).2 (fun g hg => (R.done g).2 (used_rch C I hw hr g hg))
/-- so much work: none waits, or so many were freed -/
theorem work_used : ∀ (k : Nat) {S : St}, Inv S → (St.workN k S).2.wt = [] ∧ usedN (St.workN k S).2.sl + (St.workN k S).1 = usedN S.sl ∨ usedN (St.workN k S).2.sl + k = usedN S.sl ∧ (St.workN k S).1 = k
  | 0, _, _ => Or.inr ⟨rfl, rfl⟩
  | k + 1, S, I => by
    unfold St.workN
    split
    · next h => exact Or.inl ⟨h, rfl⟩
    · next h =>
      have hu := used_free1 I h
      rcases work_used k (I.free1 h) with ⟨a, b⟩ | ⟨a, b⟩
      · refine Or.inl ⟨a, ?_⟩
        show usedN (St.workN k S.free1).2.sl + ((St.workN k S.free1).1 + 1) = _
        omega
      · refine Or.inr ⟨?_, ?_⟩
        · show usedN (St.workN k S.free1).2.sl + (k + 1) = _
          omega
        · show (St.workN k S.free1).1 + 1 = k + 1
          omega
theorem work_all {k : Nat} {S : St} (I : Inv S) (h : usedN S.sl ≤ k) : (St.workN k S).2.wt = [] ∧ usedN (St.workN k S).2.sl + (St.workN k S).1 = usedN S.sl := by
  rcases work_used k I with e | ⟨e1, e2⟩
  · exact e
  · refine ⟨?_, by omega⟩
    have h0 : usedN (St.workN k S).2.sl = 0 := by omega
    have I2 := Inv.workN k I
    cases e : (St.workN k S).2.wt with
    | nil => rfl
    | cons x t =>
      obtain ⟨x1, x2, -, x4⟩ := I2.wtIn x (by rw [e]; simp)
      have hx : x.toNat - 1 < (St.workN k S).2.sl.length := by unfold St.n at x2; omega
      have h1 := (List.countP_eq_zero.1 h0) _ (List.getElem_mem hx)
      rw [← St.get_in _ hx, show ((x.toNat - 1 : Nat) : Int) + 1 = x by omega] at h1
      simp at h1
      exact absurd h1 x4
/-- what is live there was the same node here -/
def Keeps (S T : St) : Prop := T.n = S.n ∧ ∀ g, 0 < T.cnt g → (T.get g).nd = (S.get g).nd
theorem Keeps.refl (S : St) : Keeps S S := ⟨rfl, fun _ _ => rfl⟩
theorem Keeps.drop (S : St) (x : Int) : Keeps S (S.drop x) := ⟨S.n_drop x, fun g _ => S.nd_drop x g⟩
theorem free1_live {S : St} (I : Inv S) (hw : S.wt ≠ []) {g : Int} (h : 0 < S.free1.cnt g) : (S.free1.get g).nd = (S.get g).nd ∧ 0 < S.cnt g := by
  have h0 := cnt_free1_le I hw g
  cases e : S.wt with
  | nil => exact absurd e hw
  | cons x t =>
    obtain ⟨x1, x2, x3, x4⟩ := I.wtIn x (by rw [e]; simp)
    have hf : S.free1 = (S.rid x).drops (S.get x).nd.kids := by unfold St.free1; rw [e]; rfl
    have hg : (S.rid x).get g = if g = x then sl0 else S.get g := S.get_put sl0 x1 x2 g
    refine ⟨?_, by omega⟩
    rw [hf, St.nd_drops, hg, if_neg (fun q => ?_)]
    rw [q] at h0 h
    omega
theorem Keeps.workN : ∀ (k : Nat) {S : St}, Inv S → Keeps S (St.workN k S).2
  | 0, S, _ => Keeps.refl S
  | k + 1, S, I => by
    refine ⟨St.n_workN _ _, fun g hg => ?_⟩
    unfold St.workN at hg ⊢
    split
    · rfl
    · next h =>
      rw [if_neg h] at hg
      have ih := Keeps.workN k (I.free1 h)
      have h1 := ih.2 g hg
      have h2 := cnt_workN_le k (I.free1 h) g
      have h3 : 0 < S.free1.cnt g := by
        have : 0 < (St.workN k S.free1).2.cnt g := hg
        omega
      exact h1.trans (free1_live I h h3).1
theorem cnt_kid {S : St} {mine : List Int} (C : CI S mine) {g k : Int} (hk : k ∈ (S.get g).nd.kids) (h1 : 1 ≤ k) (h2 : k ≤ S.n) : 0 < S.cnt k := by
  rw [C.cnt k h1 h2]
  rcases kidsN_ge S g k with h | h
  · have := List.count_pos_iff.2 hk
    omega
  · rw [h] at hk
    have : k = 0 := by simpa [sl0, nd0, Nd.kids] using hk
    omega
theorem wt_mk1 (S : St) (n : Nd) : (S.mk1 n).wt = S.wt := by
  unfold St.mk1
  split
  · exact St.wt_keeps _ _
  · rfl
theorem workP {w0 w : World} {G : Nat} {S : St} {md k : Nat} (h : AB w0 G w S md k) (hk : k ≤ 1000000000) (most : Int) :
    Calls Tryd.prog 24 #[.pointer (some ⟨G, 0, none⟩), .int .i64 most] w fun e w' => e = .returned (.int .i64 ((St.workN most.toNat S).1 : Int)) ∧ AB w0 G w' (St.workN most.toNat S).2 md k ∧ Sp G w w' := by
  obtain ⟨o, q, rfl, hA, hg, hb, hc, hq⟩ := h.norm
  refine (work_any hA (fun g => by have := hc g; omega) most).mono ?_
  rintro e w' ⟨he, q', hA', hS⟩
  exact ⟨he, AB.step hA' hS hg hb (fun g => Nat.le_trans (cnt_workN_le _ hA.1 g) (hc g)), step_sp hA hq hS hA'⟩
/-- a new list of numbers is not the arena's -/
theorem AB.loose {w0 w w' : World} {G : Nat} {S : St} {md k : Nat} (h : AB w0 G w S md k) (hb : Below w.heap.size w w') {g : Nat} (hg : w.heap.size ≤ g) {cur : Array Value} {r : Nat × Nat} (hc : w'.heap[g]? = some (.cells cur 3 r)) : Loose G w' g := by
  obtain ⟨o, q, rfl, hA, -, -, -, hq⟩ := h.norm
  obtain ⟨-, -, -, fw, wv, hR, -⟩ := hA
  have hcell : w.cell? ⟨o.G, 2, none⟩ = some wv := hR.ar.cell rfl
  have hql := hR.ql
  obtain ⟨ao, cap, e1, -, -, e4⟩ := hR.qu
  refine ⟨⟨cur, r, hc⟩, ao, _, cap, ((World.cell?_of_block (w := w) (hb.block o.G (World.block_lt_of_cell? _ _ hcell))).trans hcell).trans (by rw [e1]), ?_⟩
  rcases e4 with e4 | ⟨off, cur', e5, -⟩
  · exact Or.inl e4
  · refine Or.inr (fun o' e => ?_)
    rw [e5] at e
    cases e
    omega
theorem dropR {w0 w : World} {G : Nat} {S : St} {md k : Nat} {mine : List Int} (h : AB w0 G w S md k) (C : CI S mine) (hk : k ≤ 1000000000) {x : Int} (hx : x ∈ mine) :
    Calls Tryd.prog 23 #[.pointer (some ⟨G, 0, none⟩), .int .i64 x] w fun e w' => e = .returned (.int .i64 0) ∧ AB w0 G w' (S.drop x) md k ∧ CI (S.drop x) (mine.erase x) ∧ Keeps S (S.drop x) ∧ usedN (S.drop x).sl = usedN S.sl ∧ Sp G w w' := by
  refine (dropP h hk x).mono ?_
  rintro e w' ⟨rfl, hA, hS⟩
  refine ⟨?_, hA, C.drop hx, Keeps.drop S x, used_drop _ _, hS⟩
  unfold St.errB
  rw [if_pos (C.live hx)]
theorem workR {w0 w : World} {G : Nat} {S : St} {md k : Nat} {mine : List Int} (h : AB w0 G w S md k) (C : CI S mine) (hk : k ≤ 1000000000) (n : Nat) :
    Calls Tryd.prog 24 #[.pointer (some ⟨G, 0, none⟩), .int .i64 (n : Nat)] w fun e w' => ∃ S' f, e = .returned (.int .i64 (f : Nat)) ∧ AB w0 G w' S' md k ∧ CI S' mine ∧ Keeps S S' ∧ (S'.wt = [] ∧ usedN S'.sl + f = usedN S.sl ∨ usedN S'.sl + n = usedN S.sl ∧ f = n) ∧ (usedN S.sl ≤ n → S'.wt = [] ∧ usedN S'.sl + f = usedN S.sl) ∧ Sp G w w' := by
  have I := h.inv
  refine (workP h hk (n : Nat)).mono ?_
  rintro e w' ⟨rfl, hA, hS⟩
  rw [Int.toNat_natCast] at hA ⊢
  exact ⟨_, _, rfl, hA, C.workN n I, Keeps.workN n I, work_used n I, fun hu => work_all I hu, hS⟩
theorem newR {w0 w : World} (hb : Below w0.heap.size w0 w) (hT : Tab w) (n : Nat) (h1 : 1 ≤ n) (hn : n ≤ 6000) :
    Calls Tryd.prog 11 #[.int .i64 n] w fun e w' => ∃ G S, e = .returned (.pointer (some ⟨G, 0, none⟩)) ∧ AB w0 G w' S 0 0 ∧ CI S [] ∧ S.n = n ∧ usedN S.sl = 0 ∧ S.wt = [] := by
  refine (newB hb hT n h1 hn).mono ?_
  rintro e w' ⟨G, rfl, hA⟩
  exact ⟨G, _, rfl, hA, CI.new n, n_new n, used_new n, rfl⟩
/-- there is such a search -/
theorem reInv_ex (S : St) (rs : List Int) : ∃ seen, ReInv S rs seen [] [] := by
  classical
  refine ⟨(List.range S.n).map (fun i : Nat => decide (Rch S rs ((i : Int) + 1))), ?_⟩
  have hs : ∀ g, sawB ((List.range S.n).map (fun i : Nat => decide (Rch S rs ((i : Int) + 1)))) g = true ↔ Rch S rs g := fun g => by
    unfold sawB
    constructor
    · intro h
      split at h
      · next h1 =>
        rw [List.getD_eq_getElem?_getD] at h
        by_cases h2 : g.toNat - 1 < S.n
        · simp [h2] at h
          rw [show ((g.toNat - 1 : Nat) : Int) + 1 = g by omega] at h
          exact h
        · simp [h2] at h
      · simp at h
    · intro h
      obtain ⟨h1, h2⟩ := S.live_in h.live
      rw [if_pos h1, List.getD_eq_getElem?_getD]
      have h3 : g.toNat - 1 < S.n := by omega
      simp [h3]
      rw [show ((g.toNat - 1 : Nat) : Int) + 1 = g by omega]
      exact h
  exact ⟨by simp, fun g h => (hs g).1 h, fun k hk => (nomatch hk), fun g hg => (nomatch hg), fun r hr hl => Or.inl ((hs r).2 (.root hr hl)), fun g hg _ k hk hl => Or.inl ((hs k).2 (.kid ((hs g).1 hg) hk hl))⟩
end Go.Proofs.YtjbiofjfjljeoaaDoor
namespace Go.Proofs.YtjbiofjfjljeoaaDoor
open Go.ChangeShapes Go.WideShapes Go.ChangeAt Go.RowKit
theorem Tryd.laidOut : laidOutB Tryd.prog = true := by kernel_rfl
theorem Tryd.own : ownKnob Tryd.prog.godebug = none := by kernel_rfl
theorem Tryd.gTab : Tryd.prog.globalNamed "math/bits.deBruijn64tab" = some 0 := by kernel_rfl
theorem Tryd.tTab : (Tryd.prog.globals[0]?).map (·.type) = some 139 := by kernel_rfl
/-- the listed variable -/
def laid1 {H : Type} : List (String × DataW H) := [("math/bits.deBruijn64tab", Rows.laid_math_bits_deBruijn64tab)]
theorem door_met (os : Os) (args : Array Value) : laidMetH Tryd.prog laid1 ((World.doorLaid Tryd.prog 400 os).forCall (fun _ _ => 0) ⟨#[], args, []⟩).memory :=
  laidMetH_of_parts3 (fuel := 8) (laidMet_of_run' 8 (by kernel_rfl) (by kernel_rfl)) (by kernel_rfl) (by kernel_rfl)
theorem tab_lits {H : Type} : (Rows.laid_math_bits_deBruijn64tab : DataW H) = .agg (Lib.deBruijn64tab.map fun n : Nat => .lit (.int .u8 (n : Int))) := rfl
set_option maxRecDepth 100000 in
/-- what the condition gives: the table -/
theorem of_laid {W : World} (h : laidMetH Tryd.prog laid1 W) : Tab W := by
  rw [MakeChecks.laidMetH_plain _ _ _ (by kernel_rfl)] at h
  obtain ⟨ps, ⟨g0, t0, cs0, f0, p0, q0, hg0, ht0, hv0, hd0, _, _⟩, _, _⟩ := h
  obtain rfl := Option.some.inj (Tryd.gTab.symm.trans hg0)
  obtain rfl := Option.some.inj (Tryd.tTab.symm.trans ht0)
  obtain ⟨xs, m1, rfl, hx1, hlen, hn3, hel⟩ := DataW.trod_array Tryd.underlying139 hd0
  have c5 : Tryd.prog.cellsOf 5 = 1 := by kernel_rfl
  have hagg : Lib.deBruijn64tab.map (fun n : Nat => (DataW.lit (.int .u8 (n : Int)) : DataW Unit)) = xs.map (·.1) := by
    have h1 := congrArg Prod.fst hx1
    rw [tab_lits] at h1
    simpa using h1
  intro j hj
  have hj64 : j < 64 := hj
  have h0 := hel j hj64
  rw [c5, Nat.mul_one, List.getElem?_eq_getElem (by rw [hn3]; exact hj64)] at h0
  obtain ⟨k, e1, e2, _⟩ := DataW.trod_int Tryd.underlying5 h0
  have h3 : (xs.map (·.1))[j]? = some (DataW.lit (.int .u8 k)) := by
    rw [List.getElem?_map, List.getElem?_eq_getElem (by rw [hn3]; exact hj64), e2]
    rfl
  rw [← hagg, List.getElem?_map, List.getElem?_eq_getElem hj] at h3
  have hk : ((Lib.deBruijn64tab[j] : Nat) : Int) = k := by
    simp at h3
    exact h3
  have h4 := World.var?_cell hg0 hv0 j
  rw [h4]
  have h5 : cs0.toList[j]? = some (.int .u8 k) := by
    have h6 : (cs0.toList.drop j).take 1 = [.int .u8 k] := e1
    have h7 : ((cs0.toList.drop j).take 1)[0]? = some (.int .u8 k) := by rw [h6]; rfl
    rw [List.getElem?_take, if_pos (by omega), List.getElem?_drop, Nat.add_zero] at h7
    exact h7
  rw [← Array.getElem?_toList, h5, ← hk]
  simp [List.getD, hj]
  rfl
theorem trodAll_later {H : Type} {enc : TypeId × Value → H} {P : Program} (hl : laidOutB P = true) {W W' : World} {sp : Nat → Bool} (hb : Below W.heap.size W W') :
    ∀ (ts : List TypeId) (vs : List Value) (ds : List (DataW H)) (ps : List MemPlace), (∀ t ∈ ts, P.readableRec t = true ∧ t < P.types.size) → DataW.TrodAll enc P W 0 (fun _ => true) true ts vs ds ps → (∀ x ∈ ps, x.block < W.heap.size) → (∀ x ∈ ps, sp x.block = true) →
      DataW.TrodAll enc P W' 0 sp true ts vs ds ps
  | [], vs, ds, ps, _, h, _, _ => by
    cases vs <;> cases ds <;> simp [DataW.TrodAll] at h ⊢
    exact h
  | t :: ts, vs, ds, ps, hr, h, h1, h2 => by
    obtain ⟨v, vs', d, ds', p, q, rfl, rfl, rfl, h3, h4⟩ := trodAll_cons h
    refine ⟨p, q, ?_, ?_, rfl⟩
    · exact WideElems.Trod_stays hl (hr t (by simp)).1 (hr t (by simp)).2 h3 (fun x hx => hb.same (h1 x (by simp [hx]))) (fun x hx => h2 x (by simp [hx]))
    · exact trodAll_later hl hb ts vs' ds' q (fun t ht => hr t (by simp [ht])) h4 (fun x hx => h1 x (by simp [hx])) (fun x hx => h2 x (by simp [hx]))
/-- nothing that was there has turned: the row's post, for whatever arguments -/
theorem post_carry {H : Type} {enc : TypeId × Value → H} {P : Program} {f : Func} {s : ChangeSpec} {apart fresh handsOn : Bool} {W W' : World} {args : Array Value} {v : Value} {ds : List (DataW H)} {before : List MemPlace}
    (hl : laidOutB P = true) (hr : ∀ t ∈ f.params.toList, P.readableRec t = true ∧ t < P.types.size) (hv : s.vars = [])
    (hW : DataW.Whole enc P f.params.toList s.vars apart W args.toList ds [] before)
    (hres : ∀ (b : Nat) (sp : Nat → Bool) (hd : Bool), DataW.TrodAll enc P W' b sp hd f.resultTypes.toList (v.resultList f.resultTypes.size) (s.fn H (ds ++ [])).results [])
    (hargs : (s.fn H (ds ++ [])).args = ds) (hvs : (s.fn H (ds ++ [])).vars = []) (hb : Below W.heap.size W W') :
    s.post enc P f apart fresh handsOn false W args v W' := by
  have hlt : ∀ x ∈ before, x.block < W.heap.size := fun x hx => by simpa using hW.lt x hx
  have hW' := hW
  obtain ⟨p, q, hA, hV, rfl, hfz, hnd⟩ := hW
  rw [hv] at hV
  obtain ⟨-, rfl⟩ := trodVars_none hV
  have hold : ∀ x ∈ p ++ [], (fun b => decide (b < W.heap.size)) x.block = true := fun x hx => by simpa using hlt x hx
  refine ⟨ds, [], p ++ [], [], p, [], hW', hres _ _ _, ?_, ?_, World.keptBut_mono (fun x hx => ⟨hx, Or.inr (by simpa using hx)⟩) (hb.frame _), fun h => by cases h⟩
  · rw [hargs]
    exact trodAll_later hl hb _ _ _ _ hr hA (fun x hx => hlt x (by simp [hx])) (fun x hx => hold x (by simp [hx]))
  · rw [hv, hvs]
    rfl
theorem wf_i64 {b : Int} (h : (Lit.int .i64 b).wf = true) : -9223372036854775808 ≤ b ∧ b ≤ 9223372036854775807 := by
  have e1 : IntKind.i64.min = -9223372036854775808 := by decide
  have e2 : IntKind.i64.max = 9223372036854775807 := by decide
  simp only [Lit.wf, e1, e2] at h
  simp at h
  omega
end Go.Proofs.YtjbiofjfjljeoaaDoor
namespace Go.Proofs.YtjbiofjfjljeoaaDoor
/-- how many of the first so many bits are 1 -/
def popN : Nat → Nat → Nat
  | 0, _ => 0
  | f + 1, x => x % 2 + popN f (x / 2)
theorem popN_le : ∀ n x, popN n x ≤ n
  | 0, _ => Nat.le_refl _
  | n + 1, x => by have := popN_le n (x / 2); simp only [popN]; omega
theorem popN_zero : ∀ n, popN n 0 = 0
  | 0 => rfl
  | n + 1 => by simp only [popN]; rw [popN_zero n]
theorem popN_add : ∀ a b x, popN (a + b) x = popN a x + popN b (x / 2 ^ a)
  | 0, b, x => by simp [popN]
  | a + 1, b, x => by
    rw [show a + 1 + b = (a + b) + 1 by omega]
    simp only [popN]
    rw [popN_add a b (x / 2), Nat.div_div_eq_div_mul, Nat.pow_succ, Nat.mul_comm 2]
    omega
theorem bit_mod (x k : Nat) : x / 2 ^ k % 2 = if x.testBit k then 1 else 0 := by
  rw [Nat.testBit_eq_decide_div_mod_eq]
  have : x / 2 ^ k % 2 < 2 := Nat.mod_lt _ (by omega)
  by_cases h : x / 2 ^ k % 2 = 1
  · simp [h]
  · simp [h]; omega
theorem popN_succ (k x : Nat) : popN (k + 1) x = popN k x + if x.testBit k then 1 else 0 := by
  rw [popN_add k 1 x, ← bit_mod]
  simp [popN]
theorem popN_mono (x : Nat) {a b : Nat} (h : a ≤ b) : popN a x ≤ popN b x := by
  obtain ⟨c, rfl⟩ := Nat.exists_eq_add_of_le h
  rw [popN_add]
  omega
theorem popN_congr {x y : Nat} : ∀ n, (∀ j, j < n → x.testBit j = y.testBit j) → popN n x = popN n y
  | 0, _ => rfl
  | n + 1, h => by rw [popN_succ, popN_succ, popN_congr n (fun j hj => h j (by omega)), h n (by omega)]
theorem test_small {x n j : Nat} (h : x < 2 ^ n) (hj : n ≤ j) : x.testBit j = false :=
  Nat.testBit_lt_two_pow (Nat.lt_of_lt_of_le h (Nat.pow_le_pow_right (by omega) hj))
theorem small_of_test {x n : Nat} (h : ∀ j, n ≤ j → x.testBit j = false) : x < 2 ^ n := Nat.lt_pow_two_of_testBit x h
theorem popN_more {x n : Nat} (h : x < 2 ^ n) (m : Nat) (hm : n ≤ m) : popN m x = popN n x := by
  obtain ⟨c, rfl⟩ := Nat.exists_eq_add_of_le hm
  rw [popN_add, Nat.div_eq_of_lt h, popN_zero]
  rfl
/-- of the first k alone -/
theorem popN_mod (x : Nat) {k : Nat} (hk : k ≤ 64) : popN 64 (x % 2 ^ k) = popN k x := by
  rw [popN_more (Nat.mod_lt _ (Nat.two_pow_pos k)) 64 hk]
  exact popN_congr k fun j hj => by rw [Nat.testBit_mod_two_pow]; simp [hj]
/-- a place where a 1 stands, so many ahead of it -/
theorem pop_find {x k : Nat} : ∀ n, k < popN n x → ∃ p, p < n ∧ x.testBit p = true ∧ popN p x = k
  | 0, h => by simp [popN] at h
  | n + 1, h => by
    rw [popN_succ] at h
    by_cases h1 : k < popN n x
    · obtain ⟨p, h2, h3, h4⟩ := pop_find n h1
      exact ⟨p, by omega, h3, h4⟩
    · by_cases hb : x.testBit n = true
      · rw [if_pos hb] at h
        exact ⟨n, by omega, hb, by omega⟩
      · rw [if_neg hb] at h
        omega
theorem pop_place {x p q : Nat} (hp : x.testBit p = true) (hq : x.testBit q = true) (h : popN p x = popN q x) : p = q := by
  rcases Nat.lt_trichotomy p q with hl | hl | hl
  · have := popN_mono x (show p + 1 ≤ q by omega)
    rw [popN_succ, if_pos hp] at this
    omega
  · exact hl
  · have := popN_mono x (show q + 1 ≤ p by omega)
    rw [popN_succ, if_pos hq] at this
    omega
/-! ### The k-th -/

/-- these are the 1s of W but the first j -/
def Rest (W j V : Nat) : Prop := ∀ p, V.testBit p = (W.testBit p && decide (j ≤ popN p W))
theorem Rest.zero (W : Nat) : Rest W 0 W := fun p => by simp
theorem low_bit {x : Nat} (h0 : x ≠ 0) (h : x < 18446744073709551616) : x.testBit (Lib.ctz 64 x) = true ∧ Lib.ctz 64 x < 64 ∧ (∀ j, j < Lib.ctz 64 x → x.testBit j = false) ∧ ∀ p, (x &&& (x - 1)).testBit p = (x.testBit p && !decide (p = Lib.ctz 64 x)) := by
  obtain ⟨m, h1, h2⟩ := Lib.ctzFrom_spec 64 x (by omega) (by simpa using h)
  have e : Lib.ctz 64 x = Lib.ctzFrom 64 x := by unfold Lib.ctz; rw [if_neg h0]
  rw [e]
  generalize Lib.ctzFrom 64 x = k at *
  have hb : ∀ j, x.testBit j = (decide (j ≥ k) && (2 * m + 1).testBit (j - k)) := by
    intro j
    rw [h1, Nat.mul_comm, Nat.testBit_mul_two_pow]
  have hk : x.testBit k = true := by
    rw [hb]
    simp [Nat.testBit_zero]
  have hl : ∀ j, j < k → x.testBit j = false := fun j hj => by
    rw [hb]
    simp
    omega
  refine ⟨hk, h2, hl, fun p => ?_⟩
  have hx1 : x - 1 = 2 ^ k * (2 * m) + (2 ^ k - 1) := by
    have : 0 < 2 ^ k := Nat.two_pow_pos k
    have e2 : x = 2 ^ k * (2 * m) + 2 ^ k := by rw [h1]; simp [Nat.mul_add]
    omega
  have hc : (x - 1).testBit p = if p < k then true else (2 * m).testBit (p - k) := by
    rw [hx1, Nat.testBit_two_pow_mul_add _ (by have : 0 < 2 ^ k := Nat.two_pow_pos k; omega)]
    by_cases hp : p < k
    · rw [if_pos hp, if_pos hp, Nat.testBit_two_pow_sub_one]; simp [hp]
    · rw [if_neg hp, if_neg hp]
  rw [Nat.testBit_and, hc]
  by_cases hp : p < k
  · rw [hl p hp]; simp
  · rw [if_neg hp]
    by_cases e3 : p = k
    · subst e3
      simp [Nat.testBit_zero]
    · rw [hb p]
      obtain ⟨c, hc'⟩ : ∃ c, p - k = c + 1 := ⟨p - k - 1, by omega⟩
      rw [hc']
      simp only [Nat.testBit_succ]
      have : (2 * m + 1) / 2 = (2 * m) / 2 := by omega
      rw [this]
      simp [e3]
/-- the least of the rest is the j-th -/
theorem Rest.least {W j V : Nat} (h : Rest W j V) (h0 : V ≠ 0) (hV : V < 18446744073709551616) : W.testBit (Lib.ctz 64 V) = true ∧ popN (Lib.ctz 64 V) W = j ∧ Lib.ctz 64 V < 64 := by
  obtain ⟨h1, h2, h3, -⟩ := low_bit h0 hV
  rw [h] at h1
  simp at h1
  refine ⟨h1.1, ?_, h2⟩
  rcases Nat.lt_or_ge j (popN (Lib.ctz 64 V) W) with hl | hl
  · obtain ⟨p, q1, q2, q3⟩ := pop_find _ hl
    have := h3 p q1
    rw [h, q2, q3] at this
    simp at this
  · omega
theorem Rest.step {W j V : Nat} (h : Rest W j V) (h0 : V ≠ 0) (hV : V < 18446744073709551616) : Rest W (j + 1) (V &&& (V - 1)) := by
  obtain ⟨-, -, h3, h4⟩ := low_bit h0 hV
  obtain ⟨l1, l2, -⟩ := h.least h0 hV
  intro p
  rw [h4, h]
  generalize Lib.ctz 64 V = c at *
  by_cases hw : W.testBit p = true
  · rw [hw]
    rcases Nat.lt_trichotomy p c with hl | hl | hl
    · have := h3 p hl
      rw [h, hw] at this
      have h5 : ¬(j ≤ popN p W) := by simpa using this
      rw [decide_eq_false h5, decide_eq_false (show ¬(j + 1 ≤ popN p W) by omega)]
      simp
    · subst hl
      simp
      omega
    · have := popN_mono W (show c + 1 ≤ p by omega)
      rw [popN_succ, if_pos l1] at this
      rw [decide_eq_true (show j ≤ popN p W by omega), decide_eq_true (show j + 1 ≤ popN p W by omega), decide_eq_false (show ¬(p = c) by omega)]
      rfl
  · simp [hw]
theorem Rest.some {W j V : Nat} (h : Rest W j V) (hj : j < popN 64 W) : V ≠ 0 := by
  obtain ⟨p, -, h2, h3⟩ := pop_find 64 hj
  intro e
  have := h p
  rw [e, h2, h3] at this
  simp at this
/-- where the k-th 1 of the first n stands; -1 -/
def selI (W : Nat) : Nat → Int → Int
  | 0, _ => -1
  | n + 1, k => if W.testBit n = true ∧ (popN n W : Int) = k then n else selI W n k
theorem selI_none {W : Nat} {k : Int} : ∀ {n}, (popN n W : Int) ≤ k ∨ k < 0 → selI W n k = -1
  | 0, _ => rfl
  | n + 1, h => by
    have hs := popN_succ n W
    have : ¬(W.testBit n = true ∧ (popN n W : Int) = k) := by
      rintro ⟨h1, h2⟩
      rw [if_pos h1] at hs
      omega
    unfold selI
    rw [if_neg this]
    have := popN_mono W (show n ≤ n + 1 by omega)
    exact selI_none (by omega)
theorem selI_at {W p : Nat} (hp : W.testBit p = true) : ∀ {n}, p < n → selI W n (popN p W) = p
  | 0, h => by omega
  | n + 1, h => by
    unfold selI
    by_cases hc : W.testBit n = true ∧ (popN n W : Int) = popN p W
    · rw [if_pos hc, pop_place hc.1 hp (by omega)]
    · rw [if_neg hc]
      by_cases e : p = n
      · subst e
        exact absurd ⟨hp, rfl⟩ hc
      · exact selI_at hp (by omega)
theorem selI_spec {W n : Nat} {k : Int} (h0 : 0 ≤ k) (h : k < popN n W) : ∃ p : Nat, p < n ∧ W.testBit p = true ∧ (popN p W : Int) = k ∧ selI W n k = p := by
  obtain ⟨p, h1, h2, h3⟩ := pop_find (x := W) (k := k.toNat) n (by omega)
  have e : (popN p W : Int) = k := by omega
  exact ⟨p, h1, h2, e, by rw [← e]; exact selI_at h2 h1⟩
/-- the k-th of what is wanted -/
theorem Rest.sel {W n k V : Nat} (h : Rest W k V) (hk : k < popN 64 W) (hW : W < 2 ^ n) (hV : V < 18446744073709551616) : (Lib.ctz 64 V : Int) = selI W n k := by
  obtain ⟨l1, l2, -⟩ := h.least (h.some hk) hV
  generalize Lib.ctz 64 V = c at *
  have hc : c < n := by
    rcases Nat.lt_or_ge c n with g | g
    · exact g
    · rw [test_small hW g] at l1
      cases l1
  rw [← l2]
  exact (selI_at l1 hc).symm
/-! ### The other bits -/

theorem sub_test {x n : Nat} (h : x < 2 ^ n) (j : Nat) : (2 ^ n - 1 - x).testBit j = (decide (j < n) && !x.testBit j) := by
  rw [show 2 ^ n - 1 - x = 2 ^ n - (x + 1) by omega]
  exact Nat.testBit_two_pow_sub_succ h j
end Go.Proofs.YtjbiofjfjljeoaaDoor
namespace Go.Proofs.YtjbiofjfjljeoaaDoor
/-- a mask of so many bytes -/
def mskN (m : Nat) : Nat → Nat
  | 0 => 0
  | n + 1 => 256 * mskN m n + m
theorem mskN_succ (m n : Nat) : mskN m (n + 1) = 256 * mskN m n + m := rfl
theorem and_split (q r a b : Nat) (hr : r < 256) (hb : b < 256) : (256 * q + r) &&& (256 * a + b) = 256 * (q &&& a) + (r &&& b) := by
  have hrb : r &&& b < 2 ^ 8 := Nat.and_lt_two_pow _ hb
  have e1 : (256 * q + r) = 2 ^ 8 * q + r := rfl
  have e2 : (256 * a + b) = 2 ^ 8 * a + b := rfl
  have e3 : 256 * (q &&& a) + (r &&& b) = 2 ^ 8 * (q &&& a) + (r &&& b) := rfl
  rw [e1, e2, e3]
  apply Nat.eq_of_testBit_eq
  intro j
  rw [Nat.testBit_and, Nat.testBit_two_pow_mul_add _ hr, Nat.testBit_two_pow_mul_add _ hb, Nat.testBit_two_pow_mul_add _ hrb]
  by_cases hj : j < 8
  · simp [hj]
  · simp [hj]
/-- the first step, of so many bytes -/
def st1 (n x : Nat) : Nat := (x / 2 &&& mskN 85 n) + (x &&& mskN 85 n)
/-- the second -/
def st2 (n x : Nat) : Nat := (x / 4 &&& mskN 51 n) + (x &&& mskN 51 n)
/-- the third -/
def st3 (n x : Nat) : Nat := (x / 16 + x) &&& mskN 15 n
def b1 (r : Nat) : Nat := (r / 2 &&& 85) + (r &&& 85)
def b2 (r : Nat) : Nat := (r / 4 &&& 51) + (r &&& 51)
theorem half85 : ∀ r : Fin 256, ((128 + r.val / 2) &&& 85) = (r.val / 2 &&& 85) := by decide +kernel
theorem quar51 : ∀ r : Fin 256, ((64 + r.val / 4) &&& 51) = (r.val / 4 &&& 51) ∧ ((128 + r.val / 4) &&& 51) = (r.val / 4 &&& 51) ∧ ((192 + r.val / 4) &&& 51) = (r.val / 4 &&& 51) := by decide +kernel
theorem b1_lt : ∀ r : Fin 256, b1 r.val < 256 := by decide +kernel
theorem b21 : ∀ r : Fin 256, b2 (b1 r.val) ≤ 68 ∧ b2 (b1 r.val) % 16 ≤ 4 := by decide +kernel
theorem b321 : ∀ r : Fin 256, ((b2 (b1 r.val) / 16 + b2 (b1 r.val)) &&& 15) = popN 8 r.val ∧ ((16 + b2 (b1 r.val) / 16 + b2 (b1 r.val)) &&& 15) = popN 8 r.val ∧ ((32 + b2 (b1 r.val) / 16 + b2 (b1 r.val)) &&& 15) = popN 8 r.val ∧ ((48 + b2 (b1 r.val) / 16 + b2 (b1 r.val)) &&& 15) = popN 8 r.val ∧ ((64 + b2 (b1 r.val) / 16 + b2 (b1 r.val)) &&& 15) = popN 8 r.val := by decide +kernel
theorem st1_step (n q r : Nat) (hr : r < 256) : st1 (n + 1) (256 * q + r) = 256 * st1 n q + b1 r := by
  unfold st1 b1
  have e : (256 * q + r) / 2 = 256 * (q / 2) + (q % 2 * 128 + r / 2) := by omega
  rw [mskN_succ, e, and_split _ _ _ _ hr (by omega), and_split _ _ _ _ (by omega) (by omega)]
  have h : ((q % 2 * 128 + r / 2) &&& 85) = (r / 2 &&& 85) := by
    rcases (show q % 2 = 0 ∨ q % 2 = 1 by omega) with k | k <;> rw [k]
    · simp
    · exact half85 ⟨r, hr⟩
  rw [h]
  omega
theorem st2_step (n q r : Nat) (hr : r < 256) : st2 (n + 1) (256 * q + r) = 256 * st2 n q + b2 r := by
  unfold st2 b2
  have e : (256 * q + r) / 4 = 256 * (q / 4) + (q % 4 * 64 + r / 4) := by omega
  rw [mskN_succ, e, and_split _ _ _ _ hr (by omega), and_split _ _ _ _ (by omega) (by omega)]
  have h : ((q % 4 * 64 + r / 4) &&& 51) = (r / 4 &&& 51) := by
    obtain ⟨g1, g2, g3⟩ := quar51 ⟨r, hr⟩
    rcases (show q % 4 = 0 ∨ q % 4 = 1 ∨ q % 4 = 2 ∨ q % 4 = 3 by omega) with k | k | k | k <;> rw [k]
    · simp
    · exact g1
    · exact g2
    · exact g3
  rw [h]
  omega
theorem st12_step (n q r : Nat) (hr : r < 256) : st2 (n + 1) (st1 (n + 1) (256 * q + r)) = 256 * st2 n (st1 n q) + b2 (b1 r) := by
  rw [st1_step n q r hr, st2_step n _ _ (b1_lt ⟨r, hr⟩)]
theorem st12_low (n q : Nat) : st2 n (st1 n q) % 16 ≤ 4 := by
  cases n with
  | zero => unfold st2 mskN; simp
  | succ n =>
    have e : q = 256 * (q / 256) + q % 256 := by omega
    rw [e, st12_step n _ _ (Nat.mod_lt _ (by omega))]
    have := (b21 ⟨q % 256, Nat.mod_lt _ (by omega)⟩).2
    simp only at this
    omega
/-- all three -/
def st (n x : Nat) : Nat := st3 n (st2 n (st1 n x))
theorem st_step (n q r : Nat) (hr : r < 256) : st (n + 1) (256 * q + r) = 256 * st n q + popN 8 r := by
  unfold st
  rw [st12_step n q r hr]
  have hl := st12_low n q
  obtain ⟨h1, h2⟩ := b21 ⟨r, hr⟩
  obtain ⟨g0, g1, g2, g3, g4⟩ := b321 ⟨r, hr⟩
  simp only at h1 h2 g0 g1 g2 g3 g4
  generalize b2 (b1 r) = R at *
  generalize st2 n (st1 n q) = Q at *
  unfold st3
  have e : (256 * Q + R) / 16 + (256 * Q + R) = 256 * (Q / 16 + Q) + (Q % 16 * 16 + R / 16 + R) := by omega
  rw [mskN_succ, e, and_split _ _ _ _ (by omega) (by omega)]
  congr 1
  rcases (show Q % 16 = 0 ∨ Q % 16 = 1 ∨ Q % 16 = 2 ∨ Q % 16 = 3 ∨ Q % 16 = 4 by omega) with k | k | k | k | k <;> rw [k]
  · simpa using g0
  · exact g1
  · exact g2
  · exact g3
  · exact g4
theorem st_any (n x : Nat) : st (n + 1) x = 256 * st n (x / 256) + popN 8 (x % 256) := by
  have e : x = 256 * (x / 256) + x % 256 := by omega
  have := st_step n (x / 256) (x % 256) (Nat.mod_lt _ (by omega))
  rwa [← e] at this
theorem pop8_mod (x : Nat) : popN 8 (x % 256) = popN 8 x := popN_congr 8 fun j hj => by
  rw [show x % 256 = x % 2 ^ 8 from rfl, Nat.testBit_mod_two_pow]; simp [hj]
theorem pop_byte (n x : Nat) : popN (8 + n) x = popN 8 (x % 256) + popN n (x / 256) := by
  rw [popN_add, pop8_mod]
theorem st_zero (x : Nat) : st 0 x = 0 := by
  unfold st st3 mskN
  exact Nat.and_zero _
def fold1 (y : Nat) : Nat := y + y / 256
def fold2 (y : Nat) : Nat := y + y / 65536
def fold3 (y : Nat) : Nat := y + y / 4294967296
theorem cut1 (a z : Nat) (ha : a < 256) : (a + 256 * z) / 256 = z := by omega
theorem cut2 (a b z : Nat) (ha : a < 256) (hb : b < 256) : (a + 256 * (b + 256 * z)) / 65536 = z := by omega
theorem cut4 (a b c d z : Nat) (ha : a < 256) (hb : b < 256) (hc : c < 256) (hd : d < 256) : (a + 256 * (b + 256 * (c + 256 * (d + 256 * z)))) / 4294967296 = z := by
  have h := cut2 a b (c + 256 * (d + 256 * z)) ha hb
  have h2 := cut2 c d z hc hd
  rw [show (4294967296 : Nat) = 65536 * 65536 from rfl, ← Nat.div_div_eq_div_mul, h, h2]
theorem cutm (s z : Nat) (hs : s < 128) : (s + 256 * z) % 128 = s := by omega
theorem add1 (a b y z : Nat) : (a + 256 * y) + (b + 256 * z) = (a + b) + 256 * (y + z) := by omega
theorem lt8 {y z : Nat} (B C : Nat) (hy : y ≤ B) (hz : z ≤ C) (h : B + 256 * C < 9223372036854775808) : y + 256 * z < 9223372036854775808 := by omega
theorem le8 {y z : Nat} (B C : Nat) (hy : y ≤ B) (hz : z ≤ C) : y + 256 * z ≤ B + 256 * C := by omega
theorem low_bytes {a b c d e f g h : Nat} (ha : a ≤ 64) (hb : b ≤ 64) (hc : c ≤ 64) (hd : d ≤ 64) (he : e ≤ 64) (hf : f ≤ 64) (hg : g ≤ 64) (hh : h ≤ 64) :
    a + 256 * (b + 256 * (c + 256 * (d + 256 * (e + 256 * (f + 256 * (g + 256 * h)))))) < 9223372036854775808 :=
  lt8 64 _ ha (le8 64 _ hb (le8 64 _ hc (le8 64 _ hd (le8 64 _ he (le8 64 _ hf (le8 64 _ hg hh)))))) (by decide)
theorem fold1_eq (a b c d e f g h : Nat) (ha : a ≤ 8) : fold1 (a + 256 * (b + 256 * (c + 256 * (d + 256 * (e + 256 * (f + 256 * (g + 256 * h))))))) = (a + b) + 256 * ((b + c) + 256 * ((c + d) + 256 * ((d + e) + 256 * ((e + f) + 256 * ((f + g) + 256 * ((g + h) + 256 * h)))))) := by
  unfold fold1
  rw [cut1 _ _ (by omega), add1, add1, add1, add1, add1, add1, Nat.add_right_comm g (256 * h) h]
theorem fold2_eq (a b c d e f g h : Nat) (ha : a ≤ 16) (hb : b ≤ 16) : fold2 (a + 256 * (b + 256 * (c + 256 * (d + 256 * (e + 256 * (f + 256 * (g + 256 * h))))))) = (a + c) + 256 * ((b + d) + 256 * ((c + e) + 256 * ((d + f) + 256 * ((e + g) + 256 * ((f + h) + 256 * (g + 256 * h)))))) := by
  unfold fold2
  rw [cut2 _ _ _ (by omega) (by omega), add1, add1, add1, add1, add1, Nat.add_right_comm f (256 * (g + 256 * h)) h]
theorem fold3_eq (a b c d e f g h : Nat) (ha : a ≤ 32) (hb : b ≤ 32) (hc : c ≤ 32) (hd : d ≤ 32) : fold3 (a + 256 * (b + 256 * (c + 256 * (d + 256 * (e + 256 * (f + 256 * (g + 256 * h))))))) = (a + e) + 256 * ((b + f) + 256 * ((c + g) + 256 * ((d + h) + 256 * (e + 256 * (f + 256 * (g + 256 * h)))))) := by
  unfold fold3
  rw [cut4 _ _ _ _ _ (by omega) (by omega) (by omega) (by omega), add1, add1, add1, Nat.add_right_comm d _ h]
theorem bytes_sum (a b c d e f g h y : Nat) (hy : y = a + 256 * (b + 256 * (c + 256 * (d + 256 * (e + 256 * (f + 256 * (g + 256 * h))))))) (ha : a ≤ 8) (hb : b ≤ 8) (hc : c ≤ 8) (hd : d ≤ 8) (he : e ≤ 8) (hf : f ≤ 8) (hg : g ≤ 8) (hh : h ≤ 8) :
    fold1 y < 9223372036854775808 ∧ fold2 (fold1 y) < 9223372036854775808 ∧ fold3 (fold2 (fold1 y)) < 9223372036854775808 ∧ fold3 (fold2 (fold1 y)) % 128 = a + b + (c + d) + (e + f + (g + h)) := by
  subst hy
  rw [fold1_eq _ _ _ _ _ _ _ _ ha, fold2_eq _ _ _ _ _ _ _ _ (by omega) (by omega), fold3_eq _ _ _ _ _ _ _ _ (by omega) (by omega) (by omega) (by omega)]
  exact ⟨low_bytes (by omega) (by omega) (by omega) (by omega) (by omega) (by omega) (by omega) (by omega),
    low_bytes (by omega) (by omega) (by omega) (by omega) (by omega) (by omega) (by omega) (by omega),
    low_bytes (by omega) (by omega) (by omega) (by omega) (by omega) (by omega) (by omega) (by omega), cutm _ _ (by omega)⟩
theorem turn8 (a b c d e f g h : Nat) : 256 * (256 * (256 * (256 * (256 * (256 * (256 * h + g) + f) + e) + d) + c) + b) + a = a + 256 * (b + 256 * (c + 256 * (d + 256 * (e + 256 * (f + 256 * (g + 256 * h)))))) := by
  rw [Nat.add_comm _ a, Nat.add_comm _ b, Nat.add_comm _ c, Nat.add_comm _ d, Nat.add_comm _ e, Nat.add_comm _ f, Nat.add_comm _ g]
theorem st8_eq (x : Nat) : st 8 x = popN 8 (x % 256) + 256 * (popN 8 (x / 256 % 256) + 256 * (popN 8 (x / 256 / 256 % 256) + 256 * (popN 8 (x / 256 / 256 / 256 % 256) + 256 * (popN 8 (x / 256 / 256 / 256 / 256 % 256) + 256 * (popN 8 (x / 256 / 256 / 256 / 256 / 256 % 256) + 256 * (popN 8 (x / 256 / 256 / 256 / 256 / 256 / 256 % 256) + 256 * popN 8 (x / 256 / 256 / 256 / 256 / 256 / 256 / 256 % 256))))))) := by
  rw [st_any 7, st_any 6, st_any 5, st_any 4, st_any 3, st_any 2, st_any 1, st_any 0, st_zero, Nat.mul_zero, Nat.zero_add]
  exact turn8 _ _ _ _ _ _ _ _
/-- the whole count -/
theorem count_word (x : Nat) :
    fold1 (st 8 x) < 9223372036854775808 ∧ fold2 (fold1 (st 8 x)) < 9223372036854775808 ∧ fold3 (fold2 (fold1 (st 8 x))) < 9223372036854775808 ∧ fold3 (fold2 (fold1 (st 8 x))) % 128 = popN 64 x := by
  have hp : popN 64 x = popN 8 (x % 256) + (popN 8 (x / 256 % 256) + (popN 8 (x / 256 / 256 % 256) + (popN 8 (x / 256 / 256 / 256 % 256) + (popN 8 (x / 256 / 256 / 256 / 256 % 256) + (popN 8 (x / 256 / 256 / 256 / 256 / 256 % 256) + (popN 8 (x / 256 / 256 / 256 / 256 / 256 / 256 % 256) + popN 8 (x / 256 / 256 / 256 / 256 / 256 / 256 / 256 % 256))))))) := by
    rw [show (64 : Nat) = 8 + (8 + (8 + (8 + (8 + (8 + (8 + 8)))))) from rfl, pop_byte, pop_byte, pop_byte, pop_byte, pop_byte, pop_byte, pop_byte, pop8_mod (x / 256 / 256 / 256 / 256 / 256 / 256 / 256)]
  obtain ⟨h1, h2, h3, h4⟩ := bytes_sum (popN 8 (x % 256)) (popN 8 (x / 256 % 256)) (popN 8 (x / 256 / 256 % 256)) (popN 8 (x / 256 / 256 / 256 % 256)) (popN 8 (x / 256 / 256 / 256 / 256 % 256)) (popN 8 (x / 256 / 256 / 256 / 256 / 256 % 256)) (popN 8 (x / 256 / 256 / 256 / 256 / 256 / 256 % 256)) (popN 8 (x / 256 / 256 / 256 / 256 / 256 / 256 / 256 % 256)) (st 8 x) (st8_eq x)
    (popN_le _ _) (popN_le _ _) (popN_le _ _) (popN_le _ _) (popN_le _ _) (popN_le _ _) (popN_le _ _) (popN_le _ _)
  refine ⟨h1, h2, h3, ?_⟩
  rw [h4, hp]
  simp only [Nat.add_assoc]
end Go.Proofs.YtjbiofjfjljeoaaDoor
namespace Go.Proofs.YtjbiofjfjljeoaaDoor
open Go.RowKit
/-- whether one may be -/
def rightB (x : Nat) (n : Int) : Bool := decide (0 ≤ n) && (decide (n ≤ 64) && decide (x < 2 ^ n.toNat))
theorem right_nat {x : Nat} {n : Int} (h : rightB x n = true) : ∃ k : Nat, n = k ∧ k ≤ 64 ∧ x < 2 ^ k := by
  unfold rightB at h
  simp at h
  obtain ⟨h1, h2, h3⟩ := h
  exact ⟨n.toNat, by omega, by omega, h3⟩
theorem right_of {x k : Nat} (hk : k ≤ 64) (h : x < 2 ^ k) : rightB x (k : Nat) = true := by
  unfold rightB
  simp [h]
  omega
theorem pow_le64 {k : Nat} (hk : k ≤ 64) : 2 ^ k ≤ 18446744073709551616 := by
  have h : (2 : Nat) ^ k ≤ 2 ^ 64 := Nat.pow_le_pow_right (by omega) hk
  simpa using h
theorem low_word {k : Nat} (hk : k ≤ 64) : IntKind.u64.wrap (IntKind.u64.wrap (2 ^ k) - 1) = ((2 ^ k - 1 : Nat) : Int) := by
  have h := pow_le64 hk
  have h0 : 0 < 2 ^ k := Nat.two_pow_pos k
  have e : ((2 : Int) ^ k) = ((2 ^ k : Nat) : Int) := by rw [Int.natCast_pow]; rfl
  rw [e, IntKind.wrap_u64, IntKind.wrap_u64]
  generalize (2 ^ k : Nat) = x at *
  omega
set_option maxHeartbeats 1000000 in
theorem lowest_any (k : Nat) (hk : k ≤ 64) (w : World) :
    Calls Tryd.prog 85 #[.int .i64 k] w fun e w' => e = .returned (.int .u64 ((2 ^ k - 1 : Nat) : Int)) ∧ w' = w := by
  go_enter Tryd.func85, Tryd.ntmps85
  go_wp2
  go_ret
  exact ⟨by rw [low_word hk]; rfl, rfl⟩
/-- no bit from the k-th on -/
theorem none_above {x k : Nat} (hx : x < 18446744073709551616) (hk : k ≤ 64) : x &&& (18446744073709551615 - (2 ^ k - 1)) = 0 ↔ x < 2 ^ k := by
  have hp := pow_le64 hk
  have hp0 : 0 < 2 ^ k := Nat.two_pow_pos k
  have hb : ∀ j, (18446744073709551615 - (2 ^ k - 1)).testBit j = (decide (j < 64) && !decide (j < k)) := by
    intro j
    rw [show 18446744073709551615 - (2 ^ k - 1) = 2 ^ 64 - ((2 ^ k - 1) + 1) by omega, Nat.testBit_two_pow_sub_succ (by omega), Nat.testBit_two_pow_sub_one]
  constructor
  · intro h
    apply small_of_test
    intro j hj
    have := congrArg (fun y => Nat.testBit y j) h
    simp only [Nat.testBit_and, hb, Nat.zero_testBit] at this
    by_cases h64 : j < 64
    · simpa [h64, Nat.not_lt.mpr hj] using this
    · exact test_small (n := 64) (by simpa using hx) (by omega)
  · intro h
    apply Nat.eq_of_testBit_eq
    intro j
    rw [Nat.testBit_and, hb, Nat.zero_testBit]
    by_cases hj : j < k
    · simp [hj]
    · rw [test_small h (by omega)]
      simp
theorem right_word {x k : Nat} (hx : x < 18446744073709551616) (hk : k ≤ 64) : decide (bits BinOp.andNot IntKind.u64 (x : Int) ((2 ^ k - 1 : Nat) : Int) = 0) = rightB x (k : Nat) := by
  have hp := pow_le64 hk
  have hp0 : 0 < 2 ^ k := Nat.two_pow_pos k
  rw [u64_andNot_nat x _ hx (by omega)]
  have := none_above hx hk
  generalize x &&& (18446744073709551615 - (2 ^ k - 1)) = y at *
  by_cases h : x < 2 ^ k
  · rw [right_of hk h, this.2 h]
    rfl
  · have e : rightB x (k : Nat) = false := by unfold rightB; simp [h]
    rw [e]
    apply decide_eq_false
    have h2 : y ≠ 0 := fun hy => h (this.1 hy)
    omega
theorem below_drewN {B : Nat} {a w : World} (h : Below B a w) (n : Nat) : Below B a (w.drewN n) := ⟨h.os, h.tape, h.output, h.size, h.block⟩
set_option maxHeartbeats 1000000 in
theorem right_any (x : Nat) (hx : x < 18446744073709551616) (n : Int) (w : World) :
    Calls Tryd.prog 83 #[.agg #[.int .u64 (x : Nat), .int .i64 n]] w fun e w' => e = .returned (.bool (rightB x n)) ∧ Below w.heap.size w w' := by
  have HB : Hid (Below w.heap.size w _) := (((Below.refl w.heap.size w).alloc (Nat.le_refl _) (.cells #[.int .u64 (x : Nat), .int .i64 n] 93)))
  by_cases h0 : 0 ≤ n
  · have d0 : decide (0 ≤ n) = true := decide_eq_true h0
    by_cases h1 : n ≤ 64
    · obtain ⟨k, rfl⟩ : ∃ k : Nat, n = k := ⟨n.toNat, by omega⟩
      have hk : k ≤ 64 := by omega
      have d1 : decide ((k : Int) ≤ 64) = true := decide_eq_true h1
      have HR : Hid (decide (bits BinOp.andNot IntKind.u64 (x : Int) ((2 ^ k - 1 : Nat) : Int) = 0) = rightB x (k : Nat)) := right_word hx hk
      have T : Hid (∀ W, _) := fun W => lowest_any k hk W
      go_enter Tryd.func83, Tryd.ntmps83
      go_wp2
      go_quiet ((go_at_call 85; exact Calls.quiet_of_same (T.out _)))
      go_wp2
      go_ret
      exact ⟨by rw [← HR.out]; rfl, below_drewN HB.out _⟩
    · have d1 : decide (n ≤ 64) = false := decide_eq_false h1
      have HR : Hid (rightB x n = false) := by show rightB x n = false; unfold rightB; simp [h1]
      go_enter Tryd.func83, Tryd.ntmps83
      go_wp2
      go_quiet (fail)
      go_wp2
      go_ret
      exact ⟨by rw [HR.out]; rfl, below_drewN HB.out _⟩
  · have d0 : decide (0 ≤ n) = false := decide_eq_false h0
    have HR : Hid (rightB x n = false) := by show rightB x n = false; unfold rightB; simp [h0]
    go_enter Tryd.func83, Tryd.ntmps83
    go_wp2
    go_quiet (fail)
    go_wp2
    go_ret
    exact ⟨by rw [HR.out]; rfl, below_drewN HB.out _⟩
/-- a block of one leaf -/
structure LB (w : World) (g : Nat) (x : Nat) (n : Int) : Prop where
  blk : w.heap[g]? = some (.cells #[.int .u64 (x : Nat), .int .i64 n] 93 (0, 0))
theorem LB.lt {w : World} {g x : Nat} {n : Int} (h : LB w g x n) : g < w.heap.size := (Array.getElem?_eq_some_iff.1 h.blk).1
theorem LB.c0 {w : World} {g x : Nat} {n : Int} (h : LB w g x n) : w.cell? ⟨g, 0, none⟩ = some (.int .u64 (x : Nat)) := by
  rw [cell_of_row w g 0 _ _ (0, 0) h.blk]
  rfl
theorem LB.c1 {w : World} {g x : Nat} {n : Int} (h : LB w g x n) : w.cell? ⟨g, 1, none⟩ = some (.int .i64 n) := by
  rw [cell_of_row w g 1 _ _ (0, 0) h.blk]
  rfl
theorem cellsL {w : World} {g x : Nat} {n : Int} (h : LB w g x n) : w.cell? ⟨g, 0, none⟩ = some (.int .u64 (x : Nat)) ∧ w.cell? ⟨g, 1, none⟩ = some (.int .i64 n) := ⟨h.c0, h.c1⟩
theorem LB.f {w : World} {g x : Nat} {n : Int} (h : LB w g x n) (j : Nat) : w.frozen? ⟨g, j, none⟩ = false := by
  simp [World.frozen?, h.blk]
theorem LB.later {w w' : World} {g x : Nat} {n : Int} (h : LB w g x n) (hb : Below w.heap.size w w') : LB w' g x n := ⟨(hb.block g h.lt).trans h.blk⟩
theorem LB.drewN {w : World} {g x : Nat} {n : Int} (h : LB w g x n) (k : Nat) : LB (w.drewN k) g x n := ⟨h.blk⟩
theorem LB.new {w : World} {g : Nat} (hg : g = w.heap.size) (x : Nat) (n : Int) : LB (w.alloc (.cells #[.int .u64 (x : Nat), .int .i64 n] 93)) g x n := by subst hg; exact ⟨heap_alloc_new w _⟩
theorem LB.alloc {w : World} {g x : Nat} {n : Int} (h : LB w g x n) (o : Obj) : LB (w.alloc o) g x n := ⟨(Below.heap_alloc w o g h.lt).trans h.blk⟩
theorem LB.off {w : World} {g x : Nat} {n : Int} (h : LB w g x n) {a : Addr} (ha : g ≠ a.block) (u : Value) : LB (w.setCell a u) g x n := ⟨(heap_setCell_other w a g u ha).trans h.blk⟩
theorem LB.set {w : World} {g x : Nat} {n : Int} (h : LB w g x n) (y : Nat) (m : Int) : LB ((w.setCell ⟨g, 0, none⟩ (.int .u64 (y : Nat))).setCell ⟨g, 1, none⟩ (.int .i64 m)) g y m := by
  have h1 := heap_setCell_same w g 0 _ _ (.int .u64 (y : Nat)) h.blk
  exact ⟨(heap_setCell_same _ g 1 _ _ (.int .i64 m) h1).trans rfl⟩
/-- whether there is an i-th bit -/
def hasB (x : Nat) (n i : Int) : Bool := rightB x n && (decide (0 ≤ i) && decide (i < n))
theorem has_nat {x : Nat} {n i : Int} (h : hasB x n i = true) : ∃ k j : Nat, n = k ∧ i = j ∧ k ≤ 64 ∧ x < 2 ^ k ∧ j < k := by
  unfold hasB at h
  simp at h
  obtain ⟨h1, h2, h3⟩ := h
  obtain ⟨k, rfl, h4, h5⟩ := right_nat h1
  exact ⟨k, i.toNat, rfl, by omega, h4, h5, by omega⟩
set_option maxHeartbeats 1000000 in
theorem lhas_any (x : Nat) (hx : x < 18446744073709551616) (n i : Int) (w : World) :
    Calls Tryd.prog 87 #[.agg #[.int .u64 (x : Nat), .int .i64 n], .int .i64 i] w fun e w' => e = .returned (.bool (hasB x n i)) ∧ Below w.heap.size w w' := by
  have HB : Hid (Below w.heap.size w _) := (((Below.refl w.heap.size w).alloc (Nat.le_refl _) (.cells #[.int .u64 (x : Nat), .int .i64 n] 93)))
  have T : Hid (∀ W, _) := fun W => right_any x hx n W
  have HN : Hid (hasB x n i = (rightB x n && (decide (0 ≤ i) && decide (i < n)))) := rfl
  have HC : Hid (LB _ _ _ _) := LB.new (w := w) rfl x n
  have HS : Hid (w.heap.size ≤ (w.alloc (.cells #[.int .u64 (x : Nat), .int .i64 n] 93)).heap.size) := HB.out.size
  rcases hR : rightB x n with _ | _
  · rw [hR] at T HN
    go_enter Tryd.func87, Tryd.ntmps87
    go_wp2_with (go_at_call 83; fail)
    refine (T.out _).mono ?_
    rintro e w1 ⟨rfl, hb⟩
    have HB1 : Hid (Below w.heap.size w w1) := HB.out.trans (hb.mono HS.out)
    clear hb HB
    go_wp2
    go_ret
    exact ⟨by rw [HN.out]; rfl, HB1.out⟩
  · rw [hR] at T HN
    go_enter Tryd.func87, Tryd.ntmps87
    go_wp2_with (go_at_call 83; fail)
    refine (T.out _).mono ?_
    rintro e w1 ⟨rfl, hb⟩
    have HB1 : Hid (Below w.heap.size w w1) := HB.out.trans (hb.mono HS.out)
    have c1 := (HC.out.later hb).c1
    clear hb HB
    by_cases h0 : 0 ≤ i
    · have d0 : decide (0 ≤ i) = true := decide_eq_true h0
      rw [d0] at HN
      go_wp2
      go_ret
      exact ⟨by rw [HN.out]; rfl, HB1.out⟩
    · have d0 : decide (0 ≤ i) = false := decide_eq_false h0
      rw [d0] at HN
      go_wp2
      go_ret
      exact ⟨by rw [HN.out]; rfl, HB1.out⟩
def oneN (b : Bool) : Nat := if b then 1 else 0
set_option maxHeartbeats 1000000 in
theorem single_any (b : Bool) (w : World) :
    Calls Tryd.prog 90 #[.bool b] w fun e w' => e = .returned (.agg #[.int .u64 (oneN b : Nat), .int .i64 1]) ∧ Below w.heap.size w w' := by
  cases b with
  | false =>
    go_enter Tryd.func90, Tryd.ntmps90
    go_wp2
    exact bodyPost_ret (v := .agg #[.int .u64 0, .int .i64 1]) (by simp [results, Tryd.results90, go_sem]) rfl ⟨rfl, (Below.refl w.heap.size w).alloc (Nat.le_refl _) _⟩
  | true =>
    go_enter Tryd.func90, Tryd.ntmps90
    go_wp2
    exact bodyPost_ret (v := .agg #[.int .u64 1, .int .i64 1]) (by simp [results, Tryd.results90, go_sem]) rfl ⟨rfl, (Below.refl w.heap.size w).alloc (Nat.le_refl _) _⟩
theorem join_word {x y n m : Nat} (hx : x < 2 ^ n) (hy : y < 2 ^ m) (hnm : n + m ≤ 64) : bits BinOp.or IntKind.u64 (x : Int) (IntKind.u64.wrap ((y : Int) * 2 ^ n)) = ((x ||| y * 2 ^ n : Nat) : Int) ∧ (x ||| y * 2 ^ n) < 2 ^ (n + m) := by
  have hp := pow_le64 hnm
  have hn := pow_le64 (show n ≤ 64 by omega)
  have h1 : y * 2 ^ n < 2 ^ (n + m) := by
    rw [Nat.pow_add, Nat.mul_comm (2 ^ n)]
    exact (Nat.mul_lt_mul_right (Nat.two_pow_pos n)).2 hy
  have h2 : x < 2 ^ (n + m) := Nat.lt_of_lt_of_le hx (Nat.pow_le_pow_right (by omega) (by omega))
  have e : IntKind.u64.wrap ((y : Int) * 2 ^ n) = ((y * 2 ^ n : Nat) : Int) := by
    have e1 : ((y : Int) * 2 ^ n) = ((y * 2 ^ n : Nat) : Int) := by rw [Int.natCast_mul, Int.natCast_pow]; rfl
    rw [e1, IntKind.wrap_u64]
    generalize y * 2 ^ n = z at *
    omega
  rw [e, bits_or_u64_nat x _ (by omega) (by omega)]
  exact ⟨rfl, Nat.or_lt_two_pow h2 h1⟩
set_option maxHeartbeats 4000000 in
theorem join_yes {x y n m : Nat} (hx : x < 2 ^ n) (hy : y < 2 ^ m) (hnm : n + m ≤ 64) (w : World) :
    Calls Tryd.prog 89 #[.agg #[.int .u64 (x : Nat), .int .i64 (n : Nat)], .agg #[.int .u64 (y : Nat), .int .i64 (m : Nat)]] w fun e w' => e = .returned (.tuple #[.agg #[.int .u64 ((x ||| y * 2 ^ n : Nat) : Int), .int .i64 ((n + m : Nat) : Int)], .bool true]) ∧ Below w.heap.size w w' := by
  have hp := pow_le64 (show n ≤ 64 by omega)
  have hp2 := pow_le64 (show m ≤ 64 by omega)
  have T1 : Hid (∀ W, _) := fun W => right_any x (by omega) (n : Nat) W
  have T2 : Hid (∀ W, _) := fun W => right_any y (by omega) (m : Nat) W
  rw [right_of (by omega) hx] at T1
  rw [right_of (by omega) hy] at T2
  obtain ⟨e0, -⟩ := join_word hx hy hnm
  have HE : Hid (_ = _) := e0
  clear e0
  go_enter Tryd.func89, Tryd.ntmps89
  go_wp2_with (go_at_call 83; fail)
  refine (T1.out _).mono ?_
  rintro e w1 ⟨rfl, hb1⟩
  have hB1 : Below w.heap.size w w1 := ((((Below.refl w.heap.size w).alloc (Nat.le_refl _) _).alloc (by simp) _).alloc (by simp; omega) _).trans (hb1.mono (by simp; omega))
  have l1 : LB w1 w.heap.size x n := (((LB.new rfl x n).alloc _).alloc _).later hb1
  have l2 : LB w1 (w.heap.size + 1) y m := ((LB.new (by simp) y m).alloc _).later hb1
  have l3 : LB w1 (w.heap.size + 1 + 1) 0 0 := (LB.new (by simp) 0 0).later hb1
  have c10 := l1.c0
  have c11 := l1.c1
  have c20 := l2.c0
  have c21 := l2.c1
  have HB1 : Hid (Below _ _ _) := hB1
  have HL1 : Hid (LB _ _ _ _) := l1
  have HL2 : Hid (LB _ _ _ _) := l2
  have HL3 : Hid (LB _ _ _ _) := l3
  clear hb1 hB1 l1 l2 l3
  go_wp2_with (go_at_call 83; fail)
  refine (T2.out _).mono ?_
  rintro e w2 ⟨rfl, hb2⟩
  clear c10 c11 c20 c21
  have hB2 : Below w.heap.size w w2 := HB1.out.trans (hb2.mono HB1.out.size)
  have l1 := HL1.out.later hb2
  have l2 := HL2.out.later hb2
  have l3 := HL3.out.later hb2
  have c10 := l1.c0
  have c11 := l1.c1
  have c20 := l2.c0
  have c21 := l2.c1
  have c30 := l3.c0
  have c31 := l3.c1
  have f30 := l3.f 0
  have f31 := l3.f 1
  have HB2 : Hid (Below _ _ _) := hB2
  clear hb2 hB2 l1 l2 l3 HL1 HL2 HL3 HB1
  go_wp2
  go_region
  go_wp2
  rw [HE.out]
  exact bodyPost_ret (v := .tuple #[.agg #[.int .u64 ((x ||| y * 2 ^ n : Nat) : Int), .int .i64 ((n + m : Nat) : Int)], .bool true]) (by simp [results, Tryd.results89, go_sem, c30, c31]) rfl ⟨rfl, below_drewN ((HB2.out.setCell (by simp; omega) _).setCell (by simp; omega) _) 1⟩
end Go.Proofs.YtjbiofjfjljeoaaDoor
namespace Go.Proofs.YtjbiofjfjljeoaaDoor
open Go.RowKit
theorem msk85 : mskN 85 8 = 6148914691236517205 := rfl
theorem msk51 : mskN 51 8 = 3689348814741910323 := rfl
theorem msk15 : mskN 15 8 = 1085102592571150095 := rfl
theorem and_le_r (a b : Nat) : a &&& b ≤ b := Nat.and_le_right
theorem on1 {x : Nat} (hx : x < 18446744073709551616) : IntKind.u64.wrap (bits BinOp.and IntKind.u64 ((x : Int) / 2) 6148914691236517205 + bits BinOp.and IntKind.u64 (x : Int) 6148914691236517205) = ((st1 8 x : Nat) : Int) ∧ st1 8 x < 18446744073709551616 := by
  have e0 : ((x : Int) / 2) = ((x / 2 : Nat) : Int) := by omega
  have h1 := and_le_r (x / 2) 6148914691236517205
  have h2 := and_le_r x 6148914691236517205
  rw [e0, show (6148914691236517205 : Int) = ((6148914691236517205 : Nat) : Int) from rfl, bits_and_u64_nat _ _ (by omega) (by omega), bits_and_u64_nat _ _ hx (by omega), IntKind.wrap_u64]
  unfold st1
  rw [msk85]
  generalize x / 2 &&& 6148914691236517205 = a at *
  generalize x &&& 6148914691236517205 = b at *
  omega
theorem on2 {x : Nat} (hx : x < 18446744073709551616) : IntKind.u64.wrap (bits BinOp.and IntKind.u64 ((x : Int) / 4) 3689348814741910323 + bits BinOp.and IntKind.u64 (x : Int) 3689348814741910323) = ((st2 8 x : Nat) : Int) ∧ st2 8 x < 18446744073709551616 := by
  have e0 : ((x : Int) / 4) = ((x / 4 : Nat) : Int) := by omega
  have h1 := and_le_r (x / 4) 3689348814741910323
  have h2 := and_le_r x 3689348814741910323
  rw [e0, show (3689348814741910323 : Int) = ((3689348814741910323 : Nat) : Int) from rfl, bits_and_u64_nat _ _ (by omega) (by omega), bits_and_u64_nat _ _ hx (by omega), IntKind.wrap_u64]
  unfold st2
  rw [msk51]
  generalize x / 4 &&& 3689348814741910323 = a at *
  generalize x &&& 3689348814741910323 = b at *
  omega
theorem and_mod (a m : Nat) (hm : m < 18446744073709551616) : (a % 18446744073709551616) &&& m = a &&& m := by
  apply Nat.eq_of_testBit_eq
  intro j
  rw [Nat.testBit_and, Nat.testBit_and, show (18446744073709551616 : Nat) = 2 ^ 64 from rfl, Nat.testBit_mod_two_pow]
  by_cases hj : j < 64
  · simp [hj]
  · rw [test_small (x := m) (n := 64) (by simpa using hm) (by omega)]
    simp
theorem on3 {x : Nat} : bits BinOp.and IntKind.u64 (IntKind.u64.wrap ((x : Int) / 16 + (x : Int))) 1085102592571150095 = ((st3 8 x : Nat) : Int) := by
  have e0 : ((x : Int) / 16 + (x : Int)) = ((x / 16 + x : Nat) : Int) := by omega
  rw [e0, IntKind.wrap_u64]
  unfold st3
  rw [msk15]
  generalize x / 16 + x = a
  have e1 : ((a : Int) % 18446744073709551616) = ((a % 18446744073709551616 : Nat) : Int) := by omega
  rw [e1, show (1085102592571150095 : Int) = ((1085102592571150095 : Nat) : Int) from rfl, bits_and_u64_nat _ _ (by omega) (by omega), and_mod _ _ (by omega)]
theorem on4 {x : Nat} (h : fold1 x < 9223372036854775808) : IntKind.u64.wrap ((x : Int) + (x : Int) / 256) = ((fold1 x : Nat) : Int) := by
  rw [IntKind.wrap_u64]
  unfold fold1 at *
  omega
theorem on5 {x : Nat} (h : fold2 x < 9223372036854775808) : IntKind.u64.wrap ((x : Int) + (x : Int) / 65536) = ((fold2 x : Nat) : Int) := by
  rw [IntKind.wrap_u64]
  unfold fold2 at *
  omega
theorem on6 {x : Nat} (h : fold3 x < 9223372036854775808) : IntKind.u64.wrap ((x : Int) + (x : Int) / 4294967296) = ((fold3 x : Nat) : Int) := by
  rw [IntKind.wrap_u64]
  unfold fold3 at *
  omega
theorem on7 {x : Nat} (h : x < 9223372036854775808) : bits BinOp.and IntKind.i64 (wrap64 (x : Int)) 127 = ((x % 128 : Nat) : Int) := by
  have e : wrap64 (x : Int) = x := by unfold wrap64; omega
  rw [e]
  have h1 : (BitVec.ofInt 64 (x : Int)).toNat = x := by
    rw [BitVec.ofInt_natCast, BitVec.toNat_ofNat]; exact Nat.mod_eq_of_lt (by omega)
  show IntKind.i64.wrap ((BitVec.ofInt 64 (x : Int) &&& BitVec.ofInt 64 127).toNat : Int) = _
  rw [BitVec.toNat_and, h1, show (BitVec.ofInt 64 127).toNat = 127 from rfl, show (127 : Nat) = 2 ^ 7 - 1 from rfl, Nat.and_two_pow_sub_one_eq_mod, IntKind.wrap_i64]
  omega
set_option maxHeartbeats 1000000 in
theorem ones_any (x : Nat) (hx : x < 18446744073709551616) (w : World) :
    Calls Tryd.prog 86 #[.int .u64 (x : Nat)] w fun e w' => e = .returned (.int .i64 ((popN 64 x : Nat) : Int)) ∧ w' = w := by
  obtain ⟨e1, h1⟩ := on1 hx
  obtain ⟨e2, h2⟩ := on2 h1
  have e3 := @on3 (st2 8 (st1 8 x))
  obtain ⟨c1, c2, c3, c4⟩ := count_word x
  unfold st at c1 c2 c3 c4
  have e4 := on4 c1
  have e5 := on5 c2
  have e6 := on6 c3
  have e7 := on7 c3
  rw [c4] at e7
  have H1 : Hid (_ = _) := e1
  have H2 : Hid (_ = _) := e2
  have H3 : Hid (_ = _) := e3
  have H4 : Hid (_ = _) := e4
  have H5 : Hid (_ = _) := e5
  have H6 : Hid (_ = _) := e6
  have H7 : Hid (_ = _) := e7
  clear e1 e2 e3 e4 e5 e6 e7 h1 h2 c1 c2 c3 c4
  go_enter Tryd.func86, Tryd.ntmps86
  go_wp2
  simp only [H1.out, H2.out, H3.out, H4.out, H5.out, H6.out, H7.out]
  go_ret
  exact ⟨rfl, rfl⟩
end Go.Proofs.YtjbiofjfjljeoaaDoor
namespace Go.Proofs.YtjbiofjfjljeoaaDoor
open Go.RowKit
/-- its bit -/
def getB (x : Nat) (n i : Int) : Bool := hasB x n i && x.testBit i.toNat
theorem shr_nat (x c : Nat) : (x : Int) / 2 ^ c = ((x / 2 ^ c : Nat) : Int) := by
  rw [Int.natCast_ediv, Int.natCast_pow]
  rfl
theorem get_word {x j : Nat} (hx : x < 18446744073709551616) : decide (bits BinOp.and IntKind.u64 ((x : Int) / 2 ^ j) 1 = 1) = x.testBit j := by
  have h : x / 2 ^ j < 18446744073709551616 := Nat.lt_of_le_of_lt (Nat.div_le_self _ _) hx
  rw [shr_nat, show (1 : Int) = ((1 : Nat) : Int) from rfl, bits_and_u64_nat _ 1 h (by omega), nat_mask1, Nat.testBit_eq_decide_div_mod_eq]
  apply decide_eq_decide.2
  omega
set_option maxHeartbeats 4000000 in
theorem lget_any (x : Nat) (hx : x < 18446744073709551616) (n i : Int) (w : World) :
    Calls Tryd.prog 66 #[.agg #[.int .u64 ((x : Nat) : Int), .int .i64 n], .int .i64 i] w fun e w' => e = .returned (.bool (getB x n i)) ∧ Below w.heap.size w w' := by
  have T1 : Hid (∀ W, _) := fun W => lhas_any x hx n i W
  by_cases hh : hasB x n i = true
  · have hh2 := hh
    obtain ⟨n, j, rfl, rfl, h1, h2, h3⟩ := has_nat hh2
    have HG : Hid (getB x n j = x.testBit j) := by show getB x n j = x.testBit j; unfold getB; rw [hh]; rfl
    have HV : Hid (_ = _) := get_word (j := j) hx
    rw [hh] at T1
    have hj : (j : Int) < 64 := by omega
    clear hh hh2
    go_enter Tryd.func66, Tryd.ntmps66
    go_wp2_with (go_at_call 87; fail)
    refine (T1.out _).mono ?_
    rintro e w1 ⟨rfl, hb⟩
    have hB : Below w.heap.size w w1 := ((Below.refl w.heap.size w).alloc (by first | omega | (simp <;> omega)) _).trans (hb.mono (by simp <;> omega))
    have la : LB w1 (w.heap.size) (x) ((n : Nat)) := (LB.new (by simp) (x) ((n : Nat))).later hb
    clear hb
    have La : Hid (LB _ _ _ _) := la
    have HB : Hid (Below _ _ _) := hB
    clear hB la
    obtain ⟨c0a, c1a⟩ := cellsL La.out
    have t0a := La.out.lt
    go_wp2
    go_ret
    exact ⟨by rw [HG.out, ← HV.out]; rfl, HB.out⟩
  have hh2 : hasB x n i = false := by simpa using hh
  have HG : Hid (getB x n i = false) := by show getB x n i = false; unfold getB; rw [hh2]; rfl
  rw [hh2] at T1
  clear hh hh2
  go_enter Tryd.func66, Tryd.ntmps66
  go_wp2_with (go_at_call 87; fail)
  refine (T1.out _).mono ?_
  rintro e w1 ⟨rfl, hb⟩
  have hB : Below w.heap.size w w1 := ((Below.refl w.heap.size w).alloc (by first | omega | (simp <;> omega)) _).trans (hb.mono (by simp <;> omega))
  have la : LB w1 (w.heap.size) (x) (n) := (LB.new (by simp) (x) (n)).later hb
  clear hb
  have La : Hid (LB _ _ _ _) := la
  have HB : Hid (Below _ _ _) := hB
  clear hB la
  go_wp2
  go_ret
  exact ⟨by rw [HG.out]; rfl, HB.out⟩
theorem split_word {x n c : Nat} (hx : x < 2 ^ n) (hn : n ≤ 64) (hc : c ≤ n) : bits BinOp.and IntKind.u64 (x : Int) ((2 ^ c - 1 : Nat) : Int) = ((x % 2 ^ c : Nat) : Int) ∧ (x : Int) / 2 ^ c = ((x / 2 ^ c : Nat) : Int) ∧ x % 2 ^ c < 2 ^ c ∧ x / 2 ^ c < 2 ^ (n - c) := by
  have h1 := pow_le64 hn
  have h2 := pow_le64 (show c ≤ 64 by omega)
  have h3 : 0 < 2 ^ c := Nat.two_pow_pos c
  refine ⟨?_, shr_nat x c, Nat.mod_lt _ h3, ?_⟩
  · rw [bits_and_u64_nat x _ (by omega) (by omega), Nat.and_two_pow_sub_one_eq_mod]
  · rw [Nat.div_lt_iff_lt_mul h3, ← Nat.pow_add, Nat.sub_add_cancel hc]
    exact hx
end Go.Proofs.YtjbiofjfjljeoaaDoor
namespace Go.Proofs.YtjbiofjfjljeoaaDoor
open Go.RowKit
theorem at2_set {W : World} {g h x : Nat} {n : Int} (hs : W.cell? ⟨g, 0, none⟩ = some (.int .u64 (x : Nat)) ∧ W.cell? ⟨g, 1, none⟩ = some (.int .i64 n)) (hne : h ≠ g) (u v : Value) : ((W.setCell ⟨h, 0, none⟩ u).setCell ⟨h, 1, none⟩ v).cell? ⟨g, 0, none⟩ = some (.int .u64 (x : Nat)) ∧ ((W.setCell ⟨h, 0, none⟩ u).setCell ⟨h, 1, none⟩ v).cell? ⟨g, 1, none⟩ = some (.int .i64 n) := by
  refine ⟨?_, ?_⟩
  · rw [World.cell?_setCell_far _ _ _ _ hne, World.cell?_setCell_far _ _ _ _ hne]; exact hs.1
  · rw [World.cell?_setCell_far _ _ _ _ hne, World.cell?_setCell_far _ _ _ _ hne]; exact hs.2
theorem cell_drew (W : World) (a : Addr) : W.drew.cell? a = W.cell? a := rfl
theorem at2_one {W : World} {g h x : Nat} {n : Int} (hs : W.cell? ⟨g, 0, none⟩ = some (.int .u64 (x : Nat)) ∧ W.cell? ⟨g, 1, none⟩ = some (.int .i64 n)) (hne : h ≠ g) (u v : Value) : ((W.setCell ⟨h, 0, none⟩ u).setCell ⟨h, 1, none⟩ v).drew.cell? ⟨g, 0, none⟩ = some (.int .u64 (x : Nat)) ∧ ((W.setCell ⟨h, 0, none⟩ u).setCell ⟨h, 1, none⟩ v).drew.cell? ⟨g, 1, none⟩ = some (.int .i64 n) := by
  rw [cell_drew, cell_drew]
  exact at2_set hs hne u v
theorem at2_two {W : World} {g h k x : Nat} {n : Int} (hs : W.cell? ⟨g, 0, none⟩ = some (.int .u64 (x : Nat)) ∧ W.cell? ⟨g, 1, none⟩ = some (.int .i64 n)) (hne : h ≠ g) (hne2 : k ≠ g) (u v u2 v2 : Value) : ((((W.setCell ⟨h, 0, none⟩ u).setCell ⟨h, 1, none⟩ v).setCell ⟨k, 0, none⟩ u2).setCell ⟨k, 1, none⟩ v2).drew.cell? ⟨g, 0, none⟩ = some (.int .u64 (x : Nat)) ∧ ((((W.setCell ⟨h, 0, none⟩ u).setCell ⟨h, 1, none⟩ v).setCell ⟨k, 0, none⟩ u2).setCell ⟨k, 1, none⟩ v2).drew.cell? ⟨g, 1, none⟩ = some (.int .i64 n) := by
  rw [cell_drew, cell_drew]
  exact at2_set (at2_set hs hne u v) hne2 u2 v2
set_option maxHeartbeats 4000000 in
theorem split_neg {x n : Nat} {i : Int} (hx : x < 2 ^ n) (hn : n ≤ 64) (hi : i < 0) (w : World) :
    Calls Tryd.prog 84 #[.agg #[.int .u64 ((x : Nat) : Int), .int .i64 (n : Nat)], .int .i64 i] w fun e w' => e = .returned (.tuple #[.agg #[.int .u64 0, .int .i64 0], .agg #[.int .u64 ((x : Nat) : Int), .int .i64 (n : Nat)]]) ∧ Below w.heap.size w w' := by
  have hp := pow_le64 hn
  have T1 : Hid (∀ W, _) := fun W => right_any x (by omega) (n : Nat) W
  rw [right_of hn hx] at T1
  have T2 : Hid (∀ W, Calls Tryd.prog 85 #[.int .i64 0] W fun e w' => e = .returned (.int .u64 0) ∧ w' = W) := fun W => lowest_any 0 (by omega) W
  have HE1 : Hid (bits BinOp.and IntKind.u64 (x : Int) 0 = 0) := by
    show bits BinOp.and IntKind.u64 (x : Int) ((0 : Nat) : Int) = 0
    rw [bits_and_u64_nat x 0 (by omega) (by omega), Nat.and_zero]
    rfl
  have hw0 : IntKind.i64.wrap (n : Int) = n := by rw [IntKind.wrap_i64]; omega
  go_enter Tryd.func84, Tryd.ntmps84
  go_wp2_with (go_at_call 83; fail)
  refine (T1.out _).mono ?_
  rintro e w1 ⟨rfl, hb⟩
  have hB : Below w.heap.size w w1 := ((((Below.refl w.heap.size w).alloc (by first | omega | (simp <;> omega)) _).alloc (by first | omega | (simp <;> omega)) _).alloc (by first | omega | (simp <;> omega)) _).trans (hb.mono (by simp <;> omega))
  have la : LB w1 (w.heap.size) (x) ((n : Nat)) := (((LB.new (by simp) (x) ((n : Nat))).alloc _).alloc _).later hb
  have lr : LB w1 (w.heap.size + 1) (0) (0) := ((LB.new (by simp) (0) (0)).alloc _).later hb
  have ls : LB w1 (w.heap.size + 1 + 1) (0) (0) := (LB.new (by simp) (0) (0)).later hb
  clear hb
  have La : Hid (LB _ _ _ _) := la
  have Lr : Hid (LB _ _ _ _) := lr
  have Ls : Hid (LB _ _ _ _) := ls
  have HB : Hid (Below _ _ _) := hB
  clear hB la lr ls
  obtain ⟨c0a, c1a⟩ := cellsL La.out
  have t0a := La.out.lt
  obtain ⟨c0r, c1r⟩ := cellsL Lr.out
  have t0r := Lr.out.lt
  obtain ⟨c0s, c1s⟩ := cellsL Ls.out
  have t0s := Ls.out.lt
  have f0r := Lr.out.f 0
  have f1r := Lr.out.f 1
  have f0s := Ls.out.f 0
  have f1s := Ls.out.f 1
  go_wp2
  have hS1 : w1.cell? ⟨w.heap.size, 0, none⟩ = some (.int .u64 (x : Nat)) ∧ w1.cell? ⟨w.heap.size, 1, none⟩ = some (.int .i64 (n : Nat)) := ⟨c0a, c1a⟩
  have hS0 : w1.drew.cell? ⟨w.heap.size, 0, none⟩ = some (.int .u64 (x : Nat)) ∧ w1.drew.cell? ⟨w.heap.size, 1, none⟩ = some (.int .i64 (n : Nat)) := ⟨c0a, c1a⟩
  go_region_held3 (fun W => W.cell? ⟨w.heap.size, 0, none⟩ = some (.int .u64 (x : Nat)) ∧ W.cell? ⟨w.heap.size, 1, none⟩ = some (.int .i64 (n : Nat))) (first | (with_reducible assumption) | (with_reducible exact at2_one hS1 (by omega) _ _) | (with_reducible exact at2_two hS1 (by omega) (by omega) _ _ _ _)) ((go_at_call 85; with_reducible refine (T2.out _).mono ?_; rintro e w2 ⟨rfl, hw⟩; obtain rfl := hw.symm))
  clear hS0 hS1
  go_wp2
  rw [HE1.out]
  exact bodyPost_ret (v := .tuple #[.agg #[.int .u64 0, .int .i64 0], .agg #[.int .u64 ((x : Nat) : Int), .int .i64 (n : Nat)]]) (by simp [results, Tryd.results84, go_sem, c0r, c1r, c0s, c1s]) rfl ⟨rfl, below_drewN ((((HB.out.setCell (by simp <;> omega) _).setCell (by simp <;> omega) _).setCell (by simp <;> omega) _).setCell (by simp <;> omega) _) 1⟩
set_option maxHeartbeats 4000000 in
theorem split_over {x n : Nat} {i : Int} (hx : x < 2 ^ n) (hn : n ≤ 64) (hi : (n : Int) < i) (w : World) :
    Calls Tryd.prog 84 #[.agg #[.int .u64 ((x : Nat) : Int), .int .i64 (n : Nat)], .int .i64 i] w fun e w' => e = .returned (.tuple #[.agg #[.int .u64 ((x : Nat) : Int), .int .i64 (n : Nat)], .agg #[.int .u64 0, .int .i64 0]]) ∧ Below w.heap.size w w' := by
  have hp := pow_le64 hn
  have T1 : Hid (∀ W, _) := fun W => right_any x (by omega) (n : Nat) W
  rw [right_of hn hx] at T1
  have T2 : Hid (∀ W, _) := fun W => lowest_any n hn W
  obtain ⟨e1, e2, -, -⟩ := split_word hx hn (Nat.le_refl n)
  rw [Nat.mod_eq_of_lt hx] at e1
  rw [Nat.div_eq_of_lt hx] at e2
  have HE1 : Hid (_ = _) := e1
  have HE2 : Hid ((x : Int) / 2 ^ n = 0) := e2
  clear e1 e2
  have hs0 : (0 : Int) ≤ (n : Int) := by omega
  have hs1 : (n : Int) ≤ 64 := by omega
  have hs2 : (0 : Int) < i := by omega
  have hw0 : IntKind.i64.wrap 0 = 0 := by rw [IntKind.wrap_i64]; omega
  go_enter Tryd.func84, Tryd.ntmps84
  go_wp2_with (go_at_call 83; fail)
  refine (T1.out _).mono ?_
  rintro e w1 ⟨rfl, hb⟩
  have hB : Below w.heap.size w w1 := ((((Below.refl w.heap.size w).alloc (by first | omega | (simp <;> omega)) _).alloc (by first | omega | (simp <;> omega)) _).alloc (by first | omega | (simp <;> omega)) _).trans (hb.mono (by simp <;> omega))
  have la : LB w1 (w.heap.size) (x) ((n : Nat)) := (((LB.new (by simp) (x) ((n : Nat))).alloc _).alloc _).later hb
  have lr : LB w1 (w.heap.size + 1) (0) (0) := ((LB.new (by simp) (0) (0)).alloc _).later hb
  have ls : LB w1 (w.heap.size + 1 + 1) (0) (0) := (LB.new (by simp) (0) (0)).later hb
  clear hb
  have La : Hid (LB _ _ _ _) := la
  have Lr : Hid (LB _ _ _ _) := lr
  have Ls : Hid (LB _ _ _ _) := ls
  have HB : Hid (Below _ _ _) := hB
  clear hB la lr ls
  obtain ⟨c0a, c1a⟩ := cellsL La.out
  have t0a := La.out.lt
  obtain ⟨c0r, c1r⟩ := cellsL Lr.out
  have t0r := Lr.out.lt
  obtain ⟨c0s, c1s⟩ := cellsL Ls.out
  have t0s := Ls.out.lt
  have f0r := Lr.out.f 0
  have f1r := Lr.out.f 1
  have f0s := Ls.out.f 0
  have f1s := Ls.out.f 1
  go_wp2
  have hS1 : w1.cell? ⟨w.heap.size, 0, none⟩ = some (.int .u64 (x : Nat)) ∧ w1.cell? ⟨w.heap.size, 1, none⟩ = some (.int .i64 (n : Nat)) := ⟨c0a, c1a⟩
  have hS0 : w1.drew.cell? ⟨w.heap.size, 0, none⟩ = some (.int .u64 (x : Nat)) ∧ w1.drew.cell? ⟨w.heap.size, 1, none⟩ = some (.int .i64 (n : Nat)) := ⟨c0a, c1a⟩
  go_region_held3 (fun W => W.cell? ⟨w.heap.size, 0, none⟩ = some (.int .u64 (x : Nat)) ∧ W.cell? ⟨w.heap.size, 1, none⟩ = some (.int .i64 (n : Nat))) (first | (with_reducible assumption) | (with_reducible exact at2_one hS1 (by omega) _ _) | (with_reducible exact at2_two hS1 (by omega) (by omega) _ _ _ _)) ((go_at_call 85; with_reducible refine (T2.out _).mono ?_; rintro e w2 ⟨rfl, hw⟩; obtain rfl := hw.symm))
  clear hS0 hS1
  go_wp2
  rw [HE1.out, HE2.out]
  exact bodyPost_ret (v := .tuple #[.agg #[.int .u64 ((x : Nat) : Int), .int .i64 (n : Nat)], .agg #[.int .u64 0, .int .i64 0]]) (by simp [results, Tryd.results84, go_sem, c0r, c1r, c0s, c1s]) rfl ⟨rfl, below_drewN ((((HB.out.setCell (by simp <;> omega) _).setCell (by simp <;> omega) _).setCell (by simp <;> omega) _).setCell (by simp <;> omega) _) 1⟩
set_option maxHeartbeats 4000000 in
theorem split_in {x n c : Nat} (hx : x < 2 ^ n) (hn : n ≤ 64) (hc : c ≤ n) (w : World) :
    Calls Tryd.prog 84 #[.agg #[.int .u64 ((x : Nat) : Int), .int .i64 (n : Nat)], .int .i64 (c : Nat)] w fun e w' => e = .returned (.tuple #[.agg #[.int .u64 ((x % 2 ^ c : Nat) : Int), .int .i64 (c : Nat)], .agg #[.int .u64 ((x / 2 ^ c : Nat) : Int), .int .i64 ((n - c : Nat) : Int)]]) ∧ Below w.heap.size w w' := by
  have hp := pow_le64 hn
  have T1 : Hid (∀ W, _) := fun W => right_any x (by omega) (n : Nat) W
  rw [right_of hn hx] at T1
  have T2 : Hid (∀ W, _) := fun W => lowest_any c (by omega) W
  obtain ⟨e1, e2, -, -⟩ := split_word hx hn hc
  have HE1 : Hid (_ = _) := e1
  have HE2 : Hid (_ = _) := e2
  have HE3 : Hid ((n : Int) - (c : Int) = ((n - c : Nat) : Int)) := by show (n : Int) - (c : Int) = ((n - c : Nat) : Int); omega
  clear e1 e2
  have hs0 : (0 : Int) ≤ (c : Int) := by omega
  have hs1 : (c : Int) ≤ 64 := by omega
  have hw0 : IntKind.i64.wrap ((n : Int) - (c : Int)) = (n : Int) - (c : Int) := by rw [IntKind.wrap_i64]; omega
  go_enter Tryd.func84, Tryd.ntmps84
  go_wp2_with (go_at_call 83; fail)
  refine (T1.out _).mono ?_
  rintro e w1 ⟨rfl, hb⟩
  have hB : Below w.heap.size w w1 := ((((Below.refl w.heap.size w).alloc (by first | omega | (simp <;> omega)) _).alloc (by first | omega | (simp <;> omega)) _).alloc (by first | omega | (simp <;> omega)) _).trans (hb.mono (by simp <;> omega))
  have la : LB w1 (w.heap.size) (x) ((n : Nat)) := (((LB.new (by simp) (x) ((n : Nat))).alloc _).alloc _).later hb
  have lr : LB w1 (w.heap.size + 1) (0) (0) := ((LB.new (by simp) (0) (0)).alloc _).later hb
  have ls : LB w1 (w.heap.size + 1 + 1) (0) (0) := (LB.new (by simp) (0) (0)).later hb
  clear hb
  have La : Hid (LB _ _ _ _) := la
  have Lr : Hid (LB _ _ _ _) := lr
  have Ls : Hid (LB _ _ _ _) := ls
  have HB : Hid (Below _ _ _) := hB
  clear hB la lr ls
  obtain ⟨c0a, c1a⟩ := cellsL La.out
  have t0a := La.out.lt
  obtain ⟨c0r, c1r⟩ := cellsL Lr.out
  have t0r := Lr.out.lt
  obtain ⟨c0s, c1s⟩ := cellsL Ls.out
  have t0s := Ls.out.lt
  have f0r := Lr.out.f 0
  have f1r := Lr.out.f 1
  have f0s := Ls.out.f 0
  have f1s := Ls.out.f 1
  go_wp2
  have hS1 : w1.cell? ⟨w.heap.size, 0, none⟩ = some (.int .u64 (x : Nat)) ∧ w1.cell? ⟨w.heap.size, 1, none⟩ = some (.int .i64 (n : Nat)) := ⟨c0a, c1a⟩
  have hS0 : w1.drew.cell? ⟨w.heap.size, 0, none⟩ = some (.int .u64 (x : Nat)) ∧ w1.drew.cell? ⟨w.heap.size, 1, none⟩ = some (.int .i64 (n : Nat)) := ⟨c0a, c1a⟩
  go_region_held3 (fun W => W.cell? ⟨w.heap.size, 0, none⟩ = some (.int .u64 (x : Nat)) ∧ W.cell? ⟨w.heap.size, 1, none⟩ = some (.int .i64 (n : Nat))) (first | (with_reducible assumption) | (with_reducible exact at2_one hS1 (by omega) _ _) | (with_reducible exact at2_two hS1 (by omega) (by omega) _ _ _ _)) ((go_at_call 85; with_reducible refine (T2.out _).mono ?_; rintro e w2 ⟨rfl, hw⟩; obtain rfl := hw.symm))
  clear hS0 hS1
  go_wp2
  rw [HE1.out, HE2.out, HE3.out]
  exact bodyPost_ret (v := .tuple #[.agg #[.int .u64 ((x % 2 ^ c : Nat) : Int), .int .i64 (c : Nat)], .agg #[.int .u64 ((x / 2 ^ c : Nat) : Int), .int .i64 ((n - c : Nat) : Int)]]) (by simp [results, Tryd.results84, go_sem, c0r, c1r, c0s, c1s]) rfl ⟨rfl, below_drewN ((((HB.out.setCell (by simp <;> omega) _).setCell (by simp <;> omega) _).setCell (by simp <;> omega) _).setCell (by simp <;> omega) _) 1⟩
end Go.Proofs.YtjbiofjfjljeoaaDoor
namespace Go.Proofs.YtjbiofjfjljeoaaDoor
open Go.RowKit
/-- the place, as it is taken -/
def clampN (i : Int) (n : Nat) : Nat := if i < 0 then 0 else if (n : Int) < i then n else i.toNat
theorem clampN_le (i : Int) (n : Nat) : clampN i n ≤ n := by
  unfold clampN
  split
  · omega
  · split <;> omega
theorem clampN_in {c n : Nat} (h : c ≤ n) : clampN (c : Int) n = c := by
  unfold clampN
  rw [if_neg (by omega), if_neg (by omega)]
  rfl
theorem split_any {x n : Nat} (hx : x < 2 ^ n) (hn : n ≤ 64) (i : Int) (w : World) :
    Calls Tryd.prog 84 #[.agg #[.int .u64 ((x : Nat) : Int), .int .i64 (n : Nat)], .int .i64 i] w fun e w' => e = .returned (.tuple #[.agg #[.int .u64 ((x % 2 ^ clampN i n : Nat) : Int), .int .i64 (clampN i n : Nat)], .agg #[.int .u64 ((x / 2 ^ clampN i n : Nat) : Int), .int .i64 ((n - clampN i n : Nat) : Int)]]) ∧ Below w.heap.size w w' := by
  unfold clampN
  by_cases h0 : i < 0
  · rw [if_pos h0]
    have h := split_neg hx hn h0 w
    simpa [Nat.mod_one] using h
  · rw [if_neg h0]
    by_cases h1 : (n : Int) < i
    · rw [if_pos h1]
      have h := split_over hx hn h1 w
      simpa [Nat.mod_eq_of_lt hx, Nat.div_eq_of_lt hx] using h
    · rw [if_neg h1]
      obtain ⟨c, rfl⟩ : ∃ c : Nat, i = c := ⟨i.toNat, by omega⟩
      exact split_in hx hn (by omega) w
set_option maxHeartbeats 4000000 in
theorem rank_yes {x n : Nat} (hx : x < 2 ^ n) (hn : n ≤ 64) (i : Int) (w : World) :
    Calls Tryd.prog 88 #[.agg #[.int .u64 ((x : Nat) : Int), .int .i64 (n : Nat)], .int .i64 i] w fun e w' => e = .returned (.int .i64 ((popN (clampN i n) x : Nat) : Int)) ∧ Below w.heap.size w w' := by
  have T1 : Hid (∀ W, _) := fun W => split_any hx hn i W
  have hc := clampN_le i n
  generalize clampN i n = c at *
  have T2 : Hid (∀ W, _) := fun W => ones_any (x % 2 ^ c) (Nat.lt_of_lt_of_le (Nat.mod_lt _ (Nat.two_pow_pos c)) (pow_le64 (by omega))) W
  rw [popN_mod x (by omega)] at T2
  generalize x % 2 ^ c = X at *
  generalize x / 2 ^ c = Y at *
  go_enter Tryd.func88, Tryd.ntmps88
  go_wp2_with (go_at_call 84; fail)
  refine (T1.out _).mono ?_
  rintro e w1 ⟨rfl, hb⟩
  have hB : Below w.heap.size w w1 := ((Below.refl w.heap.size w).alloc (by first | omega | (simp <;> omega)) _).trans (hb.mono (by simp <;> omega))
  have la : LB w1 (w.heap.size) (x) ((n : Nat)) := (LB.new (by simp) (x) ((n : Nat))).later hb
  clear hb
  have La : Hid (LB _ _ _ _) := la
  have HB : Hid (Below _ _ _) := hB
  clear hB la
  go_wp2_with (go_at_call 86; refine (T2.out _).mono ?_; rintro e w2 ⟨rfl, hw⟩; obtain rfl := hw.symm)
  go_ret
  have hsz := HB.out.size
  exact ⟨rfl, (HB.out.alloc (by first | omega | (simp <;> omega)) _).alloc (by first | omega | (simp <;> omega)) _⟩
theorem has_of {x k j : Nat} (hk : k ≤ 64) (h : x < 2 ^ k) (hj : j < k) : hasB x (k : Nat) (j : Nat) = true := by
  unfold hasB
  rw [right_of hk h]
  simp [hj]
end Go.Proofs.YtjbiofjfjljeoaaDoor
namespace Go.Proofs.YtjbiofjfjljeoaaDoor
open Go.RowKit
/-- three boxes, and all that was there -/
structure InR (w : World) (gp gq gr P Q : Nat) (j m : Int) (W : World) : Prop where
  p : LB W gp P j
  q : LB W gq Q m
  r : LB W gr 0 0
  b : Below w.heap.size w W
theorem InR.later {w W W' : World} {gp gq gr P Q : Nat} {j m : Int} (h : InR w gp gq gr P Q j m W) (hb : Below W.heap.size W W') : InR w gp gq gr P Q j m W' :=
  ⟨h.p.later hb, h.q.later hb, h.r.later hb, h.b.trans (hb.mono h.b.size)⟩
theorem InR.alloc {w W : World} {gp gq gr P Q : Nat} {j m : Int} (h : InR w gp gq gr P Q j m W) (o : Obj) : InR w gp gq gr P Q j m (W.alloc o) :=
  ⟨h.p.alloc o, h.q.alloc o, h.r.alloc o, h.b.alloc h.b.size o⟩
theorem InR.drew {w W : World} {gp gq gr P Q : Nat} {j m : Int} (h : InR w gp gq gr P Q j m W) : InR w gp gq gr P Q j m W.drew :=
  ⟨⟨h.p.blk⟩, ⟨h.q.blk⟩, ⟨h.r.blk⟩, below_drewN h.b 1⟩
theorem InR.both {w W : World} {gp gq gr P Q : Nat} {j m : Int} (h : InR w gp gq gr P Q j m W) : (W.cell? ⟨gp, 0, none⟩ = some (.int .u64 (P : Nat)) ∧ W.cell? ⟨gp, 1, none⟩ = some (.int .i64 j)) ∧ InR w gp gq gr P Q j m W := ⟨⟨h.p.c0, h.p.c1⟩, h⟩
theorem InR.call {w W : World} {gp gq gr P Q : Nat} {j m : Int} {f : FuncId} {args : Array Value} {v : Value} (hS : (W.cell? ⟨gp, 0, none⟩ = some (.int .u64 (P : Nat)) ∧ W.cell? ⟨gp, 1, none⟩ = some (.int .i64 j)) ∧ InR w gp gq gr P Q j m W) (t : Calls Tryd.prog f args W fun e w' => e = .returned v ∧ Below W.heap.size W w') :
    Calls Tryd.prog f args W fun e w' => e = .returned v ∧ ((w'.cell? ⟨gp, 0, none⟩ = some (.int .u64 (P : Nat)) ∧ w'.cell? ⟨gp, 1, none⟩ = some (.int .i64 j)) ∧ InR w gp gq gr P Q j m w') :=
  t.mono fun _ _ ⟨h1, h2⟩ => ⟨h1, (hS.2.later h2).both⟩
theorem LB.newz {w : World} {g : Nat} (hg : g = w.heap.size) : LB (w.alloc (.cells #[.int .u64 0, .int .i64 0] 93)) g 0 0 := LB.new hg 0 0
theorem LB.drew {w : World} {g x : Nat} {n : Int} (h : LB w g x n) : LB w.drew g x n := ⟨h.blk⟩
theorem InR.offs {w W : World} {gp gq gr P Q g : Nat} {j m : Int} (h : InR w gp gq gr P Q j m W) (h1 : gp ≠ g) (h2 : gq ≠ g) (h3 : gr ≠ g) (h4 : w.heap.size ≤ g) (u v : Value) : InR w gp gq gr P Q j m ((W.setCell ⟨g, 0, none⟩ u).setCell ⟨g, 1, none⟩ v) :=
  ⟨(h.p.off h1 u).off h1 v, (h.q.off h2 u).off h2 v, (h.r.off h3 u).off h3 v, (h.b.setCell h4 u).setCell h4 v⟩
/-- one more, ahead of the j-th -/
def insN (x j : Nat) (b : Bool) : Nat := (x % 2 ^ j ||| oneN b * 2 ^ j) ||| x / 2 ^ j * 2 ^ (j + 1)
set_option maxHeartbeats 4000000 in
theorem insert_yes {x n j : Nat} {b : Bool} (hx : x < 2 ^ n) (hn : n < 64) (hj : j ≤ n) (w : World) :
    Calls Tryd.prog 70 #[.agg #[.int .u64 ((x : Nat) : Int), .int .i64 (n : Nat)], .int .i64 (j : Nat), .bool b] w fun e w' => e = .returned (.tuple #[.agg #[.int .u64 ((insN x j b : Nat) : Int), .int .i64 ((n + 1 : Nat) : Int)], .bool true]) ∧ Below w.heap.size w w' := by
  have hp := pow_le64 (Nat.le_of_lt hn)
  have T1 : Hid (∀ W, _) := fun W => right_any x (by omega) (n : Nat) W
  rw [right_of (Nat.le_of_lt hn) hx] at T1
  have T2 : Hid (∀ W, _) := fun W => split_in hx (Nat.le_of_lt hn) hj W
  have T3 : Hid (∀ W, _) := fun W => single_any b W
  obtain ⟨-, -, h1, h2⟩ := split_word hx (Nat.le_of_lt hn) hj
  have h3 : oneN b < 2 ^ 1 := by unfold oneN; cases b <;> decide
  have T4 : Hid (∀ W, _) := fun W => join_yes h1 h3 (by omega) W
  rw [show ((1 : Nat) : Int) = 1 from rfl] at T4
  obtain ⟨-, h4⟩ := join_word h1 h3 (by omega)
  have T5 : Hid (∀ W, _) := fun W => join_yes h4 h2 (by omega) W
  rw [show j + 1 + (n - j) = n + 1 by omega, show ((j + 1 : Nat) : Int) = (j : Int) + 1 by omega] at T5
  have d1 : ((n : Int) == 64) = false := by simp; omega
  have d2 : decide ((j : Int) < 0) = false := decide_eq_false (by omega)
  have d3 : decide (n < j) = false := decide_eq_false (by omega)
  unfold insN
  generalize (x % 2 ^ j ||| oneN b * 2 ^ j) ||| x / 2 ^ j * 2 ^ (j + 1) = D at *
  generalize x % 2 ^ j ||| oneN b * 2 ^ j = M at *
  generalize x % 2 ^ j = P at *
  generalize x / 2 ^ j = Q at *
  generalize oneN b = B at *
  clear h1 h2 h3 h4 hp
  go_enter Tryd.func70, Tryd.ntmps70
  go_wp2_with (go_at_call 83; fail)
  refine (T1.out _).mono ?_
  rintro e w1 ⟨rfl, hb⟩
  have hB : Below w.heap.size w w1 := (((Below.refl w.heap.size w).alloc (by first | omega | (simp <;> omega)) _).alloc (by first | omega | (simp <;> omega)) _).trans (hb.mono (by simp <;> omega))
  have la : LB w1 (w.heap.size) (x) ((n : Nat)) := ((LB.new (by simp) (x) ((n : Nat))).alloc _).later hb
  have lr : LB w1 (w.heap.size + 1) (0) (0) := (LB.new (by simp) (0) (0)).later hb
  clear hb
  have La : Hid (LB _ _ _ _) := la
  have Lr : Hid (LB _ _ _ _) := lr
  have HB : Hid (Below _ _ _) := hB
  clear hB la lr
  obtain ⟨c0a, c1a⟩ := cellsL La.out
  have t0a := La.out.lt
  go_wp2_with (go_at_call 84; fail)
  refine (T2.out _).mono ?_
  rintro e w2 ⟨rfl, hb⟩
  clear c0a c1a t0a
  have hsz := HB.out.size
  have hB : Below w.heap.size w w2 := HB.out.trans (hb.mono (by skip <;> omega))
  have la : LB w2 (w.heap.size) (x) ((n : Nat)) := La.out.later hb
  have lr : LB w2 (w.heap.size + 1) (0) (0) := Lr.out.later hb
  clear hb hsz La Lr HB
  have La : Hid (LB _ _ _ _) := la
  have Lr : Hid (LB _ _ _ _) := lr
  have HB : Hid (Below _ _ _) := hB
  clear hB la lr
  obtain ⟨c0r, c1r⟩ := cellsL Lr.out
  have t0r := Lr.out.lt
  go_upto_region 4 with fail
  have hsz := HB.out.size
  have hrl := Lr.out.lt
  have hR0 : InR w w2.heap.size (w2.heap.size + 1) (w.heap.size + 1) P Q (j : Nat) ((n - j : Nat) : Int) ((w2.alloc (.cells #[.int .u64 (P : Nat), .int .i64 (j : Nat)] 93)).alloc (.cells #[.int .u64 (Q : Nat), .int .i64 ((n - j : Nat) : Int)] 93)) := ⟨(LB.new rfl P (j : Nat)).alloc _, LB.new (by simp) Q _, (Lr.out.alloc _).alloc _, (HB.out.alloc HB.out.size _).alloc (by simp <;> omega) _⟩
  clear Lr HB c0r c1r t0r
  go_cut [10] (fun s10 wx => ∃ g : Nat, s10 = .pointer (some ⟨g, 0, none⟩) ∧ Hid (LB wx g M ((j : Int) + 1)) ∧ Hid (InR w w2.heap.size (w2.heap.size + 1) (w.heap.size + 1) P Q (j : Nat) ((n - j : Nat) : Int) wx))
  case first =>
    go_region_with ((first
      | (go_at_call 90
         with_reducible refine (T3.out _).mono ?_
         rintro e w4 ⟨rfl, hb4⟩
         have hR4 : InR w w2.heap.size (w2.heap.size + 1) (w.heap.size + 1) P Q (j : Nat) ((n - j : Nat) : Int) w4 := InR.later (by first | (with_reducible exact hR0.drew) | (with_reducible exact (hR0.alloc _).drew) | (with_reducible exact hR0.drew.alloc _)) hb4
         (try have hz4 : LB w4 (w2.heap.size + 1 + 1) 0 0 := LB.later (by first | (with_reducible exact (LB.newz (by simp)).drew) | (with_reducible exact LB.newz (by simp))) hb4)
         have q0 := hR4.p.c0
         have q1 := hR4.p.c1
         have q2 := hR4.p.lt
         have q3 := hR4.q.lt
         have q4 := hR4.r.lt
         (try have q5 := hz4.lt)
         clear hb4)
      | (go_at_call 89
         with_reducible refine (T4.out _).mono ?_
         rintro e w5 ⟨rfl, hb5⟩
         have hR5 : InR w w2.heap.size (w2.heap.size + 1) (w.heap.size + 1) P Q (j : Nat) ((n - j : Nat) : Int) w5 := InR.later (by first | (with_reducible exact hR4) | (with_reducible exact hR4.alloc _)) hb5
         (first
           | (have hz5 : LB w5 (w2.heap.size + 1 + 1) 0 0 := LB.later (by first | (with_reducible exact hz4) | (with_reducible exact hz4.alloc _)) hb5)
           | (have hz5 : LB w5 w4.heap.size 0 0 := LB.later (by with_reducible exact LB.newz rfl) hb5)
           | skip)
         (try (have z0 := hz5.c0; have z1 := hz5.c1; have z2 := hz5.f 0; have z3 := hz5.f 1))
         clear hb5)))
    all_goals (go_wp2_with fail)
    all_goals go_meet
    all_goals (first
      | exact ⟨_, rfl, LB.new rfl M _, hR5.alloc _⟩
      | exact ⟨_, rfl, hz5.set M _, hR5.offs (by omega) (by omega) (by omega) (by omega) _ _⟩)
  case rest =>
    obtain ⟨g, rfl, HM, HR⟩ := hcut
    have m0 := HM.out.c0
    have m1 := HM.out.c1
    have q0 := HR.out.q.c0
    have q1 := HR.out.q.c1
    go_wp2_with (go_at_call 89; fail)
    refine (T5.out _).mono ?_
    rintro e w6 ⟨rfl, hb⟩
    have hR := HR.out.later hb
    have c0r := hR.r.c0
    have c1r := hR.r.c1
    have f0r := hR.r.f 0
    have f1r := hR.r.f 1
    have HB2 : Hid (Below w.heap.size w w6) := hR.b
    clear hR hb m0 m1 q0 q1 HM HR
    go_wp2
    exact bodyPost_ret (v := .tuple #[.agg #[.int .u64 ((D : Nat) : Int), .int .i64 ((n + 1 : Nat) : Int)], .bool true]) (by simp [results, Tryd.results70, go_sem, c0r, c1r]) rfl ⟨rfl, (HB2.out.setCell (by first | omega | (simp <;> omega)) _).setCell (by first | omega | (simp <;> omega)) _⟩
end Go.Proofs.YtjbiofjfjljeoaaDoor
namespace Go.Proofs.YtjbiofjfjljeoaaDoor
open Go.RowKit
theorem not_word {x n : Nat} (hx : x < 2 ^ n) (hn : n ≤ 64) : bits BinOp.andNot IntKind.u64 ((2 ^ n - 1 : Nat) : Int) (x : Int) = ((2 ^ n - 1 - x : Nat) : Int) := by
  have hp := pow_le64 hn
  have hp0 : 0 < 2 ^ n := Nat.two_pow_pos n
  rw [u64_andNot_nat _ x (by omega) (by omega)]
  congr 1
  apply Nat.eq_of_testBit_eq
  intro j
  rw [Nat.testBit_and, Nat.testBit_two_pow_sub_one, sub_test hx, show 18446744073709551615 - x = 2 ^ 64 - (x + 1) by omega, Nat.testBit_two_pow_sub_succ (by have : (2:Nat) ^ 64 = 18446744073709551616 := rfl; omega)]
  by_cases hj : j < n
  · simp [hj, show j < 64 by omega]
  · simp [hj]
/-- what is looked for -/
def wantN (x n : Nat) (one : Bool) : Nat := if one then x else 2 ^ n - 1 - x
theorem clear_word {V : Nat} (h0 : V ≠ 0) (hV : V < 18446744073709551616) : bits BinOp.and IntKind.u64 (V : Int) (IntKind.u64.wrap ((V : Int) - 1)) = ((V &&& (V - 1) : Nat) : Int) := by
  have e : IntKind.u64.wrap ((V : Int) - 1) = ((V - 1 : Nat) : Int) := by rw [IntKind.wrap_u64]; omega
  rw [e, bits_and_u64_nat V _ hV (by omega)]
set_option maxHeartbeats 4000000 in
theorem select_yes {x n : Nat} (hx : x < 2 ^ n) (hn : n ≤ 64) (one : Bool) (k : Int) (w : World) (hT : Tab w) :
    Calls Tryd.prog 61 #[.agg #[.int .u64 ((x : Nat) : Int), .int .i64 (n : Nat)], .bool one, .int .i64 k] w fun e w' => e = .returned (.int .i64 (selI (wantN x n one) n k)) ∧ Below w.heap.size w w' := by
  have hp := pow_le64 hn
  have T1 : Hid (∀ W, _) := fun W => right_any x (by omega) (n : Nat) W
  rw [right_of hn hx] at T1
  have HT : Hid (Tab w) := hT
  clear hT
  have hp0 : 0 < 2 ^ n := Nat.two_pow_pos n
  cases one with
  | true =>
    have hW : x < 2 ^ n := by omega
    have hW64 : x < 18446744073709551616 := by omega
    have HN : Hid (_ = _) := not_word hx hn
    have T2 : Hid (∀ W, _) := fun W => lowest_any n hn W
    have T3 : Hid (∀ W, _) := fun W => ones_any x hW64 W
    have hle : popN 64 x ≤ 64 := popN_le 64 _
    show Calls _ _ _ _ fun e w' => e = .returned (.int .i64 (selI x n k)) ∧ Below w.heap.size w w'
    have H64 : Hid (popN 64 x = popN n x) := popN_more hW 64 hn
    have HW : Hid (x < 2 ^ n) := hW
    have HW64 : Hid (x < 18446744073709551616) := hW64
    clear hW hW64 hp hp0
    by_cases h0 : k < 0
    · have d0 : decide (k < 0) = true := decide_eq_true h0
      have HS : Hid (selI x n k = -1) := selI_none (Or.inr h0)
      go_enter Tryd.func61, Tryd.ntmps61
      go_wp2_with (go_at_call 83; fail)
      refine (T1.out _).mono ?_
      rintro e w1 ⟨rfl, hb⟩
      have HB : Hid (Below w.heap.size w w1) := ((Below.refl w.heap.size w).alloc (Nat.le_refl _) _).trans (hb.mono (by simp))
      have la : LB w1 w.heap.size x n := (LB.new rfl x n).later hb
      have c0 := la.c0
      have c1 := la.c1
      clear la hb
      go_wp2
      go_ret
      exact ⟨by rw [HS.out]; rfl, HB.out⟩
    obtain ⟨k, rfl⟩ : ∃ j : Nat, k = j := ⟨k.toNat, by omega⟩
    have d0 : decide ((k : Int) < 0) = false := decide_eq_false h0
    clear h0
    by_cases h1 : popN 64 x ≤ k
    · have HS : Hid (selI x n k = -1) := selI_none (Or.inl (by have := H64.out; omega))
      have d1 : decide (popN 64 x ≤ k) = true := decide_eq_true h1
      generalize popN 64 x = C at *
      go_enter Tryd.func61, Tryd.ntmps61
      go_wp2_with (go_at_call 83; fail)
      refine (T1.out _).mono ?_
      rintro e w1 ⟨rfl, hb⟩
      have HB : Hid (Below w.heap.size w w1) := ((Below.refl w.heap.size w).alloc (Nat.le_refl _) _).trans (hb.mono (by simp))
      have la : LB w1 w.heap.size x n := (LB.new rfl x n).later hb
      have c0 := la.c0
      have c1 := la.c1
      clear la hb
      go_wp2_with (go_at_call 86; refine (T3.out _).mono ?_; rintro e w2 ⟨rfl, hw⟩; obtain rfl := hw.symm)
      go_ret
      exact ⟨by rw [HS.out]; rfl, HB.out⟩
    have HK : Hid (k < popN 64 x) := by show k < popN 64 x; omega
    have d1 : decide (popN 64 x ≤ k) = false := decide_eq_false h1
    generalize hC : popN 64 x = C at *
    have HC : Hid (popN 64 x = C) := hC
    clear hC
    go_enter Tryd.func61, Tryd.ntmps61
    go_wp2_with (go_at_call 83; fail)
    refine (T1.out _).mono ?_
    rintro e w1 ⟨rfl, hb⟩
    have HB : Hid (Below w.heap.size w w1) := ((Below.refl w.heap.size w).alloc (Nat.le_refl _) _).trans (hb.mono (by simp))
    have la : LB w1 w.heap.size x n := (LB.new rfl x n).later hb
    have c0 := la.c0
    have c1 := la.c1
    clear la hb
    go_wp2_with (go_at_call 86; refine (T3.out _).mono ?_; rintro e w2 ⟨rfl, hw⟩; obtain rfl := hw.symm)
    obtain ⟨Wx, hWd⟩ : ∃ Wx : Nat, Wx = x := ⟨_, rfl⟩
    rw [← hWd] at T3 H64 HW HW64 HC ⊢
    have HWd : Hid (Wx = x) := hWd
    clear hWd HN T2 c0 c1
    go_loop [7, 30] (fun v t => ∃ (i V : Nat), i ≤ k ∧ v = .int .u64 (V : Nat) ∧ t = .int .i64 (i : Nat) ∧ Hid (Rest Wx i V) ∧ Hid (V < 18446744073709551616)) (fun _ t => k - (intOf t).toNat)
    case atStart => exact ⟨0, Wx, Nat.zero_le _, rfl, rfl, Rest.zero Wx, HW64.out⟩
    case round =>
      obtain ⟨i, V, hi, rfl, rfl, HR, HV⟩ := hrel
      have HNZ : Hid (V ≠ 0) := HR.out.some (by have h3 := HK.out; have h4 := HC.out; omega)
      by_cases hlt : i < k
      · have HE : Hid (_ = _) := clear_word HNZ.out HV.out
        go_wp2
        rw [HE.out]
        go_round
        case rel => exact ⟨i + 1, V &&& (V - 1), by omega, rfl, by go_num, HR.out.step HNZ.out HV.out, Nat.lt_of_le_of_lt Nat.and_le_left HV.out⟩
        case measure => simp [intOf]; omega
      · obtain rfl : i = k := by omega
        have T4 : Hid (∀ W, Tab W → _) := fun W h => tz_any V HV.out W h
        have HS : Hid ((Lib.ctz 64 V : Int) = selI Wx n i) := HR.out.sel (by have h3 := HK.out; have h4 := HC.out; omega) HW.out HV.out
        clear hlt
        go_wp2_with (go_at_call 82; refine (T4.out _ (tab_below HT.out HB.out)).mono ?_; rintro e w2 ⟨rfl, hw⟩; obtain rfl := hw.symm)
        go_ret
        exact ⟨by rw [← HWd.out, ← HS.out]; rfl, HB.out⟩
  | false =>
    have hW : (2 ^ n - 1 - x) < 2 ^ n := by omega
    have hW64 : (2 ^ n - 1 - x) < 18446744073709551616 := by omega
    have HN : Hid (_ = _) := not_word hx hn
    have T2 : Hid (∀ W, _) := fun W => lowest_any n hn W
    have T3 : Hid (∀ W, _) := fun W => ones_any (2 ^ n - 1 - x) hW64 W
    have hle : popN 64 (2 ^ n - 1 - x) ≤ 64 := popN_le 64 _
    show Calls _ _ _ _ fun e w' => e = .returned (.int .i64 (selI (2 ^ n - 1 - x) n k)) ∧ Below w.heap.size w w'
    have H64 : Hid (popN 64 (2 ^ n - 1 - x) = popN n (2 ^ n - 1 - x)) := popN_more hW 64 hn
    have HW : Hid ((2 ^ n - 1 - x) < 2 ^ n) := hW
    have HW64 : Hid ((2 ^ n - 1 - x) < 18446744073709551616) := hW64
    clear hW hW64 hp hp0
    by_cases h0 : k < 0
    · have d0 : decide (k < 0) = true := decide_eq_true h0
      have HS : Hid (selI (2 ^ n - 1 - x) n k = -1) := selI_none (Or.inr h0)
      go_enter Tryd.func61, Tryd.ntmps61
      go_wp2_with (go_at_call 83; fail)
      refine (T1.out _).mono ?_
      rintro e w1 ⟨rfl, hb⟩
      have HB : Hid (Below w.heap.size w w1) := ((Below.refl w.heap.size w).alloc (Nat.le_refl _) _).trans (hb.mono (by simp))
      have la : LB w1 w.heap.size x n := (LB.new rfl x n).later hb
      have c0 := la.c0
      have c1 := la.c1
      clear la hb
      go_upto_region 5 with fail
      go_quiet ((go_at_call 85; exact Calls.quiet_of_same (T2.out _)))
      rw [HN.out]
      go_wp2
      go_ret
      exact ⟨by rw [HS.out]; rfl, below_drewN HB.out _⟩
    obtain ⟨k, rfl⟩ : ∃ j : Nat, k = j := ⟨k.toNat, by omega⟩
    have d0 : decide ((k : Int) < 0) = false := decide_eq_false h0
    clear h0
    by_cases h1 : popN 64 (2 ^ n - 1 - x) ≤ k
    · have HS : Hid (selI (2 ^ n - 1 - x) n k = -1) := selI_none (Or.inl (by have := H64.out; omega))
      have d1 : decide (popN 64 (2 ^ n - 1 - x) ≤ k) = true := decide_eq_true h1
      generalize popN 64 (2 ^ n - 1 - x) = C at *
      go_enter Tryd.func61, Tryd.ntmps61
      go_wp2_with (go_at_call 83; fail)
      refine (T1.out _).mono ?_
      rintro e w1 ⟨rfl, hb⟩
      have HB : Hid (Below w.heap.size w w1) := ((Below.refl w.heap.size w).alloc (Nat.le_refl _) _).trans (hb.mono (by simp))
      have la : LB w1 w.heap.size x n := (LB.new rfl x n).later hb
      have c0 := la.c0
      have c1 := la.c1
      clear la hb
      go_upto_region 5 with fail
      go_quiet ((go_at_call 85; exact Calls.quiet_of_same (T2.out _)))
      rw [HN.out]
      go_wp2_with (go_at_call 86; refine (T3.out _).mono ?_; rintro e w2 ⟨rfl, hw⟩; obtain rfl := hw.symm)
      go_ret
      exact ⟨by rw [HS.out]; rfl, below_drewN HB.out _⟩
    have HK : Hid (k < popN 64 (2 ^ n - 1 - x)) := by show k < popN 64 (2 ^ n - 1 - x); omega
    have d1 : decide (popN 64 (2 ^ n - 1 - x) ≤ k) = false := decide_eq_false h1
    generalize hC : popN 64 (2 ^ n - 1 - x) = C at *
    have HC : Hid (popN 64 (2 ^ n - 1 - x) = C) := hC
    clear hC
    go_enter Tryd.func61, Tryd.ntmps61
    go_wp2_with (go_at_call 83; fail)
    refine (T1.out _).mono ?_
    rintro e w1 ⟨rfl, hb⟩
    have HB : Hid (Below w.heap.size w w1) := ((Below.refl w.heap.size w).alloc (Nat.le_refl _) _).trans (hb.mono (by simp))
    have la : LB w1 w.heap.size x n := (LB.new rfl x n).later hb
    have c0 := la.c0
    have c1 := la.c1
    clear la hb
    go_upto_region 5 with fail
    go_quiet ((go_at_call 85; exact Calls.quiet_of_same (T2.out _)))
    rw [HN.out]
    go_wp2_with (go_at_call 86; refine (T3.out _).mono ?_; rintro e w2 ⟨rfl, hw⟩; obtain rfl := hw.symm)
    obtain ⟨Wx, hWd⟩ : ∃ Wx : Nat, Wx = (2 ^ n - 1 - x) := ⟨_, rfl⟩
    rw [← hWd] at T3 H64 HW HW64 HC ⊢
    have HWd : Hid (Wx = (2 ^ n - 1 - x)) := hWd
    clear hWd HN T2 c0 c1
    go_loop [7, 30] (fun v t => ∃ (i V : Nat), i ≤ k ∧ v = .int .u64 (V : Nat) ∧ t = .int .i64 (i : Nat) ∧ Hid (Rest Wx i V) ∧ Hid (V < 18446744073709551616)) (fun _ t => k - (intOf t).toNat)
    case atStart => exact ⟨0, Wx, Nat.zero_le _, rfl, rfl, Rest.zero Wx, HW64.out⟩
    case round =>
      obtain ⟨i, V, hi, rfl, rfl, HR, HV⟩ := hrel
      have HNZ : Hid (V ≠ 0) := HR.out.some (by have h3 := HK.out; have h4 := HC.out; omega)
      by_cases hlt : i < k
      · have HE : Hid (_ = _) := clear_word HNZ.out HV.out
        go_wp2
        rw [HE.out]
        go_round
        case rel => exact ⟨i + 1, V &&& (V - 1), by omega, rfl, by go_num, HR.out.step HNZ.out HV.out, Nat.lt_of_le_of_lt Nat.and_le_left HV.out⟩
        case measure => simp [intOf]; omega
      · obtain rfl : i = k := by omega
        have T4 : Hid (∀ W, Tab W → _) := fun W h => tz_any V HV.out W h
        have HS : Hid ((Lib.ctz 64 V : Int) = selI Wx n i) := HR.out.sel (by have h3 := HK.out; have h4 := HC.out; omega) HW.out HV.out
        clear hlt
        go_wp2_with (go_at_call 82; refine (T4.out _ (tab_drewN (tab_below HT.out HB.out) _)).mono ?_; rintro e w2 ⟨rfl, hw⟩; obtain rfl := hw.symm)
        go_ret
        exact ⟨by rw [← HWd.out, ← HS.out]; rfl, below_drewN HB.out _⟩
end Go.Proofs.YtjbiofjfjljeoaaDoor
namespace Go.Proofs.YtjbiofjfjljeoaaDoor
theorem join_test {x y n : Nat} (hx : x < 2 ^ n) (i : Nat) : (x ||| y * 2 ^ n).testBit i = if i < n then x.testBit i else y.testBit (i - n) := by
  rw [Nat.testBit_or, Nat.testBit_mul_two_pow]
  by_cases h : i < n
  · simp [h, Nat.not_le.mpr h]
  · rw [test_small hx (by omega)]
    simp [h]
    omega
theorem div_test (x c i : Nat) : (x / 2 ^ c).testBit i = x.testBit (i + c) := by
  rw [Nat.testBit_div_two_pow]
theorem oneN_test (b : Bool) (i : Nat) : (oneN b).testBit i = (decide (i = 0) && b) := by
  unfold oneN
  cases b
  · simp
  · cases i
    · rfl
    · simp [Nat.testBit_succ]
theorem insN_test (x j : Nat) (b : Bool) (i : Nat) : (insN x j b).testBit i = if i < j then x.testBit i else if i = j then b else x.testBit (i - 1) := by
  have h1 : x % 2 ^ j < 2 ^ j := Nat.mod_lt _ (Nat.two_pow_pos j)
  have h2 : (x % 2 ^ j ||| oneN b * 2 ^ j) < 2 ^ (j + 1) := by
    apply small_of_test
    intro p hp
    rw [join_test h1, if_neg (by omega), oneN_test, decide_eq_false (show ¬(p - j = 0) by omega)]
    rfl
  unfold insN
  rw [join_test h2, join_test h1, oneN_test, div_test]
  by_cases h : i < j
  · rw [if_pos (by omega), if_pos h, if_pos h, Nat.testBit_mod_two_pow]
    simp [h]
  · rw [if_neg h, if_neg h]
    by_cases e : i = j
    · subst e
      simp
    · rw [if_neg (by omega), if_neg e]
      congr 1
      omega
theorem insN_lt {x n j : Nat} (hx : x < 2 ^ n) (hj : j ≤ n) (b : Bool) : insN x j b < 2 ^ (n + 1) := by
  apply small_of_test
  intro i hi
  rw [insN_test, if_neg (by omega), if_neg (by omega)]
  exact test_small hx (by omega)
/-- the first k bits -/
def bitsL (x : Nat) : Nat → List Bool
  | 0 => []
  | k + 1 => bitsL x k ++ [x.testBit k]
theorem bitsL_length (x : Nat) : ∀ k, (bitsL x k).length = k
  | 0 => rfl
  | k + 1 => by simp [bitsL, bitsL_length x k]
theorem bitsL_get (x : Nat) : ∀ k i, i < k → (bitsL x k).getD i false = x.testBit i
  | 0, i, h => by omega
  | k + 1, i, h => by
    by_cases e : i < k
    · have := bitsL_get x k i e
      rw [List.getD_eq_getElem?_getD] at this ⊢
      simp only [bitsL]
      rw [List.getElem?_append_left (by rw [bitsL_length]; exact e)]
      exact this
    · obtain rfl : i = k := by omega
      rw [List.getD_eq_getElem?_getD]
      simp only [bitsL]
      rw [List.getElem?_append_right (by rw [bitsL_length]; omega), bitsL_length]
      simp
theorem bitsL_get? (x k i : Nat) : (bitsL x k)[i]? = if i < k then some (x.testBit i) else none := by
  by_cases h : i < k
  · rw [if_pos h, List.getElem?_eq_getElem (by rw [bitsL_length]; exact h)]
    have := bitsL_get x k i h
    rw [List.getD_eq_getElem?_getD, List.getElem?_eq_getElem (by rw [bitsL_length]; exact h)] at this
    simpa using this
  · rw [if_neg h]
    exact List.getElem?_eq_none (by rw [bitsL_length]; omega)
/-- a list is known by its places -/
theorem bitsL_eq {x k : Nat} {l : List Bool} (hl : l.length = k) (h : ∀ i, i < k → l[i]? = some (x.testBit i)) : l = bitsL x k := by
  apply List.ext_getElem?
  intro i
  rw [bitsL_get?]
  by_cases e : i < k
  · rw [if_pos e, h i e]
  · rw [if_neg e]
    exact List.getElem?_eq_none (by omega)
theorem bitsL_count (x : Nat) : ∀ k, (bitsL x k).count true = popN k x
  | 0 => rfl
  | k + 1 => by
    rw [popN_succ]
    simp only [bitsL]
    rw [List.count_append, bitsL_count x k]
    cases x.testBit k <;> rfl
theorem bitsL_take (x : Nat) {k n : Nat} (h : k ≤ n) : (bitsL x n).take k = bitsL x k := by
  refine bitsL_eq (by rw [List.length_take, bitsL_length]; omega) fun i hi => ?_
  rw [List.getElem?_take, if_pos hi, bitsL_get?, if_pos (by omega)]
/-- in two -/
theorem bitsL_parts (x : Nat) {k n : Nat} (h : k ≤ n) : bitsL (x % 2 ^ k) k ++ bitsL (x / 2 ^ k) (n - k) = bitsL x n := by
  refine bitsL_eq (by rw [List.length_append, bitsL_length, bitsL_length]; omega) fun i hi => ?_
  by_cases e : i < k
  · rw [List.getElem?_append_left (by rw [bitsL_length]; exact e), bitsL_get?, if_pos e, Nat.testBit_mod_two_pow]
    simp [e]
  · rw [List.getElem?_append_right (by rw [bitsL_length]; omega), bitsL_length, bitsL_get?, if_pos (by omega), Nat.testBit_div_two_pow, show i - k + k = i by omega]
/-- together -/
theorem bitsL_join {x y n m : Nat} (hx : x < 2 ^ n) : bitsL (x ||| y * 2 ^ n) (n + m) = bitsL x n ++ bitsL y m := by
  symm
  refine bitsL_eq (by rw [List.length_append, bitsL_length, bitsL_length]) fun i hi => ?_
  rw [Nat.testBit_or, Nat.testBit_mul_two_pow]
  by_cases e : i < n
  · rw [List.getElem?_append_left (by rw [bitsL_length]; exact e), bitsL_get?, if_pos e]
    simp [Nat.not_le.mpr e]
  · rw [List.getElem?_append_right (by rw [bitsL_length]; omega), bitsL_length, bitsL_get?, if_pos (by omega), test_small hx (by omega)]
    simp
    omega
/-- with one more -/
theorem bitsL_ins (x : Nat) {j n : Nat} (b : Bool) (h : j ≤ n) : bitsL (insN x j b) (n + 1) = (bitsL x n).take j ++ b :: (bitsL x n).drop j := by
  symm
  refine bitsL_eq (by simp [bitsL_length]; omega) fun i hi => ?_
  rw [insN_test, List.getElem?_append]
  have hl : ((bitsL x n).take j).length = j := by rw [List.length_take, bitsL_length]; omega
  rw [hl]
  by_cases e : i < j
  · rw [if_pos e, if_pos e, List.getElem?_take, if_pos e, bitsL_get?, if_pos (by omega)]
  · rw [if_neg e, if_neg e]
    by_cases e2 : i = j
    · rw [if_pos e2, e2, Nat.sub_self]
      rfl
    · rw [if_neg e2, show i - j = (i - j - 1) + 1 by omega, List.getElem?_cons_succ, List.getElem?_drop, bitsL_get?, if_pos (by omega), show j + (i - j - 1) = i - 1 by omega]
end Go.Proofs.YtjbiofjfjljeoaaDoor
namespace Go.Proofs.YtjbiofjfjljeoaaDoor
/-- a row; its handle is 0: it is not made -/
inductive Tr where
  | nil : Tr
  | leaf (h : Int) (x n : Nat) : Tr
  | fork (h : Int) (l r : Tr) : Tr
def Tr.size : Tr → Nat
  | .nil => 0
  | .leaf _ _ n => n
  | .fork _ l r => l.size + r.size
def Tr.ones : Tr → Nat
  | .nil => 0
  | .leaf _ x n => popN n x
  | .fork _ l r => l.ones + r.ones
def Tr.bits : Tr → List Bool
  | .nil => []
  | .leaf _ x n => bitsL x n
  | .fork _ l r => l.bits ++ r.bits
/-- its handle -/
def Tr.hd : Tr → Int
  | .nil => 0
  | .leaf h _ _ => h
  | .fork h _ _ => h
/-- the word of a leaf, and how many bits it has -/
def Tr.wd : Tr → Nat
  | .leaf _ x _ => x
  | _ => 0
def Tr.bn : Tr → Nat
  | .leaf _ _ n => n
  | _ => 0
/-- as one may be -/
def Tr.ok : Tr → Prop
  | .nil => True
  | .leaf _ x n => 1 ≤ n ∧ n ≤ 64 ∧ x < 2 ^ n
  | .fork _ l r => l.ok ∧ r.ok ∧ 1 ≤ l.size ∧ 1 ≤ r.size ∧ 64 < l.size + r.size
/-- even -/
def Tr.bal : Tr → Prop
  | .fork _ l r => l.bal ∧ r.bal ∧ l.size ≤ 3 * r.size ∧ r.size ≤ 3 * l.size
  | _ => True
/-- how many are not made -/
def Tr.miss : Tr → Nat
  | .nil => 0
  | .leaf h _ _ => if h = 0 then 1 else 0
  | .fork h l r => if h = 0 then 1 + l.miss + r.miss else 0
/-- how many nodes; how deep -/
def Tr.nodes : Tr → Nat
  | .nil => 0
  | .leaf _ _ _ => 1
  | .fork _ l r => l.nodes + r.nodes + 1
def Tr.deep : Tr → Nat
  | .nil => 0
  | .leaf _ _ _ => 1
  | .fork _ l r => max l.deep r.deep + 1
theorem Tr.len : ∀ t : Tr, t.bits.length = t.size
  | .nil => rfl
  | .leaf _ x n => bitsL_length x n
  | .fork _ l r => by
    show (l.bits ++ r.bits).length = l.size + r.size
    rw [List.length_append, l.len, r.len]
theorem Tr.ones_eq : ∀ t : Tr, t.bits.count true = t.ones
  | .nil => rfl
  | .leaf _ x n => bitsL_count x n
  | .fork _ l r => by
    show (l.bits ++ r.bits).count true = l.ones + r.ones
    rw [List.count_append, l.ones_eq, r.ones_eq]
theorem Tr.ones_le (t : Tr) : t.ones ≤ t.size := by
  rw [← t.ones_eq, ← t.len]
  exact List.count_le_length
theorem Tr.small {t : Tr} (h : t.ok) (hs : t.size ≤ 64) : t = .nil ∨ ∃ g x n, t = .leaf g x n ∧ 1 ≤ n ∧ n ≤ 64 ∧ x < 2 ^ n := by
  cases t with
  | nil => exact Or.inl rfl
  | leaf g x n => exact Or.inr ⟨g, x, n, rfl, h⟩
  | fork g l r =>
    have h1 : 64 < l.size + r.size := h.2.2.2.2
    have h2 : l.size + r.size ≤ 64 := hs
    omega
theorem Tr.zero {t : Tr} (h : t.ok) (hs : t.size = 0) : t = .nil := by
  rcases Tr.small h (by omega) with rfl | ⟨g, x, n, rfl, h1, -⟩
  · rfl
  · have : n = 0 := hs
    omega
theorem Tr.bal_small {t : Tr} (h : t.ok) (hs : t.size ≤ 64) : t.bal := by
  rcases Tr.small h hs with rfl | ⟨g, x, n, rfl, -⟩
  · trivial
  · trivial
/-- a leaf's row -/
def ofL (x n : Nat) : Tr := if n = 0 then .nil else .leaf 0 x n
theorem ofL_size (x n : Nat) : (ofL x n).size = n := by
  unfold ofL
  split
  · next h => rw [h]; rfl
  · rfl
theorem ofL_bits (x n : Nat) : (ofL x n).bits = bitsL x n := by
  unfold ofL
  split
  · next h => rw [h]; rfl
  · rfl
theorem ofL_ok {x n : Nat} (hx : x < 2 ^ n) (hn : n ≤ 64) : (ofL x n).ok := by
  unfold ofL
  split
  · trivial
  · exact ⟨by omega, hn, hx⟩
theorem ofL_bal (x n : Nat) : (ofL x n).bal := by
  unfold ofL
  split <;> trivial
theorem ofL_miss (x n : Nat) : (ofL x n).miss ≤ 1 := by
  unfold ofL
  split
  · exact Nat.zero_le _
  · exact Nat.le_refl _
theorem ofL_ones (x n : Nat) : (ofL x n).ones = popN n x := by
  unfold ofL
  split
  · next h => rw [h]; rfl
  · rfl
theorem ofL_hd (x n : Nat) : (ofL x n).hd = 0 := by
  unfold ofL
  split <;> rfl
theorem ofL_bn (x n : Nat) : (ofL x n).bn = n := by
  unfold ofL
  split
  · next h => rw [h]; rfl
  · rfl
theorem ofL_wd {x n : Nat} (hx : x < 2 ^ n) : (ofL x n).wd = x := by
  unfold ofL
  split
  · next h => subst h; show 0 = x; simp at hx; omega
  · rfl
/-- two together -/
def joinT (f o : Tr) : Tr := if f.size = 0 then o else if o.size = 0 then f else if f.size + o.size ≤ 64 then .leaf 0 (f.wd ||| o.wd * 2 ^ f.size) (f.size + o.size) else .fork 0 f o
/-- the two of one -/
def partA : Tr → Tr
  | .nil => .nil
  | .leaf _ x n => ofL (x % 2 ^ (n / 2)) (n / 2)
  | .fork _ l _ => l
def partB : Tr → Tr
  | .nil => .nil
  | .leaf _ x n => ofL (x / 2 ^ (n / 2)) (n - n / 2)
  | .fork _ _ r => r
def ffT (f o : Tr) : Tr :=
  if (partB f).size < 2 * (partA f).size then joinT (partA f) (joinT (partB f) o) else joinT (joinT (partA f) (partA (partB f))) (joinT (partB (partB f)) o)
def foT (f o : Tr) : Tr :=
  if (partA o).size < 2 * (partB o).size then joinT (joinT f (partA o)) (partB o) else joinT (joinT f (partA (partA o))) (joinT (partB (partA o)) (partB o))
def evenT (f o : Tr) : Tr :=
  if f.size = 0 ∨ o.size = 0 then joinT f o else if 3 * o.size < f.size then ffT f o else if 3 * f.size < o.size then foT f o else joinT f o
/-- what was left aside, outermost first -/
def upT : List (Tr × Tr) → Tr → Tr
  | [], r => r
  | s :: w, r => evenT (evenT s.1 (upT w r)) s.2
theorem join_ok {f o : Tr} (hf : f.ok) (ho : o.ok) : (joinT f o).ok := by
  unfold joinT
  split
  · exact ho
  · split
    · exact hf
    · split
      · next h1 h2 h3 =>
        rcases Tr.small hf (by omega) with rfl | ⟨g, x, n, rfl, a1, a2, a3⟩
        · exact absurd rfl h1
        · rcases Tr.small ho (by omega) with rfl | ⟨g', y, m, rfl, b1, b2, b3⟩
          · exact absurd rfl h2
          · have h4 : n + m ≤ 64 := h3
            refine ⟨show 1 ≤ n + m by omega, h3, ?_⟩
            show (x ||| y * 2 ^ n) < 2 ^ (n + m)
            have e1 : y * 2 ^ n < 2 ^ (n + m) := by
              rw [Nat.pow_add, Nat.mul_comm (2 ^ n)]
              exact (Nat.mul_lt_mul_right (Nat.two_pow_pos n)).2 b3
            exact Nat.or_lt_two_pow (Nat.lt_of_lt_of_le a3 (Nat.pow_le_pow_right (by omega) (by omega))) e1
      · exact ⟨hf, ho, by omega, by omega, by omega⟩
theorem join_bits {f o : Tr} (hf : f.ok) (ho : o.ok) : (joinT f o).bits = f.bits ++ o.bits := by
  unfold joinT
  split
  · next h => rw [Tr.zero hf h]; rfl
  · split
    · next h => rw [Tr.zero ho h]; exact (List.append_nil _).symm
    · split
      · next h1 h2 h3 =>
        rcases Tr.small hf (by omega) with rfl | ⟨g, x, n, rfl, a1, a2, a3⟩
        · exact absurd rfl h1
        · rcases Tr.small ho (by omega) with rfl | ⟨g', y, m, rfl, b1, b2, b3⟩
          · exact absurd rfl h2
          · exact bitsL_join a3
      · rfl
theorem join_size {f o : Tr} (hf : f.ok) (ho : o.ok) : (joinT f o).size = f.size + o.size := by
  rw [← Tr.len, join_bits hf ho, List.length_append, f.len, o.len]
theorem partA_ok {t : Tr} (h : t.ok) : (partA t).ok := by
  cases t with
  | nil => trivial
  | leaf g x n => exact ofL_ok (Nat.mod_lt _ (Nat.two_pow_pos _)) (by have := h.2.1; omega)
  | fork g l r => exact h.1
theorem half_lt {x n k : Nat} (h : x < 2 ^ n) (hk : k ≤ n) : x / 2 ^ k < 2 ^ (n - k) := by
  rw [Nat.div_lt_iff_lt_mul (Nat.two_pow_pos k), ← Nat.pow_add, show n - k + k = n by omega]
  exact h
theorem partB_ok {t : Tr} (h : t.ok) : (partB t).ok := by
  cases t with
  | nil => trivial
  | leaf g x n => exact ofL_ok (half_lt h.2.2 (by omega)) (by have := h.2.1; omega)
  | fork g l r => exact h.2.1
theorem part_bits (t : Tr) : (partA t).bits ++ (partB t).bits = t.bits := by
  cases t with
  | nil => rfl
  | leaf g x n =>
    show (ofL _ _).bits ++ (ofL _ _).bits = bitsL x n
    rw [ofL_bits, ofL_bits]
    exact bitsL_parts x (by omega)
  | fork g l r => rfl
theorem part_size (t : Tr) : (partA t).size + (partB t).size = t.size := by
  rw [← Tr.len, ← Tr.len, ← Tr.len, ← List.length_append, part_bits]
theorem ff_ok {f o : Tr} (hf : f.ok) (ho : o.ok) : (ffT f o).ok := by
  unfold ffT
  split
  · exact join_ok (partA_ok hf) (join_ok (partB_ok hf) ho)
  · exact join_ok (join_ok (partA_ok hf) (partA_ok (partB_ok hf))) (join_ok (partB_ok (partB_ok hf)) ho)
theorem fo_ok {f o : Tr} (hf : f.ok) (ho : o.ok) : (foT f o).ok := by
  unfold foT
  split
  · exact join_ok (join_ok hf (partA_ok ho)) (partB_ok ho)
  · exact join_ok (join_ok hf (partA_ok (partA_ok ho))) (join_ok (partB_ok (partA_ok ho)) (partB_ok ho))
theorem ff_bits {f o : Tr} (hf : f.ok) (ho : o.ok) : (ffT f o).bits = f.bits ++ o.bits := by
  have e1 := part_bits f
  have e2 := part_bits (partB f)
  unfold ffT
  split
  · rw [join_bits (partA_ok hf) (join_ok (partB_ok hf) ho), join_bits (partB_ok hf) ho, ← List.append_assoc, e1]
  · rw [join_bits (join_ok (partA_ok hf) (partA_ok (partB_ok hf))) (join_ok (partB_ok (partB_ok hf)) ho), join_bits (partA_ok hf) (partA_ok (partB_ok hf)), join_bits (partB_ok (partB_ok hf)) ho, ← e1, ← e2]
    simp [List.append_assoc]
theorem fo_bits {f o : Tr} (hf : f.ok) (ho : o.ok) : (foT f o).bits = f.bits ++ o.bits := by
  have e1 := part_bits o
  have e2 := part_bits (partA o)
  unfold foT
  split
  · rw [join_bits (join_ok hf (partA_ok ho)) (partB_ok ho), join_bits hf (partA_ok ho), List.append_assoc, e1]
  · rw [join_bits (join_ok hf (partA_ok (partA_ok ho))) (join_ok (partB_ok (partA_ok ho)) (partB_ok ho)), join_bits hf (partA_ok (partA_ok ho)), join_bits (partB_ok (partA_ok ho)) (partB_ok ho), ← e1, ← e2]
    simp [List.append_assoc]
theorem even_ok {f o : Tr} (hf : f.ok) (ho : o.ok) : (evenT f o).ok := by
  unfold evenT
  split
  · exact join_ok hf ho
  · split
    · exact ff_ok hf ho
    · split
      · exact fo_ok hf ho
      · exact join_ok hf ho
theorem even_bits {f o : Tr} (hf : f.ok) (ho : o.ok) : (evenT f o).bits = f.bits ++ o.bits := by
  unfold evenT
  split
  · exact join_bits hf ho
  · split
    · exact ff_bits hf ho
    · split
      · exact fo_bits hf ho
      · exact join_bits hf ho
theorem even_size {f o : Tr} (hf : f.ok) (ho : o.ok) : (evenT f o).size = f.size + o.size := by
  rw [← Tr.len, even_bits hf ho, List.length_append, f.len, o.len]
theorem even_nil_left {o : Tr} : evenT .nil o = o := by simp [evenT, joinT, Tr.size]
theorem even_nil_right {f : Tr} (hf : f.ok) : evenT f .nil = f := by
  by_cases h : f.size = 0
  · rw [Tr.zero hf h]
    simp [evenT, joinT, Tr.size]
  · simp [evenT, joinT, Tr.size, h]
/-- the way down to the leaf of a place -/
def downT (most : Nat) : Tr → Int → List (Tr × Tr) × Nat × Nat × Int
  | .nil, i => ([], 0, 0, i)
  | .leaf _ x n, i =>
    if n ≤ most then ([], x, n, i)
    else if i < ((n / 2 : Nat) : Int) then ([(.nil, ofL (x / 2 ^ (n / 2)) (n - n / 2))], x % 2 ^ (n / 2), n / 2, i)
    else ([(ofL (x % 2 ^ (n / 2)) (n / 2), .nil)], x / 2 ^ (n / 2), n - n / 2, i - ((n / 2 : Nat) : Int))
  | .fork _ l r, i =>
    if i < (l.size : Int) then ((.nil, r) :: (downT most l i).1, (downT most l i).2)
    else ((l, .nil) :: (downT most r (i - l.size)).1, (downT most r (i - l.size)).2)
/-- the bits ahead of a way, and behind it -/
def aheadL : List (Tr × Tr) → List Bool
  | [] => []
  | s :: w => s.1.bits ++ aheadL w
def behindL : List (Tr × Tr) → List Bool
  | [] => []
  | s :: w => behindL w ++ s.2.bits
def wayOk (w : List (Tr × Tr)) : Prop := ∀ s ∈ w, s.1.ok ∧ s.2.ok
theorem up_ok : ∀ {w : List (Tr × Tr)} {r : Tr}, wayOk w → r.ok → (upT w r).ok
  | [], _, _, hr => hr
  | s :: w, r, hw, hr => by
    have h1 := hw s (by simp)
    exact even_ok (even_ok h1.1 (up_ok (fun x hx => hw x (by simp [hx])) hr)) h1.2
theorem up_bits : ∀ {w : List (Tr × Tr)} {r : Tr}, wayOk w → r.ok → (upT w r).bits = aheadL w ++ r.bits ++ behindL w
  | [], r, _, hr => by simp [upT, aheadL, behindL]
  | s :: w, r, hw, hr => by
    have h1 := hw s (by simp)
    have hw' : wayOk w := fun x hx => hw x (by simp [hx])
    have hu := up_ok hw' hr
    show (evenT (evenT s.1 (upT w r)) s.2).bits = _
    rw [even_bits (even_ok h1.1 hu) h1.2, even_bits h1.1 hu, up_bits hw' hr]
    simp [aheadL, behindL, List.append_assoc]
/-- what a way down tells -/
theorem down_spec (most : Nat) (hm : 32 ≤ most) : ∀ {t : Tr} (i : Int), t.ok → wayOk (downT most t i).1 ∧ (downT most t i).2.1 < 2 ^ (downT most t i).2.2.1 ∧ (downT most t i).2.2.1 ≤ most ∧ (downT most t i).2.2.1 ≤ 64 ∧
    aheadL (downT most t i).1 ++ bitsL (downT most t i).2.1 (downT most t i).2.2.1 ++ behindL (downT most t i).1 = t.bits ∧ (downT most t i).2.2.2 = i - (aheadL (downT most t i).1).length
  | .nil, i, _ => ⟨(fun s hs => by cases hs), by simp [downT], by simp [downT], by simp [downT], rfl, by simp [downT, aheadL]⟩
  | .leaf g x n, i, h => by
    obtain ⟨h1, h2, h3⟩ := h
    unfold downT
    split
    · next e => exact ⟨(fun s hs => by cases hs), h3, e, h2, by simp [aheadL, behindL, Tr.bits], by simp [aheadL]⟩
    · next e =>
      have hk : n / 2 ≤ n := by omega
      have hp := bitsL_parts x hk
      split
      · next e2 =>
        refine ⟨fun s hs => ?_, Nat.mod_lt _ (Nat.two_pow_pos _), by show n / 2 ≤ most; omega, by show n / 2 ≤ 64; omega, ?_, by simp [aheadL, Tr.bits]⟩
        · obtain rfl := List.mem_singleton.1 hs
          exact ⟨trivial, ofL_ok (half_lt h3 hk) (by omega)⟩
        · simp only [aheadL, behindL, Tr.bits, ofL_bits, List.nil_append]
          exact hp
      · next e2 =>
        refine ⟨fun s hs => ?_, half_lt h3 hk, by show n - n / 2 ≤ most; omega, by show n - n / 2 ≤ 64; omega, ?_, ?_⟩
        · obtain rfl := List.mem_singleton.1 hs
          exact ⟨ofL_ok (Nat.mod_lt _ (Nat.two_pow_pos _)) (by omega), trivial⟩
        · simp only [aheadL, behindL, Tr.bits, ofL_bits, List.append_nil]
          exact hp
        · show i - ((n / 2 : Nat) : Int) = i - ((((ofL _ _).bits ++ []).length : Nat) : Int)
          rw [List.append_nil, ofL_bits, bitsL_length]
  | .fork g l r, i, h => by
    obtain ⟨h1, h2, h3, h4, h5⟩ := h
    unfold downT
    split
    · next e =>
      obtain ⟨a1, a2, a3, a4, a5, a6⟩ := down_spec most hm (t := l) i h1
      refine ⟨fun s hs => ?_, a2, a3, a4, ?_, ?_⟩
      · rcases List.mem_cons.1 hs with rfl | hs
        · exact ⟨trivial, h2⟩
        · exact a1 s hs
      · simp only [aheadL, behindL, Tr.bits, List.nil_append]
        rw [← List.append_assoc, a5]
      · simp only [aheadL, Tr.bits, List.nil_append]
        exact a6
    · next e =>
      obtain ⟨a1, a2, a3, a4, a5, a6⟩ := down_spec most hm (t := r) (i - l.size) h2
      refine ⟨fun s hs => ?_, a2, a3, a4, ?_, ?_⟩
      · rcases List.mem_cons.1 hs with rfl | hs
        · exact ⟨h1, trivial⟩
        · exact a1 s hs
      · simp only [aheadL, behindL, Tr.bits, List.append_nil]
        rw [List.append_assoc, List.append_assoc, ← List.append_assoc (aheadL _), a5]
      · simp only [aheadL, List.length_append]
        rw [a6, l.len]
        omega
/-- whether the place is in the leaf is whether it is in the row -/
theorem down_in (most : Nat) : ∀ {t : Tr} (i : Int), t.ok → ((0 ≤ (downT most t i).2.2.2 ↔ 0 ≤ i) ∧ ((downT most t i).2.2.2 ≤ (downT most t i).2.2.1 ↔ i ≤ t.size) ∧ ((downT most t i).2.2.2 < (downT most t i).2.2.1 ↔ i < t.size))
  | .nil, i, _ => ⟨Iff.rfl, Iff.rfl, Iff.rfl⟩
  | .leaf g x n, i, h => by
    unfold downT
    split
    · exact ⟨Iff.rfl, Iff.rfl, Iff.rfl⟩
    · have : (Tr.leaf g x n).size = n := rfl
      rw [this]
      split
      · refine ⟨Iff.rfl, ?_, ?_⟩
        · show i ≤ ((n / 2 : Nat) : Int) ↔ _
          omega
        · show i < ((n / 2 : Nat) : Int) ↔ _
          omega
      · refine ⟨?_, ?_, ?_⟩
        · show 0 ≤ i - ((n / 2 : Nat) : Int) ↔ _
          omega
        · show i - ((n / 2 : Nat) : Int) ≤ ((n - n / 2 : Nat) : Int) ↔ _
          omega
        · show i - ((n / 2 : Nat) : Int) < ((n - n / 2 : Nat) : Int) ↔ _
          omega
  | .fork g l r, i, h => by
    obtain ⟨h1, h2, h3, h4, h5⟩ := h
    have hs : (Tr.fork g l r).size = l.size + r.size := rfl
    rw [hs]
    unfold downT
    split
    · obtain ⟨a1, a2, a3⟩ := down_in most (t := l) i h1
      exact ⟨a1, a2.trans (by omega), a3.trans (by omega)⟩
    · obtain ⟨a1, a2, a3⟩ := down_in most (t := r) (i - l.size) h2
      exact ⟨a1.trans (by omega), a2.trans (by omega), a3.trans (by omega)⟩
end Go.Proofs.YtjbiofjfjljeoaaDoor
namespace Go.Proofs.YtjbiofjfjljeoaaDoor
theorem join_bal {f o : Tr} (bf : f.bal) (bo : o.bal) (h : f.size ≤ 3 * o.size ∧ o.size ≤ 3 * f.size ∨ f.size + o.size ≤ 64) : (joinT f o).bal := by
  unfold joinT
  split
  · exact bo
  · split
    · exact bf
    · split
      · trivial
      · exact ⟨bf, bo, by omega, by omega⟩
theorem partA_bal {t : Tr} (h : t.bal) : (partA t).bal := by
  cases t with
  | nil => trivial
  | leaf g x n => exact ofL_bal _ _
  | fork g l r => exact h.1
theorem partB_bal {t : Tr} (h : t.bal) : (partB t).bal := by
  cases t with
  | nil => trivial
  | leaf g x n => exact ofL_bal _ _
  | fork g l r => exact h.2.1
theorem part_even {t : Tr} (h : t.bal) (hs : 2 ≤ t.size) : (partA t).size ≤ 3 * (partB t).size ∧ (partB t).size ≤ 3 * (partA t).size := by
  cases t with
  | nil => simp [Tr.size] at hs
  | leaf g x n =>
    have hs' : 2 ≤ n := hs
    show (ofL _ _).size ≤ 3 * (ofL _ _).size ∧ (ofL _ _).size ≤ 3 * (ofL _ _).size
    rw [ofL_size, ofL_size]
    omega
  | fork g l r => exact ⟨h.2.2.1, h.2.2.2⟩
theorem ff_bal {f o : Tr} (hf : f.ok) (ho : o.ok) (bf : f.bal) (bo : o.bal) (h1 : 3 * o.size < f.size) (h2 : f.size ≤ 3 * o.size + 3) (h3 : 64 < f.size + o.size) : (ffT f o).bal := by
  have e1 := part_size f
  have e2 := part_size (partB f)
  have p1 := part_even bf (by omega)
  have p2 := part_even (partB_bal bf) (by omega)
  have s1 := join_size (partB_ok hf) ho
  have s2 := join_size (partA_ok hf) (partA_ok (partB_ok hf))
  have s3 := join_size (partB_ok (partB_ok hf)) ho
  unfold ffT
  split
  · exact join_bal (partA_bal bf) (join_bal (partB_bal bf) bo (Or.inl (by omega))) (Or.inl (by omega))
  · exact join_bal (join_bal (partA_bal bf) (partA_bal (partB_bal bf)) (Or.inl (by omega))) (join_bal (partB_bal (partB_bal bf)) bo (Or.inl (by omega))) (Or.inl (by omega))
theorem fo_bal {f o : Tr} (hf : f.ok) (ho : o.ok) (bf : f.bal) (bo : o.bal) (h1 : 3 * f.size < o.size) (h2 : o.size ≤ 3 * f.size + 3) (h3 : 64 < f.size + o.size) : (foT f o).bal := by
  have e1 := part_size o
  have e2 := part_size (partA o)
  have p1 := part_even bo (by omega)
  have p2 := part_even (partA_bal bo) (by omega)
  have s1 := join_size hf (partA_ok ho)
  have s2 := join_size hf (partA_ok (partA_ok ho))
  have s3 := join_size (partB_ok (partA_ok ho)) (partB_ok ho)
  unfold foT
  split
  · exact join_bal (join_bal bf (partA_bal bo) (Or.inl (by omega))) (partB_bal bo) (Or.inl (by omega))
  · exact join_bal (join_bal bf (partA_bal (partA_bal bo)) (Or.inl (by omega))) (join_bal (partB_bal (partA_bal bo)) (partB_bal bo) (Or.inl (by omega))) (Or.inl (by omega))
theorem even_bal {f o : Tr} (hf : f.ok) (ho : o.ok) (bf : f.bal) (bo : o.bal) (h1 : f.size ≤ 3 * o.size + 3) (h2 : o.size ≤ 3 * f.size + 3) : (evenT f o).bal := by
  by_cases hs : f.size + o.size ≤ 64
  · exact Tr.bal_small (even_ok hf ho) (by rw [even_size hf ho]; exact hs)
  · unfold evenT
    split
    · exact join_bal bf bo (Or.inr (by omega))
    · split
      · exact ff_bal hf ho bf bo (by omega) h1 (by omega)
      · split
        · exact fo_bal hf ho bf bo (by omega) h2 (by omega)
        · exact join_bal bf bo (Or.inl (by omega))
theorem up_size {w : List (Tr × Tr)} {r : Tr} (hw : wayOk w) (hr : r.ok) : (upT w r).size = (aheadL w).length + r.size + (behindL w).length := by
  rw [← Tr.len, up_bits hw hr, List.length_append, List.length_append, r.len]
theorem down_size (most : Nat) (hm : 32 ≤ most) {t : Tr} (i : Int) (h : t.ok) : (aheadL (downT most t i).1).length + (downT most t i).2.2.1 + (behindL (downT most t i).1).length = t.size := by
  obtain ⟨-, -, -, -, h5, -⟩ := down_spec most hm i h
  have := congrArg List.length h5
  rw [List.length_append, List.length_append, bitsL_length, t.len] at this
  exact this
/-- with a leaf that has one more, or one less, a row stays even -/
theorem up_bal (most : Nat) (hm : 32 ≤ most) : ∀ {t : Tr} (i : Int) {r : Tr}, t.ok → t.bal → r.ok → r.bal → r.size ≤ (downT most t i).2.2.1 + 1 → (downT most t i).2.2.1 ≤ r.size + 1 → (upT (downT most t i).1 r).bal
  | .nil, i, r, _, _, _, hb, _, _ => hb
  | .leaf g x n, i, r, h, hb, hr, br, h1, h2 => by
    obtain ⟨a1, a2, a3⟩ := h
    by_cases e : n ≤ most
    · unfold downT
      rw [if_pos e]
      exact br
    · by_cases e2 : i < ((n / 2 : Nat) : Int)
      · unfold downT at h1 h2 ⊢
        rw [if_neg e, if_pos e2] at h1 h2 ⊢
        show (evenT (evenT .nil r) (ofL _ _)).bal
        rw [even_nil_left]
        have h3 : r.size ≤ n / 2 + 1 := h1
        have h4 : n / 2 ≤ r.size + 1 := h2
        exact even_bal hr (ofL_ok (half_lt a3 (by omega)) (by omega)) br (ofL_bal _ _) (by rw [ofL_size]; omega) (by rw [ofL_size]; omega)
      · unfold downT at h1 h2 ⊢
        rw [if_neg e, if_neg e2] at h1 h2 ⊢
        have h3 : r.size ≤ n - n / 2 + 1 := h1
        have h4 : n - n / 2 ≤ r.size + 1 := h2
        have ok1 : (ofL (x % 2 ^ (n / 2)) (n / 2)).ok := ofL_ok (Nat.mod_lt _ (Nat.two_pow_pos _)) (by omega)
        show (evenT (evenT (ofL _ _) r) .nil).bal
        rw [even_nil_right (even_ok ok1 hr)]
        exact even_bal ok1 hr (ofL_bal _ _) br (by rw [ofL_size]; omega) (by rw [ofL_size]; omega)
  | .fork g l q, i, r, h, hb, hr, br, h1, h2 => by
    obtain ⟨a1, a2, a3, a4, a5⟩ := h
    obtain ⟨b1, b2, b3, b4⟩ := hb
    by_cases e : i < (l.size : Int)
    · unfold downT at h1 h2 ⊢
      rw [if_pos e] at h1 h2 ⊢
      have hw := (down_spec most hm i a1).1
      have hs := down_size most hm i a1
      have hu := up_size hw hr
      have ih := up_bal most hm i a1 b1 hr br h1 h2
      have hk := up_ok hw hr
      show (evenT (evenT .nil (upT (downT most l i).1 r)) q).bal
      rw [even_nil_left]
      generalize (downT most l i).2.2.1 = n at *
      have h3 : r.size ≤ n + 1 := h1
      have h4 : n ≤ r.size + 1 := h2
      exact even_bal hk a2 ih b2 (by omega) (by omega)
    · unfold downT at h1 h2 ⊢
      rw [if_neg e] at h1 h2 ⊢
      have hw := (down_spec most hm (i - l.size) a2).1
      have hs := down_size most hm (i - l.size) a2
      have hu := up_size hw hr
      have ih := up_bal most hm (i - l.size) a2 b2 hr br h1 h2
      have hk := up_ok hw hr
      show (evenT (evenT l (upT (downT most q (i - l.size)).1 r)) .nil).bal
      rw [even_nil_right (even_ok a1 hk)]
      have h3 : r.size ≤ (downT most q (i - l.size)).2.2.1 + 1 := h1
      have h4 : (downT most q (i - l.size)).2.2.1 ≤ r.size + 1 := h2
      generalize (downT most q (i - l.size)).2.2.1 = n at *
      exact even_bal a1 hk b1 ih (by omega) (by omega)
/-- how many nodes -/
theorem nodes_le : ∀ {t : Tr}, t.ok → t.bal → 17 ≤ t.size → 17 * (t.nodes + 1) ≤ 2 * t.size
  | .nil, _, _, h => by simp [Tr.size] at h
  | .leaf g x n, _, _, h => by
    have h1 : 17 ≤ n := h
    show 17 * (1 + 1) ≤ 2 * n
    omega
  | .fork g l r, h, hb, _ => by
    obtain ⟨a1, a2, a3, a4, a5⟩ := h
    obtain ⟨b1, b2, b3, b4⟩ := hb
    have h1 := nodes_le a1 b1 (by omega)
    have h2 := nodes_le a2 b2 (by omega)
    show 17 * (l.nodes + r.nodes + 1 + 1) ≤ 2 * (l.size + r.size)
    omega
theorem nodes_few {t : Tr} (h : t.ok) (hb : t.bal) : t.nodes ≤ 1 + t.size / 4 := by
  by_cases hs : t.size ≤ 64
  · rcases Tr.small h hs with rfl | ⟨g, x, n, rfl, -⟩
    · exact Nat.zero_le _
    · show 1 ≤ 1 + n / 4
      omega
  · have := nodes_le h hb (by omega)
    omega
/-- a row so deep has at least so many bits -/
def leastN : Nat → Nat
  | 0 => 0
  | 1 => 1
  | 2 => 65
  | d + 3 => (4 * leastN (d + 2) + 2) / 3
theorem leastN_mono (d : Nat) : leastN d ≤ leastN (d + 1) := by
  cases d with
  | zero => decide
  | succ d =>
    cases d with
    | zero => decide
    | succ d =>
      show leastN (d + 2) ≤ (4 * leastN (d + 2) + 2) / 3
      omega
theorem deep_least : ∀ {t : Tr}, t.ok → t.bal → leastN t.deep ≤ t.size
  | .nil, _, _ => Nat.zero_le _
  | .leaf g x n, h, _ => h.1
  | .fork g l r, h, hb => by
    obtain ⟨a1, a2, a3, a4, a5⟩ := h
    obtain ⟨b1, b2, b3, b4⟩ := hb
    have h1 := deep_least a1 b1
    have h2 := deep_least a2 b2
    have key : ∀ d, leastN d ≤ l.size ∨ leastN d ≤ r.size → leastN (d + 1) ≤ l.size + r.size := by
      intro d hd
      cases d with
      | zero => show 1 ≤ _; omega
      | succ d =>
        cases d with
        | zero => show 65 ≤ _; omega
        | succ d =>
          have hd' : leastN (d + 2) ≤ l.size ∨ leastN (d + 2) ≤ r.size := hd
          show (4 * leastN (d + 2) + 2) / 3 ≤ _
          rcases hd' with hd | hd <;> omega
    show leastN (max l.deep r.deep + 1) ≤ l.size + r.size
    apply key
    rcases Nat.le_total l.deep r.deep with e | e
    · rw [Nat.max_eq_right e]; exact Or.inr h2
    · rw [Nat.max_eq_left e]; exact Or.inl h1
theorem leastN_le {a b : Nat} (h : a ≤ b) : leastN a ≤ leastN b := by
  induction h with
  | refl => exact Nat.le_refl _
  | step _ ih => exact Nat.le_trans ih (leastN_mono _)
/-- a row of less than 874 bits is at most ten deep -/
theorem deep_few {t : Tr} (h : t.ok) (hb : t.bal) (hs : t.size < 874) : t.deep ≤ 10 := by
  have h1 := deep_least h hb
  rcases Nat.lt_or_ge 10 t.deep with hd | hd
  · have h2 := leastN_le (show 11 ≤ t.deep by omega)
    have h3 : leastN 11 = 874 := by decide
    omega
  · exact hd
end Go.Proofs.YtjbiofjfjljeoaaDoor
namespace Go.Proofs.YtjbiofjfjljeoaaDoor
open Go.RowKit
/-- where the kids of a row lie that is not made -/
def KidsAt (w : World) : Tr → Value → Prop
  | .fork h l r, k =>
    if h = 0 then ∃ g k1 k2, k = .slice (some ⟨g, 0, none⟩) 2 2 ∧
      BlkAt w g 96 [.int .i64 l.hd, .int .i64 (l.size : Nat), .int .i64 (l.ones : Nat), .int .u64 (l.wd : Nat), .int .i64 (l.bn : Nat), k1, .int .i64 r.hd, .int .i64 (r.size : Nat), .int .i64 (r.ones : Nat), .int .u64 (r.wd : Nat), .int .i64 (r.bn : Nat), k2] ∧ KidsAt w l k1 ∧ KidsAt w r k2
    else k = .slice none 0 0
  | .nil, k => k = .slice none 0 0
  | .leaf _ _ _, k => k = .slice none 0 0
theorem KidsAt.later {w w' : World} (hb : Below w.heap.size w w') : ∀ {t : Tr} {k : Value}, KidsAt w t k → KidsAt w' t k
  | .nil, _, h => h
  | .leaf _ _ _, _, h => h
  | .fork h l r, k, hk => by
    unfold KidsAt at hk ⊢
    split
    · next e =>
      rw [if_pos e] at hk
      obtain ⟨g, k1, k2, h1, h2, h3, h4⟩ := hk
      exact ⟨g, k1, k2, h1, h2.later hb, KidsAt.later hb h3, KidsAt.later hb h4⟩
    · next e =>
      rw [if_neg e] at hk
      exact hk
/-- a slice of kids is one of two forms -/
theorem KidsAt.form {w : World} {t : Tr} {k : Value} (h : KidsAt w t k) : k = .slice none 0 0 ∨ ∃ g, k = .slice (some ⟨g, 0, none⟩) 2 2 := by
  cases t with
  | nil => exact Or.inl h
  | leaf _ _ _ => exact Or.inl h
  | fork e l r =>
    unfold KidsAt at h
    split at h
    · obtain ⟨g, k1, k2, h1, -⟩ := h
      exact Or.inr ⟨g, h1⟩
    · exact Or.inl h
/-- what an arena holds of a row -/
def Held (S : St) : Tr → Prop
  | .nil => True
  | .leaf h x n => h ≠ 0 → 0 < S.cnt h ∧ (S.get h).nd = ⟨1, 0, 0, 0, 0, (x : Nat), (n : Nat)⟩
  | .fork h l r => Held S l ∧ Held S r ∧ (h ≠ 0 → l.hd ≠ 0 ∧ r.hd ≠ 0 ∧ 0 < S.cnt h ∧ (S.get h).nd = ⟨2, l.hd, r.hd, 0, 0, ((l.size + r.size : Nat) : Int), ((l.ones + r.ones : Nat) : Int)⟩)
theorem ofL_kids (w : World) (x n : Nat) : KidsAt w (ofL x n) (.slice none 0 0) := by
  unfold ofL
  split <;> rfl
theorem ofL_held (S : St) (x n : Nat) : Held S (ofL x n) := by
  unfold ofL
  split
  · trivial
  · exact fun h => absurd rfl h
theorem join_held {S : St} {f o : Tr} (hf : Held S f) (ho : Held S o) : Held S (joinT f o) := by
  unfold joinT
  split
  · exact ho
  · split
    · exact hf
    · split
      · exact fun h => absurd rfl h
      · exact ⟨hf, ho, fun h => absurd rfl h⟩
theorem partA_held {S : St} {t : Tr} (h : Held S t) : Held S (partA t) := by
  cases t with
  | nil => trivial
  | leaf g x n => exact ofL_held S _ _
  | fork g l r => exact h.1
theorem partB_held {S : St} {t : Tr} (h : Held S t) : Held S (partB t) := by
  cases t with
  | nil => trivial
  | leaf g x n => exact ofL_held S _ _
  | fork g l r => exact h.2.1
theorem even_held {S : St} {f o : Tr} (hf : Held S f) (ho : Held S o) : Held S (evenT f o) := by
  have a := partA_held hf
  have b := partB_held hf
  have c := partA_held ho
  have d := partB_held ho
  have e := join_held hf ho
  unfold evenT ffT foT
  split
  · exact e
  · split
    · split
      · exact join_held a (join_held b ho)
      · exact join_held (join_held a (partA_held b)) (join_held (partB_held b) ho)
    · split
      · split
        · exact join_held (join_held hf c) d
        · exact join_held (join_held hf (partA_held c)) (join_held (partB_held c) d)
      · exact e
set_option maxRecDepth 100000 in
theorem isFork_no (h s o : Int) (x : Nat) (k : Value) (w : World) :
    Calls Tryd.prog 58 #[.agg #[.int .i64 h, .int .i64 s, .int .i64 o, .int .u64 (x : Nat), .int .i64 s, k]] w fun e w' => e = .returned (.bool false) ∧ Below w.heap.size w w' := by
  go_enter Tryd.func58, Tryd.ntmps58
  go_wp2
  go_ret
  exact ⟨rfl, (Below.refl w.heap.size w).alloc (Nat.le_refl _) _⟩
set_option maxRecDepth 100000 in
theorem isFork_yes {h s o n : Int} {x : Nat} {k : Value} (hs : s ≠ n) (w : World) :
    Calls Tryd.prog 58 #[.agg #[.int .i64 h, .int .i64 s, .int .i64 o, .int .u64 (x : Nat), .int .i64 n, k]] w fun e w' => e = .returned (.bool true) ∧ Below w.heap.size w w' := by
  have d0 : decide (s = n) = false := decide_eq_false hs
  have d1 : (s != n) = true := by simp [hs]
  go_enter Tryd.func58, Tryd.ntmps58
  go_wp2
  go_ret
  exact ⟨rfl, (Below.refl w.heap.size w).alloc (Nat.le_refl _) _⟩
set_option maxRecDepth 100000 in
set_option maxHeartbeats 1000000 in
theorem ofLeaf_any {x n : Nat} (hx : x < 2 ^ n) (hn : n ≤ 64) (w : World) :
    Calls Tryd.prog 73 #[.agg #[.int .u64 (x : Nat), .int .i64 (n : Nat)]] w fun e w' => e = .returned (.agg #[.int .i64 0, .int .i64 (n : Nat), .int .i64 (popN n x : Nat), .int .u64 (x : Nat), .int .i64 (n : Nat), .slice none 0 0]) ∧ Below w.heap.size w w' := by
  have T : Hid (∀ W, _) := fun W => rank_yes hx hn (n : Nat) W
  rw [clampN_in (Nat.le_refl n)] at T
  generalize popN n x = c at *
  go_enter Tryd.func73, Tryd.ntmps73
  go_wp2
  have hR0 : Bs w [(w.heap.size, 93, [.int .u64 ((x : Nat) : Int), .int .i64 ((n : Nat) : Int)])] ((w.alloc (.cells #[.int .u64 ((x : Nat) : Int), .int .i64 ((n : Nat) : Int)] 93)).alloc (.cells #[.int .i64 0, .int .i64 0, .int .i64 0, .int .u64 0, .int .i64 0, .slice none 0 0] 96)) := Bs.cons ((BlkAt.made (by first | rfl | simp) _ [.int .u64 ((x : Nat) : Int), .int .i64 ((n : Nat) : Int)]).alloc _) (Bs.nil (((Below.refl w.heap.size w).alloc (by first | omega | (simp <;> omega)) _).alloc (by first | omega | (simp <;> omega)) _))
  have hZr : Hid (BlkAt ((w.alloc (.cells #[.int .u64 ((x : Nat) : Int), .int .i64 ((n : Nat) : Int)] 93)).alloc (.cells #[.int .i64 0, .int .i64 0, .int .i64 0, .int .u64 0, .int .i64 0, .slice none 0 0] 96)).drew (w.heap.size + 1) 96 [.int .i64 0, .int .i64 0, .int .i64 0, .int .u64 0, .int .i64 0, .slice none 0 0]) := (BlkAt.made (by first | rfl | simp) _ [.int .i64 0, .int .i64 0, .int .i64 0, .int .u64 0, .int .i64 0, .slice none 0 0])
  have hmk : Hid (∀ W, Bs w [(w.heap.size, 93, [.int .u64 ((x : Nat) : Int), .int .i64 ((n : Nat) : Int)])] W → (fun W => (W.cell? ⟨w.heap.size, 0, none⟩ = some (.int .u64 ((x : Nat) : Int)) ∧ W.cell? ⟨w.heap.size, 1, none⟩ = some (.int .i64 ((n : Nat) : Int))) ∧ Bs w [(w.heap.size, 93, [.int .u64 ((x : Nat) : Int), .int .i64 ((n : Nat) : Int)])] W) W) := fun W h => ⟨⟨(h.at 0 rfl).cell rfl, (h.at 0 rfl).cell rfl⟩, h⟩
  have hS0 := hmk.out _ hR0.drew
  have R0 : Hid (∀ W, (fun W => (W.cell? ⟨w.heap.size, 0, none⟩ = some (.int .u64 ((x : Nat) : Int)) ∧ W.cell? ⟨w.heap.size, 1, none⟩ = some (.int .i64 ((n : Nat) : Int))) ∧ Bs w [(w.heap.size, 93, [.int .u64 ((x : Nat) : Int), .int .i64 ((n : Nat) : Int)])] W) W → _) := fun W h => heldQ hmk.out (fun _ h => h.2) (fun _ _ h hb => h.later hb) h (fun hR => T.out W)
  have hget : Hid (∀ W, (fun W => (W.cell? ⟨w.heap.size, 0, none⟩ = some (.int .u64 ((x : Nat) : Int)) ∧ W.cell? ⟨w.heap.size, 1, none⟩ = some (.int .i64 ((n : Nat) : Int))) ∧ Bs w [(w.heap.size, 93, [.int .u64 ((x : Nat) : Int), .int .i64 ((n : Nat) : Int)])] W) W → Bs w [(w.heap.size, 93, [.int .u64 ((x : Nat) : Int), .int .i64 ((n : Nat) : Int)])] W) := fun W h => h.2
  have hstr : Hid (∀ W b0 b1 b2 b3 b4 b5, (fun W => (W.cell? ⟨w.heap.size, 0, none⟩ = some (.int .u64 ((x : Nat) : Int)) ∧ W.cell? ⟨w.heap.size, 1, none⟩ = some (.int .i64 ((n : Nat) : Int))) ∧ Bs w [(w.heap.size, 93, [.int .u64 ((x : Nat) : Int), .int .i64 ((n : Nat) : Int)])] W) W → (fun W => (W.cell? ⟨w.heap.size, 0, none⟩ = some (.int .u64 ((x : Nat) : Int)) ∧ W.cell? ⟨w.heap.size, 1, none⟩ = some (.int .i64 ((n : Nat) : Int))) ∧ Bs w [(w.heap.size, 93, [.int .u64 ((x : Nat) : Int), .int .i64 ((n : Nat) : Int)])] W) ((((((W.setCell ⟨w.heap.size + 1, 0, none⟩ b0).setCell ⟨w.heap.size + 1, 1, none⟩ b1).setCell ⟨w.heap.size + 1, 2, none⟩ b2).setCell ⟨w.heap.size + 1, 3, none⟩ b3).setCell ⟨w.heap.size + 1, 4, none⟩ b4).setCell ⟨w.heap.size + 1, 5, none⟩ b5)) := fun W b0 b1 b2 b3 b4 b5 h => hmk.out _ (h.2.set6 (by first | omega | (simp <;> omega)) (by intro x hx; simp only [List.mem_cons, List.not_mem_nil, or_false] at hx; rcases hx with rfl <;> (dsimp only; omega)) _ _ _ _ _ _ )
  clear hR0 hmk
  go_region_held3 (fun W => (W.cell? ⟨w.heap.size, 0, none⟩ = some (.int .u64 ((x : Nat) : Int)) ∧ W.cell? ⟨w.heap.size, 1, none⟩ = some (.int .i64 ((n : Nat) : Int))) ∧ Bs w [(w.heap.size, 93, [.int .u64 ((x : Nat) : Int), .int .i64 ((n : Nat) : Int)])] W) (first | (with_reducible assumption) | (with_reducible exact hstr.out _ _ _ _ _ _ _ (by with_reducible assumption))) ((first | (go_at_call 88; with_reducible refine (R0.out _ (by with_reducible assumption)).mono ?_; rintro e wr0 ⟨rfl, hS0z, hb0⟩; have hz0r : BlkAt wr0 (w.heap.size + 1) 96 [.int .i64 0, .int .i64 0, .int .i64 0, .int .u64 0, .int .i64 0, .slice none 0 0] := (by first | exact hZr.out.later hb0 | exact (hZr.out.alloc _).later hb0 | exact (hZ0r.out _).later hb0); have z0r : wr0.cell? ⟨w.heap.size + 1, 0, none⟩ = some (.int .i64 0) := hz0r.cell rfl; have y0r := hz0r.frozen 0; have z1r : wr0.cell? ⟨w.heap.size + 1, 1, none⟩ = some (.int .i64 0) := hz0r.cell rfl; have y1r := hz0r.frozen 1; have z2r : wr0.cell? ⟨w.heap.size + 1, 2, none⟩ = some (.int .i64 0) := hz0r.cell rfl; have y2r := hz0r.frozen 2; have z3r : wr0.cell? ⟨w.heap.size + 1, 3, none⟩ = some (.int .u64 0) := hz0r.cell rfl; have y3r := hz0r.frozen 3; have z4r : wr0.cell? ⟨w.heap.size + 1, 4, none⟩ = some (.int .i64 0) := hz0r.cell rfl; have y4r := hz0r.frozen 4; have z5r : wr0.cell? ⟨w.heap.size + 1, 5, none⟩ = some (.slice none 0 0) := hz0r.cell rfl; have y5r := hz0r.frozen 5)))
  have HBX : Hid (Bs _ _ _) := hget.out _ hS0z
  have HB : Hid (Below _ _ _) := HBX.out.b
  have Bl : Hid (BlkAt _ _ _ _) := HBX.out.at 0 rfl
  have Br : Hid (BlkAt _ _ _ _) := hz0r
  go_wp2
  have hsz := HB.out.size
  have t1r := Br.out.lt
  exact bodyPost_ret (v := .agg #[.int .i64 0, .int .i64 (n : Nat), .int .i64 (c : Nat), .int .u64 (x : Nat), .int .i64 (n : Nat), .slice none 0 0]) (by simp [results, Tryd.results73, go_sem, z0r, z1r, z2r, z3r, z4r, z5r]) rfl ⟨rfl, (below6 HB.out (by first | omega | (simp <;> omega)) _ _ _ _ _ _ )⟩
end Go.Proofs.YtjbiofjfjljeoaaDoor
namespace Go.Proofs.YtjbiofjfjljeoaaDoor
open Go.RowKit
/-- the cells of a row of bits -/
abbrev rowL (t : Tr) (v : Value) : List Value := [.int .i64 t.hd, .int .i64 ((t.size : Nat) : Int), .int .i64 ((t.ones : Nat) : Int), .int .u64 ((t.wd : Nat) : Int), .int .i64 ((t.bn : Nat) : Int), v]
theorem Tryd.eqKids (W : World) : (Op.equalIn 10000 45 (Value.agg #[Value.int IntKind.i64 0, Value.int IntKind.i64 0, Value.int IntKind.i64 0, Value.int IntKind.i64 0]) (Value.agg #[Value.int IntKind.i64 0, Value.int IntKind.i64 0, Value.int IntKind.i64 0, Value.int IntKind.i64 0])).run Tryd.prog W = .ok true W := by kernel_rfl
set_option maxRecDepth 100000 in
/-- a row is told -/
theorem ret_row {fn : Func} {s : Nat} {R : Ending → World → Prop} {a : Act} {W : World} {g : Nat} {b0 b1 b2 b3 b4 b5 : Value} (hf : fn.results = #[ResultVar.cell s 96]) (hd : a.defers = []) (hp : a.tmps[s]?.getD undef = .pointer (some ⟨g, 0, none⟩)) (hB : BlkAt W g 96 [b0, b1, b2, b3, b4, b5]) (hR : R (.returned (.agg #[b0, b1, b2, b3, b4, b5])) W) : bodyPost Tryd.prog fn R .ret a W := by
  have c0 : W.cell? ⟨g, 0, none⟩ = some b0 := hB.cell rfl
  have c1 : W.cell? ⟨g, 1, none⟩ = some b1 := hB.cell rfl
  have c2 : W.cell? ⟨g, 2, none⟩ = some b2 := hB.cell rfl
  have c3 : W.cell? ⟨g, 3, none⟩ = some b3 := hB.cell rfl
  have c4 : W.cell? ⟨g, 4, none⟩ = some b4 := hB.cell rfl
  have c5 : W.cell? ⟨g, 5, none⟩ = some b5 := hB.cell rfl
  exact bodyPost_ret (v := .agg #[b0, b1, b2, b3, b4, b5]) (by simp [results, hf, go_sem, hp, c0, c1, c2, c3, c4, c5]) hd hR
set_option maxRecDepth 100000 in
theorem ret_rows {fn : Func} {s t : Nat} {R : Ending → World → Prop} {a : Act} {W : World} {g h : Nat} {b0 b1 b2 b3 b4 b5 d0 d1 d2 d3 d4 d5 : Value} (hf : fn.results = #[ResultVar.cell s 96, ResultVar.cell t 96]) (hd : a.defers = []) (hp : a.tmps[s]?.getD undef = .pointer (some ⟨g, 0, none⟩)) (hq : a.tmps[t]?.getD undef = .pointer (some ⟨h, 0, none⟩)) (hB : BlkAt W g 96 [b0, b1, b2, b3, b4, b5]) (hD : BlkAt W h 96 [d0, d1, d2, d3, d4, d5]) (hR : R (.returned (.tuple #[.agg #[b0, b1, b2, b3, b4, b5], .agg #[d0, d1, d2, d3, d4, d5]])) W) : bodyPost Tryd.prog fn R .ret a W := by
  have c0 : W.cell? ⟨g, 0, none⟩ = some b0 := hB.cell rfl
  have c1 : W.cell? ⟨g, 1, none⟩ = some b1 := hB.cell rfl
  have c2 : W.cell? ⟨g, 2, none⟩ = some b2 := hB.cell rfl
  have c3 : W.cell? ⟨g, 3, none⟩ = some b3 := hB.cell rfl
  have c4 : W.cell? ⟨g, 4, none⟩ = some b4 := hB.cell rfl
  have c5 : W.cell? ⟨g, 5, none⟩ = some b5 := hB.cell rfl
  have e0 : W.cell? ⟨h, 0, none⟩ = some d0 := hD.cell rfl
  have e1 : W.cell? ⟨h, 1, none⟩ = some d1 := hD.cell rfl
  have e2 : W.cell? ⟨h, 2, none⟩ = some d2 := hD.cell rfl
  have e3 : W.cell? ⟨h, 3, none⟩ = some d3 := hD.cell rfl
  have e4 : W.cell? ⟨h, 4, none⟩ = some d4 := hD.cell rfl
  have e5 : W.cell? ⟨h, 5, none⟩ = some d5 := hD.cell rfl
  exact bodyPost_ret (v := .tuple #[.agg #[b0, b1, b2, b3, b4, b5], .agg #[d0, d1, d2, d3, d4, d5]]) (by simp [results, hf, go_sem, hp, hq, c0, c1, c2, c3, c4, c5, e0, e1, e2, e3, e4, e5]) hd hR
set_option maxRecDepth 100000 in
set_option maxHeartbeats 400000 in
theorem says_zero {p : Value} {S : St} {w : World} (hR : Rd p S w) {h : Int} (hc : S.cnt h = 0) :
    Calls Tryd.prog 57 #[p, .int .i64 h] w fun e w' => e = .returned (.agg #[.int .i64 0, .int .i64 0, .int .i64 0, .int .u64 0, .int .i64 0, .slice none 0 0]) ∧ Below w.heap.size w w' := by
  have RD : Hid (Rd p S w) := hR
  have T1 : Hid (∀ W, Rd p S W → _) := fun W hR => getR hR h
  have T2 : Hid (∀ W, Rd p S W → _) := fun W hR => countQ hR h
  rw [hc] at T2
  generalize (S.get h).nd = nd at *
  obtain ⟨tg, k0, k1, k2, k3, a, b⟩ := nd
  generalize S.isB h = is at *
  unfold ndV at T1
  clear hR
  go_enter Tryd.func57, Tryd.ntmps57
  go_wp2_with (go_at_call 79; fail)
  refine (T1.out _ (RD.out.later ((Below.refl w.heap.size w).al _))).mono ?_
  rintro e w1 ⟨rfl, hb⟩
  have hB : Below w.heap.size w w1 := ((Below.refl w.heap.size w).al _).trans (hb.mo)
  have sw1 : w.heap.size + 1 ≤ w1.heap.size := by have := hb.size; (try simp at this); omega
  have br : BlkAt w1 (w.heap.size) 96 [.int .i64 0, .int .i64 0, .int .i64 0, .int .u64 0, .int .i64 0, .slice none 0 0] := (BlkAt.made (by first | rfl | simp) _ [.int .i64 0, .int .i64 0, .int .i64 0, .int .u64 0, .int .i64 0, .slice none 0 0]).later hb
  have Br : Hid (BlkAt _ _ _ _) := br
  have HB : Hid (Below _ _ _) := hB
  clear hB br
  clear hb
  go_wp2_with (go_at_call 81; fail)
  have hsz := HB.out.size
  refine (T2.out _ (RD.out.later (HB.out.al _))).mono ?_
  rintro e w2 ⟨rfl, hb⟩
  clear hsz
  have hsz := HB.out.size
  have t1r := Br.out.lt
  have hB : Below w.heap.size w w2 := (HB.out.al _).trans (hb.mo)
  have sw2 : w1.heap.size + 1 ≤ w2.heap.size := by have := hb.size; (try simp at this); omega
  have br : BlkAt w2 (w.heap.size) 96 [.int .i64 0, .int .i64 0, .int .i64 0, .int .u64 0, .int .i64 0, .slice none 0 0] := (Br.out.alloc _).later hb
  have bn : BlkAt w2 (w1.heap.size) 48 [.int .i64 tg, .int .i64 k0, .int .i64 k1, .int .i64 k2, .int .i64 k3, .int .u64 a, .int .u64 b] := (BlkAt.made (by first | rfl | simp) _ [.int .i64 tg, .int .i64 k0, .int .i64 k1, .int .i64 k2, .int .i64 k3, .int .u64 a, .int .u64 b]).later hb
  clear t1r Br hsz HB
  have Br : Hid (BlkAt _ _ _ _) := br
  have Bn : Hid (BlkAt _ _ _ _) := bn
  have HB : Hid (Below _ _ _) := hB
  clear hB br bn
  clear hb
  obtain ⟨c0n, c1n, c2n, c3n, c4n, c5n, c6n⟩ := cellsB7 Bn.out
  have t0n := Bn.out.lt
  obtain ⟨c0r, c1r, c2r, c3r, c4r, c5r⟩ := cellsB6 Br.out
  have t0r := Br.out.lt
  have f0r := Br.out.frozen 0
  have f1r := Br.out.frozen 1
  have f2r := Br.out.frozen 2
  have f3r := Br.out.frozen 3
  have f4r := Br.out.frozen 4
  have f5r := Br.out.frozen 5
  go_wp2
  have hsz := HB.out.size
  have t1r := Br.out.lt
  have t1n := Bn.out.lt
  exact ret_row Tryd.results57 rfl rfl (Br.out.set6 _ _ _ _ _ _ ) ⟨rfl, (below6 HB.out (by first | omega | (simp <;> omega)) _ _ _ _ _ _ )⟩
set_option maxRecDepth 100000 in
set_option maxHeartbeats 400000 in
theorem says_leaf {p : Value} {S : St} {w : World} (hR : Rd p S w) {h : Int} {x n : Nat} (hx : x < 2 ^ n) (hn : n ≤ 64) (hc : 0 < S.cnt h) (hd : (S.get h).nd = ⟨1, 0, 0, 0, 0, (x : Nat), (n : Nat)⟩) :
    Calls Tryd.prog 57 #[p, .int .i64 h] w fun e w' => e = .returned (.agg #[.int .i64 h, .int .i64 (n : Nat), .int .i64 (popN n x : Nat), .int .u64 (x : Nat), .int .i64 (n : Nat), .slice none 0 0]) ∧ Below w.heap.size w w' := by
  have RD : Hid (Rd p S w) := hR
  have T1 : Hid (∀ W, Rd p S W → _) := fun W hR => getR hR h
  have T2 : Hid (∀ W, Rd p S W → _) := fun W hR => countQ hR h
  have T3 : Hid (∀ W, _) := fun W => right_any x (by have := pow_le64 hn; omega) (n : Nat) W
  rw [right_of hn hx] at T3
  have T4 : Hid (∀ W, _) := fun W => ofLeaf_any hx hn W
  generalize popN n x = c at *
  have d0 : decide (((S.cnt h : Nat) : Int) = 0) = false := decide_eq_false (by omega)
  have d00 : (((S.cnt h : Nat) : Int) == 0) = false := by simp; omega
  rw [hd] at T1
  unfold ndV at T1
  generalize S.cnt h = cn at *
  generalize S.isB h = is at *
  have d1 : decide ((n : Int) ≤ 64) = true := decide_eq_true (by omega)
  have hw := wrap_i (n := (n : Int)) (by omega) (by omega)
  clear hd hc
  clear hR
  go_enter Tryd.func57, Tryd.ntmps57
  go_wp2_with (go_at_call 79; fail)
  refine (T1.out _ (RD.out.later ((Below.refl w.heap.size w).al _))).mono ?_
  rintro e w1 ⟨rfl, hb⟩
  have hB : Below w.heap.size w w1 := ((Below.refl w.heap.size w).al _).trans (hb.mo)
  have sw1 : w.heap.size + 1 ≤ w1.heap.size := by have := hb.size; (try simp at this); omega
  have br : BlkAt w1 (w.heap.size) 96 [.int .i64 0, .int .i64 0, .int .i64 0, .int .u64 0, .int .i64 0, .slice none 0 0] := (BlkAt.made (by first | rfl | simp) _ [.int .i64 0, .int .i64 0, .int .i64 0, .int .u64 0, .int .i64 0, .slice none 0 0]).later hb
  have Br : Hid (BlkAt _ _ _ _) := br
  have HB : Hid (Below _ _ _) := hB
  clear hB br
  clear hb
  go_wp2_with (go_at_call 81; fail)
  have hsz := HB.out.size
  refine (T2.out _ (RD.out.later (HB.out.al _))).mono ?_
  rintro e w2 ⟨rfl, hb⟩
  clear hsz
  have hsz := HB.out.size
  have t1r := Br.out.lt
  have hB : Below w.heap.size w w2 := (HB.out.al _).trans (hb.mo)
  have sw2 : w1.heap.size + 1 ≤ w2.heap.size := by have := hb.size; (try simp at this); omega
  have br : BlkAt w2 (w.heap.size) 96 [.int .i64 0, .int .i64 0, .int .i64 0, .int .u64 0, .int .i64 0, .slice none 0 0] := (Br.out.alloc _).later hb
  have bn : BlkAt w2 (w1.heap.size) 48 [.int .i64 1, .int .i64 0, .int .i64 0, .int .i64 0, .int .i64 0, .int .u64 (x : Nat), .int .u64 (n : Nat)] := (BlkAt.made (by first | rfl | simp) _ [.int .i64 1, .int .i64 0, .int .i64 0, .int .i64 0, .int .i64 0, .int .u64 (x : Nat), .int .u64 (n : Nat)]).later hb
  clear t1r Br hsz HB
  have Br : Hid (BlkAt _ _ _ _) := br
  have Bn : Hid (BlkAt _ _ _ _) := bn
  have HB : Hid (Below _ _ _) := hB
  clear hB br bn
  clear hb
  obtain ⟨c0n, c1n, c2n, c3n, c4n, c5n, c6n⟩ := cellsB7 Bn.out
  have t0n := Bn.out.lt
  obtain ⟨c0r, c1r, c2r, c3r, c4r, c5r⟩ := cellsB6 Br.out
  have t0r := Br.out.lt
  have f0r := Br.out.frozen 0
  have f1r := Br.out.frozen 1
  have f2r := Br.out.frozen 2
  have f3r := Br.out.frozen 3
  have f4r := Br.out.frozen 4
  have f5r := Br.out.frozen 5
  have HK := Tryd.eqKids w2
  go_wp2_with (go_at_call 83; fail)
  refine (T3.out _).mono ?_
  rintro e w3 ⟨rfl, hb⟩
  clear c0n c1n c2n c3n c4n c5n c6n t0n c0r c1r c2r c3r c4r c5r t0r f0r f1r f2r f3r f4r f5r HK
  have hsz := HB.out.size
  have t1r := Br.out.lt
  have t1n := Bn.out.lt
  have hB : Below w.heap.size w w3 := (HB.out.al _).trans (hb.mo)
  have sw3 : w2.heap.size + 1 ≤ w3.heap.size := by have := hb.size; (try simp at this); omega
  have br : BlkAt w3 (w.heap.size) 96 [.int .i64 0, .int .i64 0, .int .i64 0, .int .u64 0, .int .i64 0, .slice none 0 0] := (Br.out.alloc _).later hb
  have bn : BlkAt w3 (w1.heap.size) 48 [.int .i64 1, .int .i64 0, .int .i64 0, .int .i64 0, .int .i64 0, .int .u64 (x : Nat), .int .u64 (n : Nat)] := (Bn.out.alloc _).later hb
  have bl : BlkAt w3 (w2.heap.size) 93 [.int .u64 ((x : Nat) : Int), .int .i64 ((n : Nat) : Int)] := (BlkAt.made (by first | rfl | simp) _ [.int .u64 ((x : Nat) : Int), .int .i64 ((n : Nat) : Int)]).later hb
  clear t1r t1n Br Bn hsz HB
  have Br : Hid (BlkAt _ _ _ _) := br
  have Bn : Hid (BlkAt _ _ _ _) := bn
  have Bl : Hid (BlkAt _ _ _ _) := bl
  have HB : Hid (Below _ _ _) := hB
  clear hB br bn bl
  clear hb
  obtain ⟨c0l, c1l⟩ := cellsB2 Bl.out
  have t0l := Bl.out.lt
  obtain ⟨c0r, c1r, c2r, c3r, c4r, c5r⟩ := cellsB6 Br.out
  have t0r := Br.out.lt
  obtain ⟨c0n, c1n, c2n, c3n, c4n, c5n, c6n⟩ := cellsB7 Bn.out
  have t0n := Bn.out.lt
  have f0r := Br.out.frozen 0
  have f1r := Br.out.frozen 1
  have f2r := Br.out.frozen 2
  have f3r := Br.out.frozen 3
  have f4r := Br.out.frozen 4
  have f5r := Br.out.frozen 5
  go_wp2_with (go_at_call 73; fail)
  refine (T4.out _).mono ?_
  rintro e w4 ⟨rfl, hb⟩
  clear c0l c1l t0l c0r c1r c2r c3r c4r c5r t0r c0n c1n c2n c3n c4n c5n c6n t0n f0r f1r f2r f3r f4r f5r
  have hsz := HB.out.size
  have t1r := Br.out.lt
  have t1n := Bn.out.lt
  have t1l := Bl.out.lt
  have hB : Below w.heap.size w w4 := HB.out.trans (hb.mo)
  have sw4 : w3.heap.size + 0 ≤ w4.heap.size := by have := hb.size; (try simp at this); omega
  have br : BlkAt w4 (w.heap.size) 96 [.int .i64 0, .int .i64 0, .int .i64 0, .int .u64 0, .int .i64 0, .slice none 0 0] := Br.out.later hb
  have bn : BlkAt w4 (w1.heap.size) 48 [.int .i64 1, .int .i64 0, .int .i64 0, .int .i64 0, .int .i64 0, .int .u64 (x : Nat), .int .u64 (n : Nat)] := Bn.out.later hb
  have bl : BlkAt w4 (w2.heap.size) 93 [.int .u64 ((x : Nat) : Int), .int .i64 ((n : Nat) : Int)] := Bl.out.later hb
  clear t1r t1n t1l Br Bn Bl hsz HB
  have Br : Hid (BlkAt _ _ _ _) := br
  have Bn : Hid (BlkAt _ _ _ _) := bn
  have Bl : Hid (BlkAt _ _ _ _) := bl
  have HB : Hid (Below _ _ _) := hB
  clear hB br bn bl
  clear hb
  obtain ⟨c0l, c1l⟩ := cellsB2 Bl.out
  have t0l := Bl.out.lt
  obtain ⟨c0r, c1r, c2r, c3r, c4r, c5r⟩ := cellsB6 Br.out
  have t0r := Br.out.lt
  have f0r := Br.out.frozen 0
  have f1r := Br.out.frozen 1
  have f2r := Br.out.frozen 2
  have f3r := Br.out.frozen 3
  have f4r := Br.out.frozen 4
  have f5r := Br.out.frozen 5
  go_wp2
  have hsz := HB.out.size
  have t1r := Br.out.lt
  have t1n := Bn.out.lt
  have t1l := Bl.out.lt
  exact ret_row Tryd.results57 rfl rfl ((Br.out.set6 _ _ _ _ _ _ ).alloc _) ⟨rfl, ((below6 HB.out (by first | omega | (simp <;> omega)) _ _ _ _ _ _ ).al _)⟩
set_option maxRecDepth 100000 in
set_option maxHeartbeats 400000 in
theorem says_fork {p : Value} {S : St} {w : World} (hR : Rd p S w) {h l r : Int} {a b : Nat} (ha : a ≤ 1000000000) (hba : b ≤ a) (hc : 0 < S.cnt h) (hd : (S.get h).nd = ⟨2, l, r, 0, 0, (a : Nat), (b : Nat)⟩) :
    Calls Tryd.prog 57 #[p, .int .i64 h] w fun e w' => e = .returned (.agg #[.int .i64 h, .int .i64 (a : Nat), .int .i64 (b : Nat), .int .u64 0, .int .i64 0, .slice none 0 0]) ∧ Below w.heap.size w w' := by
  have RD : Hid (Rd p S w) := hR
  have T1 : Hid (∀ W, Rd p S W → _) := fun W hR => getR hR h
  have T2 : Hid (∀ W, Rd p S W → _) := fun W hR => countQ hR h
  have d0 : decide (((S.cnt h : Nat) : Int) = 0) = false := decide_eq_false (by omega)
  have d00 : (((S.cnt h : Nat) : Int) == 0) = false := by simp; omega
  rw [hd] at T1
  unfold ndV at T1
  generalize S.cnt h = cn at *
  generalize S.isB h = is at *
  have d1 : decide ((a : Int) ≤ 2305843009213693951) = true := decide_eq_true (by omega)
  have d2 : decide ((b : Int) ≤ (a : Int)) = true := decide_eq_true (by omega)
  have d3 : decide (b ≤ a) = true := decide_eq_true hba
  have hw := wrap_i (n := (a : Int)) (by omega) (by omega)
  have hw2 := wrap_i (n := (b : Int)) (by omega) (by omega)
  clear hd hc
  clear hR
  go_enter Tryd.func57, Tryd.ntmps57
  go_wp2_with (go_at_call 79; fail)
  refine (T1.out _ (RD.out.later ((Below.refl w.heap.size w).al _))).mono ?_
  rintro e w1 ⟨rfl, hb⟩
  have hB : Below w.heap.size w w1 := ((Below.refl w.heap.size w).al _).trans (hb.mo)
  have sw1 : w.heap.size + 1 ≤ w1.heap.size := by have := hb.size; (try simp at this); omega
  have br : BlkAt w1 (w.heap.size) 96 [.int .i64 0, .int .i64 0, .int .i64 0, .int .u64 0, .int .i64 0, .slice none 0 0] := (BlkAt.made (by first | rfl | simp) _ [.int .i64 0, .int .i64 0, .int .i64 0, .int .u64 0, .int .i64 0, .slice none 0 0]).later hb
  have Br : Hid (BlkAt _ _ _ _) := br
  have HB : Hid (Below _ _ _) := hB
  clear hB br
  clear hb
  go_wp2_with (go_at_call 81; fail)
  have hsz := HB.out.size
  refine (T2.out _ (RD.out.later (HB.out.al _))).mono ?_
  rintro e w2 ⟨rfl, hb⟩
  clear hsz
  have hsz := HB.out.size
  have t1r := Br.out.lt
  have hB : Below w.heap.size w w2 := (HB.out.al _).trans (hb.mo)
  have sw2 : w1.heap.size + 1 ≤ w2.heap.size := by have := hb.size; (try simp at this); omega
  have br : BlkAt w2 (w.heap.size) 96 [.int .i64 0, .int .i64 0, .int .i64 0, .int .u64 0, .int .i64 0, .slice none 0 0] := (Br.out.alloc _).later hb
  have bn : BlkAt w2 (w1.heap.size) 48 [.int .i64 2, .int .i64 l, .int .i64 r, .int .i64 0, .int .i64 0, .int .u64 (a : Nat), .int .u64 (b : Nat)] := (BlkAt.made (by first | rfl | simp) _ [.int .i64 2, .int .i64 l, .int .i64 r, .int .i64 0, .int .i64 0, .int .u64 (a : Nat), .int .u64 (b : Nat)]).later hb
  clear t1r Br hsz HB
  have Br : Hid (BlkAt _ _ _ _) := br
  have Bn : Hid (BlkAt _ _ _ _) := bn
  have HB : Hid (Below _ _ _) := hB
  clear hB br bn
  clear hb
  obtain ⟨c0n, c1n, c2n, c3n, c4n, c5n, c6n⟩ := cellsB7 Bn.out
  have t0n := Bn.out.lt
  obtain ⟨c0r, c1r, c2r, c3r, c4r, c5r⟩ := cellsB6 Br.out
  have t0r := Br.out.lt
  have f0r := Br.out.frozen 0
  have f1r := Br.out.frozen 1
  have f2r := Br.out.frozen 2
  have f3r := Br.out.frozen 3
  have f4r := Br.out.frozen 4
  have f5r := Br.out.frozen 5
  go_wp2
  have hsz := HB.out.size
  have t1r := Br.out.lt
  have t1n := Bn.out.lt
  exact ret_row Tryd.results57 rfl rfl (Br.out.set6 _ _ _ _ _ _ ) ⟨rfl, (below6 HB.out (by first | omega | (simp <;> omega)) _ _ _ _ _ _ )⟩
end Go.Proofs.YtjbiofjfjljeoaaDoor
namespace Go.Proofs.YtjbiofjfjljeoaaDoor
open Go.RowKit
theorem says_any {p : Value} {S : St} {w : World} (hR : Rd p S w) {t : Tr} (ho : t.ok) (hs : t.size ≤ 1000000000) (hm : t.hd ≠ 0 ∨ t = .nil) (hH : Held S t) :
    Calls Tryd.prog 57 #[p, .int .i64 t.hd] w fun e w' => e = .returned (.agg #[.int .i64 (t).hd, .int .i64 (((t).size : Nat) : Int), .int .i64 (((t).ones : Nat) : Int), .int .u64 (((t).wd : Nat) : Int), .int .i64 (((t).bn : Nat) : Int), .slice none 0 0]) ∧ Below w.heap.size w w' := by
  cases t with
  | nil => exact says_zero hR (S.cnt_out (Or.inl (by decide)))
  | leaf h x n =>
    have h0 : h ≠ 0 := hm.elim id (fun e => nomatch e)
    obtain ⟨h1, h2⟩ := hH h0
    exact says_leaf hR ho.2.2 ho.2.1 h1 h2
  | fork h l r =>
    have h0 : h ≠ 0 := hm.elim id (fun e => nomatch e)
    obtain ⟨-, -, h1, h2⟩ := hH.2.2 h0
    exact says_fork hR (a := l.size + r.size) (b := l.ones + r.ones) hs (Tr.ones_le (.fork h l r)) h1 h2
theorem quo2 (n : Nat) : Int.tdiv (n : Int) 2 = ((n / 2 : Nat) : Int) := by
  rw [Int.tdiv_eq_ediv_of_nonneg (by omega)]
  omega
set_option maxRecDepth 100000 in
set_option maxHeartbeats 400000 in
theorem parts_leaf {p : Value} {w : World} {h o : Int} {x n : Nat} {kk : Value} (hx : x < 2 ^ n) (hn : n ≤ 64) :
    Calls Tryd.prog 59 #[p, .agg #[.int .i64 h, .int .i64 (n : Nat), .int .i64 o, .int .u64 (x : Nat), .int .i64 (n : Nat), kk]] w fun e w' => e = .returned (.tuple #[.agg #[.int .i64 (ofL (x % 2 ^ (n / 2)) (n / 2)).hd, .int .i64 (((ofL (x % 2 ^ (n / 2)) (n / 2)).size : Nat) : Int), .int .i64 (((ofL (x % 2 ^ (n / 2)) (n / 2)).ones : Nat) : Int), .int .u64 (((ofL (x % 2 ^ (n / 2)) (n / 2)).wd : Nat) : Int), .int .i64 (((ofL (x % 2 ^ (n / 2)) (n / 2)).bn : Nat) : Int), .slice none 0 0], .agg #[.int .i64 (ofL (x / 2 ^ (n / 2)) (n - n / 2)).hd, .int .i64 (((ofL (x / 2 ^ (n / 2)) (n - n / 2)).size : Nat) : Int), .int .i64 (((ofL (x / 2 ^ (n / 2)) (n - n / 2)).ones : Nat) : Int), .int .u64 (((ofL (x / 2 ^ (n / 2)) (n - n / 2)).wd : Nat) : Int), .int .i64 (((ofL (x / 2 ^ (n / 2)) (n - n / 2)).bn : Nat) : Int), .slice none 0 0]]) ∧ Below w.heap.size w w' := by
  have hm : n / 2 ≤ n := by omega
  have hX : x % 2 ^ (n / 2) < 2 ^ (n / 2) := Nat.mod_lt _ (Nat.two_pow_pos _)
  have hY : x / 2 ^ (n / 2) < 2 ^ (n - n / 2) := half_lt hx hm
  rw [ofL_hd, ofL_hd, ofL_size, ofL_size, ofL_ones, ofL_ones, ofL_wd hX, ofL_wd hY, ofL_bn, ofL_bn]
  have T1 : Hid (∀ W, _) := fun W => isFork_no h (n : Nat) o x kk W
  have T2 : Hid (∀ W, _) := fun W => split_any hx hn ((n / 2 : Nat) : Int) W
  have hq := quo2 n
  rw [clampN_in hm] at T2
  have T3 : Hid (∀ W, _) := fun W => ofLeaf_any hX (by omega) W
  have T4 : Hid (∀ W, _) := fun W => ofLeaf_any hY (by omega) W
  generalize x % 2 ^ (n / 2) = X at *
  generalize x / 2 ^ (n / 2) = Y at *
  generalize popN (n / 2) X = c at *
  generalize popN (n - n / 2) Y = d at *
  generalize n - n / 2 = q at *
  generalize n / 2 = m at *
  go_enter Tryd.func59, Tryd.ntmps59
  go_wp2_with (go_at_call 58; fail)
  refine (T1.out _).mono ?_
  rintro e w1 ⟨rfl, hb⟩
  have hB : Below w.heap.size w w1 := ((((Below.refl w.heap.size w).al _).al _).al _).trans (hb.mo)
  have sw1 : w.heap.size + 3 ≤ w1.heap.size := by have := hb.size; (try simp at this); omega
  have bt : BlkAt w1 (w.heap.size) 96 [.int .i64 h, .int .i64 (n : Nat), .int .i64 o, .int .u64 (x : Nat), .int .i64 (n : Nat), kk] := (((BlkAt.made (by first | rfl | simp) _ [.int .i64 h, .int .i64 (n : Nat), .int .i64 o, .int .u64 (x : Nat), .int .i64 (n : Nat), kk]).alloc _).alloc _).later hb
  have ba : BlkAt w1 (w.heap.size + 1) 96 [.int .i64 0, .int .i64 0, .int .i64 0, .int .u64 0, .int .i64 0, .slice none 0 0] := ((BlkAt.made (by first | rfl | simp) _ [.int .i64 0, .int .i64 0, .int .i64 0, .int .u64 0, .int .i64 0, .slice none 0 0]).alloc _).later hb
  have bb : BlkAt w1 (w.heap.size + 1 + 1) 96 [.int .i64 0, .int .i64 0, .int .i64 0, .int .u64 0, .int .i64 0, .slice none 0 0] := (BlkAt.made (by first | rfl | simp) _ [.int .i64 0, .int .i64 0, .int .i64 0, .int .u64 0, .int .i64 0, .slice none 0 0]).later hb
  have Bt : Hid (BlkAt _ _ _ _) := bt
  have Ba : Hid (BlkAt _ _ _ _) := ba
  have Bb : Hid (BlkAt _ _ _ _) := bb
  have HB : Hid (Below _ _ _) := hB
  clear hB bt ba bb
  clear hb
  obtain ⟨c0t, c1t, c2t, c3t, c4t, c5t⟩ := cellsB6 Bt.out
  have t0t := Bt.out.lt
  go_wp2_with (go_at_call 84; fail)
  refine (T2.out _).mono ?_
  rintro e w2 ⟨rfl, hb⟩
  clear c0t c1t c2t c3t c4t c5t t0t
  have hsz := HB.out.size
  have t1t := Bt.out.lt
  have t1a := Ba.out.lt
  have t1b := Bb.out.lt
  have hB : Below w.heap.size w w2 := HB.out.trans (hb.mo)
  have sw2 : w1.heap.size + 0 ≤ w2.heap.size := by have := hb.size; (try simp at this); omega
  have bt : BlkAt w2 (w.heap.size) 96 [.int .i64 h, .int .i64 (n : Nat), .int .i64 o, .int .u64 (x : Nat), .int .i64 (n : Nat), kk] := Bt.out.later hb
  have ba : BlkAt w2 (w.heap.size + 1) 96 [.int .i64 0, .int .i64 0, .int .i64 0, .int .u64 0, .int .i64 0, .slice none 0 0] := Ba.out.later hb
  have bb : BlkAt w2 (w.heap.size + 1 + 1) 96 [.int .i64 0, .int .i64 0, .int .i64 0, .int .u64 0, .int .i64 0, .slice none 0 0] := Bb.out.later hb
  clear t1t t1a t1b Bt Ba Bb hsz HB
  have Bt : Hid (BlkAt _ _ _ _) := bt
  have Ba : Hid (BlkAt _ _ _ _) := ba
  have Bb : Hid (BlkAt _ _ _ _) := bb
  have HB : Hid (Below _ _ _) := hB
  clear hB bt ba bb
  clear hb
  go_wp2
  have hsz := HB.out.size
  have t1t := Bt.out.lt
  have t1a := Ba.out.lt
  have t1b := Bb.out.lt
  have hR0 : Bs w [(w.heap.size, 96, [.int .i64 h, .int .i64 (n : Nat), .int .i64 o, .int .u64 (x : Nat), .int .i64 (n : Nat), kk]), (w2.heap.size, 93, [.int .u64 ((X : Nat) : Int), .int .i64 ((m : Nat) : Int)]), (w2.heap.size + 1, 93, [.int .u64 ((Y : Nat) : Int), .int .i64 ((q : Nat) : Int)])] ((w2.alloc (.cells #[.int .u64 ((X : Nat) : Int), .int .i64 ((m : Nat) : Int)] 93)).alloc (.cells #[.int .u64 ((Y : Nat) : Int), .int .i64 ((q : Nat) : Int)] 93)) := Bs.cons ((Bt.out.alloc _).alloc _) (Bs.cons ((BlkAt.made (by first | rfl | simp) _ [.int .u64 ((X : Nat) : Int), .int .i64 ((m : Nat) : Int)]).alloc _) (Bs.cons (BlkAt.made (by first | rfl | simp) _ [.int .u64 ((Y : Nat) : Int), .int .i64 ((q : Nat) : Int)]) (Bs.nil ((HB.out.al _).al _))))
  have hZa : Hid (BlkAt ((w2.alloc (.cells #[.int .u64 ((X : Nat) : Int), .int .i64 ((m : Nat) : Int)] 93)).alloc (.cells #[.int .u64 ((Y : Nat) : Int), .int .i64 ((q : Nat) : Int)] 93)).drew (w.heap.size + 1) 96 [.int .i64 0, .int .i64 0, .int .i64 0, .int .u64 0, .int .i64 0, .slice none 0 0]) := ((Ba.out.alloc _).alloc _)
  have hZb : Hid (BlkAt ((w2.alloc (.cells #[.int .u64 ((X : Nat) : Int), .int .i64 ((m : Nat) : Int)] 93)).alloc (.cells #[.int .u64 ((Y : Nat) : Int), .int .i64 ((q : Nat) : Int)] 93)).drew (w.heap.size + 1 + 1) 96 [.int .i64 0, .int .i64 0, .int .i64 0, .int .u64 0, .int .i64 0, .slice none 0 0]) := ((Bb.out.alloc _).alloc _)
  let PX1 : World → Prop := (fun W => (W.cell? ⟨w2.heap.size, 0, none⟩ = some (.int .u64 ((X : Nat) : Int)) ∧ W.cell? ⟨w2.heap.size, 1, none⟩ = some (.int .i64 ((m : Nat) : Int)) ∧ W.cell? ⟨w2.heap.size + 1, 0, none⟩ = some (.int .u64 ((Y : Nat) : Int)) ∧ W.cell? ⟨w2.heap.size + 1, 1, none⟩ = some (.int .i64 ((q : Nat) : Int))) ∧ Bs w [(w.heap.size, 96, [.int .i64 h, .int .i64 (n : Nat), .int .i64 o, .int .u64 (x : Nat), .int .i64 (n : Nat), kk]), (w2.heap.size, 93, [.int .u64 ((X : Nat) : Int), .int .i64 ((m : Nat) : Int)]), (w2.heap.size + 1, 93, [.int .u64 ((Y : Nat) : Int), .int .i64 ((q : Nat) : Int)])] W)
  have hmk : Hid (∀ W, Bs w [(w.heap.size, 96, [.int .i64 h, .int .i64 (n : Nat), .int .i64 o, .int .u64 (x : Nat), .int .i64 (n : Nat), kk]), (w2.heap.size, 93, [.int .u64 ((X : Nat) : Int), .int .i64 ((m : Nat) : Int)]), (w2.heap.size + 1, 93, [.int .u64 ((Y : Nat) : Int), .int .i64 ((q : Nat) : Int)])] W → PX1 W) := fun W h => ⟨⟨(h.at 1 rfl).cell rfl, (h.at 1 rfl).cell rfl, (h.at 2 rfl).cell rfl, (h.at 2 rfl).cell rfl⟩, h⟩
  have hS0 := hmk.out _ hR0.drew
  have R0 : Hid (∀ W, PX1 W → _) := fun W h => heldQ hmk.out (fun _ h => h.2) (fun _ _ h hb => h.later hb) h (fun hR => T3.out W)
  have R1 : Hid (∀ W, PX1 W → _) := fun W h => heldQ hmk.out (fun _ h => h.2) (fun _ _ h hb => h.later hb) h (fun hR => T4.out W)
  have hget : Hid (∀ W, PX1 W → Bs w [(w.heap.size, 96, [.int .i64 h, .int .i64 (n : Nat), .int .i64 o, .int .u64 (x : Nat), .int .i64 (n : Nat), kk]), (w2.heap.size, 93, [.int .u64 ((X : Nat) : Int), .int .i64 ((m : Nat) : Int)]), (w2.heap.size + 1, 93, [.int .u64 ((Y : Nat) : Int), .int .i64 ((q : Nat) : Int)])] W) := fun W h => h.2
  have hsta : Hid (∀ W b0 b1 b2 b3 b4 b5, PX1 W → PX1 ((((((W.setCell ⟨w.heap.size + 1, 0, none⟩ b0).setCell ⟨w.heap.size + 1, 1, none⟩ b1).setCell ⟨w.heap.size + 1, 2, none⟩ b2).setCell ⟨w.heap.size + 1, 3, none⟩ b3).setCell ⟨w.heap.size + 1, 4, none⟩ b4).setCell ⟨w.heap.size + 1, 5, none⟩ b5)) := fun W b0 b1 b2 b3 b4 b5 h => hmk.out _ (h.2.set6 (by first | omega | (simp <;> omega)) (by intro x hx; simp only [List.mem_cons, List.not_mem_nil, or_false] at hx; rcases hx with rfl | rfl | rfl <;> (dsimp only; omega)) _ _ _ _ _ _ )
  have hstb : Hid (∀ W b0 b1 b2 b3 b4 b5, PX1 W → PX1 ((((((W.setCell ⟨w.heap.size + 1 + 1, 0, none⟩ b0).setCell ⟨w.heap.size + 1 + 1, 1, none⟩ b1).setCell ⟨w.heap.size + 1 + 1, 2, none⟩ b2).setCell ⟨w.heap.size + 1 + 1, 3, none⟩ b3).setCell ⟨w.heap.size + 1 + 1, 4, none⟩ b4).setCell ⟨w.heap.size + 1 + 1, 5, none⟩ b5)) := fun W b0 b1 b2 b3 b4 b5 h => hmk.out _ (h.2.set6 (by first | omega | (simp <;> omega)) (by intro x hx; simp only [List.mem_cons, List.not_mem_nil, or_false] at hx; rcases hx with rfl | rfl | rfl <;> (dsimp only; omega)) _ _ _ _ _ _ )
  clear hR0 hmk Bt Ba Bb HB
  go_region_held3 (fun W => (W.cell? ⟨w2.heap.size, 0, none⟩ = some (.int .u64 ((X : Nat) : Int)) ∧ W.cell? ⟨w2.heap.size, 1, none⟩ = some (.int .i64 ((m : Nat) : Int)) ∧ W.cell? ⟨w2.heap.size + 1, 0, none⟩ = some (.int .u64 ((Y : Nat) : Int)) ∧ W.cell? ⟨w2.heap.size + 1, 1, none⟩ = some (.int .i64 ((q : Nat) : Int))) ∧ Bs w [(w.heap.size, 96, [.int .i64 h, .int .i64 (n : Nat), .int .i64 o, .int .u64 (x : Nat), .int .i64 (n : Nat), kk]), (w2.heap.size, 93, [.int .u64 ((X : Nat) : Int), .int .i64 ((m : Nat) : Int)]), (w2.heap.size + 1, 93, [.int .u64 ((Y : Nat) : Int), .int .i64 ((q : Nat) : Int)])] W) (first | (with_reducible assumption) | (with_reducible exact hsta.out _ _ _ _ _ _ _ (by with_reducible assumption)) | (with_reducible exact hstb.out _ _ _ _ _ _ _ (by with_reducible assumption))) ((first | (go_at_call 73; with_reducible refine (R0.out _ (by with_reducible assumption)).mono ?_; rintro e wr0 ⟨rfl, hS0z, hb0⟩; have hz0a : BlkAt wr0 (w.heap.size + 1) 96 [.int .i64 0, .int .i64 0, .int .i64 0, .int .u64 0, .int .i64 0, .slice none 0 0] := (by first | exact hZa.out.later hb0 | exact (hZa.out.alloc _).later hb0 | exact (hZ0a.out _).later hb0); have hz0b : BlkAt wr0 (w.heap.size + 1 + 1) 96 [.int .i64 0, .int .i64 0, .int .i64 0, .int .u64 0, .int .i64 0, .slice none 0 0] := (by first | exact hZb.out.later hb0 | exact (hZb.out.alloc _).later hb0 | exact (hZ0b.out _).later hb0)) | (go_at_call 73; with_reducible refine (R1.out _ (by with_reducible assumption)).mono ?_; rintro e wr1 ⟨rfl, hS1z, hb1⟩; have hz1a : BlkAt wr1 (w.heap.size + 1) 96 [.int .i64 0, .int .i64 0, .int .i64 0, .int .u64 0, .int .i64 0, .slice none 0 0] := (by first | exact hz0a.later hb1 | exact (hz0a.alloc _).later hb1 | exact (hZ0a.out _).later hb1); have hz1b : BlkAt wr1 (w.heap.size + 1 + 1) 96 [.int .i64 0, .int .i64 0, .int .i64 0, .int .u64 0, .int .i64 0, .slice none 0 0] := (by first | exact hz0b.later hb1 | exact (hz0b.alloc _).later hb1 | exact (hZ0b.out _).later hb1); have z0a : wr1.cell? ⟨w.heap.size + 1, 0, none⟩ = some (.int .i64 0) := hz1a.cell rfl; have y0a := hz1a.frozen 0; have z1a : wr1.cell? ⟨w.heap.size + 1, 1, none⟩ = some (.int .i64 0) := hz1a.cell rfl; have y1a := hz1a.frozen 1; have z2a : wr1.cell? ⟨w.heap.size + 1, 2, none⟩ = some (.int .i64 0) := hz1a.cell rfl; have y2a := hz1a.frozen 2; have z3a : wr1.cell? ⟨w.heap.size + 1, 3, none⟩ = some (.int .u64 0) := hz1a.cell rfl; have y3a := hz1a.frozen 3; have z4a : wr1.cell? ⟨w.heap.size + 1, 4, none⟩ = some (.int .i64 0) := hz1a.cell rfl; have y4a := hz1a.frozen 4; have z5a : wr1.cell? ⟨w.heap.size + 1, 5, none⟩ = some (.slice none 0 0) := hz1a.cell rfl; have y5a := hz1a.frozen 5; have z0b : wr1.cell? ⟨w.heap.size + 1 + 1, 0, none⟩ = some (.int .i64 0) := hz1b.cell rfl; have y0b := hz1b.frozen 0; have z1b : wr1.cell? ⟨w.heap.size + 1 + 1, 1, none⟩ = some (.int .i64 0) := hz1b.cell rfl; have y1b := hz1b.frozen 1; have z2b : wr1.cell? ⟨w.heap.size + 1 + 1, 2, none⟩ = some (.int .i64 0) := hz1b.cell rfl; have y2b := hz1b.frozen 2; have z3b : wr1.cell? ⟨w.heap.size + 1 + 1, 3, none⟩ = some (.int .u64 0) := hz1b.cell rfl; have y3b := hz1b.frozen 3; have z4b : wr1.cell? ⟨w.heap.size + 1 + 1, 4, none⟩ = some (.int .i64 0) := hz1b.cell rfl; have y4b := hz1b.frozen 4; have z5b : wr1.cell? ⟨w.heap.size + 1 + 1, 5, none⟩ = some (.slice none 0 0) := hz1b.cell rfl; have y5b := hz1b.frozen 5)))
  have HBX : Hid (Bs _ _ _) := hget.out _ hS1z
  have HB : Hid (Below _ _ _) := HBX.out.b
  have Bt : Hid (BlkAt _ _ _ _) := HBX.out.at 0 rfl
  have Bx : Hid (BlkAt _ _ _ _) := HBX.out.at 1 rfl
  have By : Hid (BlkAt _ _ _ _) := HBX.out.at 2 rfl
  have Ba : Hid (BlkAt _ _ _ _) := hz1a
  have Bb : Hid (BlkAt _ _ _ _) := hz1b
  go_wp2
  have hsz := HB.out.size
  have t1t := Bt.out.lt
  have t1x := Bx.out.lt
  have t1y := By.out.lt
  have t1a := Ba.out.lt
  have t1b := Bb.out.lt
  exact ret_rows Tryd.results59 rfl rfl rfl ((Ba.out.set6 _ _ _ _ _ _ ).off6 (by first | omega | (simp <;> omega)) _ _ _ _ _ _ ) ((Bb.out.off6 (by first | omega | (simp <;> omega)) _ _ _ _ _ _ ).set6 _ _ _ _ _ _ ) ⟨rfl, (below6 (below6 HB.out (by first | omega | (simp <;> omega)) _ _ _ _ _ _ ) (by first | omega | (simp <;> omega)) _ _ _ _ _ _ )⟩
set_option maxRecDepth 100000 in
set_option maxHeartbeats 400000 in
theorem parts_virt {p : Value} {w : World} {s o h1 z1 o1 h2 z2 o2 : Int} {x1 m1 x2 m2 : Nat} {s1 s2 : Option Addr} {n1 n2 c1 c2 g : Nat} (hs : s ≠ 0) (hg : BlkAt w g 96 [.int .i64 h1, .int .i64 z1, .int .i64 o1, .int .u64 (x1 : Nat), .int .i64 (m1 : Nat), (.slice s1 n1 c1), .int .i64 h2, .int .i64 z2, .int .i64 o2, .int .u64 (x2 : Nat), .int .i64 (m2 : Nat), (.slice s2 n2 c2)]) :
    Calls Tryd.prog 59 #[p, .agg #[.int .i64 0, .int .i64 s, .int .i64 o, .int .u64 0, .int .i64 0, (.slice (some ⟨g, 0, none⟩) 2 2)]] w fun e w' => e = .returned (.tuple #[.agg #[.int .i64 h1, .int .i64 z1, .int .i64 o1, .int .u64 (x1 : Nat), .int .i64 (m1 : Nat), (.slice s1 n1 c1)], .agg #[.int .i64 h2, .int .i64 z2, .int .i64 o2, .int .u64 (x2 : Nat), .int .i64 (m2 : Nat), (.slice s2 n2 c2)]]) ∧ Below w.heap.size w w' := by
  have T1 : Hid (∀ W, _) := fun W => isFork_yes (h := 0) (s := s) (o := o) (n := 0) (x := 0) (k := .slice (some ⟨g, 0, none⟩) 2 2) hs W
  have BG : Hid (BlkAt _ _ _ _) := hg
  have hgl := hg.lt
  clear hg
  go_enter Tryd.func59, Tryd.ntmps59
  go_wp2_with (go_at_call 58; fail)
  refine (T1.out _).mono ?_
  rintro e w1 ⟨rfl, hb⟩
  have hB : Below w.heap.size w w1 := ((((Below.refl w.heap.size w).al _).al _).al _).trans (hb.mo)
  have sw1 : w.heap.size + 3 ≤ w1.heap.size := by have := hb.size; (try simp at this); omega
  have bt : BlkAt w1 (w.heap.size) 96 [.int .i64 0, .int .i64 s, .int .i64 o, .int .u64 0, .int .i64 0, (.slice (some ⟨g, 0, none⟩) 2 2)] := (((BlkAt.made (by first | rfl | simp) _ [.int .i64 0, .int .i64 s, .int .i64 o, .int .u64 0, .int .i64 0, (.slice (some ⟨g, 0, none⟩) 2 2)]).alloc _).alloc _).later hb
  have ba : BlkAt w1 (w.heap.size + 1) 96 [.int .i64 0, .int .i64 0, .int .i64 0, .int .u64 0, .int .i64 0, .slice none 0 0] := ((BlkAt.made (by first | rfl | simp) _ [.int .i64 0, .int .i64 0, .int .i64 0, .int .u64 0, .int .i64 0, .slice none 0 0]).alloc _).later hb
  have bb : BlkAt w1 (w.heap.size + 1 + 1) 96 [.int .i64 0, .int .i64 0, .int .i64 0, .int .u64 0, .int .i64 0, .slice none 0 0] := (BlkAt.made (by first | rfl | simp) _ [.int .i64 0, .int .i64 0, .int .i64 0, .int .u64 0, .int .i64 0, .slice none 0 0]).later hb
  have Bt : Hid (BlkAt _ _ _ _) := bt
  have Ba : Hid (BlkAt _ _ _ _) := ba
  have Bb : Hid (BlkAt _ _ _ _) := bb
  have HB : Hid (Below _ _ _) := hB
  clear hB bt ba bb
  clear hb
  obtain ⟨c0t, c1t, c2t, c3t, c4t, c5t⟩ := cellsB6 Bt.out
  have t0t := Bt.out.lt
  obtain ⟨c0a, c1a, c2a, c3a, c4a, c5a⟩ := cellsB6 Ba.out
  have t0a := Ba.out.lt
  obtain ⟨c0b, c1b, c2b, c3b, c4b, c5b⟩ := cellsB6 Bb.out
  have t0b := Bb.out.lt
  have f0a := Ba.out.frozen 0
  have f1a := Ba.out.frozen 1
  have f2a := Ba.out.frozen 2
  have f3a := Ba.out.frozen 3
  have f4a := Ba.out.frozen 4
  have f5a := Ba.out.frozen 5
  have f0b := Bb.out.frozen 0
  have f1b := Bb.out.frozen 1
  have f2b := Bb.out.frozen 2
  have f3b := Bb.out.frozen 3
  have f4b := Bb.out.frozen 4
  have f5b := Bb.out.frozen 5
  have hg := (BG.out.later HB.out)
  have g0 : w1.cell? ⟨g, 0, none⟩ = some (.int .i64 h1) := hg.cell rfl
  have g1 : w1.cell? ⟨g, 1, none⟩ = some (.int .i64 z1) := hg.cell rfl
  have g2 : w1.cell? ⟨g, 2, none⟩ = some (.int .i64 o1) := hg.cell rfl
  have g3 : w1.cell? ⟨g, 3, none⟩ = some (.int .u64 (x1 : Nat)) := hg.cell rfl
  have g4 : w1.cell? ⟨g, 4, none⟩ = some (.int .i64 (m1 : Nat)) := hg.cell rfl
  have g5 : w1.cell? ⟨g, 5, none⟩ = some ((.slice s1 n1 c1)) := hg.cell rfl
  have g6 : w1.cell? ⟨g, 6, none⟩ = some (.int .i64 h2) := hg.cell rfl
  have g7 : w1.cell? ⟨g, 7, none⟩ = some (.int .i64 z2) := hg.cell rfl
  have g8 : w1.cell? ⟨g, 8, none⟩ = some (.int .i64 o2) := hg.cell rfl
  have g9 : w1.cell? ⟨g, 9, none⟩ = some (.int .u64 (x2 : Nat)) := hg.cell rfl
  have g10 : w1.cell? ⟨g, 10, none⟩ = some (.int .i64 (m2 : Nat)) := hg.cell rfl
  have g11 : w1.cell? ⟨g, 11, none⟩ = some ((.slice s2 n2 c2)) := hg.cell rfl
  clear hg
  go_wp2
  go_region
  go_wp2
  have hsz := HB.out.size
  have t1t := Bt.out.lt
  have t1a := Ba.out.lt
  have t1b := Bb.out.lt
  exact ret_rows Tryd.results59 rfl rfl rfl (((Ba.out.set6 _ _ _ _ _ _ ).off6 (by first | omega | (simp <;> omega)) _ _ _ _ _ _ ).drew) (((Bb.out.off6 (by first | omega | (simp <;> omega)) _ _ _ _ _ _ ).set6 _ _ _ _ _ _ ).drew) ⟨rfl, ((below6 (below6 HB.out (by first | omega | (simp <;> omega)) _ _ _ _ _ _ ) (by first | omega | (simp <;> omega)) _ _ _ _ _ _ ).drew)⟩
end Go.Proofs.YtjbiofjfjljeoaaDoor
namespace Go.Proofs.YtjbiofjfjljeoaaDoor
open Go.RowKit
theorem KidsAt.slice {w : World} {t : Tr} {k : Value} (h : KidsAt w t k) : ∃ s n c, k = .slice s n c := by
  rcases h.form with rfl | ⟨g, rfl⟩
  · exact ⟨_, _, _, rfl⟩
  · exact ⟨_, _, _, rfl⟩
theorem kids_made {w : World} {t : Tr} (h : t.hd ≠ 0) : KidsAt w t (.slice none 0 0) := by
  cases t with
  | nil => rfl
  | leaf _ _ _ => rfl
  | fork e l r =>
    unfold KidsAt
    rw [if_neg (show ¬ e = 0 from h)]
theorem kids_made_eq {w : World} {t : Tr} {k : Value} (h : t.hd ≠ 0 ∨ t = .nil) (hk : KidsAt w t k) : k = .slice none 0 0 := by
  cases t with
  | nil => exact hk
  | leaf _ _ _ => exact hk
  | fork e l r =>
    have h0 : e ≠ 0 := h.elim id (fun e => nomatch e)
    unfold KidsAt at hk
    rwa [if_neg h0] at hk
set_option maxRecDepth 100000 in
set_option maxHeartbeats 400000 in
theorem parts_made {p : Value} {S : St} {w : World} (hR : Rd p S w) {h : Int} {l r : Tr} (h0 : h ≠ 0) (ho : (Tr.fork h l r).ok) (hs : (Tr.fork h l r).size ≤ 1000000000) (hH : Held S (.fork h l r)) :
    Calls Tryd.prog 59 #[p, .agg #[.int .i64 (Tr.fork h l r).hd, .int .i64 (((Tr.fork h l r).size : Nat) : Int), .int .i64 (((Tr.fork h l r).ones : Nat) : Int), .int .u64 (((Tr.fork h l r).wd : Nat) : Int), .int .i64 (((Tr.fork h l r).bn : Nat) : Int), .slice none 0 0]] w fun e w' => e = .returned (.tuple #[.agg #[.int .i64 (l).hd, .int .i64 (((l).size : Nat) : Int), .int .i64 (((l).ones : Nat) : Int), .int .u64 (((l).wd : Nat) : Int), .int .i64 (((l).bn : Nat) : Int), .slice none 0 0], .agg #[.int .i64 (r).hd, .int .i64 (((r).size : Nat) : Int), .int .i64 (((r).ones : Nat) : Int), .int .u64 (((r).wd : Nat) : Int), .int .i64 (((r).bn : Nat) : Int), .slice none 0 0]]) ∧ Below w.heap.size w w' := by
  obtain ⟨ol, or_, l1, r1, h64⟩ := ho
  have hsz0 : l.size + r.size ≤ 1000000000 := hs
  have hlo := l.ones_le
  have hro := r.ones_le
  obtain ⟨Hl, Hr, Hf⟩ := hH
  obtain ⟨hl0, hr0, hc, hnd⟩ := Hf h0
  have T1 : Hid (∀ W, _) := fun W => isFork_yes (h := h) (s := ((l.size + r.size : Nat) : Int)) (o := ((l.ones + r.ones : Nat) : Int)) (n := 0) (x := 0) (k := .slice none 0 0) (by omega) W
  have T2 : Hid (∀ W, Rd p S W → _) := fun W hR => getR hR h
  rw [hnd] at T2
  unfold ndV at T2
  have T3 : Hid (∀ W, Rd p S W → _) := fun W hR => says_any hR ol (by omega) (Or.inl hl0) Hl
  have T4 : Hid (∀ W, Rd p S W → _) := fun W hR => says_any hR or_ (by omega) (Or.inl hr0) Hr
  have RD : Hid (Rd p S w) := hR
  have e0 : (Tr.fork h l r).hd = h := rfl
  have e1 : (Tr.fork h l r).size = l.size + r.size := rfl
  have e2 : (Tr.fork h l r).ones = l.ones + r.ones := rfl
  have e3 : (Tr.fork h l r).wd = 0 := rfl
  have e4 : (Tr.fork h l r).bn = 0 := rfl
  rw [e0, e1, e2, e3, e4]
  clear hR e0 e1 e2 e3 e4 Hl Hr hc hnd ol or_ Hf hs
  generalize l.hd = lh at *
  generalize l.size = ls at *
  generalize l.ones = lo at *
  generalize l.wd = lx at *
  generalize l.bn = ln at *
  generalize r.hd = rh at *
  generalize r.size = rs at *
  generalize r.ones = ro at *
  generalize r.wd = rx at *
  generalize r.bn = rn at *
  generalize S.isB h = is at *
  have d0 : decide (h = 0) = false := decide_eq_false h0
  have d1 : decide ((ls : Int) = 0) = false := decide_eq_false (by omega)
  have d2 : decide ((rs : Int) = 0) = false := decide_eq_false (by omega)
  have d00 : (h == 0) = false := by simpa using h0
  have d10 : ((ls : Int) == 0) = false := by simp; omega
  have d20 : ((rs : Int) == 0) = false := by simp; omega
  have hw1 : IntKind.i64.wrap ((ls : Int) + (rs : Int)) = ((ls + rs : Nat) : Int) := by rw [wrap_i (by omega) (by omega)]; omega
  have hw2 : IntKind.i64.wrap ((lo : Int) + (ro : Int)) = ((lo + ro : Nat) : Int) := by rw [wrap_i (by omega) (by omega)]; omega
  generalize ls + rs = ts at *
  generalize lo + ro = tn at *
  go_enter Tryd.func59, Tryd.ntmps59
  go_wp2_with (go_at_call 58; fail)
  refine (T1.out _).mono ?_
  rintro e w1 ⟨rfl, hb⟩
  have hB : Below w.heap.size w w1 := ((((Below.refl w.heap.size w).al _).al _).al _).trans (hb.mo)
  have sw1 : w.heap.size + 3 ≤ w1.heap.size := by have := hb.size; (try simp at this); omega
  have bt : BlkAt w1 (w.heap.size) 96 [.int .i64 h, .int .i64 (ts : Nat), .int .i64 (tn : Nat), .int .u64 0, .int .i64 0, .slice none 0 0] := (((BlkAt.made (by first | rfl | simp) _ [.int .i64 h, .int .i64 (ts : Nat), .int .i64 (tn : Nat), .int .u64 0, .int .i64 0, .slice none 0 0]).alloc _).alloc _).later hb
  have ba : BlkAt w1 (w.heap.size + 1) 96 [.int .i64 0, .int .i64 0, .int .i64 0, .int .u64 0, .int .i64 0, .slice none 0 0] := ((BlkAt.made (by first | rfl | simp) _ [.int .i64 0, .int .i64 0, .int .i64 0, .int .u64 0, .int .i64 0, .slice none 0 0]).alloc _).later hb
  have bb : BlkAt w1 (w.heap.size + 1 + 1) 96 [.int .i64 0, .int .i64 0, .int .i64 0, .int .u64 0, .int .i64 0, .slice none 0 0] := (BlkAt.made (by first | rfl | simp) _ [.int .i64 0, .int .i64 0, .int .i64 0, .int .u64 0, .int .i64 0, .slice none 0 0]).later hb
  have Bt : Hid (BlkAt _ _ _ _) := bt
  have Ba : Hid (BlkAt _ _ _ _) := ba
  have Bb : Hid (BlkAt _ _ _ _) := bb
  have HB : Hid (Below _ _ _) := hB
  clear hB bt ba bb
  clear hb
  obtain ⟨c0t, c1t, c2t, c3t, c4t, c5t⟩ := cellsB6 Bt.out
  have t0t := Bt.out.lt
  go_wp2_with (go_at_call 79; fail)
  refine (T2.out _ (RD.out.later HB.out)).mono ?_
  rintro e w2 ⟨rfl, hb⟩
  clear c0t c1t c2t c3t c4t c5t t0t
  have hsz := HB.out.size
  have t1t := Bt.out.lt
  have t1a := Ba.out.lt
  have t1b := Bb.out.lt
  have hB : Below w.heap.size w w2 := HB.out.trans (hb.mo)
  have sw2 : w1.heap.size + 0 ≤ w2.heap.size := by have := hb.size; (try simp at this); omega
  have bt : BlkAt w2 (w.heap.size) 96 [.int .i64 h, .int .i64 (ts : Nat), .int .i64 (tn : Nat), .int .u64 0, .int .i64 0, .slice none 0 0] := Bt.out.later hb
  have ba : BlkAt w2 (w.heap.size + 1) 96 [.int .i64 0, .int .i64 0, .int .i64 0, .int .u64 0, .int .i64 0, .slice none 0 0] := Ba.out.later hb
  have bb : BlkAt w2 (w.heap.size + 1 + 1) 96 [.int .i64 0, .int .i64 0, .int .i64 0, .int .u64 0, .int .i64 0, .slice none 0 0] := Bb.out.later hb
  clear t1t t1a t1b Bt Ba Bb hsz HB
  have Bt : Hid (BlkAt _ _ _ _) := bt
  have Ba : Hid (BlkAt _ _ _ _) := ba
  have Bb : Hid (BlkAt _ _ _ _) := bb
  have HB : Hid (Below _ _ _) := hB
  clear hB bt ba bb
  clear hb
  go_wp2
  have hsz := HB.out.size
  have t1t := Bt.out.lt
  have t1a := Ba.out.lt
  have t1b := Bb.out.lt
  have hR0 : Bs w [(w.heap.size, 96, [.int .i64 h, .int .i64 (ts : Nat), .int .i64 (tn : Nat), .int .u64 0, .int .i64 0, .slice none 0 0]), (w2.heap.size, 48, [.int .i64 2, .int .i64 lh, .int .i64 rh, .int .i64 0, .int .i64 0, .int .u64 (ts : Nat), .int .u64 (tn : Nat)])] (w2.alloc (.cells #[.int .i64 2, .int .i64 lh, .int .i64 rh, .int .i64 0, .int .i64 0, .int .u64 (ts : Nat), .int .u64 (tn : Nat)] 48)) := Bs.cons (Bt.out.alloc _) (Bs.cons (BlkAt.made (by first | rfl | simp) _ [.int .i64 2, .int .i64 lh, .int .i64 rh, .int .i64 0, .int .i64 0, .int .u64 (ts : Nat), .int .u64 (tn : Nat)]) (Bs.nil (HB.out.al _)))
  have hZa : Hid (BlkAt (w2.alloc (.cells #[.int .i64 2, .int .i64 lh, .int .i64 rh, .int .i64 0, .int .i64 0, .int .u64 (ts : Nat), .int .u64 (tn : Nat)] 48)).drew (w.heap.size + 1) 96 [.int .i64 0, .int .i64 0, .int .i64 0, .int .u64 0, .int .i64 0, .slice none 0 0]) := (Ba.out.alloc _)
  have hZb : Hid (BlkAt (w2.alloc (.cells #[.int .i64 2, .int .i64 lh, .int .i64 rh, .int .i64 0, .int .i64 0, .int .u64 (ts : Nat), .int .u64 (tn : Nat)] 48)).drew (w.heap.size + 1 + 1) 96 [.int .i64 0, .int .i64 0, .int .i64 0, .int .u64 0, .int .i64 0, .slice none 0 0]) := (Bb.out.alloc _)
  let PX2 : World → Prop := (fun W => (W.cell? ⟨w.heap.size, 1, none⟩ = some (.int .i64 (ts : Nat)) ∧ W.cell? ⟨w.heap.size, 2, none⟩ = some (.int .i64 (tn : Nat)) ∧ W.cell? ⟨w2.heap.size, 1, none⟩ = some (.int .i64 lh) ∧ W.cell? ⟨w2.heap.size, 2, none⟩ = some (.int .i64 rh)) ∧ Bs w [(w.heap.size, 96, [.int .i64 h, .int .i64 (ts : Nat), .int .i64 (tn : Nat), .int .u64 0, .int .i64 0, .slice none 0 0]), (w2.heap.size, 48, [.int .i64 2, .int .i64 lh, .int .i64 rh, .int .i64 0, .int .i64 0, .int .u64 (ts : Nat), .int .u64 (tn : Nat)])] W)
  have hmk : Hid (∀ W, Bs w [(w.heap.size, 96, [.int .i64 h, .int .i64 (ts : Nat), .int .i64 (tn : Nat), .int .u64 0, .int .i64 0, .slice none 0 0]), (w2.heap.size, 48, [.int .i64 2, .int .i64 lh, .int .i64 rh, .int .i64 0, .int .i64 0, .int .u64 (ts : Nat), .int .u64 (tn : Nat)])] W → PX2 W) := fun W h => ⟨⟨(h.at 0 rfl).cell rfl, (h.at 0 rfl).cell rfl, (h.at 1 rfl).cell rfl, (h.at 1 rfl).cell rfl⟩, h⟩
  have hS0 := hmk.out _ hR0.drew
  have R0 : Hid (∀ W, PX2 W → _) := fun W h => heldQ hmk.out (fun _ h => h.2) (fun _ _ h hb => h.later hb) h (fun hR => T3.out W (RD.out.later hR.b))
  have R1 : Hid (∀ W, PX2 W → _) := fun W h => heldQ hmk.out (fun _ h => h.2) (fun _ _ h hb => h.later hb) h (fun hR => T4.out W (RD.out.later hR.b))
  have hget : Hid (∀ W, PX2 W → Bs w [(w.heap.size, 96, [.int .i64 h, .int .i64 (ts : Nat), .int .i64 (tn : Nat), .int .u64 0, .int .i64 0, .slice none 0 0]), (w2.heap.size, 48, [.int .i64 2, .int .i64 lh, .int .i64 rh, .int .i64 0, .int .i64 0, .int .u64 (ts : Nat), .int .u64 (tn : Nat)])] W) := fun W h => h.2
  have hsta : Hid (∀ W b0 b1 b2 b3 b4 b5, PX2 W → PX2 ((((((W.setCell ⟨w.heap.size + 1, 0, none⟩ b0).setCell ⟨w.heap.size + 1, 1, none⟩ b1).setCell ⟨w.heap.size + 1, 2, none⟩ b2).setCell ⟨w.heap.size + 1, 3, none⟩ b3).setCell ⟨w.heap.size + 1, 4, none⟩ b4).setCell ⟨w.heap.size + 1, 5, none⟩ b5)) := fun W b0 b1 b2 b3 b4 b5 h => hmk.out _ (h.2.set6 (by first | omega | (simp <;> omega)) (by intro x hx; simp only [List.mem_cons, List.not_mem_nil, or_false] at hx; rcases hx with rfl | rfl <;> (dsimp only; omega)) _ _ _ _ _ _ )
  have hstb : Hid (∀ W b0 b1 b2 b3 b4 b5, PX2 W → PX2 ((((((W.setCell ⟨w.heap.size + 1 + 1, 0, none⟩ b0).setCell ⟨w.heap.size + 1 + 1, 1, none⟩ b1).setCell ⟨w.heap.size + 1 + 1, 2, none⟩ b2).setCell ⟨w.heap.size + 1 + 1, 3, none⟩ b3).setCell ⟨w.heap.size + 1 + 1, 4, none⟩ b4).setCell ⟨w.heap.size + 1 + 1, 5, none⟩ b5)) := fun W b0 b1 b2 b3 b4 b5 h => hmk.out _ (h.2.set6 (by first | omega | (simp <;> omega)) (by intro x hx; simp only [List.mem_cons, List.not_mem_nil, or_false] at hx; rcases hx with rfl | rfl <;> (dsimp only; omega)) _ _ _ _ _ _ )
  clear hR0 hmk Bt Ba Bb HB
  go_region_held3 (fun W => (W.cell? ⟨w.heap.size, 1, none⟩ = some (.int .i64 (ts : Nat)) ∧ W.cell? ⟨w.heap.size, 2, none⟩ = some (.int .i64 (tn : Nat)) ∧ W.cell? ⟨w2.heap.size, 1, none⟩ = some (.int .i64 lh) ∧ W.cell? ⟨w2.heap.size, 2, none⟩ = some (.int .i64 rh)) ∧ Bs w [(w.heap.size, 96, [.int .i64 h, .int .i64 (ts : Nat), .int .i64 (tn : Nat), .int .u64 0, .int .i64 0, .slice none 0 0]), (w2.heap.size, 48, [.int .i64 2, .int .i64 lh, .int .i64 rh, .int .i64 0, .int .i64 0, .int .u64 (ts : Nat), .int .u64 (tn : Nat)])] W) (first | (with_reducible assumption) | (with_reducible exact hsta.out _ _ _ _ _ _ _ (by with_reducible assumption)) | (with_reducible exact hstb.out _ _ _ _ _ _ _ (by with_reducible assumption))) ((first | (go_at_call 57; with_reducible refine (R0.out _ (by with_reducible assumption)).mono ?_; rintro e wr0 ⟨rfl, hS0z, hb0⟩; have hz0a : BlkAt wr0 (w.heap.size + 1) 96 [.int .i64 0, .int .i64 0, .int .i64 0, .int .u64 0, .int .i64 0, .slice none 0 0] := (by first | exact hZa.out.later hb0 | exact (hZa.out.alloc _).later hb0 | exact (hZ0a.out _).later hb0); have hz0b : BlkAt wr0 (w.heap.size + 1 + 1) 96 [.int .i64 0, .int .i64 0, .int .i64 0, .int .u64 0, .int .i64 0, .slice none 0 0] := (by first | exact hZb.out.later hb0 | exact (hZb.out.alloc _).later hb0 | exact (hZ0b.out _).later hb0)) | (go_at_call 57; with_reducible refine (R1.out _ (by with_reducible assumption)).mono ?_; rintro e wr1 ⟨rfl, hS1z, hb1⟩; have hz1a : BlkAt wr1 (w.heap.size + 1) 96 [.int .i64 0, .int .i64 0, .int .i64 0, .int .u64 0, .int .i64 0, .slice none 0 0] := (by first | exact hz0a.later hb1 | exact (hz0a.alloc _).later hb1 | exact (hZ0a.out _).later hb1); have hz1b : BlkAt wr1 (w.heap.size + 1 + 1) 96 [.int .i64 0, .int .i64 0, .int .i64 0, .int .u64 0, .int .i64 0, .slice none 0 0] := (by first | exact hz0b.later hb1 | exact (hz0b.alloc _).later hb1 | exact (hZ0b.out _).later hb1); have z0a : wr1.cell? ⟨w.heap.size + 1, 0, none⟩ = some (.int .i64 0) := hz1a.cell rfl; have y0a := hz1a.frozen 0; have z1a : wr1.cell? ⟨w.heap.size + 1, 1, none⟩ = some (.int .i64 0) := hz1a.cell rfl; have y1a := hz1a.frozen 1; have z2a : wr1.cell? ⟨w.heap.size + 1, 2, none⟩ = some (.int .i64 0) := hz1a.cell rfl; have y2a := hz1a.frozen 2; have z3a : wr1.cell? ⟨w.heap.size + 1, 3, none⟩ = some (.int .u64 0) := hz1a.cell rfl; have y3a := hz1a.frozen 3; have z4a : wr1.cell? ⟨w.heap.size + 1, 4, none⟩ = some (.int .i64 0) := hz1a.cell rfl; have y4a := hz1a.frozen 4; have z5a : wr1.cell? ⟨w.heap.size + 1, 5, none⟩ = some (.slice none 0 0) := hz1a.cell rfl; have y5a := hz1a.frozen 5; have z0b : wr1.cell? ⟨w.heap.size + 1 + 1, 0, none⟩ = some (.int .i64 0) := hz1b.cell rfl; have y0b := hz1b.frozen 0; have z1b : wr1.cell? ⟨w.heap.size + 1 + 1, 1, none⟩ = some (.int .i64 0) := hz1b.cell rfl; have y1b := hz1b.frozen 1; have z2b : wr1.cell? ⟨w.heap.size + 1 + 1, 2, none⟩ = some (.int .i64 0) := hz1b.cell rfl; have y2b := hz1b.frozen 2; have z3b : wr1.cell? ⟨w.heap.size + 1 + 1, 3, none⟩ = some (.int .u64 0) := hz1b.cell rfl; have y3b := hz1b.frozen 3; have z4b : wr1.cell? ⟨w.heap.size + 1 + 1, 4, none⟩ = some (.int .i64 0) := hz1b.cell rfl; have y4b := hz1b.frozen 4; have z5b : wr1.cell? ⟨w.heap.size + 1 + 1, 5, none⟩ = some (.slice none 0 0) := hz1b.cell rfl; have y5b := hz1b.frozen 5)))
  have HBX : Hid (Bs _ _ _) := hget.out _ hS1z
  have HB : Hid (Below _ _ _) := HBX.out.b
  have Bt : Hid (BlkAt _ _ _ _) := HBX.out.at 0 rfl
  have Bn : Hid (BlkAt _ _ _ _) := HBX.out.at 1 rfl
  have Ba : Hid (BlkAt _ _ _ _) := hz1a
  have Bb : Hid (BlkAt _ _ _ _) := hz1b
  obtain ⟨c0t, c1t, c2t, c3t, c4t, c5t⟩ := cellsB6 Bt.out
  have t0t := Bt.out.lt
  go_wp2
  go_region
  go_wp2
  have hsz := HB.out.size
  have t1t := Bt.out.lt
  have t1n := Bn.out.lt
  have t1a := Ba.out.lt
  have t1b := Bb.out.lt
  exact ret_rows Tryd.results59 rfl rfl rfl (((((Ba.out.set6 _ _ _ _ _ _ ).off6 (by first | omega | (simp <;> omega)) _ _ _ _ _ _ ).set6 _ _ _ _ _ _ ).off6 (by first | omega | (simp <;> omega)) _ _ _ _ _ _ ).drew) (((((Bb.out.off6 (by first | omega | (simp <;> omega)) _ _ _ _ _ _ ).set6 _ _ _ _ _ _ ).off6 (by first | omega | (simp <;> omega)) _ _ _ _ _ _ ).set6 _ _ _ _ _ _ ).drew) ⟨rfl, ((below6 (below6 (below6 (below6 HB.out (by first | omega | (simp <;> omega)) _ _ _ _ _ _ ) (by first | omega | (simp <;> omega)) _ _ _ _ _ _ ) (by first | omega | (simp <;> omega)) _ _ _ _ _ _ ) (by first | omega | (simp <;> omega)) _ _ _ _ _ _ ).drew)⟩
theorem parts_any {p : Value} {S : St} {w : World} (hR : Rd p S w) {t : Tr} {kk : Value} (ho : t.ok) (hs : t.size ≤ 1000000000) (hH : Held S t) (hk : KidsAt w t kk) :
    Calls Tryd.prog 59 #[p, .agg #[.int .i64 (t).hd, .int .i64 (((t).size : Nat) : Int), .int .i64 (((t).ones : Nat) : Int), .int .u64 (((t).wd : Nat) : Int), .int .i64 (((t).bn : Nat) : Int), kk]] w fun e w' => (∃ ka kb, e = .returned (.tuple #[.agg #[.int .i64 (partA t).hd, .int .i64 (((partA t).size : Nat) : Int), .int .i64 (((partA t).ones : Nat) : Int), .int .u64 (((partA t).wd : Nat) : Int), .int .i64 (((partA t).bn : Nat) : Int), ka], .agg #[.int .i64 (partB t).hd, .int .i64 (((partB t).size : Nat) : Int), .int .i64 (((partB t).ones : Nat) : Int), .int .u64 (((partB t).wd : Nat) : Int), .int .i64 (((partB t).bn : Nat) : Int), kb]]) ∧ KidsAt w' (partA t) ka ∧ KidsAt w' (partB t) kb) ∧ Below w.heap.size w w' := by
  cases t with
  | nil =>
    refine (parts_leaf (p := p) (w := w) (h := 0) (o := 0) (x := 0) (n := 0) (kk := kk) (by decide) (by omega)).mono ?_
    rintro e w' ⟨rfl, hb⟩
    exact ⟨⟨_, _, rfl, rfl, rfl⟩, hb⟩
  | leaf h x n =>
    refine (parts_leaf (p := p) (w := w) (h := h) (o := popN n x) (x := x) (n := n) (kk := kk) ho.2.2 ho.2.1).mono ?_
    rintro e w' ⟨rfl, hb⟩
    exact ⟨⟨_, _, rfl, ofL_kids _ _ _, ofL_kids _ _ _⟩, hb⟩
  | fork h l r =>
    by_cases h0 : h = 0
    · subst h0
      unfold KidsAt at hk
      rw [if_pos rfl] at hk
      obtain ⟨g, k1, k2, rfl, hB, h1, h2⟩ := hk
      have hne : ((l.size + r.size : Nat) : Int) ≠ 0 := by have := ho.2.2.1; omega
      have f1 := h1.slice
      have f2 := h2.slice
      obtain ⟨s1, n1, c1, rfl⟩ := f1
      obtain ⟨s2, n2, c2, rfl⟩ := f2
      refine (parts_virt (p := p) (w := w) (o := ((l.ones + r.ones : Nat) : Int)) hne hB).mono ?_
      rintro e w' ⟨rfl, hb⟩
      exact ⟨⟨_, _, rfl, KidsAt.later hb h1, KidsAt.later hb h2⟩, hb⟩
    · unfold KidsAt at hk
      rw [if_neg h0] at hk
      subst hk
      refine (parts_made hR h0 ho hs hH).mono ?_
      rintro e w' ⟨rfl, hb⟩
      obtain ⟨a1, a2, -⟩ := hH.2.2 h0
      exact ⟨⟨_, _, rfl, kids_made a1, kids_made a2⟩, hb⟩
end Go.Proofs.YtjbiofjfjljeoaaDoor
namespace Go.Proofs.YtjbiofjfjljeoaaDoor
open Go.RowKit
set_option maxRecDepth 100000 in
/-- a leaf is told -/
theorem ret_leaf {fn : Func} {s : Nat} {R : Ending → World → Prop} {a : Act} {W : World} {g : Nat} {b0 b1 : Value} (hf : fn.results = #[ResultVar.cell s 93]) (hd : a.defers = []) (hp : a.tmps[s]?.getD undef = .pointer (some ⟨g, 0, none⟩)) (hB : BlkAt W g 93 [b0, b1]) (hR : R (.returned (.agg #[b0, b1])) W) : bodyPost Tryd.prog fn R .ret a W := by
  have c0 : W.cell? ⟨g, 0, none⟩ = some b0 := hB.cell rfl
  have c1 : W.cell? ⟨g, 1, none⟩ = some b1 := hB.cell rfl
  exact bodyPost_ret (v := .agg #[b0, b1]) (by simp [results, hf, go_sem, hp, c0, c1]) hd hR
set_option maxRecDepth 100000 in
set_option maxHeartbeats 400000 in
theorem gather_leaf (p : Value) (h o : Int) (x n : Nat) (ks : Option Addr) (kn kc : Nat) (w : World) :
    Calls Tryd.prog 105 #[p, .agg #[.int .i64 h, .int .i64 (n : Nat), .int .i64 o, .int .u64 (x : Nat), .int .i64 (n : Nat), (.slice ks kn kc)]] w fun e w' => e = .returned (.agg #[.int .u64 ((x : Nat) : Int), .int .i64 ((n : Nat) : Int)]) ∧ Below w.heap.size w w' := by
  have T1 : Hid (∀ W, _) := fun W => isFork_no h (n : Nat) o x (.slice ks kn kc) W
  go_enter Tryd.func105, Tryd.ntmps105
  go_wp2_with (go_at_call 58; fail)
  refine (T1.out _).mono ?_
  rintro e w1 ⟨rfl, hb⟩
  have hB : Below w.heap.size w w1 := (((Below.refl w.heap.size w).al _).al _).trans (hb.mo)
  have sw1 : w.heap.size + 2 ≤ w1.heap.size := by have := hb.size; (try simp at this); omega
  have bt : BlkAt w1 (w.heap.size) 96 [.int .i64 h, .int .i64 (n : Nat), .int .i64 o, .int .u64 (x : Nat), .int .i64 (n : Nat), (.slice ks kn kc)] := ((BlkAt.made (by first | rfl | simp) _ [.int .i64 h, .int .i64 (n : Nat), .int .i64 o, .int .u64 (x : Nat), .int .i64 (n : Nat), (.slice ks kn kc)]).alloc _).later hb
  have br : BlkAt w1 (w.heap.size + 1) 93 [.int .u64 0, .int .i64 0] := (BlkAt.made (by first | rfl | simp) _ [.int .u64 0, .int .i64 0]).later hb
  have Bt : Hid (BlkAt _ _ _ _) := bt
  have Br : Hid (BlkAt _ _ _ _) := br
  have HB : Hid (Below _ _ _) := hB
  clear hB bt br
  clear hb
  obtain ⟨c0t, c1t, c2t, c3t, c4t, c5t⟩ := cellsB6 Bt.out
  have t0t := Bt.out.lt
  obtain ⟨c0r, c1r⟩ := cellsB2 Br.out
  have t0r := Br.out.lt
  have f0r := Br.out.frozen 0
  have f1r := Br.out.frozen 1
  go_wp2
  have hsz := HB.out.size
  have t1t := Bt.out.lt
  have t1r := Br.out.lt
  exact ret_leaf Tryd.results105 rfl rfl (Br.out.set2 _ _ ) ⟨rfl, (below2 HB.out (by first | omega | (simp <;> omega)) _ _ )⟩
set_option maxRecDepth 100000 in
set_option maxHeartbeats 400000 in
theorem gather_two {p : Value} {w : World} {h1 o1 h2 o2 : Int} {x1 n1 x2 n2 : Nat} {s1 s2 : Option Addr} {k1 c1 k2 c2 g : Nat} (hx1 : x1 < 2 ^ n1) (hx2 : x2 < 2 ^ n2) (hn : 1 ≤ n1 + n2) (h64 : n1 + n2 ≤ 64) (hg : BlkAt w g 96 [.int .i64 h1, .int .i64 (n1 : Nat), .int .i64 o1, .int .u64 (x1 : Nat), .int .i64 (n1 : Nat), (.slice s1 k1 c1), .int .i64 h2, .int .i64 (n2 : Nat), .int .i64 o2, .int .u64 (x2 : Nat), .int .i64 (n2 : Nat), (.slice s2 k2 c2)]) :
    Calls Tryd.prog 105 #[p, .agg #[.int .i64 0, .int .i64 ((n1 + n2 : Nat) : Int), .int .i64 0, .int .u64 0, .int .i64 0, (.slice (some ⟨g, 0, none⟩) 2 2)]] w fun e w' => e = .returned (.agg #[.int .u64 ((x1 ||| x2 * 2 ^ n1 : Nat) : Int), .int .i64 ((n1 + n2 : Nat) : Int)]) ∧ Below w.heap.size w w' := by
  have T1 : Hid (∀ W, _) := fun W => isFork_yes (h := 0) (s := ((n1 + n2 : Nat) : Int)) (o := 0) (n := 0) (x := 0) (k := .slice (some ⟨g, 0, none⟩) 2 2) (by omega) W
  have T2 : Hid (∀ W, BlkAt W g 96 [.int .i64 h1, .int .i64 (n1 : Nat), .int .i64 o1, .int .u64 (x1 : Nat), .int .i64 (n1 : Nat), (.slice s1 k1 c1), .int .i64 h2, .int .i64 (n2 : Nat), .int .i64 o2, .int .u64 (x2 : Nat), .int .i64 (n2 : Nat), (.slice s2 k2 c2)] → _) := fun W hB => parts_virt (p := p) (w := W) (s := ((n1 + n2 : Nat) : Int)) (o := 0) (by omega) hB
  have T3 : Hid (∀ W, _) := fun W => gather_leaf p h1 o1 x1 n1 s1 k1 c1 W
  have T4 : Hid (∀ W, _) := fun W => gather_leaf p h2 o2 x2 n2 s2 k2 c2 W
  have T5 : Hid (∀ W, _) := fun W => join_yes hx1 hx2 h64 W
  have BG : Hid (BlkAt _ _ _ _) := hg
  clear hg
  generalize x1 ||| x2 * 2 ^ n1 = y at *
  generalize n1 + n2 = s at *
  go_enter Tryd.func105, Tryd.ntmps105
  go_wp2_with (go_at_call 58; fail)
  refine (T1.out _).mono ?_
  rintro e w1 ⟨rfl, hb⟩
  have hB : Below w.heap.size w w1 := (((Below.refl w.heap.size w).al _).al _).trans (hb.mo)
  have sw1 : w.heap.size + 2 ≤ w1.heap.size := by have := hb.size; (try simp at this); omega
  have bt : BlkAt w1 (w.heap.size) 96 [.int .i64 0, .int .i64 (s : Nat), .int .i64 0, .int .u64 0, .int .i64 0, (.slice (some ⟨g, 0, none⟩) 2 2)] := ((BlkAt.made (by first | rfl | simp) _ [.int .i64 0, .int .i64 (s : Nat), .int .i64 0, .int .u64 0, .int .i64 0, (.slice (some ⟨g, 0, none⟩) 2 2)]).alloc _).later hb
  have br : BlkAt w1 (w.heap.size + 1) 93 [.int .u64 0, .int .i64 0] := (BlkAt.made (by first | rfl | simp) _ [.int .u64 0, .int .i64 0]).later hb
  have Bt : Hid (BlkAt _ _ _ _) := bt
  have Br : Hid (BlkAt _ _ _ _) := br
  have HB : Hid (Below _ _ _) := hB
  clear hB bt br
  clear hb
  obtain ⟨c0t, c1t, c2t, c3t, c4t, c5t⟩ := cellsB6 Bt.out
  have t0t := Bt.out.lt
  go_wp2_with (go_at_call 59; fail)
  refine (T2.out _ (BG.out.later HB.out)).mono ?_
  rintro e w2 ⟨rfl, hb⟩
  clear c0t c1t c2t c3t c4t c5t t0t
  have hsz := HB.out.size
  have t1t := Bt.out.lt
  have t1r := Br.out.lt
  have hB : Below w.heap.size w w2 := HB.out.trans (hb.mo)
  have sw2 : w1.heap.size + 0 ≤ w2.heap.size := by have := hb.size; (try simp at this); omega
  have bt : BlkAt w2 (w.heap.size) 96 [.int .i64 0, .int .i64 (s : Nat), .int .i64 0, .int .u64 0, .int .i64 0, (.slice (some ⟨g, 0, none⟩) 2 2)] := Bt.out.later hb
  have br : BlkAt w2 (w.heap.size + 1) 93 [.int .u64 0, .int .i64 0] := Br.out.later hb
  clear t1t t1r Bt Br hsz HB
  have Bt : Hid (BlkAt _ _ _ _) := bt
  have Br : Hid (BlkAt _ _ _ _) := br
  have HB : Hid (Below _ _ _) := hB
  clear hB bt br
  clear hb
  go_wp2
  have hsz := HB.out.size
  have t1t := Bt.out.lt
  have t1r := Br.out.lt
  have hR0 : Bs w [(w.heap.size, 96, [.int .i64 0, .int .i64 (s : Nat), .int .i64 0, .int .u64 0, .int .i64 0, (.slice (some ⟨g, 0, none⟩) 2 2)]), (w2.heap.size, 96, [.int .i64 h1, .int .i64 (n1 : Nat), .int .i64 o1, .int .u64 (x1 : Nat), .int .i64 (n1 : Nat), (.slice s1 k1 c1)]), (w2.heap.size + 1, 96, [.int .i64 h2, .int .i64 (n2 : Nat), .int .i64 o2, .int .u64 (x2 : Nat), .int .i64 (n2 : Nat), (.slice s2 k2 c2)])] ((w2.alloc (.cells #[.int .i64 h1, .int .i64 (n1 : Nat), .int .i64 o1, .int .u64 (x1 : Nat), .int .i64 (n1 : Nat), (.slice s1 k1 c1)] 96)).alloc (.cells #[.int .i64 h2, .int .i64 (n2 : Nat), .int .i64 o2, .int .u64 (x2 : Nat), .int .i64 (n2 : Nat), (.slice s2 k2 c2)] 96)) := Bs.cons ((Bt.out.alloc _).alloc _) (Bs.cons ((BlkAt.made (by first | rfl | simp) _ [.int .i64 h1, .int .i64 (n1 : Nat), .int .i64 o1, .int .u64 (x1 : Nat), .int .i64 (n1 : Nat), (.slice s1 k1 c1)]).alloc _) (Bs.cons (BlkAt.made (by first | rfl | simp) _ [.int .i64 h2, .int .i64 (n2 : Nat), .int .i64 o2, .int .u64 (x2 : Nat), .int .i64 (n2 : Nat), (.slice s2 k2 c2)]) (Bs.nil ((HB.out.al _).al _))))
  have hZr : Hid (BlkAt ((w2.alloc (.cells #[.int .i64 h1, .int .i64 (n1 : Nat), .int .i64 o1, .int .u64 (x1 : Nat), .int .i64 (n1 : Nat), (.slice s1 k1 c1)] 96)).alloc (.cells #[.int .i64 h2, .int .i64 (n2 : Nat), .int .i64 o2, .int .u64 (x2 : Nat), .int .i64 (n2 : Nat), (.slice s2 k2 c2)] 96)).drew (w.heap.size + 1) 93 [.int .u64 0, .int .i64 0]) := ((Br.out.alloc _).alloc _)
  let PX3 : World → Prop := (fun W => (W.cell? ⟨w2.heap.size, 0, none⟩ = some (.int .i64 h1) ∧ W.cell? ⟨w2.heap.size, 1, none⟩ = some (.int .i64 (n1 : Nat)) ∧ W.cell? ⟨w2.heap.size, 2, none⟩ = some (.int .i64 o1) ∧ W.cell? ⟨w2.heap.size, 3, none⟩ = some (.int .u64 (x1 : Nat)) ∧ W.cell? ⟨w2.heap.size, 4, none⟩ = some (.int .i64 (n1 : Nat)) ∧ W.cell? ⟨w2.heap.size, 5, none⟩ = some ((.slice s1 k1 c1)) ∧ W.cell? ⟨w2.heap.size + 1, 0, none⟩ = some (.int .i64 h2) ∧ W.cell? ⟨w2.heap.size + 1, 1, none⟩ = some (.int .i64 (n2 : Nat)) ∧ W.cell? ⟨w2.heap.size + 1, 2, none⟩ = some (.int .i64 o2) ∧ W.cell? ⟨w2.heap.size + 1, 3, none⟩ = some (.int .u64 (x2 : Nat)) ∧ W.cell? ⟨w2.heap.size + 1, 4, none⟩ = some (.int .i64 (n2 : Nat)) ∧ W.cell? ⟨w2.heap.size + 1, 5, none⟩ = some ((.slice s2 k2 c2))) ∧ Bs w [(w.heap.size, 96, [.int .i64 0, .int .i64 (s : Nat), .int .i64 0, .int .u64 0, .int .i64 0, (.slice (some ⟨g, 0, none⟩) 2 2)]), (w2.heap.size, 96, [.int .i64 h1, .int .i64 (n1 : Nat), .int .i64 o1, .int .u64 (x1 : Nat), .int .i64 (n1 : Nat), (.slice s1 k1 c1)]), (w2.heap.size + 1, 96, [.int .i64 h2, .int .i64 (n2 : Nat), .int .i64 o2, .int .u64 (x2 : Nat), .int .i64 (n2 : Nat), (.slice s2 k2 c2)])] W)
  have hmk : Hid (∀ W, Bs w [(w.heap.size, 96, [.int .i64 0, .int .i64 (s : Nat), .int .i64 0, .int .u64 0, .int .i64 0, (.slice (some ⟨g, 0, none⟩) 2 2)]), (w2.heap.size, 96, [.int .i64 h1, .int .i64 (n1 : Nat), .int .i64 o1, .int .u64 (x1 : Nat), .int .i64 (n1 : Nat), (.slice s1 k1 c1)]), (w2.heap.size + 1, 96, [.int .i64 h2, .int .i64 (n2 : Nat), .int .i64 o2, .int .u64 (x2 : Nat), .int .i64 (n2 : Nat), (.slice s2 k2 c2)])] W → PX3 W) := fun W h => ⟨⟨(h.at 1 rfl).cell rfl, (h.at 1 rfl).cell rfl, (h.at 1 rfl).cell rfl, (h.at 1 rfl).cell rfl, (h.at 1 rfl).cell rfl, (h.at 1 rfl).cell rfl, (h.at 2 rfl).cell rfl, (h.at 2 rfl).cell rfl, (h.at 2 rfl).cell rfl, (h.at 2 rfl).cell rfl, (h.at 2 rfl).cell rfl, (h.at 2 rfl).cell rfl⟩, h⟩
  have hS0 := hmk.out _ hR0.drew
  have R0 : Hid (∀ W, PX3 W → _) := fun W h => heldQ hmk.out (fun _ h => h.2) (fun _ _ h hb => h.later hb) h (fun hR => T3.out W)
  have R1 : Hid (∀ W, PX3 W → _) := fun W h => heldQ hmk.out (fun _ h => h.2) (fun _ _ h hb => h.later hb) h (fun hR => T4.out W)
  have R2 : Hid (∀ W, PX3 W → _) := fun W h => heldQ hmk.out (fun _ h => h.2) (fun _ _ h hb => h.later hb) h (fun hR => T5.out W)
  have hget : Hid (∀ W, PX3 W → Bs w [(w.heap.size, 96, [.int .i64 0, .int .i64 (s : Nat), .int .i64 0, .int .u64 0, .int .i64 0, (.slice (some ⟨g, 0, none⟩) 2 2)]), (w2.heap.size, 96, [.int .i64 h1, .int .i64 (n1 : Nat), .int .i64 o1, .int .u64 (x1 : Nat), .int .i64 (n1 : Nat), (.slice s1 k1 c1)]), (w2.heap.size + 1, 96, [.int .i64 h2, .int .i64 (n2 : Nat), .int .i64 o2, .int .u64 (x2 : Nat), .int .i64 (n2 : Nat), (.slice s2 k2 c2)])] W) := fun W h => h.2
  have hstr : Hid (∀ W b0 b1, PX3 W → PX3 ((W.setCell ⟨w.heap.size + 1, 0, none⟩ b0).setCell ⟨w.heap.size + 1, 1, none⟩ b1)) := fun W b0 b1 h => hmk.out _ (h.2.set2 (by first | omega | (simp <;> omega)) (by intro x hx; simp only [List.mem_cons, List.not_mem_nil, or_false] at hx; rcases hx with rfl | rfl | rfl <;> (dsimp only; omega)) _ _ )
  have hal : Hid (∀ W o, PX3 W → PX3 (W.alloc o)) := fun W o h => hmk.out _ (h.2.later ((Below.refl W.heap.size W).alloc (Nat.le_refl _) o))
  have hal0 : Hid (∀ o, PX3 (((w2.alloc (.cells #[.int .i64 h1, .int .i64 (n1 : Nat), .int .i64 o1, .int .u64 (x1 : Nat), .int .i64 (n1 : Nat), (.slice s1 k1 c1)] 96)).alloc (.cells #[.int .i64 h2, .int .i64 (n2 : Nat), .int .i64 o2, .int .u64 (x2 : Nat), .int .i64 (n2 : Nat), (.slice s2 k2 c2)] 96)).alloc o).drew) := fun o => hmk.out _ (hR0.later ((Below.refl _ _).alloc (Nat.le_refl _) o)).drew
  have hZ0r : Hid (∀ o, BlkAt (((w2.alloc (.cells #[.int .i64 h1, .int .i64 (n1 : Nat), .int .i64 o1, .int .u64 (x1 : Nat), .int .i64 (n1 : Nat), (.slice s1 k1 c1)] 96)).alloc (.cells #[.int .i64 h2, .int .i64 (n2 : Nat), .int .i64 o2, .int .u64 (x2 : Nat), .int .i64 (n2 : Nat), (.slice s2 k2 c2)] 96)).alloc o).drew (w.heap.size + 1) 93 [.int .u64 0, .int .i64 0]) := fun o => (((Br.out.alloc _).alloc _).alloc o).drew
  have hsn : Hid (∀ W gz b0 b1, w2.heap.size + 1 < gz → PX3 W → PX3 ((W.setCell ⟨gz, 0, none⟩ b0).setCell ⟨gz, 1, none⟩ b1)) := fun W gz b0 b1 hg h => hmk.out _ (h.2.set2 (by first | omega | (simp <;> omega)) (by intro x hx; simp only [List.mem_cons, List.not_mem_nil, or_false] at hx; rcases hx with rfl | rfl | rfl <;> (dsimp only; omega)) _ _)
  clear hR0 hmk Bt Br HB
  have hl9 : w2.heap.size + 1 < w2.heap.size + 1 + 1 := by omega
  go_region_held3 (fun W => (W.cell? ⟨w2.heap.size, 0, none⟩ = some (.int .i64 h1) ∧ W.cell? ⟨w2.heap.size, 1, none⟩ = some (.int .i64 (n1 : Nat)) ∧ W.cell? ⟨w2.heap.size, 2, none⟩ = some (.int .i64 o1) ∧ W.cell? ⟨w2.heap.size, 3, none⟩ = some (.int .u64 (x1 : Nat)) ∧ W.cell? ⟨w2.heap.size, 4, none⟩ = some (.int .i64 (n1 : Nat)) ∧ W.cell? ⟨w2.heap.size, 5, none⟩ = some ((.slice s1 k1 c1)) ∧ W.cell? ⟨w2.heap.size + 1, 0, none⟩ = some (.int .i64 h2) ∧ W.cell? ⟨w2.heap.size + 1, 1, none⟩ = some (.int .i64 (n2 : Nat)) ∧ W.cell? ⟨w2.heap.size + 1, 2, none⟩ = some (.int .i64 o2) ∧ W.cell? ⟨w2.heap.size + 1, 3, none⟩ = some (.int .u64 (x2 : Nat)) ∧ W.cell? ⟨w2.heap.size + 1, 4, none⟩ = some (.int .i64 (n2 : Nat)) ∧ W.cell? ⟨w2.heap.size + 1, 5, none⟩ = some ((.slice s2 k2 c2))) ∧ Bs w [(w.heap.size, 96, [.int .i64 0, .int .i64 (s : Nat), .int .i64 0, .int .u64 0, .int .i64 0, (.slice (some ⟨g, 0, none⟩) 2 2)]), (w2.heap.size, 96, [.int .i64 h1, .int .i64 (n1 : Nat), .int .i64 o1, .int .u64 (x1 : Nat), .int .i64 (n1 : Nat), (.slice s1 k1 c1)]), (w2.heap.size + 1, 96, [.int .i64 h2, .int .i64 (n2 : Nat), .int .i64 o2, .int .u64 (x2 : Nat), .int .i64 (n2 : Nat), (.slice s2 k2 c2)])] W) (first | (with_reducible assumption) | (with_reducible exact hstr.out _ _ _ (by with_reducible assumption)) | (with_reducible exact hal.out _ _ (by with_reducible assumption)) | (with_reducible exact hal0.out _) | (with_reducible exact hsn.out _ _ _ _ (by with_reducible assumption) (by with_reducible assumption))) ((first | (go_at_call 105; with_reducible refine (R0.out _ (by with_reducible assumption)).mono ?_; rintro e wr0 ⟨rfl, hS0z, hb0⟩; have hz0r : BlkAt wr0 (w.heap.size + 1) 93 [.int .u64 0, .int .i64 0] := (by first | exact hZr.out.later hb0 | exact (hZr.out.alloc _).later hb0 | exact (hZ0r.out _).later hb0); have hl0 : w2.heap.size + 1 < wr0.heap.size := ((hget.out _ hS0z).at 2 rfl).lt; (first | (have hq0 : BlkAt wr0 (w2.heap.size + 1 + 1) 93 [.int .u64 0, .int .i64 0] := ((BlkAt.made (by simp) _ [_, _]).drew).later hb0) | skip)) | (go_at_call 105; with_reducible refine (R1.out _ (by with_reducible assumption)).mono ?_; rintro e wr1 ⟨rfl, hS1z, hb1⟩; have hz1r : BlkAt wr1 (w.heap.size + 1) 93 [.int .u64 0, .int .i64 0] := (by first | exact hz0r.later hb1 | exact (hz0r.alloc _).later hb1 | exact (hZ0r.out _).later hb1); have hl1 : w2.heap.size + 1 < wr1.heap.size := ((hget.out _ hS1z).at 2 rfl).lt; (first | (have hq1 : BlkAt wr1 (w2.heap.size + 1 + 1) 93 [.int .u64 0, .int .i64 0] := hq0.later hb1) | (have hq1 : BlkAt wr1 wr0.heap.size 93 [.int .u64 0, .int .i64 0] := (BlkAt.made rfl _ [_, _]).later hb1) | skip)) | (go_at_call 89; with_reducible refine (R2.out _ (by with_reducible assumption)).mono ?_; rintro e wr2 ⟨rfl, hS2z, hb2⟩; have hz2r : BlkAt wr2 (w.heap.size + 1) 93 [.int .u64 0, .int .i64 0] := (by first | exact hz1r.later hb2 | exact (hz1r.alloc _).later hb2 | exact (hZ0r.out _).later hb2); (first | (have hq : BlkAt wr2 _ 93 [.int .u64 0, .int .i64 0] := hq1.later hb2; have q0 := hq.cell (j := 0) rfl; have q1 := hq.cell (j := 1) rfl; have q2 := hq.frozen 0; have q3 := hq.frozen 1) | (have hq : BlkAt wr2 wr1.heap.size 93 [.int .u64 0, .int .i64 0] := (BlkAt.made rfl _ [_, _]).later hb2; have q0 := hq.cell (j := 0) rfl; have q1 := hq.cell (j := 1) rfl; have q2 := hq.frozen 0; have q3 := hq.frozen 1) | skip); have z0r : wr2.cell? ⟨w.heap.size + 1, 0, none⟩ = some (.int .u64 0) := hz2r.cell rfl; have y0r := hz2r.frozen 0; have z1r : wr2.cell? ⟨w.heap.size + 1, 1, none⟩ = some (.int .i64 0) := hz2r.cell rfl; have y1r := hz2r.frozen 1)))
  all_goals (
    have HBX : Hid (Bs _ _ _) := hget.out _ hS2z
    have HB : Hid (Below _ _ _) := HBX.out.b
    have Bt : Hid (BlkAt _ _ _ _) := HBX.out.at 0 rfl
    have Ba : Hid (BlkAt _ _ _ _) := HBX.out.at 1 rfl
    have Bb : Hid (BlkAt _ _ _ _) := HBX.out.at 2 rfl
    have Br : Hid (BlkAt _ _ _ _) := hz2r
    have nw2heapsize11 : w2.heap.size + 1 + 1 ≠ w.heap.size + 1 := by have := Br.out.lt; omega
    have mw2heapsize11 : w.heap.size + 1 ≠ w2.heap.size + 1 + 1 := by have := Br.out.lt; omega
    have nwr0heapsize : wr0.heap.size ≠ w.heap.size + 1 := by have := Br.out.lt; omega
    have mwr0heapsize : w.heap.size + 1 ≠ wr0.heap.size := by have := Br.out.lt; omega
    have nwr1heapsize : wr1.heap.size ≠ w.heap.size + 1 := by have := Br.out.lt; omega
    have mwr1heapsize : w.heap.size + 1 ≠ wr1.heap.size := by have := Br.out.lt; omega
    have nwr2heapsize : wr2.heap.size ≠ w.heap.size + 1 := by have := Br.out.lt; omega
    have mwr2heapsize : w.heap.size + 1 ≠ wr2.heap.size := by have := Br.out.lt; omega
    have t0r := Br.out.lt
    go_wp2)
  all_goals first
    | (
      have Bl : Hid (BlkAt _ _ _ _) := hq
      have hsz := HB.out.size
      have t1t := Bt.out.lt
      have t1a := Ba.out.lt
      have t1b := Bb.out.lt
      have t1r := Br.out.lt
      have t1l := Bl.out.lt
      exact ret_leaf Tryd.results105 rfl rfl ((Br.out.off2 (by first | omega | (simp <;> omega)) _ _ ).set2 _ _ ) ⟨rfl, (below2 (below2 HB.out (by first | omega | (simp <;> omega)) _ _ ) (by first | omega | (simp <;> omega)) _ _ )⟩)
    | (
      have hsz := HB.out.size
      have t1t := Bt.out.lt
      have t1a := Ba.out.lt
      have t1b := Bb.out.lt
      have t1r := Br.out.lt
      exact ret_leaf Tryd.results105 rfl rfl ((Br.out.set2 _ _ ).alloc _) ⟨rfl, ((below2 HB.out (by first | omega | (simp <;> omega)) _ _ ).al _)⟩)
end Go.Proofs.YtjbiofjfjljeoaaDoor
namespace Go.Proofs.YtjbiofjfjljeoaaDoor
open Go.RowKit
set_option maxRecDepth 100000 in
set_option maxHeartbeats 400000 in
theorem join_f0 {p : Value} {w : World} {h1 h2 : Int} {o1 x1 m1 z2 o2 x2 m2 : Nat} {s1 s2 : Option Addr} {k1 c1 k2 c2 : Nat}  :
    Calls Tryd.prog 100 #[p, .agg #[.int .i64 h1, .int .i64 0, .int .i64 (o1 : Nat), .int .u64 (x1 : Nat), .int .i64 (m1 : Nat), (.slice s1 k1 c1)], .agg #[.int .i64 h2, .int .i64 (z2 : Nat), .int .i64 (o2 : Nat), .int .u64 (x2 : Nat), .int .i64 (m2 : Nat), (.slice s2 k2 c2)]] w fun e w' => e = .returned (.agg #[.int .i64 h2, .int .i64 (z2 : Nat), .int .i64 (o2 : Nat), .int .u64 (x2 : Nat), .int .i64 (m2 : Nat), (.slice s2 k2 c2)]) ∧ Below w.heap.size w w' := by
  go_enter Tryd.func100, Tryd.ntmps100
  go_wp2
  exact ret_row Tryd.results100 rfl rfl (BlkAt.made (by first | rfl | simp) _ [.int .i64 h2, .int .i64 (z2 : Nat), .int .i64 (o2 : Nat), .int .u64 (x2 : Nat), .int .i64 (m2 : Nat), (.slice s2 k2 c2)]) ⟨rfl, ((((Below.refl w.heap.size w).al _).al _).al _)⟩
set_option maxRecDepth 100000 in
set_option maxHeartbeats 400000 in
theorem join_o0 {p : Value} {w : World} {h1 h2 : Int} {z1 o1 x1 m1 o2 x2 m2 : Nat} {s1 s2 : Option Addr} {k1 c1 k2 c2 : Nat} (hz : z1 ≠ 0) :
    Calls Tryd.prog 100 #[p, .agg #[.int .i64 h1, .int .i64 (z1 : Nat), .int .i64 (o1 : Nat), .int .u64 (x1 : Nat), .int .i64 (m1 : Nat), (.slice s1 k1 c1)], .agg #[.int .i64 h2, .int .i64 0, .int .i64 (o2 : Nat), .int .u64 (x2 : Nat), .int .i64 (m2 : Nat), (.slice s2 k2 c2)]] w fun e w' => e = .returned (.agg #[.int .i64 h1, .int .i64 (z1 : Nat), .int .i64 (o1 : Nat), .int .u64 (x1 : Nat), .int .i64 (m1 : Nat), (.slice s1 k1 c1)]) ∧ Below w.heap.size w w' := by
  have d1 : decide ((z1 : Int) = 0) = false := decide_eq_false (by omega)
  have e1 : ((z1 : Int) == 0) = false := by simp <;> omega
  go_enter Tryd.func100, Tryd.ntmps100
  go_wp2
  exact ret_row Tryd.results100 rfl rfl (BlkAt.made (by first | rfl | simp) _ [.int .i64 h1, .int .i64 (z1 : Nat), .int .i64 (o1 : Nat), .int .u64 (x1 : Nat), .int .i64 (m1 : Nat), (.slice s1 k1 c1)]) ⟨rfl, ((((Below.refl w.heap.size w).al _).al _).al _)⟩
set_option maxRecDepth 100000 in
set_option maxHeartbeats 400000 in
theorem join_fork {p : Value} {w : World} {h1 h2 : Int} {z1 o1 x1 m1 z2 o2 x2 m2 : Nat} {s1 s2 : Option Addr} {k1 c1 k2 c2 : Nat} (hz1 : z1 ≠ 0) (hz2 : z2 ≠ 0) (h64 : 64 < z1 + z2) (hb : z1 + z2 ≤ 1000000000) (ho1 : o1 ≤ z1) (ho2 : o2 ≤ z2) :
    Calls Tryd.prog 100 #[p, .agg #[.int .i64 h1, .int .i64 (z1 : Nat), .int .i64 (o1 : Nat), .int .u64 (x1 : Nat), .int .i64 (m1 : Nat), (.slice s1 k1 c1)], .agg #[.int .i64 h2, .int .i64 (z2 : Nat), .int .i64 (o2 : Nat), .int .u64 (x2 : Nat), .int .i64 (m2 : Nat), (.slice s2 k2 c2)]] w fun e w' => (∃ g, e = .returned (.agg #[.int .i64 0, .int .i64 ((z1 + z2 : Nat) : Int), .int .i64 ((o1 + o2 : Nat) : Int), .int .u64 0, .int .i64 0, (.slice (some ⟨g, 0, none⟩) 2 2)]) ∧ BlkAt w' g 96 [.int .i64 h1, .int .i64 (z1 : Nat), .int .i64 (o1 : Nat), .int .u64 (x1 : Nat), .int .i64 (m1 : Nat), (.slice s1 k1 c1), .int .i64 h2, .int .i64 (z2 : Nat), .int .i64 (o2 : Nat), .int .u64 (x2 : Nat), .int .i64 (m2 : Nat), (.slice s2 k2 c2)]) ∧ Below w.heap.size w w' := by
  have d1 : decide ((z1 : Int) = 0) = false := decide_eq_false (by omega)
  have e1 : ((z1 : Int) == 0) = false := by simp <;> omega
  have d2 : decide ((z2 : Int) = 0) = false := decide_eq_false (by omega)
  have e2 : ((z2 : Int) == 0) = false := by simp <;> omega
  have hw1 : IntKind.i64.wrap ((z1 : Int) + (z2 : Int)) = ((z1 + z2 : Nat) : Int) := by rw [wrap_i (by omega) (by omega)]; omega
  have hw2 : IntKind.i64.wrap ((o1 : Int) + (o2 : Int)) = ((o1 + o2 : Nat) : Int) := by rw [wrap_i (by omega) (by omega)]; omega
  have d3 : decide (((z1 + z2 : Nat) : Int) ≤ 64) = false := decide_eq_false (by omega)
  generalize z1 + z2 = z at *
  generalize o1 + o2 = c at *
  go_enter Tryd.func100, Tryd.ntmps100
  go_wp2
  exact ret_row Tryd.results100 rfl rfl ((BlkAt.made (by first | rfl | simp) _ [.int .i64 0, .int .i64 (z : Nat), .int .i64 (c : Nat), .int .u64 0, .int .i64 0, (.slice (some ⟨w.heap.size + 1 + 1 + 1, 0, none⟩) 2 2)]).alloc _) ⟨⟨w.heap.size + 1 + 1 + 1, rfl, (BlkAt.made (by first | rfl | simp) _ [.int .i64 h1, .int .i64 (z1 : Nat), .int .i64 (o1 : Nat), .int .u64 (x1 : Nat), .int .i64 (m1 : Nat), (.slice s1 k1 c1), .int .i64 h2, .int .i64 (z2 : Nat), .int .i64 (o2 : Nat), .int .u64 (x2 : Nat), .int .i64 (m2 : Nat), (.slice s2 k2 c2)])⟩, (((((Below.refl w.heap.size w).al _).al _).al _).al _)⟩
set_option maxRecDepth 100000 in
set_option maxHeartbeats 400000 in
theorem join_leaf {p : Value} {w : World} {h1 h2 : Int} {z1 o1 x1 z2 o2 x2 : Nat} {s1 s2 : Option Addr} {k1 c1 k2 c2 : Nat} (hx1 : x1 < 2 ^ z1) (hx2 : x2 < 2 ^ z2) (hz1 : z1 ≠ 0) (hz2 : z2 ≠ 0) (h64 : z1 + z2 ≤ 64) :
    Calls Tryd.prog 100 #[p, .agg #[.int .i64 h1, .int .i64 (z1 : Nat), .int .i64 (o1 : Nat), .int .u64 (x1 : Nat), .int .i64 (z1 : Nat), (.slice s1 k1 c1)], .agg #[.int .i64 h2, .int .i64 (z2 : Nat), .int .i64 (o2 : Nat), .int .u64 (x2 : Nat), .int .i64 (z2 : Nat), (.slice s2 k2 c2)]] w fun e w' => e = .returned (.agg #[.int .i64 0, .int .i64 ((z1 + z2 : Nat) : Int), .int .i64 ((popN (z1 + z2) (x1 ||| x2 * 2 ^ z1) : Nat) : Int), .int .u64 ((x1 ||| x2 * 2 ^ z1 : Nat) : Int), .int .i64 ((z1 + z2 : Nat) : Int), .slice none 0 0]) ∧ Below w.heap.size w w' := by
  have d1 : decide ((z1 : Int) = 0) = false := decide_eq_false (by omega)
  have e1 : ((z1 : Int) == 0) = false := by simp <;> omega
  have d2 : decide ((z2 : Int) = 0) = false := decide_eq_false (by omega)
  have e2 : ((z2 : Int) == 0) = false := by simp <;> omega
  have hw1 : IntKind.i64.wrap ((z1 : Int) + (z2 : Int)) = ((z1 + z2 : Nat) : Int) := by rw [wrap_i (by omega) (by omega)]; omega
  have d3 : decide (((z1 + z2 : Nat) : Int) ≤ 64) = true := decide_eq_true (by omega)
  have T1 : Hid (∀ W, BlkAt W (w.heap.size + 1 + 1 + 1) 96 [.int .i64 h1, .int .i64 (z1 : Nat), .int .i64 (o1 : Nat), .int .u64 (x1 : Nat), .int .i64 (z1 : Nat), (.slice s1 k1 c1), .int .i64 h2, .int .i64 (z2 : Nat), .int .i64 (o2 : Nat), .int .u64 (x2 : Nat), .int .i64 (z2 : Nat), (.slice s2 k2 c2)] → _) := fun W hB => gather_two (p := p) (w := W) hx1 hx2 (by omega) h64 hB
  have T2 : Hid (∀ W, _) := fun W => ofLeaf_any (join_word hx1 hx2 h64).2 h64 W
  generalize x1 ||| x2 * 2 ^ z1 = y at *
  generalize z1 + z2 = z at *
  generalize popN z y = c at *
  go_enter Tryd.func100, Tryd.ntmps100
  go_wp2_with (go_at_call 105; fail)
  refine (T1.out _ (BlkAt.made (by first | rfl | simp) _ [.int .i64 h1, .int .i64 (z1 : Nat), .int .i64 (o1 : Nat), .int .u64 (x1 : Nat), .int .i64 (z1 : Nat), (.slice s1 k1 c1), .int .i64 h2, .int .i64 (z2 : Nat), .int .i64 (o2 : Nat), .int .u64 (x2 : Nat), .int .i64 (z2 : Nat), (.slice s2 k2 c2)])).mono ?_
  rintro e w1 ⟨rfl, hb⟩
  have hB : Below w.heap.size w w1 := (((((Below.refl w.heap.size w).al _).al _).al _).al _).trans (hb.mo)
  have sw1 : w.heap.size + 4 ≤ w1.heap.size := by have := hb.size; (try simp at this); omega
  have bf : BlkAt w1 (w.heap.size) 96 [.int .i64 h1, .int .i64 (z1 : Nat), .int .i64 (o1 : Nat), .int .u64 (x1 : Nat), .int .i64 (z1 : Nat), (.slice s1 k1 c1)] := ((((BlkAt.made (by first | rfl | simp) _ [.int .i64 h1, .int .i64 (z1 : Nat), .int .i64 (o1 : Nat), .int .u64 (x1 : Nat), .int .i64 (z1 : Nat), (.slice s1 k1 c1)]).alloc _).alloc _).alloc _).later hb
  have bo : BlkAt w1 (w.heap.size + 1) 96 [.int .i64 h2, .int .i64 (z2 : Nat), .int .i64 (o2 : Nat), .int .u64 (x2 : Nat), .int .i64 (z2 : Nat), (.slice s2 k2 c2)] := (((BlkAt.made (by first | rfl | simp) _ [.int .i64 h2, .int .i64 (z2 : Nat), .int .i64 (o2 : Nat), .int .u64 (x2 : Nat), .int .i64 (z2 : Nat), (.slice s2 k2 c2)]).alloc _).alloc _).later hb
  have br : BlkAt w1 (w.heap.size + 1 + 1) 96 [.int .i64 0, .int .i64 0, .int .i64 0, .int .u64 0, .int .i64 0, .slice none 0 0] := ((BlkAt.made (by first | rfl | simp) _ [.int .i64 0, .int .i64 0, .int .i64 0, .int .u64 0, .int .i64 0, .slice none 0 0]).alloc _).later hb
  have Bf : Hid (BlkAt _ _ _ _) := bf
  have Bo : Hid (BlkAt _ _ _ _) := bo
  have Br : Hid (BlkAt _ _ _ _) := br
  have HB : Hid (Below _ _ _) := hB
  clear hB bf bo br
  clear hb
  go_wp2_with (go_at_call 73; fail)
  refine (T2.out _).mono ?_
  rintro e w2 ⟨rfl, hb⟩
  have hsz := HB.out.size
  have t1f := Bf.out.lt
  have t1o := Bo.out.lt
  have t1r := Br.out.lt
  have hB : Below w.heap.size w w2 := HB.out.trans (hb.mo)
  have sw2 : w1.heap.size + 0 ≤ w2.heap.size := by have := hb.size; (try simp at this); omega
  have bf : BlkAt w2 (w.heap.size) 96 [.int .i64 h1, .int .i64 (z1 : Nat), .int .i64 (o1 : Nat), .int .u64 (x1 : Nat), .int .i64 (z1 : Nat), (.slice s1 k1 c1)] := Bf.out.later hb
  have bo : BlkAt w2 (w.heap.size + 1) 96 [.int .i64 h2, .int .i64 (z2 : Nat), .int .i64 (o2 : Nat), .int .u64 (x2 : Nat), .int .i64 (z2 : Nat), (.slice s2 k2 c2)] := Bo.out.later hb
  have br : BlkAt w2 (w.heap.size + 1 + 1) 96 [.int .i64 0, .int .i64 0, .int .i64 0, .int .u64 0, .int .i64 0, .slice none 0 0] := Br.out.later hb
  clear t1f t1o t1r Bf Bo Br hsz HB
  have Bf : Hid (BlkAt _ _ _ _) := bf
  have Bo : Hid (BlkAt _ _ _ _) := bo
  have Br : Hid (BlkAt _ _ _ _) := br
  have HB : Hid (Below _ _ _) := hB
  clear hB bf bo br
  clear hb
  obtain ⟨c0r, c1r, c2r, c3r, c4r, c5r⟩ := cellsB6 Br.out
  have t0r := Br.out.lt
  have f0r := Br.out.frozen 0
  have f1r := Br.out.frozen 1
  have f2r := Br.out.frozen 2
  have f3r := Br.out.frozen 3
  have f4r := Br.out.frozen 4
  have f5r := Br.out.frozen 5
  go_wp2
  have hsz := HB.out.size
  have t1f := Bf.out.lt
  have t1o := Bo.out.lt
  have t1r := Br.out.lt
  exact ret_row Tryd.results100 rfl rfl (Br.out.set6 _ _ _ _ _ _ ) ⟨rfl, (below6 HB.out (by first | omega | (simp <;> omega)) _ _ _ _ _ _ )⟩
theorem join_any {p : Value} {w : World} {f o : Tr} {kf ko : Value} (hf : f.ok) (ho : o.ok) (hb : f.size + o.size ≤ 1000000000) (Kf : KidsAt w f kf) (Ko : KidsAt w o ko) :
    Calls Tryd.prog 100 #[p, .agg #[.int .i64 (f).hd, .int .i64 (((f).size : Nat) : Int), .int .i64 (((f).ones : Nat) : Int), .int .u64 (((f).wd : Nat) : Int), .int .i64 (((f).bn : Nat) : Int), kf], .agg #[.int .i64 (o).hd, .int .i64 (((o).size : Nat) : Int), .int .i64 (((o).ones : Nat) : Int), .int .u64 (((o).wd : Nat) : Int), .int .i64 (((o).bn : Nat) : Int), ko]] w fun e w' => (∃ k, e = .returned (.agg #[.int .i64 (joinT f o).hd, .int .i64 (((joinT f o).size : Nat) : Int), .int .i64 (((joinT f o).ones : Nat) : Int), .int .u64 (((joinT f o).wd : Nat) : Int), .int .i64 (((joinT f o).bn : Nat) : Int), k]) ∧ KidsAt w' (joinT f o) k) ∧ Below w.heap.size w w' := by
  obtain ⟨s1, k1, c1, rfl⟩ := Kf.slice
  obtain ⟨s2, k2, c2, rfl⟩ := Ko.slice
  have l1 := f.ones_le
  have l2 := o.ones_le
  unfold joinT
  by_cases h1 : f.size = 0
  · rw [if_pos h1]
    have T := join_f0 (p := p) (w := w) (h1 := f.hd) (o1 := f.ones) (x1 := f.wd) (m1 := f.bn) (s1 := s1) (k1 := k1) (c1 := c1) (h2 := o.hd) (z2 := o.size) (o2 := o.ones) (x2 := o.wd) (m2 := o.bn) (s2 := s2) (k2 := k2) (c2 := c2)
    rw [h1]
    exact T.mono fun e w' ⟨he, hb⟩ => ⟨⟨_, he, KidsAt.later hb Ko⟩, hb⟩
  · rw [if_neg h1]
    by_cases h2 : o.size = 0
    · rw [if_pos h2]
      have T := join_o0 (p := p) (w := w) (h1 := f.hd) (z1 := f.size) (o1 := f.ones) (x1 := f.wd) (m1 := f.bn) (s1 := s1) (k1 := k1) (c1 := c1) (h2 := o.hd) (o2 := o.ones) (x2 := o.wd) (m2 := o.bn) (s2 := s2) (k2 := k2) (c2 := c2) h1
      rw [h2]
      exact T.mono fun e w' ⟨he, hb⟩ => ⟨⟨_, he, KidsAt.later hb Kf⟩, hb⟩
    · rw [if_neg h2]
      by_cases h3 : f.size + o.size ≤ 64
      · rw [if_pos h3]
        rcases Tr.small hf (by omega) with rfl | ⟨g1, x1, n1, rfl, a1, a2, a3⟩
        · exact absurd rfl h1
        rcases Tr.small ho (by omega) with rfl | ⟨g2, x2, n2, rfl, b1, b2, b3⟩
        · exact absurd rfl h2
        have T := join_leaf (p := p) (w := w) (h1 := g1) (o1 := popN n1 x1) (s1 := s1) (k1 := k1) (c1 := c1) (h2 := g2) (o2 := popN n2 x2) (s2 := s2) (k2 := k2) (c2 := c2) a3 b3 (by omega) (by omega) h3
        exact T.mono fun e w' ⟨he, hb⟩ => ⟨⟨_, he, rfl⟩, hb⟩
      · rw [if_neg h3]
        have T := join_fork (p := p) (w := w) (h1 := f.hd) (z1 := f.size) (o1 := f.ones) (x1 := f.wd) (m1 := f.bn) (s1 := s1) (k1 := k1) (c1 := c1) (h2 := o.hd) (z2 := o.size) (o2 := o.ones) (x2 := o.wd) (m2 := o.bn) (s2 := s2) (k2 := k2) (c2 := c2) h1 h2 (by omega) hb l1 l2
        refine T.mono ?_
        rintro e w' ⟨⟨g, he, hB⟩, hb⟩
        refine ⟨⟨_, he, ?_⟩, hb⟩
        unfold KidsAt
        rw [if_pos rfl]
        exact ⟨g, _, _, rfl, hB, KidsAt.later hb Kf, KidsAt.later hb Ko⟩
end Go.Proofs.YtjbiofjfjljeoaaDoor
