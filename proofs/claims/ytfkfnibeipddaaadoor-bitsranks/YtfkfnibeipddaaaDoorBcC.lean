/- Rows of bits as a statement calls them: what each change and each word of the arena tells, and what becomes of the rows that are there. -/
import Derived.Test.YtfkfnibeipddaaaDoorBcB
namespace Go.Proofs.YtfkfnibeipddaaaDoor
open Go Go.RowKit Go.Shelf

/-! ### What becomes of rows -/

/-- what is live there was the same node here -/
def Keeps (S T : St) : Prop := T.n = S.n ∧ ∀ g, 0 < T.cnt g → (T.get g).nd = (S.get g).nd

theorem Keeps.refl (S : St) : Keeps S S := ⟨rfl, fun _ _ => rfl⟩
theorem Keeps.drop (S : St) (x : Int) : Keeps S (S.drop x) := ⟨S.n_drop x, fun g _ => S.nd_drop x g⟩

theorem free1_live {S : St} (I : Inv S) (hw : S.wt ≠ []) {g : Int} (h : 0 < S.free1.cnt g) : (S.free1.get g).nd = (S.get g).nd ∧ 0 < S.cnt g := by
  have h0 := cnt_free1_le I hw g
  cases e : S.wt with
  | nil => exact absurd e hw
  | cons x t =>
    obtain ⟨x1, x2, x3, x4⟩ := I.wtIn x (by rw [e]; simp)
    have hf : S.free1 = (S.rid x).drops (S.get x).nd.kids := by unfold St.free1; rw [e]; rfl
    have hg : (S.rid x).get g = if g = x then sl0 else S.get g := S.get_put sl0 x1 x2 g
    refine ⟨?_, by omega⟩
    rw [hf, St.nd_drops, hg, if_neg (fun q => ?_)]
    rw [q] at h0 h
    omega

theorem Keeps.workN : ∀ (k : Nat) {S : St}, Inv S → Keeps S (St.workN k S).2
  | 0, S, _ => Keeps.refl S
  | k + 1, S, I => by
    refine ⟨St.n_workN _ _, fun g hg => ?_⟩
    unfold St.workN at hg ⊢
    split
    · rfl
    · next h =>
      rw [if_neg h] at hg
      have ih := Keeps.workN k (I.free1 h)
      have h1 := ih.2 g hg
      have h2 := cnt_workN_le k (I.free1 h) g
      have h3 : 0 < S.free1.cnt g := by
        have : 0 < (St.workN k S.free1).2.cnt g := hg
        omega
      exact h1.trans (free1_live I h h3).1

theorem cnt_kid {S : St} {mine : List Int} (C : CI S mine) {g k : Int} (hk : k ∈ (S.get g).nd.kids) (h1 : 1 ≤ k) (h2 : k ≤ S.n) : 0 < S.cnt k := by
  rw [C.cnt k h1 h2]
  rcases kidsN_ge S g k with h | h
  · have := List.count_pos_iff.2 hk
    omega
  · rw [h] at hk
    have : k = 0 := by simpa [sl0, nd0, Nd.kids] using hk
    omega

/-- a row whose root is live stays -/
theorem held_top {S T : St} {mine : List Int} (C : CI T mine) (hK : Keeps S T) : ∀ {t : Tr}, Held S t → (t.hd ≠ 0 ∨ t = .nil) → (t.hd ≠ 0 → 0 < T.cnt t.hd) → Held T t
  | .nil, _, _, _ => trivial
  | .leaf h x n, hH, _, hl => fun h0 => by
    have := hl h0
    exact ⟨this, (hK.2 h this).trans (hH h0).2⟩
  | .fork h l r, hH, hm, hl => by
    have h0 : h ≠ 0 := hm.elim id (fun e => nomatch e)
    obtain ⟨a, b, c, d⟩ := hH.2.2 h0
    have hc := hl h0
    have hd := (hK.2 h hc).trans d
    have kid : ∀ t : Tr, Held S t → t.hd ≠ 0 → t.hd ∈ (T.get h).nd.kids → 0 < T.cnt t.hd := fun t hH ht hk => by
      have hlv : 0 < S.cnt t.hd := by
        cases t with
        | nil => exact absurd rfl ht
        | leaf g x n => exact (hH ht).1
        | fork g l r => exact (hH.2.2 ht).2.2.1
      obtain ⟨r1, r2⟩ := S.live_in (h := t.hd) (decide_eq_true hlv)
      exact cnt_kid C hk r1 (by rw [hK.1]; exact r2)
    have hkl : l.hd ∈ (T.get h).nd.kids := by rw [hd]; simp [Nd.kids]
    have hkr : r.hd ∈ (T.get h).nd.kids := by rw [hd]; simp [Nd.kids]
    exact ⟨held_top C hK hH.1 (Or.inl a) (fun _ => kid l hH.1 a hkl), held_top C hK hH.2.1 (Or.inl b) (fun _ => kid r hH.2.1 b hkr), fun _ => ⟨a, b, hc, hd⟩⟩

theorem RowT.carry {S T : St} {mine : List Int} {t : Tr} {bs : List Bool} (R : RowT S t bs) (C : CI T mine) (hK : Keeps S T) (hm : t.hd = 0 ∨ t.hd ∈ mine) : RowT T t bs :=
  ⟨R.ok, R.bal, held_top C hK R.held R.made (fun h0 => hm.elim (fun e => absurd e h0) (fun e => T.live_pos (C.live e))), R.made, R.bits⟩

/-! ### What is told -/

theorem workP {w0 w : World} {G : Nat} {S : St} {md k : Nat} (h : AB w0 G w S md k) (hk : k ≤ 1000000000) (most : Int) :
    Calls Tryd.prog 15 #[.pointer (some ⟨G, 0, none⟩), .int .i64 most] w fun e w' => e = .returned (.int .i64 ((St.workN most.toNat S).1 : Int)) ∧ AB w0 G w' (St.workN most.toNat S).2 md k ∧ Sp G w w' := by
  obtain ⟨o, q, rfl, hA, hg, hb, hc, hq⟩ := h.norm
  refine (work_any hA (fun g => by have := hc g; omega) most).mono ?_
  rintro e w' ⟨he, q', hA', hS⟩
  exact ⟨he, AB.step hA' hS hg hb (fun g => Nat.le_trans (cnt_workN_le _ hA.1 g) (hc g)), step_sp hA hq hS hA'⟩

/-- a new list of numbers is not the arena's -/
theorem AB.loose {w0 w w' : World} {G : Nat} {S : St} {md k : Nat} (h : AB w0 G w S md k) (hb : Below w.heap.size w w') {g : Nat} (hg : w.heap.size ≤ g) {cur : Array Value} {r : Nat × Nat} (hc : w'.heap[g]? = some (.cells cur 3 r)) : Loose G w' g := by
  obtain ⟨o, q, rfl, hA, -, -, -, hq⟩ := h.norm
  obtain ⟨-, -, -, fw, wv, hR, -⟩ := hA
  have hcell : w.cell? ⟨o.G, 2, none⟩ = some wv := hR.ar.cell rfl
  have hql := hR.ql
  obtain ⟨ao, cap, e1, -, -, e4⟩ := hR.qu
  refine ⟨⟨cur, r, hc⟩, ao, _, cap, ((World.cell?_of_block (w := w) (hb.block o.G (World.block_lt_of_cell? _ _ hcell))).trans hcell).trans (by rw [e1]), ?_⟩
  rcases e4 with e4 | ⟨off, cur', e5, -⟩
  · exact Or.inl e4
  · refine Or.inr (fun o' e => ?_)
    rw [e5] at e
    cases e
    omega

theorem insR {w0 w : World} {G : Nat} {S : St} {md c : Nat} {mine : List Int} (hA : AB w0 G w S md c) (C : CI S mine) {t : Tr} {bs : List Bool} (T : RowT S t bs) (hl : bs.length ≤ 860) (i : Nat) (hi : i ≤ bs.length) (b : Bool) (hr : usedN S.sl + (2 + 5 * t.deep) ≤ S.n) (hc : c ≤ 800000000) (hmd : md ≤ 800000000) :
    Calls Tryd.prog 13 #[.pointer (some ⟨G, 0, none⟩), .int .i64 t.hd, .int .i64 i, .bool b] w fun e w' => ∃ S' t' m, e = .returned (.tuple #[.int .i64 t'.hd, .int .i64 0]) ∧ AB w0 G w' S' (md + m) (c + 1300) ∧ CI S' (mine ++ [t'.hd]) ∧ Grows S S' ∧ RowT S' t' (bs.take i ++ b :: bs.drop i) ∧ usedN S'.sl = usedN S.sl + m ∧ m ≤ 2 + 5 * t.deep ∧ (bs.length < 64 → m ≤ 1) ∧ t'.hd ≠ 0 ∧ Sp G w w' := by
  have hs := T.size
  have hd := T.deep (by omega)
  have h0 : (0 : Int) ≤ (i : Nat) := by omega
  have h1 : ((i : Nat) : Int) ≤ t.size := by omega
  obtain ⟨q1, q2, q3⟩ := ins_tree (S := S) (b := b) T.ok T.held T.made h0 h1
  have q4 := ins_bal (b := b) T.ok T.bal h0 h1
  have q5 := ins_size (b := b) T.ok T.held T.made h0 h1
  have q6 := ins_miss (b := b) T.ok T.held T.made h0 h1
  have q7 := nodes_few q1 q4
  rw [T.bits, Int.toNat_natCast] at q3
  obtain ⟨r1, r2, r3, r4, -⟩ := RowT.made_of hA.inv C q1 q4 q2 q3 (by omega)
  have hz : (mdT (insT t i b) S).2.hd ≠ 0 := fun e => by
    have := r1.zero.1 e
    simp at this
  rw [if_neg hz] at r3
  refine (ins_make hA C T.ok (by omega) T.made T.held h0 h1 b (by omega) (by omega) (by omega) (by omega)).mono ?_
  rintro e w' ⟨rfl, hA', hS⟩
  exact ⟨_, _, _, rfl, hA'.mono (by omega), r3, r2, r1, r4, q6, fun h => ins_small T.ok (by omega), hz, hS⟩

theorem delR {w0 w : World} {G : Nat} {S : St} {md c : Nat} {mine : List Int} (hA : AB w0 G w S md c) (C : CI S mine) {t : Tr} {bs : List Bool} (T : RowT S t bs) (hl : bs.length ≤ 860) (i : Nat) (hi : i < bs.length) (hr : usedN S.sl + (2 + 5 * t.deep) ≤ S.n) (hc : c ≤ 800000000) (hmd : md ≤ 800000000) :
    Calls Tryd.prog 25 #[.pointer (some ⟨G, 0, none⟩), .int .i64 t.hd, .int .i64 i] w fun e w' => ∃ S' t' m, e = .returned (.tuple #[.int .i64 t'.hd, .int .i64 0]) ∧ AB w0 G w' S' (md + m) (c + 1300) ∧ CI S' (if t'.hd = 0 then mine else mine ++ [t'.hd]) ∧ Grows S S' ∧ RowT S' t' (bs.take i ++ bs.drop (i + 1)) ∧ usedN S'.sl = usedN S.sl + m ∧ m ≤ 2 + 5 * t.deep ∧ Sp G w w' := by
  have hs := T.size
  have hd := T.deep (by omega)
  have h0 : (0 : Int) ≤ (i : Nat) := by omega
  have h1 : ((i : Nat) : Int) < t.size := by omega
  obtain ⟨q1, q2, q3⟩ := del_tree (S := S) T.ok T.held T.made h0 h1
  have q4 := del_bal T.ok T.bal h0 h1
  have q5 := del_size T.ok T.held T.made h0 h1
  have q6 := del_miss T.ok T.held T.made h0 h1
  have q7 := nodes_few q1 q4
  rw [T.bits, Int.toNat_natCast] at q3
  obtain ⟨r1, r2, r3, r4, -⟩ := RowT.made_of hA.inv C q1 q4 q2 q3 (by omega)
  refine (del_make hA C T.ok (by omega) T.made T.held h0 h1 (by omega) (by omega) (by omega) (by omega)).mono ?_
  rintro e w' ⟨rfl, hA', hS⟩
  exact ⟨_, _, _, rfl, hA'.mono (by omega), r3, r2, r1, r4, q6, hS⟩

theorem dropR {w0 w : World} {G : Nat} {S : St} {md k : Nat} {mine : List Int} (h : AB w0 G w S md k) (C : CI S mine) (hk : k ≤ 1000000000) {x : Int} (hx : x ∈ mine) :
    Calls Tryd.prog 14 #[.pointer (some ⟨G, 0, none⟩), .int .i64 x] w fun e w' => e = .returned (.int .i64 0) ∧ AB w0 G w' (S.drop x) md k ∧ CI (S.drop x) (mine.erase x) ∧ Keeps S (S.drop x) ∧ usedN (S.drop x).sl = usedN S.sl ∧ Sp G w w' := by
  refine (dropP h hk x).mono ?_
  rintro e w' ⟨rfl, hA, hS⟩
  refine ⟨?_, hA, C.drop hx, Keeps.drop S x, used_drop _ _, hS⟩
  unfold St.errB
  rw [if_pos (C.live hx)]

theorem workR {w0 w : World} {G : Nat} {S : St} {md k : Nat} {mine : List Int} (h : AB w0 G w S md k) (C : CI S mine) (hk : k ≤ 1000000000) (n : Nat) :
    Calls Tryd.prog 15 #[.pointer (some ⟨G, 0, none⟩), .int .i64 (n : Nat)] w fun e w' => ∃ S' f, e = .returned (.int .i64 (f : Nat)) ∧ AB w0 G w' S' md k ∧ CI S' mine ∧ Keeps S S' ∧ (S'.wt = [] ∧ usedN S'.sl + f = usedN S.sl ∨ usedN S'.sl + n = usedN S.sl ∧ f = n) ∧ (usedN S.sl ≤ n → S'.wt = [] ∧ usedN S'.sl + f = usedN S.sl) ∧ Sp G w w' := by
  have I := h.inv
  refine (workP h hk (n : Nat)).mono ?_
  rintro e w' ⟨rfl, hA, hS⟩
  rw [Int.toNat_natCast] at hA ⊢
  exact ⟨_, _, rfl, hA, C.workN n I, Keeps.workN n I, work_used n I, fun hu => work_all I hu, hS⟩

theorem newR {w0 w : World} (hb : Below w0.heap.size w0 w) (hT : Tab w) (n : Nat) (h1 : 1 ≤ n) (hn : n ≤ 6000) :
    Calls Tryd.prog 10 #[.int .i64 n] w fun e w' => ∃ G S, e = .returned (.pointer (some ⟨G, 0, none⟩)) ∧ AB w0 G w' S 0 0 ∧ CI S [] ∧ S.n = n ∧ usedN S.sl = 0 ∧ S.wt = [] := by
  refine (newB hb hT n h1 hn).mono ?_
  rintro e w' ⟨G, rfl, hA⟩
  exact ⟨G, _, rfl, hA, CI.new n, n_new n, used_new n, rfl⟩

theorem RowT.deep1 {S : St} {t : Tr} {bs : List Bool} (T : RowT S t bs) (h : bs.length ≤ 64) : t.deep ≤ 1 := by
  rcases Tr.small T.ok (by rw [T.size]; exact h) with e | ⟨g, x, n, e, -⟩
  · rw [e]; exact Nat.zero_le _
  · rw [e]; exact Nat.le_refl _

theorem lenR {p : Value} {S : St} {w : World} (hR : Rd p S w) {t : Tr} {bs : List Bool} (T : RowT S t bs) (hl : bs.length ≤ 30000) :
    Calls Tryd.prog 21 #[p, .int .i64 t.hd] w fun e w' => e = .returned (.int .i64 (bs.length : Nat)) ∧ Below w.heap.size w w' := by
  have := len_any hR T.ok (by rw [T.size]; omega) T.made T.held
  rw [T.size] at this
  exact this

theorem rankR {p : Value} {S : St} {w : World} (hR : Rd p S w) {t : Tr} {bs : List Bool} (T : RowT S t bs) (hl : bs.length ≤ 30000) {i : Int} (hi : i ≤ 9223372036854775807) :
    Calls Tryd.prog 24 #[p, .int .i64 t.hd, .int .i64 i] w fun e w' => e = .returned (.int .i64 ((bs.take i.toNat).count true : Nat)) ∧ Below w.heap.size w w' := by
  have := rankT_any hR T.ok (by rw [T.size]; omega) T.made T.held hi
  rw [T.bits] at this
  exact this

theorem allR {p : Value} {S : St} {w : World} (hR : Rd p S w) {t : Tr} {bs : List Bool} (T : RowT S t bs) (hl : bs.length ≤ 30000) :
    Calls Tryd.prog 17 #[p, .int .i64 t.hd] w fun e w' => ∃ ao cap, e = .returned (.slice ao bs.length cap) ∧ HasBools w' ao bs ∧ Below w.heap.size w w' := by
  refine (all_any hR T.ok (by rw [T.size]; omega) T.made T.held).mono ?_
  rintro e w' ⟨v, rfl, hO, hb⟩
  rw [T.bits] at hO
  obtain ⟨ao, cap, rfl, hc, -⟩ := owns_cells hO
  exact ⟨ao, cap, rfl, ⟨fun j hj => hc j (.bool bs[j]) (by simp [hj])⟩, hb⟩

end Go.Proofs.YtfkfnibeipddaaaDoor
