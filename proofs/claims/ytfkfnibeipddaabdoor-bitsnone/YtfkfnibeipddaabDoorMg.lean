/- Rows of bits: whatever list is made a row at once. -/
import Derived.Test.YtfkfnibeipddaabDoorBcE
import Derived.Test.YtfkfnibeipddaabDoorMf
import Derived.Test.YtfkfnibeipddaabDoorMe
namespace Go.Proofs.YtfkfnibeipddaabDoor
open Go Go.RowKit Go.Shelf

theorem spread_any : ∀ (m : Nat) {bs : List Bool}, bs.length ≤ m → bs.length ≤ 30000 → ∀ {w : World} {ao : Option Addr} {cap : Nat}, HasBools w ao bs → bs.length ≤ cap → cap ≤ 9223372036854775807 →
    Calls Tryd.prog 51 #[.slice ao bs.length cap] w fun e w' => (∃ k, e = .returned (.agg #[.int .i64 (spreadT bs).hd, .int .i64 (((spreadT bs).size : Nat) : Int), .int .i64 (((spreadT bs).ones : Nat) : Int), .int .u64 (((spreadT bs).wd : Nat) : Int), .int .i64 (((spreadT bs).bn : Nat) : Int), k]) ∧ KidsAt w' (spreadT bs) k) ∧ Below w.heap.size w w' := by
  intro m
  induction m with
  | zero =>
    intro bs hm hn w ao cap hs hc hcm
    rw [spread_small (by omega)]
    exact (spread_leaf hs (by omega)).mono fun e w' ⟨he, hb⟩ => ⟨⟨_, he, ofL_kids w' _ _⟩, hb⟩
  | succ m ih =>
    intro bs hm hn w ao cap hs hc hcm
    by_cases h : 64 < bs.length
    · obtain ⟨g, o, rfl, -⟩ := hs.cell 0 (by omega)
      rw [spread_big h]
      have e1 : (bs.take (bs.length / 2)).length = bs.length / 2 := by rw [List.length_take]; omega
      have e2 : (bs.drop (bs.length / 2)).length = bs.length - bs.length / 2 := by rw [List.length_drop]
      have s1 : (spreadT (bs.take (bs.length / 2))).size = bs.length / 2 := by rw [← Tr.len, (spread_spec _ _ (Nat.le_refl _)).2.1, e1]
      have s2 : (spreadT (bs.drop (bs.length / 2))).size = bs.length - bs.length / 2 := by rw [← Tr.len, (spread_spec _ _ (Nat.le_refl _)).2.1, e2]
      refine spread_fork h hn rfl hc hcm (by omega) (Tr.ones_le _) (Tr.ones_le _) (fun W hb => ?_) (fun W hb => ?_)
      · have q := ih (bs := bs.take (bs.length / 2)) (by omega) (by omega) (w := W) (cap := cap) ((hs.later hb).take _) (by omega) hcm
        rw [e1] at q
        exact q
      · have q := ih (bs := bs.drop (bs.length / 2)) (by omega) (by omega) (w := W) (cap := cap - bs.length / 2) ((hs.later hb).drop _) (by omega) (by omega)
        rw [e2] at q
        exact q
    · rw [spread_small h]
      exact (spread_leaf hs (by omega)).mono fun e w' ⟨he, hb⟩ => ⟨⟨_, he, ofL_kids w' _ _⟩, hb⟩

theorem miss_nodes : ∀ t : Tr, t.miss ≤ t.nodes
  | .nil => Nat.le_refl _
  | .leaf g x n => by
    show (if g = 0 then 1 else 0) ≤ 1
    split <;> omega
  | .fork g l r => by
    have h1 := miss_nodes l
    have h2 := miss_nodes r
    show (if g = 0 then 1 + l.miss + r.miss else 0) ≤ l.nodes + r.nodes + 1
    split <;> omega

theorem spread_deep : ∀ (k : Nat) {bs : List Bool}, bs.length ≤ 64 * 2 ^ k → (spreadT bs).deep ≤ k + 1
  | 0, bs, h => by
    rw [spread_small (by omega)]
    unfold ofL
    split
    · exact Nat.zero_le _
    · exact Nat.le_refl _
  | k + 1, bs, h => by
    by_cases h64 : 64 < bs.length
    · rw [spread_big h64]
      have e1 : (bs.take (bs.length / 2)).length = bs.length / 2 := by rw [List.length_take]; omega
      have e2 : (bs.drop (bs.length / 2)).length = bs.length - bs.length / 2 := by rw [List.length_drop]
      rw [Nat.pow_succ] at h
      have h1 := spread_deep k (bs := bs.take (bs.length / 2)) (by omega)
      have h2 := spread_deep k (bs := bs.drop (bs.length / 2)) (by omega)
      show max _ _ + 1 ≤ k + 1 + 1
      omega
    · rw [spread_small h64]
      unfold ofL
      split
      · exact Nat.zero_le _
      · show 1 ≤ k + 1 + 1
        omega

theorem buildR {w0 w : World} {G : Nat} {S : St} {md c : Nat} {mine : List Int} (hA : AB w0 G w S md c) (C : CI S mine) {ao : Option Addr} {cap : Nat} {bs : List Bool} (hB : HasBools w ao bs) (hc1 : bs.length ≤ cap) (hc2 : cap ≤ 9223372036854775807) (hl : bs.length ≤ 860) (hn : 0 < S.n) (hr : usedN S.sl + 1 + bs.length / 4 ≤ S.n) (hc : c ≤ 800000000) (hmd : md ≤ 800000000) :
    Calls Tryd.prog 14 #[.pointer (some ⟨G, 0, none⟩), .slice ao bs.length cap] w fun e w' => ∃ S' t' m, e = .returned (.tuple #[.int .i64 t'.hd, .int .i64 0]) ∧ AB w0 G w' S' (md + m) (c + 1300) ∧ CI S' (if t'.hd = 0 then mine else mine ++ [t'.hd]) ∧ Grows S S' ∧ RowT S' t' bs ∧ usedN S'.sl = usedN S.sl + m ∧ m ≤ 1 + bs.length / 4 ∧ t'.deep = (spreadT bs).deep ∧ Sp G w w' ∧ S'.wt = S.wt := by
  obtain ⟨q1, q2, q3, q4⟩ := spread_spec _ bs (Nat.le_refl _)
  have hs : (spreadT bs).size = bs.length := by rw [← Tr.len, q2]
  have q7 := nodes_few q1 q3
  have q8 := miss_nodes (spreadT bs)
  obtain ⟨r1, r2, r3, r4, r5⟩ := RowT.made_of hA.inv C q1 q3 (q4 S) q2 (by omega)
  have hwt := mdT_wt hA.inv C (q4 S) q1 (show usedN S.sl + (spreadT bs).miss ≤ S.n by omega)
  refine (build_make hA C (fun W hb => spread_any _ (Nat.le_refl _) (by omega) (hB.later hb) hc1 hc2) (by omega) (by omega) hn (by omega) (by omega)).mono ?_
  rintro e w' ⟨rfl, hA', hS⟩
  exact ⟨_, _, _, rfl, hA'.mono (by omega), r3, r2, r1, r4, by omega, r5, hS, hwt⟩

end Go.Proofs.YtfkfnibeipddaabDoor

namespace Go.Proofs.YtfkfnibeipddaabDoor
open Go.RowKit

theorem hasBools_new (w : World) (bs : List Bool) (e : TypeId) : HasBools (w.alloc (.cells (bs.map Value.bool).toArray e)) (some ⟨w.heap.size, 0, none⟩) bs :=
  ⟨fun j hj => ⟨w.heap.size, 0, rfl, by
    rw [Nat.zero_add, cell_of_row _ _ j _ _ _ (heap_alloc_new w _)]
    simp [hj]⟩⟩

theorem rem8 (i : Int) (n : Nat) : ∃ k : Nat, k ≤ n ∧ Int.tmod (Int.tmod i ((n : Int) + 1) + n + 1) ((n : Int) + 1) = k ∧ -(n : Int) ≤ Int.tmod i ((n : Int) + 1) ∧ Int.tmod i ((n : Int) + 1) ≤ n := by
  have h1 : -(n : Int) ≤ Int.tmod i ((n : Int) + 1) ∧ Int.tmod i ((n : Int) + 1) ≤ n := by
    rcases (show i < 0 ∨ 0 ≤ i by omega) with h | h
    · have := Int.tmod_nonneg ((n : Int) + 1) (show 0 ≤ -i by omega)
      have h2 := Int.tmod_lt_of_pos (-i) (show 0 < (n : Int) + 1 by omega)
      rw [Int.neg_tmod] at this h2
      omega
    · have := Int.tmod_nonneg ((n : Int) + 1) h
      have h2 := Int.tmod_lt_of_pos i (show 0 < (n : Int) + 1 by omega)
      omega
  obtain ⟨h2, h3⟩ := h1
  generalize Int.tmod i ((n : Int) + 1) = r at *
  have h4 := Int.tmod_nonneg ((n : Int) + 1) (show 0 ≤ r + n + 1 by omega)
  have h5 := Int.tmod_lt_of_pos (r + n + 1) (show 0 < (n : Int) + 1 by omega)
  exact ⟨(Int.tmod (r + n + 1) ((n : Int) + 1)).toNat, by omega, by omega, h2, h3⟩

theorem getbR {p : Value} {S : St} {w : World} (hR : Rd p S w) {t : Tr} {bs : List Bool} (T : RowT S t bs) (hl : bs.length ≤ 30000) (i : Nat) {b : Bool} (hb : bs[i]? = some b) :
    Calls Tryd.prog 11 #[p, .int .i64 t.hd, .int .i64 i] w fun e w' => e = .returned (.tuple #[.bool b, .bool true]) ∧ Below w.heap.size w w' := by
  have hi : i < bs.length := (List.getElem?_eq_some_iff.1 hb).1
  have h := getT_in hR T.ok (by rw [T.size]; omega) T.made T.held (i := (i : Int)) (by omega) (by omega) (by rw [T.size]; omega)
  have h2 := leafT_get (i := i) T.ok (by rw [T.size]; omega)
  rw [T.bits, hb] at h2
  rw [← Option.some.inj h2] at h
  exact h

theorem ins_del (bs : List Bool) (b : Bool) {k : Nat} (h : k ≤ bs.length) : (bs.take k ++ b :: bs.drop k).take k ++ (bs.take k ++ b :: bs.drop k).drop (k + 1) = bs := by
  have e : (bs.take k).length = k := by rw [List.length_take]; omega
  rw [List.take_append_of_le_length (by omega), List.take_of_length_le (by omega), List.drop_append, List.drop_eq_nil_of_le (by omega), e, show k + 1 - k = 1 by omega]
  simp

theorem ins_get (bs : List Bool) (b : Bool) {k : Nat} (h : k ≤ bs.length) : (bs.take k ++ b :: bs.drop k)[k]? = some b := by
  have e : (bs.take k).length = k := by rw [List.length_take]; omega
  rw [List.getElem?_append_right (by omega), e, Nat.sub_self]
  rfl

theorem ins_len (bs : List Bool) (b : Bool) {k : Nat} (h : k ≤ bs.length) : (bs.take k ++ b :: bs.drop k).length = bs.length + 1 := by
  rw [List.length_append, List.length_cons, List.length_take, List.length_drop]
  omega

set_option maxRecDepth 100000 in
set_option maxHeartbeats 1000000 in
theorem alive8 (w : World) (hT : Tab w) : Calls Tryd.prog 8 #[] w fun e w' => e = .returned (.bool true) ∧ Below w.heap.size w w' := by
  have HT : Hid (Tab w) := hT
  clear hT
  go_enter Tryd.func8, Tryd.ntmps8
  have T : Hid (Calls _ _ _ _ _) := newR (Below.refl _ _) HT.out 20 (by omega) (by omega)
  go_wp2_with (go_at_call 9; fail)
  refine (T.out).mono ?_
  rintro e w1 ⟨G, S0, rfl, hA, hC, hn, hu, hw⟩
  have HA : Hid (AB w G w1 S0 0 0) := hA
  have HC : Hid (CI S0 []) := hC
  have HN : Hid (S0.n = 20) := hn
  have HU : Hid (usedN S0.sl ≤ 0) := Nat.le_of_eq hu
  have HW : Hid (S0.wt = []) := hw
  clear hA hC hn hu hw T HT
  have hAl := HA.out.lt
  have T : Hid (Calls _ _ _ _ _) := insR HA.out HC.out (RowT.none S0) (by simp) 0 (by simp) true (by have := HN.out; have := HU.out; show usedN S0.sl + (2 + 5 * 0) ≤ _; omega) (by omega) (by omega)
  rw [show Tr.nil.hd = 0 from rfl] at T
  rw [show ((0 : Nat) : Int) = 0 from rfl] at T
  go_wp2_with (go_at_call 12; fail)
  refine (T.out).mono ?_
  rintro e w2 ⟨S1, th, m1, rfl, hA, hC, hG, hT, hu, hm, -, hz, hS⟩
  have HA2 : Hid (AB w G w2 S1 (0 + m1) (0 + 1300)) := hA
  have HC2 : Hid (CI S1 _) := hC
  have HN2 : Hid (S1.n = 20) := hG.1.trans HN.out
  have Rh2 : Hid (RowT S1 th ([true])) := hT
  have HU2 : Hid (usedN S1.sl ≤ 2) := by have := HU.out; have h5 : Tr.nil.deep = 0 := rfl; rw [h5] at hm; show usedN S1.sl ≤ 2; omega
  have hm1 : m1 ≤ 2 := by have h5 : Tr.nil.deep = 0 := rfl; rw [h5] at hm; omega
  clear HU hu hm hz
  have HU := HU2
  clear HU2
  clear HA HC HN hA hC hT hG T
  have HA := HA2; have HC := HC2; have HN := HN2
  have Rh := Rh2
  clear HA2 HC2 HN2 Rh2
  clear HW
  have hd1 := Rh.out.deep1 (by simp)
  have T : Hid (Calls _ _ _ _ _) := insR HA.out HC.out Rh.out (by simp) 0 (by simp) false (by have := HN.out; have := HU.out; omega) (by omega) (by omega)
  rw [show ((0 : Nat) : Int) = 0 from rfl] at T
  go_wp2_with (go_at_call 12; fail)
  refine (T.out).mono ?_
  rintro e w3 ⟨S2, tg, m2, rfl, hA, hC, hG, hT, hu, hm, -, hz, hS⟩
  have HA2 : Hid (AB w G w3 S2 (0 + m1 + m2) (0 + 1300 + 1300)) := hA
  have HC2 : Hid (CI S2 _) := hC
  have HN2 : Hid (S2.n = 20) := hG.1.trans HN.out
  have hRh := Rh.out.grows hG
  have Rg2 : Hid (RowT S2 tg ([false, true])) := hT
  clear HU hu hm hz hS
  clear HA HC HN hA hC hT hG T Rh
  have HA := HA2; have HC := HC2; have HN := HN2
  have Rh : Hid (RowT _ _ _) := hRh
  have Rg := Rg2
  clear HA2 HC2 HN2 Rg2 hRh
  have T : Hid (Calls _ _ _ _ _) := lenR HA.out.rd Rg.out (by simp)
  rw [show ((([false, true] : List Bool).length : Nat) : Int) = 2 from rfl] at T
  go_wp2_with (go_at_call 15; fail)
  refine (T.out).mono ?_
  rintro e w4 ⟨rfl, hb⟩
  have hA : AB w G w4 S2 (0 + m1 + m2) (0 + 1300 + 1300) := HA.out.grow hb
  clear HA T hb
  have HA : Hid (AB _ _ _ _ _ _) := hA
  clear hA
  have T : Hid (Calls _ _ _ _ _) := rankR HA.out.rd Rg.out (i := 2) (by simp) (by omega)
  rw [show (((([false, true] : List Bool).take ((2 : Int)).toNat).count true : Nat) : Int) = 1 from rfl] at T
  go_wp2_with (go_at_call 16; fail)
  refine (T.out).mono ?_
  rintro e w5 ⟨rfl, hb⟩
  have hA : AB w G w5 S2 (0 + m1 + m2) (0 + 1300 + 1300) := HA.out.grow hb
  clear HA T hb
  have HA : Hid (AB _ _ _ _ _ _) := hA
  clear hA
  have T : Hid (Calls _ _ _ _ _) := allR HA.out.rd Rg.out (by simp)
  go_wp2_with (go_at_call 17; fail)
  refine (T.out).mono ?_
  rintro e w6 ⟨ag, cg, rfl, hl, hb⟩
  have Lg : Hid (HasBools w6 ag [false, true]) := hl
  clear hl
  have hA : AB w G w6 S2 (0 + m1 + m2) (0 + 1300 + 1300) := HA.out.grow hb
  clear HA T hb
  have HA : Hid (AB _ _ _ _ _ _) := hA
  clear hA
  have T0 : HasBools (w6.alloc (.cells #[.bool false, .bool true] 4)) (some ⟨w6.heap.size, 0, none⟩) [false, true] := hasBools_new w6 [false, true] _
  have hb : Below w6.heap.size w6 (w6.alloc (.cells #[.bool false, .bool true] 4)) := (Below.refl _ _).alloc (Nat.le_refl _) _
  have T : Hid True := trivial
  have hA : AB w G (w6.alloc (.cells #[.bool false, .bool true] 4)) S2 (0 + m1 + m2) (0 + 1300 + 1300) := HA.out.grow hb
  have hLg : HasBools (w6.alloc (.cells #[.bool false, .bool true] 4)) ag ([false, true]) := Lg.out.later hb
  clear HA T hb Lg
  have HA : Hid (AB _ _ _ _ _ _) := hA
  have Lg : Hid (HasBools _ _ _) := hLg
  clear hA hLg
  have T : Hid (Calls _ _ _ _ _) := sameB [false, true] ag (some ⟨w6.heap.size, 0, none⟩) 2 2 cg 2 _ rfl rfl (by simp) Lg.out T0
  clear T0
  go_wp2_with (go_at_call 36; fail)
  refine (T.out).mono ?_
  rintro e w7 ⟨rfl, hb⟩
  have hA : AB w G w7 S2 (0 + m1 + m2) (0 + 1300 + 1300) := HA.out.grow hb
  have hLg : HasBools w7 ag ([false, true]) := Lg.out.later hb
  clear HA T hb Lg
  have HA : Hid (AB _ _ _ _ _ _) := hA
  have Lg : Hid (HasBools _ _ _) := hLg
  clear hA hLg
  clear Lg
  have T : Hid (Calls _ _ _ _ _) := allR HA.out.rd Rh.out (by simp)
  go_wp2_with (go_at_call 17; fail)
  refine (T.out).mono ?_
  rintro e w8 ⟨ah, ch, rfl, hl, hb⟩
  have Lh : Hid (HasBools w8 ah [true]) := hl
  clear hl
  have hA : AB w G w8 S2 (0 + m1 + m2) (0 + 1300 + 1300) := HA.out.grow hb
  clear HA T hb
  have HA : Hid (AB _ _ _ _ _ _) := hA
  clear hA
  have T0 : HasBools (w8.alloc (.cells #[.bool true] 4)) (some ⟨w8.heap.size, 0, none⟩) [true] := hasBools_new w8 [true] _
  have hb : Below w8.heap.size w8 (w8.alloc (.cells #[.bool true] 4)) := (Below.refl _ _).alloc (Nat.le_refl _) _
  have T : Hid True := trivial
  have hA : AB w G (w8.alloc (.cells #[.bool true] 4)) S2 (0 + m1 + m2) (0 + 1300 + 1300) := HA.out.grow hb
  have hLh : HasBools (w8.alloc (.cells #[.bool true] 4)) ah ([true]) := Lh.out.later hb
  clear HA T hb Lh
  have HA : Hid (AB _ _ _ _ _ _) := hA
  have Lh : Hid (HasBools _ _ _) := hLh
  clear hA hLh
  have T : Hid (Calls _ _ _ _ _) := sameB [true] ah (some ⟨w8.heap.size, 0, none⟩) 1 1 ch 1 _ rfl rfl (by simp) Lh.out T0
  clear T0
  go_wp2_with (go_at_call 36; fail)
  refine (T.out).mono ?_
  rintro e w9 ⟨rfl, hb⟩
  have hA : AB w G w9 S2 (0 + m1 + m2) (0 + 1300 + 1300) := HA.out.grow hb
  have hLh : HasBools w9 ah ([true]) := Lh.out.later hb
  clear HA T hb Lh
  have HA : Hid (AB _ _ _ _ _ _) := hA
  have Lh : Hid (HasBools _ _ _) := hLh
  clear hA hLh
  have HE := HA.out.below
  have HE2 : Hid (Below _ _ _) := HE
  clear HE HA Lh
  go_wp2
  go_ret
  exact ⟨rfl, HE2.out⟩

end Go.Proofs.YtfkfnibeipddaabDoor

namespace Go.Proofs.YtfkfnibeipddaabDoor
open Go Go.RowKit Go.Shelf

/-! ### Plainly -/

theorem hs_live {S : St} : ∀ {t : Tr}, Held S t → (t.hd ≠ 0 ∨ t = .nil) → ∀ g ∈ t.hs, S.liveB g = true
  | .nil, _, _, g, hg => by cases hg
  | .leaf h x n, hH, hm, g, hg => by
    obtain rfl := List.mem_singleton.1 hg
    exact decide_eq_true (hH (hm.elim id (fun e => nomatch e))).1
  | .fork h l r, hH, hm, g, hg => by
    have h0 : h ≠ 0 := hm.elim id (fun e => nomatch e)
    obtain ⟨a, b, c, -⟩ := hH.2.2 h0
    rcases List.mem_cons.1 hg with rfl | hg
    · exact decide_eq_true c
    · rcases List.mem_append.1 hg with hg | hg
      · exact hs_live hH.1 (Or.inl a) g hg
      · exact hs_live hH.2.1 (Or.inl b) g hg

theorem rch_trans {S : St} {rs : List Int} {x g : Int} (h : Rch S rs x) (k : Rch S [x] g) : Rch S rs g := by
  induction k with
  | root h1 _ => rw [List.mem_singleton.1 h1]; exact h
  | kid _ h1 h2 ih => exact .kid ih h1 h2

theorem hs_rch {S : St} : ∀ {t : Tr}, Held S t → (t.hd ≠ 0 ∨ t = .nil) → ∀ g ∈ t.hs, Rch S [t.hd] g
  | .nil, _, _, g, hg => by cases hg
  | .leaf h x n, hH, hm, g, hg => by
    have hl := hs_live hH hm g hg
    obtain rfl := List.mem_singleton.1 hg
    exact .root (List.mem_singleton.2 rfl) hl
  | .fork h l r, hH, hm, g, hg => by
    have h0 : h ≠ 0 := hm.elim id (fun e => nomatch e)
    obtain ⟨a, b, c, d⟩ := hH.2.2 h0
    have hroot : Rch S [h] h := .root (List.mem_singleton.2 rfl) (decide_eq_true c)
    show Rch S [h] g
    rcases List.mem_cons.1 hg with rfl | hg
    · exact hroot
    · rcases List.mem_append.1 hg with hg | hg
      · refine rch_trans ?_ (hs_rch hH.1 (Or.inl a) g hg)
        exact .kid hroot (by rw [d]; simp [Nd.kids]) (hs_live hH.1 (Or.inl a) _ (hd_mem a))
      · refine rch_trans ?_ (hs_rch hH.2.1 (Or.inl b) g hg)
        exact .kid hroot (by rw [d]; simp [Nd.kids]) (hs_live hH.2.1 (Or.inl b) _ (hd_mem b))

theorem rise_same {S S' : St} {t : Tr} (hH : Held S t) (hH' : Held S' t) (hm : t.hd ≠ 0 ∨ t = .nil) {a b : List Bool} (A : ReInv S [t.hd] a [] []) (B : ReInv S' [t.hd] b [] []) : (risingL 0 a).length = (risingL 0 b).length := by
  have key : ∀ x, x ∈ risingL 0 a ↔ x ∈ risingL 0 b := fun x => by
    rw [mem_rise, mem_rise, A.done, B.done]
    exact ⟨fun h => hs_rch hH' hm x (rch_hs hH hm h), fun h => hs_rch hH hm x (rch_hs hH' hm h)⟩
  exact Nat.le_antisymm (List.Nodup.length_le_of_subset (rise_nodup a) (fun x hx => (key x).1 hx)) (List.Nodup.length_le_of_subset (rise_nodup b) (fun x hx => (key x).2 hx))

/-- each once -/
def once : List Int → List Int
  | [] => []
  | x :: l => if x ∈ l then once l else x :: once l

theorem mem_once : ∀ (l : List Int) (x : Int), x ∈ once l ↔ x ∈ l
  | [], x => Iff.rfl
  | y :: l, x => by
    unfold once
    split
    · next h =>
      rw [mem_once l x, List.mem_cons]
      exact ⟨Or.inr, fun q => q.elim (fun e => by rw [e]; exact h) id⟩
    · rw [List.mem_cons, List.mem_cons, mem_once l x]

theorem once_nodup : ∀ l : List Int, (once l).Nodup
  | [] => List.nodup_nil
  | y :: l => by
    unfold once
    split
    · exact once_nodup l
    · next h => exact List.nodup_cons.2 ⟨fun q => h ((mem_once l y).1 q), once_nodup l⟩

/-- how many nodes a row has, each counted once -/
def hsN (t : Tr) : Nat := (once t.hs).length

theorem rise_row {S : St} {t : Tr} (hH : Held S t) (hm : t.hd ≠ 0 ∨ t = .nil) {a : List Bool} (A : ReInv S [t.hd] a [] []) : (risingL 0 a).length = hsN t := by
  have key : ∀ x, x ∈ risingL 0 a ↔ x ∈ once t.hs := fun x => by
    rw [mem_rise, A.done, mem_once]
    exact ⟨fun h => rch_hs hH hm h, fun h => hs_rch hH hm x h⟩
  exact Nat.le_antisymm (List.Nodup.length_le_of_subset (rise_nodup a) (fun x hx => (key x).1 hx)) (List.Nodup.length_le_of_subset (once_nodup t.hs) (fun x hx => (key x).2 hx))

theorem hsN_le (t : Tr) : hsN t ≤ t.nodes := by
  rw [← hs_len]
  exact List.Nodup.length_le_of_subset (once_nodup t.hs) (fun x hx => (mem_once t.hs x).1 hx)

/-- there is such a search -/
theorem reInv_ex (S : St) (rs : List Int) : ∃ seen, ReInv S rs seen [] [] := by
  classical
  refine ⟨(List.range S.n).map (fun i : Nat => decide (Rch S rs ((i : Int) + 1))), ?_⟩
  have hs : ∀ g, sawB ((List.range S.n).map (fun i : Nat => decide (Rch S rs ((i : Int) + 1)))) g = true ↔ Rch S rs g := fun g => by
    unfold sawB
    constructor
    · intro h
      split at h
      · next h1 =>
        rw [List.getD_eq_getElem?_getD] at h
        by_cases h2 : g.toNat - 1 < S.n
        · simp [h2] at h
          rw [show ((g.toNat - 1 : Nat) : Int) + 1 = g by omega] at h
          exact h
        · simp [h2] at h
      · simp at h
    · intro h
      obtain ⟨h1, h2⟩ := S.live_in h.live
      rw [if_pos h1, List.getD_eq_getElem?_getD]
      have h3 : g.toNat - 1 < S.n := by omega
      simp [h3]
      rw [show ((g.toNat - 1 : Nat) : Int) + 1 = g by omega]
      exact h
  exact ⟨by simp, fun g h => (hs g).1 h, fun k hk => (nomatch hk), fun g hg => (nomatch hg), fun r hr hl => Or.inl ((hs r).2 (.root hr hl)), fun g hg _ k hk hl => Or.inl ((hs k).2 (.kid ((hs g).1 hg) hk hl))⟩

/-- one row alone, none waits: as many are used as it has nodes, whatever was there in between -/
theorem row_used {S S' : St} {mine mine' : List Int} {t : Tr} (C : CI S mine) (I : Inv S) (hw : S.wt = []) (hm1 : ∀ x ∈ mine, x = t.hd) (C' : CI S' mine') (I' : Inv S') (hw' : S'.wt = []) (hm2 : ∀ x ∈ mine', x = t.hd) (hH : Held S t) (hH' : Held S' t) (hm : t.hd ≠ 0 ∨ t = .nil) : usedN S.sl = usedN S'.sl := by
  obtain ⟨a, A⟩ := reInv_ex S [t.hd]
  obtain ⟨b, B⟩ := reInv_ex S' [t.hd]
  rw [← reach_all C I hw A (fun x hx => by rw [hm1 x hx]; simp), ← reach_all C' I' hw' B (fun x hx => by rw [hm2 x hx]; simp)]
  exact rise_same hH hH' hm A B

/-- one row alone, none waits -/
theorem used_row {S : St} {mine : List Int} {t : Tr} (C : CI S mine) (I : Inv S) (hw : S.wt = []) (hm1 : ∀ x ∈ mine, x = t.hd) (hH : Held S t) (hm : t.hd ≠ 0 ∨ t = .nil) : usedN S.sl = hsN t := by
  obtain ⟨a, A⟩ := reInv_ex S [t.hd]
  rw [← reach_all C I hw A (fun x hx => by rw [hm1 x hx]; simp)]
  exact rise_row hH hm A

theorem two_left {a b x : Int} : x ∈ ([a] ++ [b]).erase b ↔ x = a := by
  by_cases e : a = b
  · subst e; simp
  · have : (a == b) = false := by simpa using e
    simp [this]

/-- how many nodes a change of an even row makes is what chapter 8 allows -/
theorem made_bound {n k d m : Nat} (hn : n ≤ 600) (hk : (n + 1) / 16 < 2 ^ k) (hk2 : k ≤ 13) (hd : ∀ j, n ≤ 64 * 2 ^ j → d ≤ j + 1) (hm : m ≤ 2 + 5 * d) (hs : n < 64 → m ≤ 1) : m ≤ 4 + 4 * k := by
  have h3 : k < 3 → 2 ^ k ≤ 4 := fun h => Nat.pow_le_pow_right (by omega) (show k ≤ 2 by omega)
  have h4 : k < 4 → 2 ^ k ≤ 8 := fun h => Nat.pow_le_pow_right (by omega) (show k ≤ 3 by omega)
  have h5 : k < 5 → 2 ^ k ≤ 16 := fun h => Nat.pow_le_pow_right (by omega) (show k ≤ 4 by omega)
  have h6 : k < 6 → 2 ^ k ≤ 32 := fun h => Nat.pow_le_pow_right (by omega) (show k ≤ 5 by omega)
  have q0 := hd 0
  have q1 := hd 1
  have q2 := hd 2
  have q3 := hd 3
  have q4 := hd 4
  generalize 2 ^ k = p at *
  simp at q0 q1 q2 q3 q4
  by_cases a0 : n < 64
  · have := hs a0; omega
  by_cases a1 : n ≤ 64
  · omega
  by_cases a2 : n ≤ 128
  · omega
  by_cases a3 : n ≤ 256
  · omega
  by_cases a4 : n ≤ 512
  · omega
  omega

/-! ### What is told -/

theorem reachR {w0 w : World} {G : Nat} {S : St} {md k : Nat} (h : AB w0 G w S md k) (rs : List Int) (ao : Option Addr) (n cap : Nat) (hn : n = rs.length) (hr : HasCells w ao (rs.map (Value.int .i64))) (hrl : rs.length ≤ 1000000) :
    Calls Tryd.prog 31 #[.pointer (some ⟨G, 0, none⟩), .slice ao n cap] w fun e w' => ∃ seen a c, e = .returned (.slice a (risingL 0 seen).length c) ∧ ReInv S rs seen [] [] ∧ Below w.heap.size w w' := by
  subst hn
  refine (reachB h rs ao cap hr hrl).mono ?_
  rintro e w' ⟨seen, v, rfl, hre, hown, hb, -⟩
  obtain ⟨a, c, rfl, -⟩ := owns_cells hown
  exact ⟨seen, a, c, rfl, hre, hb⟩

/-- the nodes of one row -/
theorem reachRow {w0 w : World} {G : Nat} {S : St} {md k : Nat} (h : AB w0 G w S md k) {t : Tr} {bs : List Bool} (T : RowT S t bs) (ao : Option Addr) (cap : Nat) (hr : HasCells w ao [.int .i64 t.hd]) :
    Calls Tryd.prog 31 #[.pointer (some ⟨G, 0, none⟩), .slice ao 1 cap] w fun e w' => ∃ a c, e = .returned (.slice a (hsN t) c) ∧ Below w.heap.size w w' := by
  refine (reachR h [t.hd] ao 1 cap rfl hr (by simp)).mono ?_
  rintro e w' ⟨seen, a, c, rfl, hre, hb⟩
  rw [rise_row T.held T.made hre]
  exact ⟨a, c, rfl, hb⟩

/-- no more are reached than are used -/
theorem reachLe {w0 w : World} {G : Nat} {S : St} {md k : Nat} (h : AB w0 G w S md k) (rs : List Int) (ao : Option Addr) (n cap : Nat) (hn : n = rs.length) (hr : HasCells w ao (rs.map (Value.int .i64))) (hrl : rs.length ≤ 1000000) :
    Calls Tryd.prog 31 #[.pointer (some ⟨G, 0, none⟩), .slice ao n cap] w fun e w' => ∃ a r c, e = .returned (.slice a r c) ∧ r ≤ usedN S.sl ∧ Below w.heap.size w w' := by
  refine (reachR h rs ao n cap hn hr hrl).mono ?_
  rintro e w' ⟨seen, a, c, rfl, hre, hb⟩
  exact ⟨a, _, c, rfl, reach_used h.inv hre, hb⟩

end Go.Proofs.YtfkfnibeipddaabDoor

namespace Go.Proofs.YtfkfnibeipddaabDoor
open Go Go.RowKit Go.Shelf

/-- a list of numbers that is not the arena's own -/
structure RootsAt (G : Nat) (w : World) (B : Nat) (v : Value) (hs : List Int) : Prop where
  own : w.ownsRow B 3 1 v hs.length (hs.map (Value.int .i64))
  loose : ∀ g, v.ownBlock = some g → Loose G w g

theorem RootsAt.sp {G B : Nat} {w w' : World} {v : Value} {hs : List Int} (h : RootsAt G w B v hs) (hS : Sp G w w') : RootsAt G w' B v hs :=
  ⟨owns_same h.own (fun g hg => (hS.num g (h.loose g hg)).1), fun g hg => (hS.num g (h.loose g hg)).2⟩
theorem RootsAt.later {G B : Nat} {w w' : World} {v : Value} {hs : List Int} (h : RootsAt G w B v hs) (hb : Below w.heap.size w w') : RootsAt G w' B v hs := h.sp (Sp.of hb)

theorem RootsAt.cells {G B : Nat} {w : World} {v : Value} {hs : List Int} (h : RootsAt G w B v hs) : ∃ ao cap, v = .slice ao hs.length cap ∧ HasCells w ao (hs.map (Value.int .i64)) := by
  obtain ⟨ao, cap, e, hc, -⟩ := owns_cells h.own
  exact ⟨ao, cap, e, hc⟩

theorem AB.beside {w0 w w' : World} {G g : Nat} {S : St} {md k : Nat} (h : AB w0 G w S md k) (hl : Loose G w g) (h00 : 0 < w0.heap.size) (hB : w0.heap.size ≤ g) (hg : w.grownBy w' (some g)) :
    AB w0 G w' S md k ∧ ∀ g', (g' = g ∨ w.heap.size ≤ g') → (∃ cur r, w'.heap[g']? = some (.cells cur 3 r)) → Loose G w' g' := by
  obtain ⟨o, q, rfl, ⟨I, hT, h0, fw, wv, hR, hBt⟩, hh, hb, hc, hq⟩ := h.norm
  obtain ⟨⟨cur, r, h1⟩, ao, n, c, h2, h3⟩ := hl
  have n1 : g ≠ o.G := num_ne hR.ar h1 (by decide)
  have nq : g ≠ q := by
    rcases hq with hq | ⟨cur2, off, n2, c2, hq, hc2, hz⟩
    · rw [hq]; exact n1
    · rw [hc2] at h2
      simp at h2
      obtain ⟨rfl, rfl, rfl⟩ := h2
      rcases h3 with h3 | h3
      · exact absurd h3 hz
      · exact fun e => h3 off (by rw [e])
  have hf : Fr (fun b => b = g) w w' := Fr.of_grown hg (fun k e => (Option.some.inj e).symm)
  have hX : ∀ b, o.has q b → ¬ b = g := by
    rintro b (e | e | e | e) e2
    · exact n1 (e2.symm.trans e)
    · exact num_ne hR.sl h1 (by decide) (e2.symm.trans e)
    · exact num_ne hR.fr h1 (by decide) (e2.symm.trans e)
    · exact nq (e2.symm.trans e)
  have hT' : Tab w' := fun j hj => by
    rw [World.cell?_of_block (w := w) (hf.block 0 (tab_pos hT) (by omega))]
    exact hT j hj
  have hR' := hR.off hf hX
  refine ⟨⟨o, q, rfl, ⟨I, hT', h0, fw, wv, hR', hBt⟩, hh, hb.grown hg hb.size (fun k e => by cases e; exact hB), hc⟩, fun g' hg' hcur => ?_⟩
  obtain ⟨ao', cap', f1, -, -, f4⟩ := hR'.qu
  have hcell : w'.cell? ⟨o.G, 2, none⟩ = some wv := hR'.ar.cell rfl
  refine ⟨hcur, ao', _, cap', by rw [hcell, f1], ?_⟩
  rcases f4 with f4 | ⟨off, cur', f5, -⟩
  · exact Or.inl f4
  · refine Or.inr (fun o' e => ?_)
    rw [f5] at e
    cases e
    have := hR.ql
    rcases hg' with e | e
    · exact nq e.symm
    · omega

theorem RootsAt.append {w0 w w' : World} {G B : Nat} {S : St} {md k : Nat} {v v' : Value} {hs : List Int} {x : Int} (hA : AB w0 G w S md k) (h : RootsAt G w B v hs) (h00 : 0 < w0.heap.size) (hB : w0.heap.size ≤ B)
    (hown : w'.ownsRow B 3 1 v' (hs.length + 1) (hs.map (Value.int .i64) ++ [.int .i64 x])) (hg : w.grownBy w' v.ownBlock) (hv : v'.ownBlock = v.ownBlock ∨ v'.ownBlock = some w.heap.size) :
    AB w0 G w' S md k ∧ RootsAt G w' B v' (hs ++ [x]) := by
  have ho : w'.ownsRow B 3 1 v' (hs ++ [x]).length ((hs ++ [x]).map (Value.int .i64)) := by
    rw [List.length_append, List.map_append]
    exact hown
  have hint : ∀ g, v'.ownBlock = some g → B ≤ g ∧ ∃ cur r, w'.heap[g]? = some (.cells cur 3 r) := fun g e => by
    rcases hown.2 with ⟨e1, e2⟩ | ⟨g1, cap, cur, e1, e2, e3, -⟩
    · omega
    · rw [e1] at e
      have : g1 = g := by simpa [Value.ownBlock] using e
      subst this
      exact ⟨e2, cur, _, e3⟩
  cases hvb : v.ownBlock with
  | none =>
    rw [hvb] at hg hv
    have hb : Below w.heap.size w w' := (Below.refl w.heap.size w).grown hg (Nat.le_refl _) (fun k e => (nomatch e))
    refine ⟨hA.grow hb, ho, fun g e => ?_⟩
    rcases hv with hv | hv
    · rw [hv] at e; cases e
    · rw [hv] at e
      obtain rfl := Option.some.inj e
      obtain ⟨-, cur, r, hc⟩ := hint w.heap.size hv
      exact hA.loose hb (Nat.le_refl _) hc
  | some g =>
    rw [hvb] at hg hv
    have hgB : B ≤ g := by
      rcases h.own.2 with ⟨e1, -⟩ | ⟨g1, cap, cur, e1, e2, -⟩
      · rw [e1] at hvb; cases hvb
      · rw [e1] at hvb
        have : g1 = g := by simpa [Value.ownBlock] using hvb
        omega
    obtain ⟨hA', hl⟩ := hA.beside (h.loose g hvb) h00 (by omega) hg
    refine ⟨hA', ho, fun g' e => hl g' ?_ (hint g' e).2⟩
    rcases hv with hv | hv
    · rw [hv] at e
      exact Or.inl (Option.some.inj e).symm
    · rw [hv] at e
      exact Or.inr (by rw [Option.some.inj e]; exact Nat.le_refl _)

/-- a list that is made -/
theorem RootsAt.new {w0 w : World} {G : Nat} {S : St} {md k : Nat} (hA : AB w0 G w S md k) (x : Int) : RootsAt G (w.alloc (.cells #[.int .i64 x] 3)) w.heap.size (.slice (some ⟨w.heap.size, 0, none⟩) 1 1) [x] := by
  have hh : (w.alloc (.cells #[.int .i64 x] 3)).heap[w.heap.size]? = some (.cells #[.int .i64 x] 3 (0, 0)) := heap_alloc_new w _
  refine ⟨⟨rfl, Or.inr ⟨w.heap.size, 1, _, rfl, Nat.le_refl _, hh, Nat.le_refl _, by unfold maxLen; omega, rfl, rfl⟩⟩, fun g hg => ?_⟩
  have : w.heap.size = g := by simpa [Value.ownBlock] using hg
  subst this
  exact hA.loose ((Below.refl _ _).alloc (Nat.le_refl _) _) (Nat.le_refl _) hh

end Go.Proofs.YtfkfnibeipddaabDoor
