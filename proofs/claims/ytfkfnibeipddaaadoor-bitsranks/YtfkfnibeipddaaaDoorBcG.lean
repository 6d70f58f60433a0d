/- The first call of each statement on rows of bits: what the document fixes is told. -/
import Derived.Test.YtfkfnibeipddaaaDoorBcD
import Derived.Test.YtfkfnibeipddaaaDoorBcF
namespace Go.Proofs.YtfkfnibeipddaaaDoor
open Go.RowKit

theorem hasBools_new (w : World) (bs : List Bool) (e : TypeId) : HasBools (w.alloc (.cells (bs.map Value.bool).toArray e)) (some ⟨w.heap.size, 0, none⟩) bs :=
  ⟨fun j hj => ⟨w.heap.size, 0, rfl, by
    rw [Nat.zero_add, cell_of_row _ _ j _ _ _ (heap_alloc_new w _)]
    simp [hj]⟩⟩

theorem rem8 (i : Int) (n : Nat) : ∃ k : Nat, k ≤ n ∧ Int.tmod (Int.tmod i ((n : Int) + 1) + n + 1) ((n : Int) + 1) = k ∧ -(n : Int) ≤ Int.tmod i ((n : Int) + 1) ∧ Int.tmod i ((n : Int) + 1) ≤ n := by
  have h1 : -(n : Int) ≤ Int.tmod i ((n : Int) + 1) ∧ Int.tmod i ((n : Int) + 1) ≤ n := by
    rcases (show i < 0 ∨ 0 ≤ i by omega) with h | h
    · have := Int.tmod_nonneg ((n : Int) + 1) (show 0 ≤ -i by omega)
      have h2 := Int.tmod_lt_of_pos (-i) (show 0 < (n : Int) + 1 by omega)
      rw [Int.neg_tmod] at this h2
      omega
    · have := Int.tmod_nonneg ((n : Int) + 1) h
      have h2 := Int.tmod_lt_of_pos i (show 0 < (n : Int) + 1 by omega)
      omega
  obtain ⟨h2, h3⟩ := h1
  generalize Int.tmod i ((n : Int) + 1) = r at *
  have h4 := Int.tmod_nonneg ((n : Int) + 1) (show 0 ≤ r + n + 1 by omega)
  have h5 := Int.tmod_lt_of_pos (r + n + 1) (show 0 < (n : Int) + 1 by omega)
  exact ⟨(Int.tmod (r + n + 1) ((n : Int) + 1)).toNat, by omega, by omega, h2, h3⟩

theorem getbR {p : Value} {S : St} {w : World} (hR : Rd p S w) {t : Tr} {bs : List Bool} (T : RowT S t bs) (hl : bs.length ≤ 30000) (i : Nat) {b : Bool} (hb : bs[i]? = some b) :
    Calls Tryd.prog 23 #[p, .int .i64 t.hd, .int .i64 i] w fun e w' => e = .returned (.tuple #[.bool b, .bool true]) ∧ Below w.heap.size w w' := by
  have hi : i < bs.length := (List.getElem?_eq_some_iff.1 hb).1
  have h := getT_in hR T.ok (by rw [T.size]; omega) T.made T.held (i := (i : Int)) (by omega) (by omega) (by rw [T.size]; omega)
  have h2 := leafT_get (i := i) T.ok (by rw [T.size]; omega)
  rw [T.bits, hb] at h2
  rw [← Option.some.inj h2] at h
  exact h

theorem ins_del (bs : List Bool) (b : Bool) {k : Nat} (h : k ≤ bs.length) : (bs.take k ++ b :: bs.drop k).take k ++ (bs.take k ++ b :: bs.drop k).drop (k + 1) = bs := by
  have e : (bs.take k).length = k := by rw [List.length_take]; omega
  rw [List.take_append_of_le_length (by omega), List.take_of_length_le (by omega), List.drop_append, List.drop_eq_nil_of_le (by omega), e, show k + 1 - k = 1 by omega]
  simp

theorem ins_get (bs : List Bool) (b : Bool) {k : Nat} (h : k ≤ bs.length) : (bs.take k ++ b :: bs.drop k)[k]? = some b := by
  have e : (bs.take k).length = k := by rw [List.length_take]; omega
  rw [List.getElem?_append_right (by omega), e, Nat.sub_self]
  rfl

theorem ins_len (bs : List Bool) (b : Bool) {k : Nat} (h : k ≤ bs.length) : (bs.take k ++ b :: bs.drop k).length = bs.length + 1 := by
  rw [List.length_append, List.length_cons, List.length_take, List.length_drop]
  omega

set_option maxRecDepth 100000 in
set_option maxHeartbeats 1000000 in
theorem alive8 (w : World) (hT : Tab w) : Calls Tryd.prog 9 #[] w fun e w' => e = .returned (.bool true) ∧ Below w.heap.size w w' := by
  have HT : Hid (Tab w) := hT
  clear hT
  go_enter Tryd.func9, Tryd.ntmps9
  have T : Hid (Calls _ _ _ _ _) := newR (Below.refl _ _) HT.out 20 (by omega) (by omega)
  go_wp2_with (go_at_call 10; fail)
  refine (T.out).mono ?_
  rintro e w1 ⟨G, S0, rfl, hA, hC, hn, hu, hw⟩
  have HA : Hid (AB w G w1 S0 0 0) := hA
  have HC : Hid (CI S0 []) := hC
  have HN : Hid (S0.n = 20) := hn
  have HU : Hid (usedN S0.sl ≤ 0) := Nat.le_of_eq hu
  have HW : Hid (S0.wt = []) := hw
  clear hA hC hn hu hw T HT
  have hAl := HA.out.lt
  have T : Hid (Calls _ _ _ _ _) := insR HA.out HC.out (RowT.none S0) (by simp) 0 (by simp) true (by have := HN.out; have := HU.out; show usedN S0.sl + (2 + 5 * 0) ≤ _; omega) (by omega) (by omega)
  rw [show Tr.nil.hd = 0 from rfl] at T
  rw [show ((0 : Nat) : Int) = 0 from rfl] at T
  go_wp2_with (go_at_call 13; fail)
  refine (T.out).mono ?_
  rintro e w2 ⟨S1, th, m1, rfl, hA, hC, hG, hT, hu, hm, -, hz, hS⟩
  have HA2 : Hid (AB w G w2 S1 (0 + m1) (0 + 1300)) := hA
  have HC2 : Hid (CI S1 _) := hC
  have HN2 : Hid (S1.n = 20) := hG.1.trans HN.out
  have Rh2 : Hid (RowT S1 th ([true])) := hT
  have HU2 : Hid (usedN S1.sl ≤ 2) := by have := HU.out; have h5 : Tr.nil.deep = 0 := rfl; rw [h5] at hm; show usedN S1.sl ≤ 2; omega
  have hm1 : m1 ≤ 2 := by have h5 : Tr.nil.deep = 0 := rfl; rw [h5] at hm; omega
  clear HU hu hm hz
  have HU := HU2
  clear HU2
  clear HA HC HN hA hC hT hG T
  have HA := HA2; have HC := HC2; have HN := HN2
  have Rh := Rh2
  clear HA2 HC2 HN2 Rh2
  clear HW
  have hd1 := Rh.out.deep1 (by simp)
  have T : Hid (Calls _ _ _ _ _) := insR HA.out HC.out Rh.out (by simp) 0 (by simp) false (by have := HN.out; have := HU.out; omega) (by omega) (by omega)
  rw [show ((0 : Nat) : Int) = 0 from rfl] at T
  go_wp2_with (go_at_call 13; fail)
  refine (T.out).mono ?_
  rintro e w3 ⟨S2, tg, m2, rfl, hA, hC, hG, hT, hu, hm, -, hz, hS⟩
  have HA2 : Hid (AB w G w3 S2 (0 + m1 + m2) (0 + 1300 + 1300)) := hA
  have HC2 : Hid (CI S2 _) := hC
  have HN2 : Hid (S2.n = 20) := hG.1.trans HN.out
  have hRh := Rh.out.grows hG
  have Rg2 : Hid (RowT S2 tg ([false, true])) := hT
  clear HU hu hm hz hS
  clear HA HC HN hA hC hT hG T Rh
  have HA := HA2; have HC := HC2; have HN := HN2
  have Rh : Hid (RowT _ _ _) := hRh
  have Rg := Rg2
  clear HA2 HC2 HN2 Rg2 hRh
  have T : Hid (Calls _ _ _ _ _) := lenR HA.out.rd Rg.out (by simp)
  rw [show ((([false, true] : List Bool).length : Nat) : Int) = 2 from rfl] at T
  go_wp2_with (go_at_call 21; fail)
  refine (T.out).mono ?_
  rintro e w4 ⟨rfl, hb⟩
  have hA : AB w G w4 S2 (0 + m1 + m2) (0 + 1300 + 1300) := HA.out.grow hb
  clear HA T hb
  have HA : Hid (AB _ _ _ _ _ _) := hA
  clear hA
  have T : Hid (Calls _ _ _ _ _) := rankR HA.out.rd Rg.out (i := 2) (by simp) (by omega)
  rw [show (((([false, true] : List Bool).take ((2 : Int)).toNat).count true : Nat) : Int) = 1 from rfl] at T
  go_wp2_with (go_at_call 24; fail)
  refine (T.out).mono ?_
  rintro e w5 ⟨rfl, hb⟩
  have hA : AB w G w5 S2 (0 + m1 + m2) (0 + 1300 + 1300) := HA.out.grow hb
  clear HA T hb
  have HA : Hid (AB _ _ _ _ _ _) := hA
  clear hA
  have T : Hid (Calls _ _ _ _ _) := allR HA.out.rd Rg.out (by simp)
  go_wp2_with (go_at_call 17; fail)
  refine (T.out).mono ?_
  rintro e w6 ⟨ag, cg, rfl, hl, hb⟩
  have Lg : Hid (HasBools w6 ag [false, true]) := hl
  clear hl
  have hA : AB w G w6 S2 (0 + m1 + m2) (0 + 1300 + 1300) := HA.out.grow hb
  clear HA T hb
  have HA : Hid (AB _ _ _ _ _ _) := hA
  clear hA
  have T0 : HasBools (w6.alloc (.cells #[.bool false, .bool true] 4)) (some ⟨w6.heap.size, 0, none⟩) [false, true] := hasBools_new w6 [false, true] _
  have hb : Below w6.heap.size w6 (w6.alloc (.cells #[.bool false, .bool true] 4)) := (Below.refl _ _).alloc (Nat.le_refl _) _
  have T : Hid True := trivial
  have hA : AB w G (w6.alloc (.cells #[.bool false, .bool true] 4)) S2 (0 + m1 + m2) (0 + 1300 + 1300) := HA.out.grow hb
  have hLg : HasBools (w6.alloc (.cells #[.bool false, .bool true] 4)) ag ([false, true]) := Lg.out.later hb
  clear HA T hb Lg
  have HA : Hid (AB _ _ _ _ _ _) := hA
  have Lg : Hid (HasBools _ _ _) := hLg
  clear hA hLg
  have T : Hid (Calls _ _ _ _ _) := sameB [false, true] ag (some ⟨w6.heap.size, 0, none⟩) 2 2 cg 2 _ rfl rfl (by simp) Lg.out T0
  clear T0
  go_wp2_with (go_at_call 16; fail)
  refine (T.out).mono ?_
  rintro e w7 ⟨rfl, hb⟩
  have hA : AB w G w7 S2 (0 + m1 + m2) (0 + 1300 + 1300) := HA.out.grow hb
  have hLg : HasBools w7 ag ([false, true]) := Lg.out.later hb
  clear HA T hb Lg
  have HA : Hid (AB _ _ _ _ _ _) := hA
  have Lg : Hid (HasBools _ _ _) := hLg
  clear hA hLg
  clear Lg
  have T : Hid (Calls _ _ _ _ _) := allR HA.out.rd Rh.out (by simp)
  go_wp2_with (go_at_call 17; fail)
  refine (T.out).mono ?_
  rintro e w8 ⟨ah, ch, rfl, hl, hb⟩
  have Lh : Hid (HasBools w8 ah [true]) := hl
  clear hl
  have hA : AB w G w8 S2 (0 + m1 + m2) (0 + 1300 + 1300) := HA.out.grow hb
  clear HA T hb
  have HA : Hid (AB _ _ _ _ _ _) := hA
  clear hA
  have T0 : HasBools (w8.alloc (.cells #[.bool true] 4)) (some ⟨w8.heap.size, 0, none⟩) [true] := hasBools_new w8 [true] _
  have hb : Below w8.heap.size w8 (w8.alloc (.cells #[.bool true] 4)) := (Below.refl _ _).alloc (Nat.le_refl _) _
  have T : Hid True := trivial
  have hA : AB w G (w8.alloc (.cells #[.bool true] 4)) S2 (0 + m1 + m2) (0 + 1300 + 1300) := HA.out.grow hb
  have hLh : HasBools (w8.alloc (.cells #[.bool true] 4)) ah ([true]) := Lh.out.later hb
  clear HA T hb Lh
  have HA : Hid (AB _ _ _ _ _ _) := hA
  have Lh : Hid (HasBools _ _ _) := hLh
  clear hA hLh
  have T : Hid (Calls _ _ _ _ _) := sameB [true] ah (some ⟨w8.heap.size, 0, none⟩) 1 1 ch 1 _ rfl rfl (by simp) Lh.out T0
  clear T0
  go_wp2_with (go_at_call 16; fail)
  refine (T.out).mono ?_
  rintro e w9 ⟨rfl, hb⟩
  have hA : AB w G w9 S2 (0 + m1 + m2) (0 + 1300 + 1300) := HA.out.grow hb
  have hLh : HasBools w9 ah ([true]) := Lh.out.later hb
  clear HA T hb Lh
  have HA : Hid (AB _ _ _ _ _ _) := hA
  have Lh : Hid (HasBools _ _ _) := hLh
  clear hA hLh
  have HE := HA.out.below
  have HE2 : Hid (Below _ _ _) := HE
  clear HE HA Lh
  go_wp2
  go_ret
  exact ⟨rfl, HE2.out⟩

end Go.Proofs.YtfkfnibeipddaaaDoor
