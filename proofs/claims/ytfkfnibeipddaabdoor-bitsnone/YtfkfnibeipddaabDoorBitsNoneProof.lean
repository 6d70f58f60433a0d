/- Of what is no row nothing is told; with no arena nothing is made: for every handle, place and bit. -/
import Derived.Test.YtfkfnibeipddaabDoorBSh
import Derived.Test.YtfkfnibeipddaabDoorMg
import Derived.Test.YtfkfnibeipddaabDoorBcJ
import Derived.Test.YtfkfnibeipddaabDoorCards
import Derived.Test.YtfkfnibeipddaabDoorTie
import Derived.SevenTiedAt
namespace Go.Proofs.YtfkfnibeipddaabDoor.bitsNone
open Go.ChangeShapes Go.WideShapes Go.ChangeAt Go.RowKit
set_option linter.unusedVariables false


/-! ### The walk -/
set_option maxRecDepth 100000 in
set_option maxHeartbeats 2000000 in
theorem walk (a0 : Int) (a1 : Int) (a2 : Bool) (w : World) (hT : Tab w) (w0 : -9223372036854775808 ≤ a0 ∧ a0 ≤ 9223372036854775807) (w1 : -9223372036854775808 ≤ a1 ∧ a1 ≤ 9223372036854775807) :
    Calls Tryd.prog 3 #[.int .i64 a0, .int .i64 a1, .bool a2] w fun e w' => e = .returned (.bool true) ∧ Below w.heap.size w w' := by
  have TA : Hid (∀ W, Tab W → _) := fun W h => alive8 W h
  have HT : Hid (Tab w) := hT
  clear hT
  have w1a := w1.1
  have w1b := w1.2
  clear w0 w1
  go_enter Tryd.func3, Tryd.ntmps3
  go_wp2_with (go_at_call 8; fail)
  refine (TA.out _ HT.out).mono ?_
  rintro e w1 ⟨rfl, hb⟩
  have HB : Hid (Below w.heap.size w w1) := hb
  have HT1 : Hid (Tab w1) := tab_below HT.out hb
  clear hb HT TA
  have T : Hid (Calls _ _ _ _ _) := newR HB.out HT1.out 9 (by omega) (by omega)
  go_wp2_with (go_at_call 9; fail)
  refine (T.out).mono ?_
  rintro e w2 ⟨G, S0, rfl, hA, hC, hn, hu, hw⟩
  have HA : Hid (AB w G w2 S0 0 0) := hA
  have HC : Hid (CI S0 []) := hC
  have HN : Hid (S0.n = 9) := hn
  have HU : Hid (usedN S0.sl ≤ 0) := Nat.le_of_eq hu
  have HW : Hid (S0.wt = []) := hw
  clear hA hC hn hu hw T HB HT1
  have hAl := HA.out.lt
  obtain ⟨i0, hl0⟩ := room_least (S := S0) (by have := HN.out; have := HU.out; omega)
  have hkk0 : ∀ k ∈ (Nd.mk 4 0 0 0 0 5 5).kids, k = 0 ∨ k ∈ ([] : List Int) := fun k hk => Or.inl (by simpa [Nd.kids] using hk)
  have hkk1 : ∀ k ∈ (Nd.mk 4 0 0 0 0 5 5).kids, k = 0 ∨ S0.liveB k = true := fun k hk => Or.inl (by simpa [Nd.kids] using hk)
  obtain ⟨e1, e2, hC1⟩ := HC.out.make HA.out.inv (n := Nd.mk 4 0 0 0 0 5 5) rfl hkk0 hl0
  obtain ⟨-, -, hc0, hn1, hc1⟩ := mk_told HA.out.inv (n := Nd.mk 4 0 0 0 0 5 5) rfl hkk1 hl0
  have HU1 : Hid (usedN (S0.mk1 (Nd.mk 4 0 0 0 0 5 5)).sl ≤ 1) := by have := used_mk1 e1; have := HU.out; show usedN (S0.mk1 (Nd.mk 4 0 0 0 0 5 5)).sl ≤ 1; omega
  have HN1 : Hid ((S0.mk1 (Nd.mk 4 0 0 0 0 5 5)).n = 9) := (S0.n_mk1 _).trans HN.out
  have HX1 : Hid (0 < (S0.mk1 (Nd.mk 4 0 0 0 0 5 5)).cnt ((i0 : Int) + 1) ∧ ((S0.mk1 (Nd.mk 4 0 0 0 0 5 5)).get ((i0 : Int) + 1)).nd.tag = 4) := ⟨by rw [hc1 _ (by omega), if_pos rfl]; omega, by rw [hn1, if_pos rfl]⟩
  have HC1 : Hid (CI (S0.mk1 (Nd.mk 4 0 0 0 0 5 5)) _) := hC1
  have T : Hid (Calls _ _ _ _ _) := makeB HA.out (by have := HN.out; omega) (by omega) (by omega) (Nd.mk 4 0 0 0 0 5 5)
  rw [e1, e2, show S0.mkM 0 (Nd.mk 4 0 0 0 0 5 5) = 1 from if_pos e1] at T
  unfold ndV at T
  generalize S0.mk1 (Nd.mk 4 0 0 0 0 5 5) = S1 at *
  generalize (i0 : Int) + 1 = x at *
  clear hkk0 hkk1 e1 e2 hC1 hc0 hn1 hc1 hl0 HA HC HN HU HW
  go_wp2_with (go_at_call 10; fail)
  refine (T.out).mono ?_
  rintro e w3 ⟨rfl, hA⟩
  have HA : Hid (AB w G w3 S1 1 (0 + 5)) := hA
  have hAl1 := HA.out.lt
  clear hA T
  have HSY : Hid (∀ W, Rd (.pointer (some ⟨G, 0, none⟩)) S1 W → _) := fun W hR => says_item hR HX1.out.1 (by rw [HX1.out.2]; omega) (by rw [HX1.out.2]; omega)
  have T : Hid (Calls _ _ _ _ _) := getT_hi_gen HA.out.rd (t := .nil) (x := x) (fun W hR => HSY.out W hR) trivial (by show 0 ≤ _; omega) (Or.inr rfl) trivial (i := 0) (by omega) (by omega) (by show ¬ (0 : Int) < ((0 : Nat) : Int); omega)
  go_wp2_with (go_at_call 11; fail)
  refine (T.out).mono ?_
  rintro e w4 ⟨rfl, hb⟩
  have HA4 : Hid (AB w G w4 S1 1 (0 + 5)) := HA.out.grow hb
  clear hb HA T HSY
  by_cases h0 : a1 = 0
  · subst h0
    have T : Hid (Calls _ _ _ _ _) := insR HA4.out HC1.out (RowT.none S1) (by simp) 0 (by simp) a2 (by have := HN1.out; have := HU1.out; show usedN S1.sl + (2 + 5 * 0) ≤ _; omega) (by omega) (by omega)
    rw [show Tr.nil.hd = 0 from rfl, show ((0 : Nat) : Int) = 0 from rfl] at T
    go_wp2_with (go_at_call 12; fail)
    refine (T.out).mono ?_
    rintro e w5 ⟨S5, t5, m5, rfl, hA, hC, hG, hT, hu, hm, -, hz, hS⟩
    have HA5 : Hid (AB w G w5 S5 (1 + m5) (0 + 5 + 1300)) := hA
    have HC5 : Hid (CI S5 _) := hC
    have HN5 : Hid (S5.n = 9) := hG.1.trans HN1.out
    have hdn : Tr.nil.deep = 0 := rfl
    have hm5 : m5 ≤ 2 := by omega
    have HU5 : Hid (usedN S5.sl ≤ 3) := by have := HU1.out; show usedN S5.sl ≤ 3; omega
    obtain ⟨g1, g2⟩ := hG.2 x HX1.out.1
    have HX5 : Hid (0 < S5.cnt x ∧ (S5.get x).nd.tag = 4) := ⟨by have := HX1.out.1; omega, by rw [g1]; exact HX1.out.2⟩
    clear T hA hC hG hT hu hm hz hS g1 g2 hdn HA4 HC1 HN1 HU1 HX1
    have hTab := HA5.out.tab
    have T : Hid (Calls _ _ _ _ _) := ins_full (pp := none) (S := st0) (w := w5) (Rd.nil hTab) (t := .nil) trivial (by show 0 ≤ _; omega) (Or.inr rfl) trivial (i0 := 0) (by omega) (by show (0 : Int) ≤ ((0 : Nat) : Int); omega) a2 (by have h1 := ins_one (S := st0) (t := .nil) (i := 0) (b := a2) trivial trivial (Or.inr rfl) (by omega) (by show (0 : Int) ≤ ((0 : Nat) : Int); omega); show 0 < 0 + _; omega)
    rw [show Tr.nil.hd = 0 from rfl] at T
    clear hTab
    go_wp2_with (go_at_call 12; fail)
    refine (T.out).mono ?_
    rintro e w6 ⟨rfl, hb⟩
    have HA6 : Hid (AB w G w6 S5 (1 + m5) (0 + 5 + 1300)) := HA5.out.grow hb
    clear hb HA5 T
    have T : Hid (Calls _ _ _ _ _) := del_out HA6.out.rd (t := .nil) trivial (by show 0 ≤ _; omega) (Or.inr rfl) trivial (i := 0) (by omega) (by show (0 : Int) < 0 ∨ ((0 : Nat) : Int) ≤ 0; omega)
    rw [show Tr.nil.hd = 0 from rfl] at T
    go_wp2_with (go_at_call 13; fail)
    refine (T.out).mono ?_
    rintro e w7 ⟨rfl, hb⟩
    have HA7 : Hid (AB w G w7 S5 (1 + m5) (0 + 5 + 1300)) := HA6.out.grow hb
    clear hb HA6 T
    have T : Hid (Calls _ _ _ _ _) := buildR HA7.out HC5.out (ao := none) (cap := 0) (bs := []) ⟨fun j hj => absurd hj (by simp)⟩ (by simp) (by omega) (by simp) (by have := HN5.out; omega) (by have := HN5.out; have := HU5.out; simp; omega) (by omega) (by omega)
    rw [show ([] : List Bool).length = 0 from rfl] at T
    go_wp2_with (go_at_call 14; fail)
    refine (T.out).mono ?_
    rintro e w8 ⟨S8, t8, m8, rfl, hA, hC, hG, hT, hu, hm, -, hS⟩
    have HA8 : Hid (AB w G w8 S8 (1 + m5 + m8) (0 + 5 + 1300 + 1300)) := hA
    have hz8 : t8.hd = 0 := hT.zero.2 rfl
    have z1 : (t8.hd == 0) = true := by rw [hz8]; rfl
    have z2 : decide (t8.hd = 0) = true := decide_eq_true hz8
    obtain ⟨g1, g2⟩ := hG.2 x HX5.out.1
    have HX8 : Hid (0 < S8.cnt x ∧ (S8.get x).nd.tag = 4) := ⟨by have := HX5.out.1; omega, by rw [g1]; exact HX5.out.2⟩
    clear T hA hC hG hT hu hm hS g1 g2 hz8 HA7 HC5 HN5 HU5 HX5
    have HSY : Hid (∀ W, Rd (.pointer (some ⟨G, 0, none⟩)) S8 W → _) := fun W hR => says_item hR HX8.out.1 (by rw [HX8.out.2]; omega) (by rw [HX8.out.2]; omega)
    have T1 : Hid (∀ W, Rd (.pointer (some ⟨G, 0, none⟩)) S8 W → _) := fun W hR => len_gen hR (t := .nil) (x := x) (fun W hR => HSY.out W hR) trivial (by show 0 ≤ _; omega) (Or.inr rfl) trivial
    have T2 : Hid (∀ W, Rd (.pointer (some ⟨G, 0, none⟩)) S8 W → _) := fun W hR => rankT_gen hR (t := .nil) (x := x) (fun W hR => HSY.out W hR) trivial (by show 0 ≤ _; omega) (Or.inr rfl) trivial (i := 9) (by omega)
    have T3 : Hid (∀ W, Rd (.pointer (some ⟨G, 0, none⟩)) S8 W → _) := fun W hR => all_gen hR (t := .nil) (x := x) (fun W hR => HSY.out W hR) trivial (by show 0 ≤ _; omega) (Or.inr rfl) trivial
    have T4 : Hid (∀ W, Rd (.pointer none) st0 W → _) := fun W hR => len_gen hR (t := .nil) (x := a0) (fun W hR => says_zero hR (st0_cnt a0)) trivial (by show 0 ≤ _; omega) (Or.inr rfl) trivial
    have T5 : Hid (∀ W, Rd (.pointer (some ⟨G, 0, none⟩)) S8 W → _) := fun W hR => select_gen hR (t := .nil) (x := x) (fun W hR => HSY.out W hR) trivial (by show 0 ≤ _; omega) (Or.inr rfl) trivial (one := a2) (k := 0) (by omega)
    rw [show ((Tr.nil.size : Nat) : Int) = 0 from rfl] at T1 T4
    rw [show (((Tr.nil.bits.take ((9 : Int)).toNat).count true : Nat) : Int) = 0 from rfl] at T2
    have hsl : selT .nil a2 0 = -1 := by
      rcases selT_spec (t := .nil) (one := a2) (k := 0) trivial with ⟨h, -⟩ | ⟨p, -, h, -⟩
      · exact h
      · exact absurd h (Nat.not_lt_zero _)
    rw [hsl] at T5
    clear hsl HSY HX8
    go_wp2_with (go_at_call 15; fail)
    refine (T1.out _ HA8.out.rd).mono ?_
    rintro e w9 ⟨rfl, hb⟩
    have HA9 : Hid (AB w G w9 S8 _ _) := HA8.out.grow hb
    clear hb HA8 T1
    go_wp2_with (go_at_call 16; fail)
    refine (T2.out _ HA9.out.rd).mono ?_
    rintro e w10 ⟨rfl, hb⟩
    have HA10 : Hid (AB w G w10 S8 _ _) := HA9.out.grow hb
    clear hb HA9 T2
    go_wp2_with (go_at_call 17; fail)
    refine (T3.out _ HA10.out.rd).mono ?_
    rintro e w11 ⟨v11, rfl, hO, hb⟩
    obtain ⟨a11, c11, rfl, -⟩ := owns_cells hO
    rw [show Tr.nil.bits.length = 0 from rfl]
    have HA11 : Hid (AB w G w11 S8 _ _) := HA10.out.grow hb
    clear hb HA10 T3 hO
    go_wp2_with (go_at_call 15; fail)
    refine (T4.out _ (Rd.nil HA11.out.tab)).mono ?_
    rintro e w12 ⟨rfl, hb⟩
    have HA12 : Hid (AB w G w12 S8 _ _) := HA11.out.grow hb
    clear hb HA11 T4
    go_wp2_with (go_at_call 18; fail)
    refine (T5.out _ HA12.out.rd).mono ?_
    rintro e w13 ⟨rfl, hb⟩
    have HE : Hid (Below _ _ _) := (HA12.out.grow hb).below
    clear hb HA12 T5
    go_wp2
    go_ret
    exact ⟨rfl, HE.out⟩
  · have q1 : (a1 == 0) = false := by simpa using h0
    have q2 : decide (a1 = 0) = false := decide_eq_false h0
    have T : Hid (Calls _ _ _ _ _) := ins_out HA4.out.rd (t := .nil) trivial (by show 0 ≤ _; omega) (Or.inr rfl) trivial (i := a1) w1b (by show a1 < 0 ∨ ((0 : Nat) : Int) < a1; omega) a2
    rw [show Tr.nil.hd = 0 from rfl] at T
    go_wp2_with (go_at_call 12; fail)
    refine (T.out).mono ?_
    rintro e w5 ⟨rfl, hb⟩
    have HA5 : Hid (AB w G w5 S1 1 (0 + 5)) := HA4.out.grow hb
    clear hb HA4 T
    have hTab := HA5.out.tab
    have T : Hid (Calls _ _ _ _ _) := ins_full (pp := none) (S := st0) (w := w5) (Rd.nil hTab) (t := .nil) trivial (by show 0 ≤ _; omega) (Or.inr rfl) trivial (i0 := 0) (by omega) (by show (0 : Int) ≤ ((0 : Nat) : Int); omega) a2 (by have h1 := ins_one (S := st0) (t := .nil) (i := 0) (b := a2) trivial trivial (Or.inr rfl) (by omega) (by show (0 : Int) ≤ ((0 : Nat) : Int); omega); show 0 < 0 + _; omega)
    rw [show Tr.nil.hd = 0 from rfl] at T
    clear hTab
    go_wp2_with (go_at_call 12; fail)
    refine (T.out).mono ?_
    rintro e w6 ⟨rfl, hb⟩
    have HA6 : Hid (AB w G w6 S1 (1) (0 + 5)) := HA5.out.grow hb
    clear hb HA5 T
    have T : Hid (Calls _ _ _ _ _) := del_out HA6.out.rd (t := .nil) trivial (by show 0 ≤ _; omega) (Or.inr rfl) trivial (i := a1) (by omega) (by show (a1 : Int) < 0 ∨ ((0 : Nat) : Int) ≤ a1; omega)
    rw [show Tr.nil.hd = 0 from rfl] at T
    go_wp2_with (go_at_call 13; fail)
    refine (T.out).mono ?_
    rintro e w7 ⟨rfl, hb⟩
    have HA7 : Hid (AB w G w7 S1 (1) (0 + 5)) := HA6.out.grow hb
    clear hb HA6 T
    have T : Hid (Calls _ _ _ _ _) := buildR HA7.out HC1.out (ao := none) (cap := 0) (bs := []) ⟨fun j hj => absurd hj (by simp)⟩ (by simp) (by omega) (by simp) (by have := HN1.out; omega) (by have := HN1.out; have := HU1.out; simp; omega) (by omega) (by omega)
    rw [show ([] : List Bool).length = 0 from rfl] at T
    go_wp2_with (go_at_call 14; fail)
    refine (T.out).mono ?_
    rintro e w8 ⟨S8, t8, m8, rfl, hA, hC, hG, hT, hu, hm, -, hS⟩
    have HA8 : Hid (AB w G w8 S8 (1 + m8) (0 + 5 + 1300)) := hA
    have hz8 : t8.hd = 0 := hT.zero.2 rfl
    have z1 : (t8.hd == 0) = true := by rw [hz8]; rfl
    have z2 : decide (t8.hd = 0) = true := decide_eq_true hz8
    obtain ⟨g1, g2⟩ := hG.2 x HX1.out.1
    have HX8 : Hid (0 < S8.cnt x ∧ (S8.get x).nd.tag = 4) := ⟨by have := HX1.out.1; omega, by rw [g1]; exact HX1.out.2⟩
    clear T hA hC hG hT hu hm hS g1 g2 hz8 HA7 HC1 HN1 HU1 HX1
    have HSY : Hid (∀ W, Rd (.pointer (some ⟨G, 0, none⟩)) S8 W → _) := fun W hR => says_item hR HX8.out.1 (by rw [HX8.out.2]; omega) (by rw [HX8.out.2]; omega)
    have T1 : Hid (∀ W, Rd (.pointer (some ⟨G, 0, none⟩)) S8 W → _) := fun W hR => len_gen hR (t := .nil) (x := x) (fun W hR => HSY.out W hR) trivial (by show 0 ≤ _; omega) (Or.inr rfl) trivial
    have T2 : Hid (∀ W, Rd (.pointer (some ⟨G, 0, none⟩)) S8 W → _) := fun W hR => rankT_gen hR (t := .nil) (x := x) (fun W hR => HSY.out W hR) trivial (by show 0 ≤ _; omega) (Or.inr rfl) trivial (i := 9) (by omega)
    have T3 : Hid (∀ W, Rd (.pointer (some ⟨G, 0, none⟩)) S8 W → _) := fun W hR => all_gen hR (t := .nil) (x := x) (fun W hR => HSY.out W hR) trivial (by show 0 ≤ _; omega) (Or.inr rfl) trivial
    have T4 : Hid (∀ W, Rd (.pointer none) st0 W → _) := fun W hR => len_gen hR (t := .nil) (x := a0) (fun W hR => says_zero hR (st0_cnt a0)) trivial (by show 0 ≤ _; omega) (Or.inr rfl) trivial
    have T5 : Hid (∀ W, Rd (.pointer (some ⟨G, 0, none⟩)) S8 W → _) := fun W hR => select_gen hR (t := .nil) (x := x) (fun W hR => HSY.out W hR) trivial (by show 0 ≤ _; omega) (Or.inr rfl) trivial (one := a2) (k := 0) (by omega)
    rw [show ((Tr.nil.size : Nat) : Int) = 0 from rfl] at T1 T4
    rw [show (((Tr.nil.bits.take ((9 : Int)).toNat).count true : Nat) : Int) = 0 from rfl] at T2
    have hsl : selT .nil a2 0 = -1 := by
      rcases selT_spec (t := .nil) (one := a2) (k := 0) trivial with ⟨h, -⟩ | ⟨p, -, h, -⟩
      · exact h
      · exact absurd h (Nat.not_lt_zero _)
    rw [hsl] at T5
    clear hsl HSY HX8
    go_wp2_with (go_at_call 15; fail)
    refine (T1.out _ HA8.out.rd).mono ?_
    rintro e w9 ⟨rfl, hb⟩
    have HA9 : Hid (AB w G w9 S8 _ _) := HA8.out.grow hb
    clear hb HA8 T1
    go_wp2_with (go_at_call 16; fail)
    refine (T2.out _ HA9.out.rd).mono ?_
    rintro e w10 ⟨rfl, hb⟩
    have HA10 : Hid (AB w G w10 S8 _ _) := HA9.out.grow hb
    clear hb HA9 T2
    go_wp2_with (go_at_call 17; fail)
    refine (T3.out _ HA10.out.rd).mono ?_
    rintro e w11 ⟨v11, rfl, hO, hb⟩
    obtain ⟨a11, c11, rfl, -⟩ := owns_cells hO
    rw [show Tr.nil.bits.length = 0 from rfl]
    have HA11 : Hid (AB w G w11 S8 _ _) := HA10.out.grow hb
    clear hb HA10 T3 hO
    go_wp2_with (go_at_call 15; fail)
    refine (T4.out _ (Rd.nil HA11.out.tab)).mono ?_
    rintro e w12 ⟨rfl, hb⟩
    have HA12 : Hid (AB w G w12 S8 _ _) := HA11.out.grow hb
    clear hb HA11 T4
    go_wp2_with (go_at_call 18; fail)
    refine (T5.out _ HA12.out.rd).mono ?_
    rintro e w13 ⟨rfl, hb⟩
    have HE : Hid (Below _ _ _) := (HA12.out.grow hb).below
    clear hb HA12 T5
    go_wp2
    go_ret
    exact ⟨rfl, HE.out⟩

/-! ### The row's step -/
set_option maxRecDepth 100000 in
theorem lifted (os : Os) (started : os.Started) (H : Type) (enc : TypeId × Value → H) :
    ReturnsInHanded {} Tryd.checked os 3 .any (fun w args => (Rows.bitsNoneSpec.pre enc Tryd.prog Tryd.f3 [] false w args ∧ laidMetH Tryd.prog laid1 w) ∧ sizedMet enc Tryd.prog Tryd.f3 (OpenSpec.ofChange Rows.bitsNoneSpec) false w args) (Rows.bitsNoneSpec.post enc Tryd.prog Tryd.f3 false true false false) := by
  refine returnsInHanded_of_change_and (C := Tryd.checked) (X := fun w _ => laidMetH Tryd.prog laid1 w) (fun _ _ _ hh h => h.of_heap hh) Tryd.own started (by kernel_rfl) Tryd.func3
    (ChangeSpec.witness_shaped (enc := enc) (C := Tryd.checked) (os := os) (X := fun w _ => laidMetH Tryd.prog laid1 w) false (World.doorLaid Tryd.prog 400 os) #[.int .i64 0, .int .i64 0, .bool false] 8 rfl (World.shaped_of_RefB (by kernel_rfl) (by kernel_rfl)) (by kernel_rfl) (by kernel_rfl) (by kernel_rfl) (door_met os _)) ?_
  intro W base args ds gs before hval0 hW _ _ hL _
  have hval : ∀ (j : Nat) t v, Tryd.f3.params[j]? = some t → args[j]? = some v → Value.okWide Tryd.prog W .any base t v := hval0
  have hW' := hW
  obtain ⟨p, q, hA0, hV, rfl, hfz, hnd⟩ := hW
  have hA : DataW.TrodAll enc Tryd.prog W 0 (fun _ => true) true Tryd.f3.params.toList args.toList ds p := hA0
  rw [Tryd.params3] at hA hval
  obtain ⟨v0, vs0, d0, ds0, p0, q0, hargs, rfl, rfl, h0, r0⟩ := trodAll_cons hA
  obtain ⟨v1, vs1, d1, ds1, p1, q1, rfl, rfl, rfl, h1, r1⟩ := trodAll_cons r0
  obtain ⟨v2, vs2, d2, ds2, p2, q2, rfl, rfl, rfl, h2, r2⟩ := trodAll_cons r1
  obtain ⟨rfl, rfl, rfl⟩ := trodAll_nil r2
  obtain rfl : args = #[v0, v1, v2] := by cases args; simp_all
  obtain ⟨rfl, rfl⟩ := trodVars_none hV
  obtain ⟨a0, rfl, rfl, rfl, wf0⟩ := open_int Tryd.underlying3 (hval 0 3 v0 rfl rfl) h0
  have w0 := wf_i64 wf0
  obtain ⟨a1, rfl, rfl, rfl, wf1⟩ := open_int Tryd.underlying3 (hval 1 3 v1 rfl rfl) h1
  have w1 := wf_i64 wf1
  obtain ⟨a2, rfl, rfl, rfl⟩ := open_bool Tryd.underlying4 (hval 2 4 v2 rfl rfl) h2
  clear hA0 hval0
  simp only [List.append_nil] at hW'
  refine (walk a0 a1 a2 W (of_laid hL) w0 w1).mono fun e W' ⟨he, hg⟩ => ?_
  subst he
  exact ⟨_, rfl, post_carry Tryd.laidOut (by rw [Tryd.params3]; intro t ht; simp only [List.mem_cons, List.not_mem_nil, or_false] at ht; rcases ht with rfl | rfl | rfl <;> exact ⟨by kernel_rfl, of_decide_eq_true (by kernel_rfl)⟩) rfl hW' (fun _ _ _ => (trodAll_cons_mk (shut_bool Tryd.underlying4 _) trodAll_mk0)) rfl rfl hg⟩

theorem over : Rows.bitsNoneRow.holds Tryd.pinned (OpenSpec.ofChange Rows.bitsNoneSpec) :=
  OpenClaim.holds_of_wide 3 Tryd.f3 rfl rfl rfl rfl rfl rfl rfl ⟨rfl, rfl, rfl, rfl, rfl⟩ rfl rfl rfl rfl rfl (by kernel_rfl) Tryd.func3 (by kernel_rfl)
    (of_decide_eq_true (by kernel_rfl)) (by unfold Func.isWrapper; first | (rw [if_pos (by decide +kernel)]; kernel_rfl) | (rw [if_neg (by decide +kernel)]; exact ⟨rfl, rfl⟩))
    (fun os started H enc _ => lifted os started H enc)

end Go.Proofs.YtfkfnibeipddaabDoor.bitsNone

namespace Go.Proofs.YtfkfnibeipddaabDoor
/-- the row -/
theorem bitsNone_row : Rows.BitsNoneSaid := bitsNone.over

/-- the statement: the tied card -/
theorem bitsNone_holds : Rows.BitsNoneCardSaid :=
  Claim7.holds_tied_plain_at .later [] [.data] true Rows.bitsNoneCard.stood.harness false
    bitsNone_row (fun _ h => by cases h) (by kernel_rfl) (fun _ h => by cases h) bitsNone_row_tie rfl ⟨rfl, rfl⟩ (by kernel_rfl) rfl
    (fun f fn hf hfn => by
      obtain rfl : f = 3 := Option.some.inj ((show Tryd.prog.funcNamed "scrinium/scriniumlaw8.BitsNone" = some 3 by kernel_rfl).symm.trans hf) |>.symm
      obtain rfl : fn = Tryd.f3 := (Option.some.inj (Tryd.func3.symm.trans hfn)).symm
      exact ⟨by kernel_rfl, fun j t ht => by
        rw [Tryd.params3] at ht
        have hm : t ∈ [3, 3, 4] := by simpa using Array.mem_of_getElem? ht
        have hall : ([3, 3, 4].all fun u => !Tryd.prog.wantsStandIn u) = true := by kernel_rfl
        exact (show Tryd.prog.wantsStandIn t = false by simpa using List.all_eq_true.1 hall t hm)⟩)
    (by kernel_rfl)
#print axioms bitsNone_holds
end Go.Proofs.YtfkfnibeipddaabDoor
