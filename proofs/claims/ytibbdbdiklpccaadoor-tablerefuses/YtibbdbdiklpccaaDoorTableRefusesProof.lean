/- A document that may not be, or is there already, is refused, so is taking out one that is not there, and the table stays: for every number, length and other number. -/
import Derived.Test.YtibbdbdiklpccaaDoorSh
import Derived.Test.YtibbdbdiklpccaaDoorTbC
import Derived.Test.YtibbdbdiklpccaaDoorCards
import Derived.Test.YtibbdbdiklpccaaDoorTie
import Derived.SevenTiedAt
namespace Go.Proofs.YtibbdbdiklpccaaDoor.tableRefuses
open Go.ChangeShapes Go.WideShapes Go.ChangeAt Go.RowKit Go.Proofs.YtibbdbdiklpccaaDoor.Ls
set_option linter.unusedVariables false


/-! ### The walk -/
set_option maxRecDepth 100000 in
set_option maxHeartbeats 2000000 in
theorem walk (a0 : Int) (a1 : Int) (a2 : Int) (w : World) (hT : Tab w) (w0 : -9223372036854775808 ≤ a0 ∧ a0 ≤ 9223372036854775807) (w1 : -9223372036854775808 ≤ a1 ∧ a1 ≤ 9223372036854775807) (w2 : -9223372036854775808 ≤ a2 ∧ a2 ≤ 9223372036854775807) :
    Calls Tryd.prog 7 #[.int .i64 a0, .int .i64 a1, .int .i64 a2] w fun e w' => e = .returned (.bool true) ∧ Below w.heap.size w w' := by
  have TA : Hid (∀ W, Tab W → _) := fun W h => alive11 W h
  have HT : Hid (Tab w) := hT
  clear hT
  have w0a := w0.1
  have w0b := w0.2
  have w1a := w1.1
  have w1b := w1.2
  have w2a := w2.1
  have w2b := w2.2
  clear w0 w1 w2
  by_cases h0 : a2 < 1
  · have d0 : decide (a2 < 1) = true := decide_eq_true h0
    go_enter Tryd.func7, Tryd.ntmps7
    go_wp2_with (go_at_call 8; fail)
    refine (TA.out _ HT.out).mono ?_
    rintro e w1 ⟨rfl, hb⟩
    have HB : Hid (Below w.heap.size w w1) := hb
    have HT1 : Hid (Tab w1) := tab_below HT.out hb
    clear hb HT TA
    go_wp2
    go_ret
    exact ⟨rfl, HB.out⟩
  obtain ⟨o, rfl⟩ : ∃ o : Nat, a2 = (o : Nat) := ⟨a2.toNat, by omega⟩
  have d0 : decide (((o : Nat) : Int) < 1) = false := decide_eq_false (by omega)
  have d0n : decide (o < 1) = false := decide_eq_false (by omega)
  by_cases h1 : a0 < 1
  · have d1 : decide ((1 : Int) ≤ a0) = false := decide_eq_false (by omega)
    have e0 : (a0 == ((o : Nat) : Int)) = false := by simp; omega
    have e1 : (a0 != ((o : Nat) : Int)) = true := by simp; omega
    go_enter Tryd.func7, Tryd.ntmps7
    go_wp2_with (go_at_call 8; fail)
    refine (TA.out _ HT.out).mono ?_
    rintro e w1 ⟨rfl, hb⟩
    have HB : Hid (Below w.heap.size w w1) := hb
    have HT1 : Hid (Tab w1) := tab_below HT.out hb
    clear hb HT TA
    have T : Hid (Calls _ _ _ _ _) := newR HB.out HT1.out 50 (by omega) (by omega)
    go_wp2_with (go_at_call 9; fail)
    refine (T.out).mono ?_
    rintro e w2 ⟨G, S0, rfl, hA, hC, hn, hu, hw⟩
    have HA : Hid (AB w G w2 S0 0 0) := hA
    have HC : Hid (CI S0 []) := hC
    have HN : Hid (S0.n = 50) := hn
    have HU : Hid (usedN S0.sl ≤ 0) := Nat.le_of_eq hu
    have HW : Hid (S0.wt = []) := hw
    clear hA hC hn hu hw T HT1 HB
    have hAl := HA.out.lt
    have T : Hid (Calls _ _ _ _ _) := addR HA.out HC.out (RowT.none S0) (by simp) (id := o) (len := 3) (by omega) (by omega) (by omega) (by simp) (by have := HN.out; have := HU.out; simp; omega) (by have := HN.out; omega) (by omega) (by omega)
    rw [show Tr.nil.hd = 0 from rfl] at T
    rw [show ((3 : Nat) : Int) = 3 from rfl] at T
    go_wp2_with (go_at_call 12; fail)
    refine (T.out).mono ?_
    rintro e w3 ⟨g, rfl, S1, th, m1, rfl, hA, hC, hG, hT, hu, hm, hS, hw⟩
    have HA2 : Hid (AB w G w3 S1 (0 + m1) (0 + 10000)) := hA
    have HC2 : Hid (CI S1 _) := hC
    have HN2 : Hid (S1.n = 50) := hG.1.trans HN.out
    have HU2 : Hid (usedN S1.sl ≤ 2) := by have := HU.out; (try simp at hm); show usedN S1.sl ≤ 2; omega
    have HM1 : Hid (m1 ≤ 3000) := by (try simp at hm); show m1 ≤ 3000; omega
    have Rh2 : Hid (RowT S1 th ([(o, 3)])) := by exact hT
    clear HA HC HN HU HW hA hC hT hG T hu hm hS hw
    have HA := HA2; have HC := HC2; have HN := HN2; have HU := HU2
    have Rh := Rh2
    clear HA2 HC2 HN2 HU2 Rh2
    have T : Hid (Calls _ _ _ _ _) := add_arg HA.out.rd Rh.out (by simp) (id := a0) (len := a1) (by first | exact Or.inl (by omega) | exact Or.inr (Or.inl (by omega)) | exact Or.inr (Or.inr (Or.inl (by omega))) | exact Or.inr (Or.inr (Or.inr ⟨(o, 3), by simp, rfl⟩)))
    go_wp2_with (go_at_call 12; fail)
    refine (T.out).mono ?_
    rintro e w4 ⟨rfl, hb⟩
    have hA : AB w G w4 S1 (0 + m1) (0 + 10000) := HA.out.grow hb
    clear HA T hb
    have HA : Hid (AB _ _ _ _ _ _) := hA
    clear hA
    have T : Hid (Calls _ _ _ _ _) := cut_none HA.out.rd Rh.out (by simp) (id := a0) (by intro x hx; simp at hx; subst hx; show ((o : Nat) : Int) ≠ a0; omega)
    go_wp2_with (go_at_call 13; fail)
    refine (T.out).mono ?_
    rintro e w5 ⟨rfl, hb⟩
    have hA : AB w G w5 S1 (0 + m1) (0 + 10000) := HA.out.grow hb
    clear HA T hb
    have HA : Hid (AB _ _ _ _ _ _) := hA
    clear hA
    have T : Hid (Calls _ _ _ _ _) := tlen_any HA.out.rd Rh.out (by simp)
    rw [show ((([(o, 3)] : List (Nat × Nat)).length : Nat) : Int) = 1 from rfl] at T
    go_wp2_with (go_at_call 16; fail)
    refine (T.out).mono ?_
    rintro e w6 ⟨rfl, hb⟩
    have hA : AB w G w6 S1 (0 + m1) (0 + 10000) := HA.out.grow hb
    clear HA T hb
    have HA : Hid (AB _ _ _ _ _ _) := hA
    clear hA
    have T : Hid (Calls _ _ _ _ _) := total_any HA.out.rd Rh.out (by simp) (by simp)
    rw [show ((totalOf [(o, 3)] : Nat) : Int) = 4 from rfl] at T
    go_wp2_with (go_at_call 20; fail)
    refine (T.out).mono ?_
    rintro e w7 ⟨rfl, hb⟩
    have hA : AB w G w7 S1 (0 + m1) (0 + 10000) := HA.out.grow hb
    clear HA T hb
    have HA : Hid (AB _ _ _ _ _ _) := hA
    clear hA
    have HE : Hid (Below _ _ _) := HA.out.below
    clear HA Rh HC HN HU
    go_wp2
    go_ret
    exact ⟨rfl, HE.out⟩
  by_cases h2 : a0 = ((o : Nat) : Int)
  · subst h2
    have d1 : decide ((1 : Int) ≤ ((o : Nat) : Int)) = true := decide_eq_true (by omega)
    have d1n : decide (1 ≤ o) = true := decide_eq_true (by omega)
    have e0 : (((o : Nat) : Int) == ((o : Nat) : Int)) = true := by simp
    have e1 : (((o : Nat) : Int) != ((o : Nat) : Int)) = false := by simp
    go_enter Tryd.func7, Tryd.ntmps7
    go_wp2_with (go_at_call 8; fail)
    refine (TA.out _ HT.out).mono ?_
    rintro e w1 ⟨rfl, hb⟩
    have HB : Hid (Below w.heap.size w w1) := hb
    have HT1 : Hid (Tab w1) := tab_below HT.out hb
    clear hb HT TA
    have T : Hid (Calls _ _ _ _ _) := newR HB.out HT1.out 50 (by omega) (by omega)
    go_wp2_with (go_at_call 9; fail)
    refine (T.out).mono ?_
    rintro e w2 ⟨G, S0, rfl, hA, hC, hn, hu, hw⟩
    have HA : Hid (AB w G w2 S0 0 0) := hA
    have HC : Hid (CI S0 []) := hC
    have HN : Hid (S0.n = 50) := hn
    have HU : Hid (usedN S0.sl ≤ 0) := Nat.le_of_eq hu
    have HW : Hid (S0.wt = []) := hw
    clear hA hC hn hu hw T HT1 HB
    have hAl := HA.out.lt
    have T : Hid (Calls _ _ _ _ _) := addR HA.out HC.out (RowT.none S0) (by simp) (id := o) (len := 3) (by omega) (by omega) (by omega) (by simp) (by have := HN.out; have := HU.out; simp; omega) (by have := HN.out; omega) (by omega) (by omega)
    rw [show Tr.nil.hd = 0 from rfl] at T
    rw [show ((3 : Nat) : Int) = 3 from rfl] at T
    go_wp2_with (go_at_call 12; fail)
    refine (T.out).mono ?_
    rintro e w3 ⟨g, rfl, S1, th, m1, rfl, hA, hC, hG, hT, hu, hm, hS, hw⟩
    have HA2 : Hid (AB w G w3 S1 (0 + m1) (0 + 10000)) := hA
    have HC2 : Hid (CI S1 _) := hC
    have HN2 : Hid (S1.n = 50) := hG.1.trans HN.out
    have HU2 : Hid (usedN S1.sl ≤ 2) := by have := HU.out; (try simp at hm); show usedN S1.sl ≤ 2; omega
    have HM1 : Hid (m1 ≤ 3000) := by (try simp at hm); show m1 ≤ 3000; omega
    have Rh2 : Hid (RowT S1 th ([(o, 3)])) := by exact hT
    clear HA HC HN HU HW hA hC hT hG T hu hm hS hw
    have HA := HA2; have HC := HC2; have HN := HN2; have HU := HU2
    have Rh := Rh2
    clear HA2 HC2 HN2 HU2 Rh2
    have T : Hid (Calls _ _ _ _ _) := add_arg HA.out.rd Rh.out (by simp) (id := ((o : Nat) : Int)) (len := a1) (by first | exact Or.inl (by omega) | exact Or.inr (Or.inl (by omega)) | exact Or.inr (Or.inr (Or.inl (by omega))) | exact Or.inr (Or.inr (Or.inr ⟨(o, 3), by simp, rfl⟩)))
    go_wp2_with (go_at_call 12; fail)
    refine (T.out).mono ?_
    rintro e w4 ⟨rfl, hb⟩
    have hA : AB w G w4 S1 (0 + m1) (0 + 10000) := HA.out.grow hb
    clear HA T hb
    have HA : Hid (AB _ _ _ _ _ _) := hA
    clear hA
    have T : Hid (Calls _ _ _ _ _) := cutR HA.out HC.out Rh.out (by simp) (by simp) (i := 0) (id := o) (len := 3) rfl (by have := HN.out; have := HU.out; simp; omega) (by have := HN.out; omega) (by omega) (by have := HM1.out; omega)
    go_wp2_with (go_at_call 13; fail)
    refine (T.out).mono ?_
    rintro e w5 ⟨g, rfl, S2, tc, m2, rfl, hA, hC, hG, hT, hu, hm, hS, hw⟩
    have HA2 : Hid (AB w G w5 S2 (0 + m1 + m2) (0 + 10000 + 10000)) := hA
    have HC2 : Hid (CI S2 _) := hC
    have HN2 : Hid (S2.n = 50) := hG.1.trans HN.out
    have HU2 : Hid (usedN S2.sl ≤ 6) := by have := HU.out; (try simp at hm); show usedN S2.sl ≤ 6; omega
    have HM2 : Hid (m2 ≤ 3000) := by (try simp at hm); show m2 ≤ 3000; omega
    have hRh := Rh.out.grows hG
    have Rc2 : Hid (RowT S2 tc ([])) := by exact hT
    clear HA HC HN HU hA hC hT hG T hu hm hS hw Rh
    have HA := HA2; have HC := HC2; have HN := HN2; have HU := HU2
    have Rh : Hid (RowT _ _ _) := hRh
    have Rc := Rc2
    clear HA2 HC2 HN2 HU2 Rc2 hRh
    have T : Hid (Calls _ _ _ _ _) := tlen_any HA.out.rd Rh.out (by simp)
    rw [show ((([(o, 3)] : List (Nat × Nat)).length : Nat) : Int) = 1 from rfl] at T
    go_wp2_with (go_at_call 16; fail)
    refine (T.out).mono ?_
    rintro e w6 ⟨rfl, hb⟩
    have hA : AB w G w6 S2 (0 + m1 + m2) (0 + 10000 + 10000) := HA.out.grow hb
    clear HA T hb
    have HA : Hid (AB _ _ _ _ _ _) := hA
    clear hA
    have T : Hid (Calls _ _ _ _ _) := total_any HA.out.rd Rh.out (by simp) (by simp)
    rw [show ((totalOf [(o, 3)] : Nat) : Int) = 4 from rfl] at T
    go_wp2_with (go_at_call 20; fail)
    refine (T.out).mono ?_
    rintro e w7 ⟨rfl, hb⟩
    have hA : AB w G w7 S2 (0 + m1 + m2) (0 + 10000 + 10000) := HA.out.grow hb
    clear HA T hb
    have HA : Hid (AB _ _ _ _ _ _) := hA
    clear hA
    have HE : Hid (Below _ _ _) := HA.out.below
    clear HA Rh HC HN HU
    go_wp2
    go_ret
    exact ⟨rfl, HE.out⟩
  by_cases h3 : a1 < 0
  · have d1 : decide ((1 : Int) ≤ a0) = true := decide_eq_true (by omega)
    have d2 : decide ((0 : Int) ≤ a1) = false := decide_eq_false (by omega)
    have e0 : (a0 == ((o : Nat) : Int)) = false := by simp; omega
    have e1 : (a0 != ((o : Nat) : Int)) = true := by simp; omega
    go_enter Tryd.func7, Tryd.ntmps7
    go_wp2_with (go_at_call 8; fail)
    refine (TA.out _ HT.out).mono ?_
    rintro e w1 ⟨rfl, hb⟩
    have HB : Hid (Below w.heap.size w w1) := hb
    have HT1 : Hid (Tab w1) := tab_below HT.out hb
    clear hb HT TA
    have T : Hid (Calls _ _ _ _ _) := newR HB.out HT1.out 50 (by omega) (by omega)
    go_wp2_with (go_at_call 9; fail)
    refine (T.out).mono ?_
    rintro e w2 ⟨G, S0, rfl, hA, hC, hn, hu, hw⟩
    have HA : Hid (AB w G w2 S0 0 0) := hA
    have HC : Hid (CI S0 []) := hC
    have HN : Hid (S0.n = 50) := hn
    have HU : Hid (usedN S0.sl ≤ 0) := Nat.le_of_eq hu
    have HW : Hid (S0.wt = []) := hw
    clear hA hC hn hu hw T HT1 HB
    have hAl := HA.out.lt
    have T : Hid (Calls _ _ _ _ _) := addR HA.out HC.out (RowT.none S0) (by simp) (id := o) (len := 3) (by omega) (by omega) (by omega) (by simp) (by have := HN.out; have := HU.out; simp; omega) (by have := HN.out; omega) (by omega) (by omega)
    rw [show Tr.nil.hd = 0 from rfl] at T
    rw [show ((3 : Nat) : Int) = 3 from rfl] at T
    go_wp2_with (go_at_call 12; fail)
    refine (T.out).mono ?_
    rintro e w3 ⟨g, rfl, S1, th, m1, rfl, hA, hC, hG, hT, hu, hm, hS, hw⟩
    have HA2 : Hid (AB w G w3 S1 (0 + m1) (0 + 10000)) := hA
    have HC2 : Hid (CI S1 _) := hC
    have HN2 : Hid (S1.n = 50) := hG.1.trans HN.out
    have HU2 : Hid (usedN S1.sl ≤ 2) := by have := HU.out; (try simp at hm); show usedN S1.sl ≤ 2; omega
    have HM1 : Hid (m1 ≤ 3000) := by (try simp at hm); show m1 ≤ 3000; omega
    have Rh2 : Hid (RowT S1 th ([(o, 3)])) := by exact hT
    clear HA HC HN HU HW hA hC hT hG T hu hm hS hw
    have HA := HA2; have HC := HC2; have HN := HN2; have HU := HU2
    have Rh := Rh2
    clear HA2 HC2 HN2 HU2 Rh2
    have T : Hid (Calls _ _ _ _ _) := add_arg HA.out.rd Rh.out (by simp) (id := a0) (len := a1) (by first | exact Or.inl (by omega) | exact Or.inr (Or.inl (by omega)) | exact Or.inr (Or.inr (Or.inl (by omega))) | exact Or.inr (Or.inr (Or.inr ⟨(o, 3), by simp, rfl⟩)))
    go_wp2_with (go_at_call 12; fail)
    refine (T.out).mono ?_
    rintro e w4 ⟨rfl, hb⟩
    have hA : AB w G w4 S1 (0 + m1) (0 + 10000) := HA.out.grow hb
    clear HA T hb
    have HA : Hid (AB _ _ _ _ _ _) := hA
    clear hA
    have T : Hid (Calls _ _ _ _ _) := cut_none HA.out.rd Rh.out (by simp) (id := a0) (by intro x hx; simp at hx; subst hx; show ((o : Nat) : Int) ≠ a0; omega)
    go_wp2_with (go_at_call 13; fail)
    refine (T.out).mono ?_
    rintro e w5 ⟨rfl, hb⟩
    have hA : AB w G w5 S1 (0 + m1) (0 + 10000) := HA.out.grow hb
    clear HA T hb
    have HA : Hid (AB _ _ _ _ _ _) := hA
    clear hA
    have T : Hid (Calls _ _ _ _ _) := tlen_any HA.out.rd Rh.out (by simp)
    rw [show ((([(o, 3)] : List (Nat × Nat)).length : Nat) : Int) = 1 from rfl] at T
    go_wp2_with (go_at_call 16; fail)
    refine (T.out).mono ?_
    rintro e w6 ⟨rfl, hb⟩
    have hA : AB w G w6 S1 (0 + m1) (0 + 10000) := HA.out.grow hb
    clear HA T hb
    have HA : Hid (AB _ _ _ _ _ _) := hA
    clear hA
    have T : Hid (Calls _ _ _ _ _) := total_any HA.out.rd Rh.out (by simp) (by simp)
    rw [show ((totalOf [(o, 3)] : Nat) : Int) = 4 from rfl] at T
    go_wp2_with (go_at_call 20; fail)
    refine (T.out).mono ?_
    rintro e w7 ⟨rfl, hb⟩
    have hA : AB w G w7 S1 (0 + m1) (0 + 10000) := HA.out.grow hb
    clear HA T hb
    have HA : Hid (AB _ _ _ _ _ _) := hA
    clear hA
    have HE : Hid (Below _ _ _) := HA.out.below
    clear HA Rh HC HN HU
    go_wp2
    go_ret
    exact ⟨rfl, HE.out⟩
  by_cases h4 : 40 < a1
  · have d1 : decide ((1 : Int) ≤ a0) = true := decide_eq_true (by omega)
    have d2 : decide ((0 : Int) ≤ a1) = true := decide_eq_true (by omega)
    have d3 : decide (a1 ≤ 40) = false := decide_eq_false (by omega)
    have e0 : (a0 == ((o : Nat) : Int)) = false := by simp; omega
    have e1 : (a0 != ((o : Nat) : Int)) = true := by simp; omega
    go_enter Tryd.func7, Tryd.ntmps7
    go_wp2_with (go_at_call 8; fail)
    refine (TA.out _ HT.out).mono ?_
    rintro e w1 ⟨rfl, hb⟩
    have HB : Hid (Below w.heap.size w w1) := hb
    have HT1 : Hid (Tab w1) := tab_below HT.out hb
    clear hb HT TA
    have T : Hid (Calls _ _ _ _ _) := newR HB.out HT1.out 50 (by omega) (by omega)
    go_wp2_with (go_at_call 9; fail)
    refine (T.out).mono ?_
    rintro e w2 ⟨G, S0, rfl, hA, hC, hn, hu, hw⟩
    have HA : Hid (AB w G w2 S0 0 0) := hA
    have HC : Hid (CI S0 []) := hC
    have HN : Hid (S0.n = 50) := hn
    have HU : Hid (usedN S0.sl ≤ 0) := Nat.le_of_eq hu
    have HW : Hid (S0.wt = []) := hw
    clear hA hC hn hu hw T HT1 HB
    have hAl := HA.out.lt
    have T : Hid (Calls _ _ _ _ _) := addR HA.out HC.out (RowT.none S0) (by simp) (id := o) (len := 3) (by omega) (by omega) (by omega) (by simp) (by have := HN.out; have := HU.out; simp; omega) (by have := HN.out; omega) (by omega) (by omega)
    rw [show Tr.nil.hd = 0 from rfl] at T
    rw [show ((3 : Nat) : Int) = 3 from rfl] at T
    go_wp2_with (go_at_call 12; fail)
    refine (T.out).mono ?_
    rintro e w3 ⟨g, rfl, S1, th, m1, rfl, hA, hC, hG, hT, hu, hm, hS, hw⟩
    have HA2 : Hid (AB w G w3 S1 (0 + m1) (0 + 10000)) := hA
    have HC2 : Hid (CI S1 _) := hC
    have HN2 : Hid (S1.n = 50) := hG.1.trans HN.out
    have HU2 : Hid (usedN S1.sl ≤ 2) := by have := HU.out; (try simp at hm); show usedN S1.sl ≤ 2; omega
    have HM1 : Hid (m1 ≤ 3000) := by (try simp at hm); show m1 ≤ 3000; omega
    have Rh2 : Hid (RowT S1 th ([(o, 3)])) := by exact hT
    clear HA HC HN HU HW hA hC hT hG T hu hm hS hw
    have HA := HA2; have HC := HC2; have HN := HN2; have HU := HU2
    have Rh := Rh2
    clear HA2 HC2 HN2 HU2 Rh2
    have T : Hid (Calls _ _ _ _ _) := add_arg HA.out.rd Rh.out (by simp) (id := a0) (len := a1) (by first | exact Or.inl (by omega) | exact Or.inr (Or.inl (by omega)) | exact Or.inr (Or.inr (Or.inl (by omega))) | exact Or.inr (Or.inr (Or.inr ⟨(o, 3), by simp, rfl⟩)))
    go_wp2_with (go_at_call 12; fail)
    refine (T.out).mono ?_
    rintro e w4 ⟨rfl, hb⟩
    have hA : AB w G w4 S1 (0 + m1) (0 + 10000) := HA.out.grow hb
    clear HA T hb
    have HA : Hid (AB _ _ _ _ _ _) := hA
    clear hA
    have T : Hid (Calls _ _ _ _ _) := cut_none HA.out.rd Rh.out (by simp) (id := a0) (by intro x hx; simp at hx; subst hx; show ((o : Nat) : Int) ≠ a0; omega)
    go_wp2_with (go_at_call 13; fail)
    refine (T.out).mono ?_
    rintro e w5 ⟨rfl, hb⟩
    have hA : AB w G w5 S1 (0 + m1) (0 + 10000) := HA.out.grow hb
    clear HA T hb
    have HA : Hid (AB _ _ _ _ _ _) := hA
    clear hA
    have T : Hid (Calls _ _ _ _ _) := tlen_any HA.out.rd Rh.out (by simp)
    rw [show ((([(o, 3)] : List (Nat × Nat)).length : Nat) : Int) = 1 from rfl] at T
    go_wp2_with (go_at_call 16; fail)
    refine (T.out).mono ?_
    rintro e w6 ⟨rfl, hb⟩
    have hA : AB w G w6 S1 (0 + m1) (0 + 10000) := HA.out.grow hb
    clear HA T hb
    have HA : Hid (AB _ _ _ _ _ _) := hA
    clear hA
    have T : Hid (Calls _ _ _ _ _) := total_any HA.out.rd Rh.out (by simp) (by simp)
    rw [show ((totalOf [(o, 3)] : Nat) : Int) = 4 from rfl] at T
    go_wp2_with (go_at_call 20; fail)
    refine (T.out).mono ?_
    rintro e w7 ⟨rfl, hb⟩
    have hA : AB w G w7 S1 (0 + m1) (0 + 10000) := HA.out.grow hb
    clear HA T hb
    have HA : Hid (AB _ _ _ _ _ _) := hA
    clear hA
    have HE : Hid (Below _ _ _) := HA.out.below
    clear HA Rh HC HN HU
    go_wp2
    go_ret
    exact ⟨rfl, HE.out⟩
  obtain ⟨i, rfl⟩ : ∃ i : Nat, a0 = (i : Nat) := ⟨a0.toNat, by omega⟩
  obtain ⟨n, rfl⟩ : ∃ n : Nat, a1 = (n : Nat) := ⟨a1.toNat, by omega⟩
  have d1 : decide ((1 : Int) ≤ ((i : Nat) : Int)) = true := decide_eq_true (by omega)
  have d1n : decide (1 ≤ i) = true := decide_eq_true (by omega)
  have d2 : decide ((0 : Int) ≤ ((n : Nat) : Int)) = true := decide_eq_true (by omega)
  have d3 : decide (((n : Nat) : Int) ≤ 40) = true := decide_eq_true (by omega)
  have d3n : decide (n ≤ 40) = true := decide_eq_true (by omega)
  have e0 : (((i : Nat) : Int) == ((o : Nat) : Int)) = false := by simp; omega
  have e1 : (((i : Nat) : Int) != ((o : Nat) : Int)) = true := by simp; omega
  go_enter Tryd.func7, Tryd.ntmps7
  go_wp2_with (go_at_call 8; fail)
  refine (TA.out _ HT.out).mono ?_
  rintro e w1 ⟨rfl, hb⟩
  have HB : Hid (Below w.heap.size w w1) := hb
  have HT1 : Hid (Tab w1) := tab_below HT.out hb
  clear hb HT TA
  have T : Hid (Calls _ _ _ _ _) := newR HB.out HT1.out 50 (by omega) (by omega)
  go_wp2_with (go_at_call 9; fail)
  refine (T.out).mono ?_
  rintro e w2 ⟨G, S0, rfl, hA, hC, hn, hu, hw⟩
  have HA : Hid (AB w G w2 S0 0 0) := hA
  have HC : Hid (CI S0 []) := hC
  have HN : Hid (S0.n = 50) := hn
  have HU : Hid (usedN S0.sl ≤ 0) := Nat.le_of_eq hu
  have HW : Hid (S0.wt = []) := hw
  clear hA hC hn hu hw T HT1 HB
  have hAl := HA.out.lt
  have T : Hid (Calls _ _ _ _ _) := addR HA.out HC.out (RowT.none S0) (by simp) (id := o) (len := 3) (by omega) (by omega) (by omega) (by simp) (by have := HN.out; have := HU.out; simp; omega) (by have := HN.out; omega) (by omega) (by omega)
  rw [show Tr.nil.hd = 0 from rfl] at T
  rw [show ((3 : Nat) : Int) = 3 from rfl] at T
  go_wp2_with (go_at_call 12; fail)
  refine (T.out).mono ?_
  rintro e w3 ⟨g, rfl, S1, th, m1, rfl, hA, hC, hG, hT, hu, hm, hS, hw⟩
  have HA2 : Hid (AB w G w3 S1 (0 + m1) (0 + 10000)) := hA
  have HC2 : Hid (CI S1 _) := hC
  have HN2 : Hid (S1.n = 50) := hG.1.trans HN.out
  have HU2 : Hid (usedN S1.sl ≤ 2) := by have := HU.out; (try simp at hm); show usedN S1.sl ≤ 2; omega
  have HM1 : Hid (m1 ≤ 3000) := by (try simp at hm); show m1 ≤ 3000; omega
  have Rh2 : Hid (RowT S1 th ([(o, 3)])) := by exact hT
  clear HA HC HN HU HW hA hC hT hG T hu hm hS hw
  have HA := HA2; have HC := HC2; have HN := HN2; have HU := HU2
  have Rh := Rh2
  clear HA2 HC2 HN2 HU2 Rh2
  have T : Hid (Calls _ _ _ _ _) := addR HA.out HC.out Rh.out (by simp) (id := i) (len := n) (by omega) (by omega) (by omega) (by simp; omega) (by have := HN.out; have := HU.out; simp; omega) (by have := HN.out; omega) (by omega) (by have := HM1.out; omega)
  go_wp2_with (go_at_call 12; fail)
  refine (T.out).mono ?_
  rintro e w4 ⟨g, rfl, S2, tg, m2, rfl, hA, hC, hG, hT, hu, hm, hS, hw⟩
  have HA2 : Hid (AB w G w4 S2 (0 + m1 + m2) (0 + 10000 + 10000)) := hA
  have HC2 : Hid (CI S2 _) := hC
  have HN2 : Hid (S2.n = 50) := hG.1.trans HN.out
  have HU2 : Hid (usedN S2.sl ≤ 6) := by have := HU.out; (try simp at hm); show usedN S2.sl ≤ 6; omega
  have HM2 : Hid (m2 ≤ 3000) := by (try simp at hm); show m2 ≤ 3000; omega
  have hRh := Rh.out.grows hG
  have Rg2 : Hid (RowT S2 tg ([(o, 3), (i, n)])) := by exact hT
  clear HA HC HN HU hA hC hT hG T hu hm hS hw Rh
  have HA := HA2; have HC := HC2; have HN := HN2; have HU := HU2
  have Rh : Hid (RowT _ _ _) := hRh
  have Rg := Rg2
  clear HA2 HC2 HN2 HU2 Rg2 hRh
  have T : Hid (Calls _ _ _ _ _) := cut_none HA.out.rd Rh.out (by simp) (id := ((i : Nat) : Int)) (by intro x hx; simp at hx; subst hx; show ((o : Nat) : Int) ≠ ((i : Nat) : Int); omega)
  go_wp2_with (go_at_call 13; fail)
  refine (T.out).mono ?_
  rintro e w5 ⟨rfl, hb⟩
  have hA : AB w G w5 S2 (0 + m1 + m2) (0 + 10000 + 10000) := HA.out.grow hb
  clear HA T hb
  have HA : Hid (AB _ _ _ _ _ _) := hA
  clear hA
  have T : Hid (Calls _ _ _ _ _) := tlen_any HA.out.rd Rh.out (by simp)
  rw [show ((([(o, 3)] : List (Nat × Nat)).length : Nat) : Int) = 1 from rfl] at T
  go_wp2_with (go_at_call 16; fail)
  refine (T.out).mono ?_
  rintro e w6 ⟨rfl, hb⟩
  have hA : AB w G w6 S2 (0 + m1 + m2) (0 + 10000 + 10000) := HA.out.grow hb
  clear HA T hb
  have HA : Hid (AB _ _ _ _ _ _) := hA
  clear hA
  have T : Hid (Calls _ _ _ _ _) := total_any HA.out.rd Rh.out (by simp) (by simp)
  rw [show ((totalOf [(o, 3)] : Nat) : Int) = 4 from rfl] at T
  go_wp2_with (go_at_call 20; fail)
  refine (T.out).mono ?_
  rintro e w7 ⟨rfl, hb⟩
  have hA : AB w G w7 S2 (0 + m1 + m2) (0 + 10000 + 10000) := HA.out.grow hb
  clear HA T hb
  have HA : Hid (AB _ _ _ _ _ _) := hA
  clear hA
  have HE : Hid (Below _ _ _) := HA.out.below
  clear HA Rh HC HN HU
  go_wp2
  go_ret
  exact ⟨rfl, HE.out⟩

/-! ### The row's step -/
set_option maxRecDepth 100000 in
theorem lifted (os : Os) (started : os.Started) (H : Type) (enc : TypeId × Value → H) :
    ReturnsInHanded {} Tryd.checked os 7 .any (fun w args => (Rows.tableRefusesSpec.pre enc Tryd.prog Tryd.f7 [] false w args ∧ laidMetH Tryd.prog laid1 w) ∧ sizedMet enc Tryd.prog Tryd.f7 (OpenSpec.ofChange Rows.tableRefusesSpec) false w args) (Rows.tableRefusesSpec.post enc Tryd.prog Tryd.f7 false true false false) := by
  refine returnsInHanded_of_change_and (C := Tryd.checked) (X := fun w _ => laidMetH Tryd.prog laid1 w) (fun _ _ _ hh h => h.of_heap hh) Tryd.own started (by kernel_rfl) Tryd.func7
    (ChangeSpec.witness_shaped (enc := enc) (C := Tryd.checked) (os := os) (X := fun w _ => laidMetH Tryd.prog laid1 w) false (World.doorLaid Tryd.prog 400 os) #[.int .i64 0, .int .i64 0, .int .i64 0] 8 rfl (World.shaped_of_RefB (by kernel_rfl) (by kernel_rfl)) (by kernel_rfl) (by kernel_rfl) (by kernel_rfl) (door_met os _)) ?_
  intro W base args ds gs before hval0 hW _ _ hL _
  have hval : ∀ (j : Nat) t v, Tryd.f7.params[j]? = some t → args[j]? = some v → Value.okWide Tryd.prog W .any base t v := hval0
  have hW' := hW
  obtain ⟨p, q, hA0, hV, rfl, hfz, hnd⟩ := hW
  have hA : DataW.TrodAll enc Tryd.prog W 0 (fun _ => true) true Tryd.f7.params.toList args.toList ds p := hA0
  rw [Tryd.params7] at hA hval
  obtain ⟨v0, vs0, d0, ds0, p0, q0, hargs, rfl, rfl, h0, r0⟩ := trodAll_cons hA
  obtain ⟨v1, vs1, d1, ds1, p1, q1, rfl, rfl, rfl, h1, r1⟩ := trodAll_cons r0
  obtain ⟨v2, vs2, d2, ds2, p2, q2, rfl, rfl, rfl, h2, r2⟩ := trodAll_cons r1
  obtain ⟨rfl, rfl, rfl⟩ := trodAll_nil r2
  obtain rfl : args = #[v0, v1, v2] := by cases args; simp_all
  obtain ⟨rfl, rfl⟩ := trodVars_none hV
  obtain ⟨a0, rfl, rfl, rfl, wf0⟩ := open_int Tryd.underlying3 (hval 0 3 v0 rfl rfl) h0
  have w0 := wf_i64 wf0
  obtain ⟨a1, rfl, rfl, rfl, wf1⟩ := open_int Tryd.underlying3 (hval 1 3 v1 rfl rfl) h1
  have w1 := wf_i64 wf1
  obtain ⟨a2, rfl, rfl, rfl, wf2⟩ := open_int Tryd.underlying3 (hval 2 3 v2 rfl rfl) h2
  have w2 := wf_i64 wf2
  clear hA0 hval0
  simp only [List.append_nil] at hW'
  refine (walk a0 a1 a2 W (of_laid hL) w0 w1 w2).mono fun e W' ⟨he, hg⟩ => ?_
  subst he
  exact ⟨_, rfl, post_carry Tryd.laidOut (by rw [Tryd.params7]; intro t ht; simp only [List.mem_cons, List.not_mem_nil, or_false] at ht; rcases ht with rfl | rfl | rfl <;> exact ⟨by kernel_rfl, of_decide_eq_true (by kernel_rfl)⟩) rfl hW' (fun _ _ _ => (trodAll_cons_mk (shut_bool Tryd.underlying4 _) trodAll_mk0)) rfl rfl hg⟩

theorem over : Rows.tableRefusesRow.holds Tryd.pinned (OpenSpec.ofChange Rows.tableRefusesSpec) :=
  OpenClaim.holds_of_wide 7 Tryd.f7 rfl rfl rfl rfl rfl rfl rfl ⟨rfl, rfl, rfl, rfl, rfl⟩ rfl rfl rfl rfl rfl (by kernel_rfl) Tryd.func7 (by kernel_rfl)
    (of_decide_eq_true (by kernel_rfl)) (by unfold Func.isWrapper; first | (rw [if_pos (by decide +kernel)]; kernel_rfl) | (rw [if_neg (by decide +kernel)]; exact ⟨rfl, rfl⟩))
    (fun os started H enc _ => lifted os started H enc)

end Go.Proofs.YtibbdbdiklpccaaDoor.tableRefuses

namespace Go.Proofs.YtibbdbdiklpccaaDoor
/-- the row -/
theorem tableRefuses_row : Rows.TableRefusesSaid := tableRefuses.over

/-- the statement: the tied card -/
theorem tableRefuses_holds : Rows.TableRefusesCardSaid :=
  Claim7.holds_tied_plain_at .later [] [.data] true Rows.tableRefusesCard.stood.harness false
    tableRefuses_row (fun _ h => by cases h) (by kernel_rfl) (fun _ h => by cases h) tableRefuses_row_tie rfl ⟨rfl, rfl⟩ (by kernel_rfl) rfl
    (fun f fn hf hfn => by
      obtain rfl : f = 7 := Option.some.inj ((show Tryd.prog.funcNamed "scrinium/scriniumlaw11.TableRefuses" = some 7 by kernel_rfl).symm.trans hf) |>.symm
      obtain rfl : fn = Tryd.f7 := (Option.some.inj (Tryd.func7.symm.trans hfn)).symm
      exact ⟨by kernel_rfl, fun j t ht => by
        rw [Tryd.params7] at ht
        have hm : t ∈ [3, 3, 3] := by simpa using Array.mem_of_getElem? ht
        have hall : ([3, 3, 3].all fun u => !Tryd.prog.wantsStandIn u) = true := by kernel_rfl
        exact (show Tryd.prog.wantsStandIn t = false by simpa using List.all_eq_true.1 hall t hm)⟩)
    (by kernel_rfl)
#print axioms tableRefuses_holds
end Go.Proofs.YtibbdbdiklpccaaDoor
