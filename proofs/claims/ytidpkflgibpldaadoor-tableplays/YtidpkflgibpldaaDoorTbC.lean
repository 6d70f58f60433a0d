/- Tables of documents: the first call of each statement: what the document fixes is told. -/
import Derived.Test.YtidpkflgibpldaaDoorTbB
import Derived.Test.YtidpkflgibpldaaDoorSh
namespace Go.Proofs.YtidpkflgibpldaaDoor.Ls
open Go Go.RowKit

set_option maxRecDepth 100000 in
set_option maxHeartbeats 1000000 in
theorem alive11 (w : World) (hT : Tab w) : Calls Tryd.prog 4 #[] w fun e w' => e = .returned (.bool true) ∧ Below w.heap.size w w' := by
  have HT : Hid (Tab w) := hT
  clear hT
  go_enter Tryd.func4, Tryd.ntmps4
  have T : Hid (Calls _ _ _ _ _) := newR (Below.refl _ _) HT.out 20 (by omega) (by omega)
  go_wp2_with (go_at_call 5; fail)
  refine (T.out).mono ?_
  rintro e w1 ⟨G, S0, rfl, hA, hC, hn, hu, hw⟩
  have HA : Hid (AB w G w1 S0 0 0) := hA
  have HC : Hid (CI S0 []) := hC
  have HN : Hid (S0.n = 20) := hn
  have HU : Hid (usedN S0.sl ≤ 0) := Nat.le_of_eq hu
  have HW : Hid (S0.wt = []) := hw
  clear hA hC hn hu hw T HT
  have hAl := HA.out.lt
  have T : Hid (Calls _ _ _ _ _) := addR HA.out HC.out (RowT.none S0) (by simp) (id := 7) (len := 3) (by omega) (by omega) (by omega) (by simp) (by have := HN.out; have := HU.out; simp; omega) (by have := HN.out; omega) (by omega) (by omega)
  rw [show Tr.nil.hd = 0 from rfl] at T
  rw [show ((7 : Nat) : Int) = 7 from rfl] at T
  rw [show ((3 : Nat) : Int) = 3 from rfl] at T
  go_wp2_with (go_at_call 8; fail)
  refine (T.out).mono ?_
  rintro e w2 ⟨g, rfl, S1, th, m1, rfl, hA, hC, hG, hT, hu, hm, hS, hw⟩
  have HA2 : Hid (AB w G w2 S1 (0 + m1) (0 + 10000)) := hA
  have HC2 : Hid (CI S1 _) := hC
  have HN2 : Hid (S1.n = 20) := hG.1.trans HN.out
  have HU2 : Hid (usedN S1.sl ≤ 2) := by have := HU.out; (try simp at hm); show usedN S1.sl ≤ 2; omega
  have HM1 : Hid (m1 ≤ 3000) := by (try simp at hm); show m1 ≤ 3000; omega
  have Rh2 : Hid (RowT S1 th ([(7, 3)])) := by exact hT
  clear HA HC HN HU HW hA hC hT hG T hu hm hS hw
  have HA := HA2; have HC := HC2; have HN := HN2; have HU := HU2
  have Rh := Rh2
  clear HA2 HC2 HN2 HU2 Rh2
  have T : Hid (Calls _ _ _ _ _) := at_in HA.out.rd Rh.out (by simp) (i := 0) (a := 7) (b := 3) rfl
  rw [show ((7 : Nat) : Int) = 7 from rfl] at T
  rw [show ((3 : Nat) : Int) = 3 from rfl] at T
  rw [show ((0 : Nat) : Int) = 0 from rfl] at T
  go_wp2_with (go_at_call 14; fail)
  refine (T.out).mono ?_
  rintro e w3 ⟨rfl, hb⟩
  have hA : AB w G w3 S1 (0 + m1) (0 + 10000) := HA.out.grow hb
  clear HA T hb
  have HA : Hid (AB _ _ _ _ _ _) := hA
  clear hA
  have T : Hid (Calls _ _ _ _ _) := total_any HA.out.rd Rh.out (by simp) (by simp)
  rw [show ((totalOf [(7, 3)] : Nat) : Int) = 4 from rfl] at T
  go_wp2_with (go_at_call 16; fail)
  refine (T.out).mono ?_
  rintro e w4 ⟨rfl, hb⟩
  have hA : AB w G w4 S1 (0 + m1) (0 + 10000) := HA.out.grow hb
  clear HA T hb
  have HA : Hid (AB _ _ _ _ _ _) := hA
  clear hA
  have T : Hid (Calls _ _ _ _ _) := tlen_any HA.out.rd (RowT.none _) (by simp)
  rw [show Tr.nil.hd = 0 from rfl] at T
  rw [show ((([] : List (Nat × Nat)).length : Nat) : Int) = 0 from rfl] at T
  go_wp2_with (go_at_call 12; fail)
  refine (T.out).mono ?_
  rintro e w5 ⟨rfl, hb⟩
  have hA : AB w G w5 S1 (0 + m1) (0 + 10000) := HA.out.grow hb
  clear HA T hb
  have HA : Hid (AB _ _ _ _ _ _) := hA
  clear hA
  have HE : Hid (Below _ _ _) := HA.out.below
  clear HA Rh HC HN HU
  go_wp2
  go_ret
  exact ⟨rfl, HE.out⟩

end Go.Proofs.YtidpkflgibpldaaDoor.Ls
