/- Lists of pairs: the first call of each statement: what the document fixes is told. -/
import Derived.Test.YtfigihlahmgloaaDoorLsW
namespace Go.Proofs.YtfigihlahmgloaaDoor.Ls
open Go.RowKit

set_option maxRecDepth 100000 in
set_option maxHeartbeats 1000000 in
theorem alive10 (w : World) (hT : Tab w) : Calls Tryd.prog 9 #[] w fun e w' => e = .returned (.bool true) ∧ Below w.heap.size w w' := by
  have HT : Hid (Tab w) := hT
  clear hT
  go_enter Tryd.func9, Tryd.ntmps9
  have T : Hid (Calls _ _ _ _ _) := newR (Below.refl _ _) HT.out 20 (by omega) (by omega)
  go_wp2_with (go_at_call 10; fail)
  refine (T.out).mono ?_
  rintro e w1 ⟨G, S0, rfl, hA, hC, hn, hu, hw⟩
  have HA : Hid (AB w G w1 S0 0 0) := hA
  have HC : Hid (CI S0 []) := hC
  have HN : Hid (S0.n = 20) := hn
  have HU : Hid (usedN S0.sl ≤ 0) := Nat.le_of_eq hu
  have HW : Hid (S0.wt = []) := hw
  clear hA hC hn hu hw T HT
  have hAl := HA.out.lt
  have T : Hid (Calls _ _ _ _ _) := insR HA.out HC.out (RowT.none S0) (by simp) 0 (by simp) (a := 3) (b := 4) (by omega) (by omega) (by have := HN.out; have := HU.out; show usedN S0.sl + (2 + 3 * 0) ≤ _; omega) (by have := HN.out; omega) (by omega) (by omega) (by show 0 ≤ 1000; omega)
  rw [show Tr.nil.hd = 0 from rfl] at T
  rw [show ((3 : Nat) : Int) = 3 from rfl] at T
  rw [show ((4 : Nat) : Int) = 4 from rfl] at T
  rw [show ((0 : Nat) : Int) = 0 from rfl] at T
  go_wp2_with (go_at_call 14; fail)
  refine (T.out).mono ?_
  rintro e w2 ⟨S1, th, m1, rfl, hA, hC, hG, hT, hu, hm, hz, hS, hw⟩
  have HA2 : Hid (AB w G w2 S1 (0 + m1) (0 + 10000)) := hA
  have HC2 : Hid (CI S1 _) := hC
  have HN2 : Hid (S1.n = 20) := hG.1.trans HN.out
  have hd0 : Tr.nil.deep = 0 := rfl
  rw [hd0] at hm
  have HU2 : Hid (usedN S1.sl ≤ 2) := by have := HU.out; show usedN S1.sl ≤ 2; omega
  have HW2 : Hid (S1.wt = []) := hw.trans HW.out
  have HM1 : Hid (m1 ≤ 3000) := by show m1 ≤ 3000; omega
  have Rh2 : Hid (RowT S1 th ([(3, 4)])) := by exact hT
  clear HA HC HN HU HW hA hC hT hG T hu hm hS hw
  have HA := HA2; have HC := HC2; have HN := HN2; have HU := HU2; have HW := HW2
  have Rh := Rh2
  clear HA2 HC2 HN2 HU2 HW2 Rh2
  clear hd0
  have hd1 : th.deep ≤ 1 := Rh.out.deep (d := 1) (by decide)
  have T : Hid (Calls _ _ _ _ _) := setR HA.out HC.out Rh.out (by simp) 0 (by simp) (a := 5) (b := 0) (by omega) (by omega) (by have := HN.out; have := HU.out; omega) (by have := HN.out; omega) (by omega) (by have := HM1.out; omega) (by omega)
  rw [show ((5 : Nat) : Int) = 5 from rfl] at T
  rw [show ((0 : Nat) : Int) = 0 from rfl] at T
  go_wp2_with (go_at_call 16; fail)
  refine (T.out).mono ?_
  rintro e w3 ⟨S2, tg, m2, rfl, hA, hC, hG, hT, hu, hm, hz, hS, hw⟩
  have HA2 : Hid (AB w G w3 S2 (0 + m1 + m2) (0 + 10000 + 10000)) := hA
  have HC2 : Hid (CI S2 _) := hC
  have HN2 : Hid (S2.n = 20) := hG.1.trans HN.out
  have HU2 : Hid (usedN S2.sl ≤ 6) := by have := HU.out; show usedN S2.sl ≤ 6; omega
  have HW2 : Hid (S2.wt = []) := hw.trans HW.out
  have HM2 : Hid (m2 ≤ 3000) := by show m2 ≤ 3000; omega
  have hRh := Rh.out.grows hG
  have Rg2 : Hid (RowT S2 tg ([(5, 0)])) := by exact hT
  clear HA HC HN HU HW hA hC hT hG T hu hm hS hw Rh
  have HA := HA2; have HC := HC2; have HN := HN2; have HU := HU2; have HW := HW2
  have Rh : Hid (RowT _ _ _) := hRh
  have Rg := Rg2
  clear HA2 HC2 HN2 HU2 HW2 Rg2 hRh
  have T : Hid (Calls _ _ _ _ _) := getR_in HA.out.rd Rh.out (by simp) 0 (a := 3) (b := 4) rfl
  rw [show ((3 : Nat) : Int) = 3 from rfl] at T
  rw [show ((4 : Nat) : Int) = 4 from rfl] at T
  rw [show ((0 : Nat) : Int) = 0 from rfl] at T
  go_wp2_with (go_at_call 22; fail)
  refine (T.out).mono ?_
  rintro e w4 ⟨rfl, hb⟩
  have hA : AB w G w4 S2 (0 + m1 + m2) (0 + 10000 + 10000) := HA.out.grow hb
  clear HA T hb
  have HA : Hid (AB _ _ _ _ _ _) := hA
  clear hA
  have T : Hid (Calls _ _ _ _ _) := getR_in (HA.out.rd.later ((Below.refl _ _).alloc (Nat.le_refl _) (.cells #[.int .i64 3, .int .i64 4] 29))) Rg.out (by simp) 0 (a := 5) (b := 0) rfl
  rw [show ((5 : Nat) : Int) = 5 from rfl] at T
  rw [show ((0 : Nat) : Int) = 0 from rfl] at T
  go_wp2_with (go_at_call 22; fail)
  refine (T.out).mono ?_
  rintro e w5 ⟨rfl, hb⟩
  have BX : Hid (BlkAt w5 w4.heap.size 29 [.int .i64 3, .int .i64 4]) := (BlkAt.made rfl _ [.int .i64 3, .int .i64 4]).later hb
  have hb := ((Below.refl w4.heap.size w4).alloc (Nat.le_refl _) (.cells #[.int .i64 3, .int .i64 4] 29)).trans (hb.mono (by simp))
  have hA : AB w G w5 S2 (0 + m1 + m2) (0 + 10000 + 10000) := HA.out.grow hb
  clear HA T hb
  have HA : Hid (AB _ _ _ _ _ _) := hA
  clear hA
  have hxl := BX.out.lt
  have T : Hid (Calls _ _ _ _ _) := lenR (HA.out.rd.later ((Below.refl _ _).alloc (Nat.le_refl _) (.cells #[.int .i64 5, .int .i64 0] 29))) Rg.out (by simp)
  rw [show ((([(5, 0)] : List (Nat × Nat)).length : Nat) : Int) = 1 from rfl] at T
  have c0 : w5.cell? ⟨w4.heap.size, 0, none⟩ = some (.int .i64 3) := BX.out.cell rfl
  have c1 : w5.cell? ⟨w4.heap.size, 1, none⟩ = some (.int .i64 4) := BX.out.cell rfl
  go_wp2_with (go_at_call 25; fail)
  refine (T.out).mono ?_
  rintro e w6 ⟨rfl, hb⟩
  have HE : Hid (Below _ _ _) := (HA.out.grow (((Below.refl w5.heap.size w5).alloc (Nat.le_refl _) (.cells #[.int .i64 5, .int .i64 0] 29)).trans (hb.mono (by simp)))).below
  clear HA Rh Rg HC HN HU HW T hb BX c0 c1
  go_wp2
  go_ret
  exact ⟨rfl, HE.out⟩

end Go.Proofs.YtfigihlahmgloaaDoor.Ls
