/- A row that differs in one symbol shares with the one that it was made of, and when it is dropped that one is as it was: for every list of 1 to 40 symbols, every place and symbol. -/
import Derived.Test.YtjbiofjfjljeoaaDoorPb7
import Derived.Test.YtjbiofjfjljeoaaDoorCards
import Derived.Test.YtjbiofjfjljeoaaDoorTie
import Derived.SevenTiedAt
namespace Go.Proofs.YtjbiofjfjljeoaaDoor.waveShares
open Go.ChangeShapes Go.WideShapes Go.ChangeAt Go.RowKit Go.Proofs.YtjbiofjfjljeoaaDoor.Wx
set_option linter.unusedVariables false


/-! ### The walk -/
set_option maxRecDepth 100000 in
set_option maxHeartbeats 2000000 in
theorem walk (ao0 : Option Addr) (xs0 : List Int) (cap0 : Nat) (a1 : Int) (a2 : Int) (w : World) (hT : Tab w) (hs0 : HasInts w ao0 xs0) (hz0 : ∀ x ∈ xs0, (Lit.int .i64 x).wf = true) (hl0 : xs0.length ≤ cap0) (hm0 : cap0 ≤ 9223372036854775807) (hn0 : ao0 = none → xs0.length = 0 ∧ cap0 = 0) (w1 : -9223372036854775808 ≤ a1 ∧ a1 ≤ 9223372036854775807) (w2 : -9223372036854775808 ≤ a2 ∧ a2 ≤ 9223372036854775807) :
    Calls Tryd.prog 6 #[.slice ao0 xs0.length cap0, .int .i64 a1, .int .i64 a2] w fun e w' => e = .returned (.bool true) ∧ Below w.heap.size w w' := by
  have TA : Hid (∀ W, Tab W → _) := fun W h => alive9 W h
  have HT : Hid (Tab w) := hT
  have hp : 0 < w.heap.size := tab_pos hT
  clear hT
  have HS : Hid (HasInts w ao0 xs0) := hs0
  clear hs0 hz0 hn0
  by_cases hlow : xs0.length < 1
  · have d0 : decide (((xs0.length : Nat) : Int) < 1) = true := decide_eq_true (by omega)
    have d0n : decide (xs0.length < 1) = true := decide_eq_true hlow
    go_enter Tryd.func6, Tryd.ntmps6
    go_wp2_with (go_at_call 10; fail)
    refine (TA.out _ HT.out).mono ?_
    rintro e w1 ⟨rfl, hb⟩
    have HB : Hid (Below w.heap.size w w1) := hb
    have HT1 : Hid (Tab w1) := tab_below HT.out hb
    clear hb HT TA
    go_wp2
    go_ret
    exact ⟨rfl, HB.out⟩
  have dl0 : decide (((xs0.length : Nat) : Int) < 1) = false := decide_eq_false (by omega)
  have dl0n : decide (xs0.length < 1) = false := decide_eq_false hlow
  by_cases h40 : 40 < xs0.length
  · have d0 : decide ((40 : Int) < ((xs0.length : Nat) : Int)) = true := decide_eq_true (by omega)
    have d0n : decide (40 < xs0.length) = true := decide_eq_true h40
    go_enter Tryd.func6, Tryd.ntmps6
    go_wp2_with (go_at_call 10; fail)
    refine (TA.out _ HT.out).mono ?_
    rintro e w1 ⟨rfl, hb⟩
    have HB : Hid (Below w.heap.size w w1) := hb
    have HT1 : Hid (Tab w1) := tab_below HT.out hb
    clear hb HT TA
    go_wp2
    go_ret
    exact ⟨rfl, HB.out⟩
  have d0 : decide ((40 : Int) < ((xs0.length : Nat) : Int)) = false := decide_eq_false (by omega)
  have d0n : decide (40 < xs0.length) = false := decide_eq_false h40
  by_cases hn0 : a2 < 0
  · have d1 : decide (a2 < 0) = true := decide_eq_true hn0
    go_enter Tryd.func6, Tryd.ntmps6
    go_wp2_with (go_at_call 10; fail)
    refine (TA.out _ HT.out).mono ?_
    rintro e w1 ⟨rfl, hb⟩
    have HB : Hid (Below w.heap.size w w1) := hb
    have HT1 : Hid (Tab w1) := tab_below HT.out hb
    clear hb HT TA
    go_wp2
    go_ret
    exact ⟨rfl, HB.out⟩
  have d1 : decide (a2 < 0) = false := decide_eq_false hn0
  by_cases hn1 : 257 ≤ a2
  · have d2 : decide (257 ≤ a2) = true := decide_eq_true hn1
    go_enter Tryd.func6, Tryd.ntmps6
    go_wp2_with (go_at_call 10; fail)
    refine (TA.out _ HT.out).mono ?_
    rintro e w1 ⟨rfl, hb⟩
    have HB : Hid (Below w.heap.size w w1) := hb
    have HT1 : Hid (Tab w1) := tab_below HT.out hb
    clear hb HT TA
    go_wp2
    go_ret
    exact ⟨rfl, HB.out⟩
  have d2 : decide (257 ≤ a2) = false := decide_eq_false hn1
  obtain ⟨s, rfl⟩ : ∃ s : Nat, a2 = (s : Nat) := ⟨a2.toNat, by omega⟩
  have hs : s < 257 := by omega
  by_cases hcl : ∀ x ∈ xs0, 0 ≤ x ∧ x < 257
  case neg =>
    have TC : Hid (Calls _ _ _ _ _) := column_any xs0 ao0 cap0 w (by omega) HS.out
    have HNO : Hid (¬ ∀ x ∈ xs0, 0 ≤ x ∧ x < 257) := hcl
    clear hcl
    go_enter Tryd.func6, Tryd.ntmps6
    go_wp2_with (go_at_call 9; fail)
    refine (TC.out).mono ?_
    rintro e w' ⟨hcol, hww⟩
    obtain rfl := hww.symm
    rcases hcol with rfl | ⟨rfl, hcol⟩
    · go_wp2_with (go_at_call 10; fail)
      refine (TA.out _ HT.out).mono ?_
      rintro e w1 ⟨rfl, hb⟩
      have HB : Hid (Below w.heap.size w w1) := hb
      have HT1 : Hid (Tab w1) := tab_below HT.out hb
      clear hb HT TA
      go_wp2
      go_ret
      exact ⟨rfl, HB.out⟩
    · exact absurd hcol HNO.out
  obtain ⟨L, hxs, hL⟩ := nats_of hcl
  have TC : Hid (Calls _ _ _ _ _) := column_any xs0 ao0 cap0 w (by omega) HS.out
  have HM : Hid (HasCells w ao0 (natC L)) := by rw [natC_ints, ← hxs]; exact HS.out.cells
  have hll : xs0.length = L.length := by rw [hxs, List.length_map]
  rw [hll] at TC hl0 h40 d0 d0n dl0 dl0n hlow ⊢
  have hl40 : L.length ≤ 40 := by omega
  have hl1 : 1 ≤ L.length := by omega
  have HSY : Hid (∀ x ∈ L, x < 257) := hL
  clear hcl hxs hll hL HS h40
  have w1a := w1.1
  have w1b := w1.2
  clear w1 w2 hn0 hn1 hlow
  obtain ⟨b1, b2⟩ := rem_in a1 L.length (by omega)
  obtain ⟨R1, hR1⟩ : ∃ R1, Int.tmod a1 (L.length : Int) = R1 := ⟨_, rfl⟩
  rw [hR1] at b1 b2
  obtain ⟨D, hDn, hD⟩ := rem_place R1 L.length b1 b2
  have hnz : ¬ (L.length : Int) = 0 := by omega
  have hnz1 : (((L.length : Nat) : Int) == 0) = false := by rw [beq_eq_false_iff_ne]; omega
  have hwa : IntKind.i64.wrap (R1 + (L.length : Int)) = R1 + (L.length : Int) := by rw [IntKind.wrap_i64]; omega
  go_enter Tryd.func6, Tryd.ntmps6
  go_wp2_with (go_at_call 9; fail)
  refine (TC.out).mono ?_
  rintro e w' ⟨hcol, hww⟩
  obtain rfl := hww.symm
  rcases hcol with rfl | ⟨rfl, -⟩
  · go_wp2_with (go_at_call 10; fail)
    refine (TA.out _ HT.out).mono ?_
    rintro e w1 ⟨rfl, hb⟩
    have HB : Hid (Below w.heap.size w w1) := hb
    have HT1 : Hid (Tab w1) := tab_below HT.out hb
    clear hb HT TA
    go_wp2
    go_ret
    exact ⟨rfl, HB.out⟩
  · skip
    clear TC
    go_wp2_with (go_at_call 10; fail)
    refine (TA.out _ HT.out).mono ?_
    rintro e w1 ⟨rfl, hb⟩
    have HB : Hid (Below w.heap.size w w1) := hb
    have HT1 : Hid (Tab w1) := tab_below HT.out hb
    clear hb HT TA
    have T : Hid (Calls _ _ _ _ _) := newR HB.out HT1.out 6000 (by omega) (by omega)
    go_wp2_with (go_at_call 11; fail)
    refine (T.out).mono ?_
    rintro e w2 ⟨G, S0, rfl, hA, hC, hn, hu, hw⟩
    have HA : Hid (AB w G w2 S0 0 0) := hA
    have HC : Hid (CI S0 []) := hC
    have HN : Hid (S0.n = 6000) := hn
    have HU : Hid (usedN S0.sl ≤ 0) := Nat.le_of_eq hu
    have HW : Hid (S0.wt = []) := hw
    clear hA hC hn hu hw T HT1 HB
    have hAl := HA.out.lt
    have T : Hid (Calls _ _ _ _ _) := build_any HA.out HC.out HW.out HN.out hp HSY.out (by omega) (cap := cap0) HM.out
    go_wp2_with (go_at_call 12; fail)
    refine (T.out).mono ?_
    rintro e w3 ⟨t, S, md, c, rfl, hB⟩
    have HR : Hid (RowW S t L) := hB.row
    have HC2 : Hid (CI S (one t)) := hB.ci
    have HN2 : Hid (S.n = 6000) := hB.n
    have HU2 : Hid (usedN S.sl ≤ 27 * L.length) := hB.used
    have HW2 : Hid (S.wt = []) := hB.wt
    have hmd := hB.hmd
    have hcc := hB.hcc
    have HA2 : Hid (AB w G w3 S md c) := hB.ab
    clear hB T HA HC HN HU HW
    have HA := HA2; have HC := HC2; have HN := HN2; have HU := HU2; have HW := HW2
    clear HA2 HC2 HN2 HU2 HW2
    have T : Hid (Calls _ _ _ _ _) := workR HA.out HC.out (by omega) 1073741824
    go_wp2_with (go_at_call 24; fail)
    refine (T.out).mono ?_
    rintro e w4 ⟨S1, f1, rfl, hA, hC, hK, -, hW, hS⟩
    obtain ⟨hw1x, hu1x⟩ := hW (by have := HU.out; omega)
    have HA1 : Hid (AB w G w4 S1 md c) := hA
    have HC1 : Hid (CI S1 (one t)) := hC
    have HR1 : Hid (RowW S1 t L) := HR.out.carry hC hK one_top
    have HN1 : Hid (S1.n = 6000) := hK.1.trans HN.out
    have HW1 : Hid (S1.wt = []) := hw1x
    have HU1 : Hid (usedN S1.sl = hsWN t) := used_rowW hC hA.inv hw1x one_all HR1.out.held
    have hle27 : usedN S1.sl ≤ 27 * L.length := HR1.out.used hC hA.inv hw1x one_all
    have hN27 : hsWN t ≤ 1080 := by rw [← HU1.out]; omega
    clear HA HC HR HN HU HW T hA hC hK hW hS hw1x hu1x hle27
    have HA := HA1; have HC := HC1; have HR := HR1; have HN := HN1; have HU := HU1; have HW := HW1; clear HA1 HC1 HR1 HN1 HU1 HW1
    have T : Hid (Calls _ _ _ _ _) := usedR HA.out.rd
    rw [HU.out] at T
    go_wp2_with (go_at_call 25; fail)
    refine (T.out).mono ?_
    rintro e w' ⟨rfl, hww⟩
    obtain rfl := hww.symm
    clear T
    have hnn := HN.out
    have huu := HU.out
    have T : Hid (Calls _ _ _ _ _) := insW_fine HA.out HC.out HR.out (by omega) (i := D) (s := s) (by omega) hs (by omega) (by omega) (by omega) hp
    clear hnn huu
    go_wp2_with (go_at_call 17; fail)
    refine (T.out).mono ?_
    rintro e w5 ⟨u, S2, md2, c2, rfl, hA, hC, hG, hRu, h0, hu, hw, hm, hc, hS⟩
    have HA2 : Hid (AB w G w5 S2 md2 c2) := hA
    have HC2 : Hid (CI S2 (one t ++ [u.hd])) := hC
    have HRt : Hid (RowW S2 t L) := HR.out.grows hG
    have HN2 : Hid (S2.n = 6000) := hG.1.trans HN.out
    have HU2 : Hid (usedN S2.sl ≤ hsWN t + 18) := by have := HU.out; show _ ≤ _; omega
    have hmd2 : md2 ≤ 4000 := by omega
    have hcc2 : c2 ≤ 500000 := by omega
    have HT0 : Hid (t.hd ≠ 0) := HR.out.hd0 (fun e => by rw [e] at hl1; exact absurd hl1 (by simp))
    clear HA HC HR HN HU HW T hA hC hG hRu h0 hu hw hm hc hS hmd hcc
    have HA := HA2; have HC := HC2; have HR := HRt; have HN := HN2; have HU := HU2; clear HA2 HC2 HRt HN2 HU2
    have hb : Below w5.heap.size w5 (w5.alloc (.cells #[.int .i64 t.hd] 3)) := (Below.refl _ _).alloc (Nat.le_refl _) _
    have TC : HasCells (w5.alloc (.cells #[.int .i64 t.hd] 3)) (some ⟨w5.heap.size, 0, none⟩) [.int .i64 t.hd] := cells_new w5 [.int .i64 t.hd] 3 _ rfl
    have T : Hid True := trivial
    have hA : AB w G (w5.alloc (.cells #[.int .i64 t.hd] 3)) S2 md2 c2 := HA.out.grow hb
    clear HA T hb
    have HA : Hid (AB _ _ _ _ _ _) := hA
    clear hA
    have T : Hid (Calls _ _ _ _ _) := reachW HA.out HR.out (some ⟨w5.heap.size, 0, none⟩) 1 TC
    clear TC
    go_wp2_with (go_at_call 22; fail)
    refine (T.out).mono ?_
    rintro e w6 ⟨ra1, rc1, rfl, hb⟩
    have hA : AB w G w6 S2 md2 c2 := HA.out.grow hb
    clear HA T hb
    have HA : Hid (AB _ _ _ _ _ _) := hA
    clear hA
    have e1 : (((hsWN t : Nat) : Int) != ((hsWN t : Nat) : Int)) = false := by simp
    have hb : Below w6.heap.size w6 (w6.alloc (.cells #[.int .i64 u.hd, .int .i64 t.hd] 3)) := (Below.refl _ _).alloc (Nat.le_refl _) _
    have TC : HasCells (w6.alloc (.cells #[.int .i64 u.hd, .int .i64 t.hd] 3)) (some ⟨w6.heap.size, 0, none⟩) [.int .i64 u.hd, .int .i64 t.hd] := cells_new w6 [.int .i64 u.hd, .int .i64 t.hd] 3 _ rfl
    have T : Hid True := trivial
    have hA : AB w G (w6.alloc (.cells #[.int .i64 u.hd, .int .i64 t.hd] 3)) S2 md2 c2 := HA.out.grow hb
    clear HA T hb
    have HA : Hid (AB _ _ _ _ _ _) := hA
    clear hA
    have T : Hid (Calls _ _ _ _ _) := reachLe HA.out [u.hd, t.hd] (some ⟨w6.heap.size, 0, none⟩) 2 2 rfl TC (by simp)
    clear TC
    go_wp2_with (go_at_call 22; fail)
    refine (T.out).mono ?_
    rintro e w7 ⟨ra2, r2, rc2, rfl, hr2, hb⟩
    have hA : AB w G w7 S2 md2 c2 := HA.out.grow hb
    clear HA T hb
    have HA : Hid (AB _ _ _ _ _ _) := hA
    clear hA
    have T : Hid (∀ W, _) := fun W => made8_any (L.length + 1) (by omega) W
    rw [show ((L.length + 1 : Nat) : Int) = (L.length : Int) + 1 by omega] at T
    have hwl : IntKind.i64.wrap ((L.length : Int) + 1) = (L.length : Int) + 1 := by rw [IntKind.wrap_i64]; omega
    go_wp2_with (go_at_call 26; fail)
    refine (T.out _).mono ?_
    rintro e w' ⟨⟨kk, rfl, hk1, hk2⟩, hww⟩
    obtain rfl := hww.symm
    clear T hk1
    have hr4 : r2 ≤ hsWN t + 18 := Nat.le_trans hr2 HU.out
    clear hr2
    obtain ⟨q1, hq1⟩ : ∃ q1 : Nat, q1 = 4 + 4 * kk := ⟨_, rfl⟩
    obtain ⟨q2, hq2⟩ : ∃ q2 : Nat, q2 = 1 + q1 := ⟨_, rfl⟩
    obtain ⟨q3, hq3⟩ : ∃ q3 : Nat, q3 = 9 * q2 := ⟨_, rfl⟩
    obtain ⟨q4, hq4⟩ : ∃ q4 : Nat, q4 = hsWN t + q3 := ⟨_, rfl⟩
    have x1 : (4 : Int) + 4 * (kk : Int) = (q1 : Int) := by omega
    have x2 : (1 : Int) + (q1 : Int) = (q2 : Int) := by omega
    have x3 : (9 : Int) * (q2 : Int) = (q3 : Int) := by omega
    have x4 : ((hsWN t : Nat) : Int) + (q3 : Int) = (q4 : Int) := by omega
    have v2 : IntKind.i64.wrap (q2 : Int) = (q2 : Int) := by rw [IntKind.wrap_i64]; omega
    have v3 : IntKind.i64.wrap (q3 : Int) = (q3 : Int) := by rw [IntKind.wrap_i64]; omega
    have v4 : IntKind.i64.wrap (q4 : Int) = (q4 : Int) := by rw [IntKind.wrap_i64]; omega
    have hgt : decide (((q4 : Nat) : Int) < ((r2 : Nat) : Int)) = false := decide_eq_false (by omega)
    have hgtn : decide (q4 < r2) = false := decide_eq_false (by omega)
    rw [x1]
    clear x1 hq1 hq2 hq3 hq4 hr4 hk2
    have hCt : CI S2 ([t.hd] ++ [u.hd]) := by have h := HC.out; rw [one_ne HT0.out] at h; exact h
    have T : Hid (Calls _ _ _ _ _) := dropR HA.out hCt (by omega) (x := u.hd) (by simp)
    clear hCt
    go_wp2_with (go_at_call 23; fail)
    refine (T.out).mono ?_
    rintro e w8 ⟨rfl, hA, hC, hK, hu, hS⟩
    have HR3 : Hid (RowW (S2.drop u.hd) t L) := HR.out.carry hC hK (Or.inr (two_left.2 rfl))
    have HU3 : Hid (usedN (S2.drop u.hd).sl ≤ 2000) := by show _ ≤ _; rw [hu]; have := HU.out; omega
    have T : Hid (Calls _ _ _ _ _) := workR hA hC (by omega) 1073741824
    clear hA hC hK hu hS HA HC HR HU HN
    go_wp2_with (go_at_call 24; fail)
    refine (T.out).mono ?_
    rintro e w9 ⟨S4, f4, rfl, hA, hC, hK, -, hW, hS⟩
    obtain ⟨hw4, -⟩ := hW (by have := HU3.out; omega)
    have HR4 : Hid (RowW S4 t L) := HR3.out.carry hC hK (Or.inr (two_left.2 rfl))
    have hus : usedN S4.sl = hsWN t := used_rowW hC hA.inv hw4 (fun x hx => two_left.1 hx) HR4.out.held
    have T : Hid (Calls _ _ _ _ _) := usedR hA.rd
    rw [hus] at T
    have HA4 : Hid (AB w G w9 S4 md2 c2) := hA
    clear hA hC hK hW hS hw4 hus HR3 HU3
    go_wp2_with (go_at_call 25; fail)
    refine (T.out).mono ?_
    rintro e w' ⟨rfl, hww⟩
    obtain rfl := hww.symm
    clear T
    have HA := HA4; clear HA4
    have e2 : (((hsWN t : Nat) : Int) == ((hsWN t : Nat) : Int)) = true := by simp
    have T : Hid (Calls _ _ _ _ _) := allW HA.out.rd HR4.out (by omega)
    go_wp2_with (go_at_call 20; fail)
    refine (T.out).mono ?_
    rintro e w10 ⟨va, rfl, hO, hb⟩
    obtain ⟨ava, cva, rfl, hcv, -, -, -⟩ := owns_cells hO
    have HCV : Hid (HasCells w10 ava (natC L)) := hcv
    clear hO hcv
    have hA : AB w G w10 S4 md2 c2 := HA.out.grow hb
    clear HA T hb
    have HA : Hid (AB _ _ _ _ _ _) := hA
    clear hA
    have T : Hid (Calls _ _ _ _ _) := sameL (M := L) (L := L) (ca := cva) (cb := cap0) HCV.out (has_later HM.out HA.out.below) (by omega)
    rw [show decide (L = L) = true from decide_eq_true rfl] at T
    go_wp2_with (go_at_call 19; fail)
    refine (T.out).mono ?_
    rintro e wz ⟨rfl, nz, rfl⟩
    have HE : Hid (Below w.heap.size w (w10.drewN nz)) := HA.out.below.drewN nz
    clear HA HR4 HCV T
    go_wp2
    go_ret
    exact ⟨rfl, HE.out⟩

/-! ### The row's step -/
set_option maxRecDepth 100000 in
theorem lifted (os : Os) (started : os.Started) (H : Type) (enc : TypeId × Value → H) :
    ReturnsInHanded {} Tryd.checked os 6 .any (fun w args => (Rows.waveSharesSpec.pre enc Tryd.prog Tryd.f6 [] false w args ∧ laidMetH Tryd.prog laid1 w) ∧ sizedMet enc Tryd.prog Tryd.f6 (OpenSpec.ofChange Rows.waveSharesSpec) false w args) (Rows.waveSharesSpec.post enc Tryd.prog Tryd.f6 false true false false) := by
  refine returnsInHanded_of_change_and (C := Tryd.checked) (X := fun w _ => laidMetH Tryd.prog laid1 w) (fun _ _ _ hh h => h.of_heap hh) Tryd.own started (by kernel_rfl) Tryd.func6
    (ChangeSpec.witness_shaped (enc := enc) (C := Tryd.checked) (os := os) (X := fun w _ => laidMetH Tryd.prog laid1 w) false (World.doorLaid Tryd.prog 400 os) #[.slice none 0 0, .int .i64 0, .int .i64 0] 8 rfl (World.shaped_of_RefB (by kernel_rfl) (by kernel_rfl)) (by kernel_rfl) (by kernel_rfl) (by kernel_rfl) (door_met os _)) ?_
  intro W base args ds gs before hval0 hW _ _ hL _
  have hval : ∀ (j : Nat) t v, Tryd.f6.params[j]? = some t → args[j]? = some v → Value.okWide Tryd.prog W .any base t v := hval0
  have hW' := hW
  obtain ⟨p, q, hA0, hV, rfl, hfz, hnd⟩ := hW
  have hA : DataW.TrodAll enc Tryd.prog W 0 (fun _ => true) true Tryd.f6.params.toList args.toList ds p := hA0
  rw [Tryd.params6] at hA hval
  obtain ⟨v0, vs0, d0, ds0, p0, q0, hargs, rfl, rfl, h0, r0⟩ := trodAll_cons hA
  obtain ⟨v1, vs1, d1, ds1, p1, q1, rfl, rfl, rfl, h1, r1⟩ := trodAll_cons r0
  obtain ⟨v2, vs2, d2, ds2, p2, q2, rfl, rfl, rfl, h2, r2⟩ := trodAll_cons r1
  obtain ⟨rfl, rfl, rfl⟩ := trodAll_nil r2
  obtain rfl : args = #[v0, v1, v2] := by cases args; simp_all
  obtain ⟨rfl, rfl⟩ := trodVars_none hV
  obtain ⟨ao0, xs0, cap0, rfl, hs0, hz0, hl0, hm0, hn0⟩ := open_nums (hval 0 22 v0 rfl rfl) h0
  obtain ⟨a1, rfl, rfl, rfl, wf1⟩ := open_int Tryd.underlying3 (hval 1 3 v1 rfl rfl) h1
  have w1 := wf_i64 wf1
  obtain ⟨a2, rfl, rfl, rfl, wf2⟩ := open_int Tryd.underlying3 (hval 2 3 v2 rfl rfl) h2
  have w2 := wf_i64 wf2
  clear hA0 hval0
  simp only [List.append_nil] at hW'
  refine (walk ao0 xs0 cap0 a1 a2 W (of_laid hL) hs0 hz0 hl0 hm0 hn0 w1 w2).mono fun e W' ⟨he, hg⟩ => ?_
  subst he
  exact ⟨_, rfl, post_carry Tryd.laidOut (by rw [Tryd.params6]; intro t ht; simp only [List.mem_cons, List.not_mem_nil, or_false] at ht; rcases ht with rfl | rfl | rfl <;> exact ⟨by kernel_rfl, of_decide_eq_true (by kernel_rfl)⟩) rfl hW' (fun _ _ _ => (trodAll_cons_mk (shut_bool Tryd.underlying4 _) trodAll_mk0)) rfl rfl hg⟩

theorem over : Rows.waveSharesRow.holds Tryd.pinned (OpenSpec.ofChange Rows.waveSharesSpec) :=
  OpenClaim.holds_of_wide 6 Tryd.f6 rfl rfl rfl rfl rfl rfl rfl ⟨rfl, rfl, rfl, rfl, rfl⟩ rfl rfl rfl rfl rfl (by kernel_rfl) Tryd.func6 (by kernel_rfl)
    (of_decide_eq_true (by kernel_rfl)) (by unfold Func.isWrapper; first | (rw [if_pos (by decide +kernel)]; kernel_rfl) | (rw [if_neg (by decide +kernel)]; exact ⟨rfl, rfl⟩))
    (fun os started H enc _ => lifted os started H enc)

end Go.Proofs.YtjbiofjfjljeoaaDoor.waveShares

namespace Go.Proofs.YtjbiofjfjljeoaaDoor
/-- the row -/
theorem waveShares_row : Rows.WaveSharesSaid := waveShares.over

/-- the statement: the tied card -/
theorem waveShares_holds : Rows.WaveSharesCardSaid :=
  Claim7.holds_tied_plain_at .later [] [.data] true Rows.waveSharesCard.stood.harness false
    waveShares_row (fun _ h => by cases h) (by kernel_rfl) (fun _ h => by cases h) waveShares_row_tie rfl ⟨rfl, rfl⟩ (by kernel_rfl) rfl
    (fun f fn hf hfn => by
      obtain rfl : f = 6 := Option.some.inj ((show Tryd.prog.funcNamed "scrinium/scriniumlaw9.WaveShares" = some 6 by kernel_rfl).symm.trans hf) |>.symm
      obtain rfl : fn = Tryd.f6 := (Option.some.inj (Tryd.func6.symm.trans hfn)).symm
      exact ⟨by kernel_rfl, fun j t ht => by
        rw [Tryd.params6] at ht
        have hm : t ∈ [22, 3, 3] := by simpa using Array.mem_of_getElem? ht
        have hall : ([22, 3, 3].all fun u => !Tryd.prog.wantsStandIn u) = true := by kernel_rfl
        exact (show Tryd.prog.wantsStandIn t = false by simpa using List.all_eq_true.1 hall t hm)⟩)
    (by kernel_rfl)
#print axioms waveShares_holds
end Go.Proofs.YtjbiofjfjljeoaaDoor
