/- Of one symbol alone, so often, the row is that, and of symbols that rise all are there in their order: for all numbers up to 60. -/
import Derived.Test.YtjbiofjfjljeoaaDoorPc7
import Derived.Test.YtjbiofjfjljeoaaDoorCards
import Derived.Test.YtjbiofjfjljeoaaDoorTie
import Derived.SevenTiedAt
namespace Go.Proofs.YtjbiofjfjljeoaaDoor.waveMany
open Go.ChangeShapes Go.WideShapes Go.ChangeAt Go.RowKit Go.Proofs.YtjbiofjfjljeoaaDoor.Wx
set_option linter.unusedVariables false


/-! ### The walk -/
set_option maxRecDepth 100000 in
set_option maxHeartbeats 2000000 in
theorem walk (a0 : Int) (a1 : Int) (w : World) (hT : Tab w) (w0 : -9223372036854775808 ≤ a0 ∧ a0 ≤ 9223372036854775807) (w1 : -9223372036854775808 ≤ a1 ∧ a1 ≤ 9223372036854775807) :
    Calls Tryd.prog 8 #[.int .i64 a0, .int .i64 a1] w fun e w' => e = .returned (.bool true) ∧ Below w.heap.size w w' := by
  have TA : Hid (∀ W, Tab W → _) := fun W h => alive9 W h
  have HT : Hid (Tab w) := hT
  have hp : 0 < w.heap.size := tab_pos hT
  clear hT
  have w0a := w0.1
  have w0b := w0.2
  have w1a := w1.1
  have w1b := w1.2
  clear w0 w1
  by_cases ha : a0 < 0
  · have dha : decide (a0 < 0) = true := decide_eq_true ha
    go_enter Tryd.func8, Tryd.ntmps8
    go_wp2_with (go_at_call 10; fail)
    refine (TA.out _ HT.out).mono ?_
    rintro e w1 ⟨rfl, hb⟩
    have HB : Hid (Below w.heap.size w w1) := hb
    have HT1 : Hid (Tab w1) := tab_below HT.out hb
    clear hb HT TA
    go_wp2
    go_ret
    exact ⟨rfl, HB.out⟩
  have dha : decide (a0 < 0) = false := decide_eq_false ha
  by_cases hb : 60 < a0
  · have dhb : decide (60 < a0) = true := decide_eq_true hb
    go_enter Tryd.func8, Tryd.ntmps8
    go_wp2_with (go_at_call 10; fail)
    refine (TA.out _ HT.out).mono ?_
    rintro e w1 ⟨rfl, hb⟩
    have HB : Hid (Below w.heap.size w w1) := hb
    have HT1 : Hid (Tab w1) := tab_below HT.out hb
    clear hb HT TA
    go_wp2
    go_ret
    exact ⟨rfl, HB.out⟩
  have dhb : decide (60 < a0) = false := decide_eq_false hb
  by_cases hc : a1 < 0
  · have dhc : decide (a1 < 0) = true := decide_eq_true hc
    go_enter Tryd.func8, Tryd.ntmps8
    go_wp2_with (go_at_call 10; fail)
    refine (TA.out _ HT.out).mono ?_
    rintro e w1 ⟨rfl, hb⟩
    have HB : Hid (Below w.heap.size w w1) := hb
    have HT1 : Hid (Tab w1) := tab_below HT.out hb
    clear hb HT TA
    go_wp2
    go_ret
    exact ⟨rfl, HB.out⟩
  have dhc : decide (a1 < 0) = false := decide_eq_false hc
  by_cases hd : 257 ≤ a1
  · have dhd : decide (257 ≤ a1) = true := decide_eq_true hd
    go_enter Tryd.func8, Tryd.ntmps8
    go_wp2_with (go_at_call 10; fail)
    refine (TA.out _ HT.out).mono ?_
    rintro e w1 ⟨rfl, hb⟩
    have HB : Hid (Below w.heap.size w w1) := hb
    have HT1 : Hid (Tab w1) := tab_below HT.out hb
    clear hb HT TA
    go_wp2
    go_ret
    exact ⟨rfl, HB.out⟩
  have dhd : decide (257 ≤ a1) = false := decide_eq_false hd
  obtain ⟨n, rfl⟩ : ∃ n : Nat, a0 = (n : Nat) := ⟨a0.toNat, by omega⟩
  obtain ⟨s, rfl⟩ : ∃ s : Nat, a1 = (s : Nat) := ⟨a1.toNat, by omega⟩
  have hs : s < 257 := by omega
  have hn : n ≤ 60 := by omega
  have hwn : IntKind.i64.wrap ((s : Int) + (n : Int)) = (s : Int) + (n : Int) := by rw [IntKind.wrap_i64]; omega
  by_cases he : 257 < (s : Int) + (n : Int)
  · have dhe : decide (257 < (s : Int) + (n : Int)) = true := decide_eq_true he
    go_enter Tryd.func8, Tryd.ntmps8
    go_wp2_with (go_at_call 10; fail)
    refine (TA.out _ HT.out).mono ?_
    rintro e w1 ⟨rfl, hb⟩
    have HB : Hid (Below w.heap.size w w1) := hb
    have HT1 : Hid (Tab w1) := tab_below HT.out hb
    clear hb HT TA
    go_wp2
    go_ret
    exact ⟨rfl, HB.out⟩
  have dhe : decide (257 < (s : Int) + (n : Int)) = false := decide_eq_false he
  have hsn : s + n ≤ 257 := by omega
  clear w0a w0b w1a w1b ha hb hc hd he
  go_enter Tryd.func8, Tryd.ntmps8
  go_wp2_with (go_at_call 10; fail)
  refine (TA.out _ HT.out).mono ?_
  rintro e w1 ⟨rfl, hb⟩
  have HB : Hid (Below w.heap.size w w1) := hb
  have HT1 : Hid (Tab w1) := tab_below HT.out hb
  clear hb HT TA
  have T : Hid (Calls _ _ _ _ _) := newR HB.out HT1.out 6000 (by omega) (by omega)
  go_wp2_with (go_at_call 11; fail)
  refine (T.out).mono ?_
  rintro e w2 ⟨G, S0, rfl, hA, hC, hn, hu, hw⟩
  have HA : Hid (AB w G w2 S0 0 0) := hA
  have HC : Hid (CI S0 []) := hC
  have HN : Hid (S0.n = 6000) := hn
  have HU : Hid (usedN S0.sl ≤ 0) := Nat.le_of_eq hu
  have HW : Hid (S0.wt = []) := hw
  clear hA hC hn hu hw T HT1 HB
  have hAl := HA.out.lt
  have HB0 : Hid (MyB w G S0 s 0 .nil .nil 0 0 w2) := ⟨HA.out, HC.out, RowW.none S0, RowW.none S0, HN.out, HW.out, Nat.le_refl _, Nat.le_refl _⟩
  clear HA HC HN HU HW
  go_wp2
  go_loopw [6, 7, 8] (fun hv gv kv wr => ∃ (k : Nat) (t u : Wt) (S : St) (md c : Nat), k ≤ n ∧ hv = .int .i64 t.hd ∧ gv = .int .i64 u.hd ∧ kv = .int .i64 (k : Nat) ∧ Hid (MyB w G S s k t u md c wr)) (fun _ _ i _ => n - (intOf i).toNat)
  case atStart => exact ⟨0, .nil, .nil, S0, 0, 0, by omega, rfl, rfl, rfl, HB0⟩
  case round =>
    obtain ⟨k, t, u, S, md, c, hk, rfl, rfl, rfl, HB⟩ := hrel
    clear HB0
    by_cases hlt : k < n
    · have q0 : decide ((k : Int) < (n : Int)) = true := decide_eq_true (by omega)
      have q1 : decide (k < n) = true := decide_eq_true hlt
      have hus := HB.out.used
      have hnn := HB.out.n
      have hmd := HB.out.hmd
      have hcc := HB.out.hcc
      have T : Hid (Calls _ _ _ _ _) := insW_row HB.out.ab HB.out.ci HB.out.rh (by rw [List.length_replicate]; omega) (i := 0) (s := s) (Nat.zero_le _) hs (by omega) (by omega) (by omega) hp
      rw [insL_head, show ((0 : Nat) : Int) = 0 from rfl] at T
      go_wp2_with (go_at_call 17; fail)
      refine (T.out).mono ?_
      rintro e w2 ⟨x, S2, md2, c2, rfl, hA, hC, hG, hR, h0, hu, hw, hm, hc, hS⟩
      have HRG : Hid (RowW S2 u (List.range' s k)) := HB.out.rg.grows hG
      have HRX : Hid (RowW S2 x (List.replicate (k + 1) s)) := hR
      have HN2 : Hid (S2.n = 6000) := hG.1.trans hnn
      have HX0 : Hid (x.hd ≠ 0) := h0
      have HT0 : Hid (t.hd = 0 ↔ k = 0) := by show _ ↔ _; rw [HB.out.rh.zero]; cases k <;> simp
      have HU0 : Hid (u.hd = 0 ↔ k = 0) := by show _ ↔ _; rw [HB.out.rg.zero]; cases k <;> simp
      have hws : IntKind.i64.wrap ((s : Int) + (k : Int)) = ((s + k : Nat) : Int) := by rw [IntKind.wrap_i64]; omega
      have T : Hid (Calls _ _ _ _ _) := insW_row hA hC HRG.out (by rw [List.length_range']; omega) (i := k) (s := s + k) (by rw [List.length_range']; omega) (by omega) (by have := HN2.out; omega) (by omega) (by omega) hp
      rw [insL_rise] at T
      have hus2 : usedN S2.sl ≤ 54 * k + 72 := by omega
      have hmd2 : md2 ≤ 144 * k + 72 := by omega
      have hcc2 : c2 ≤ 23490 * k + 11745 := by omega
      clear hA hC hG hR h0 hu hw hm hc hS HB hus hnn hmd hcc
      go_wp2_with (go_at_call 17; fail)
      refine (T.out).mono ?_
      rintro e w3 ⟨y, S3, md3, c3, rfl, hA, hC, hG, hR, h0, hu, hw, hm, hc, hS⟩
      have HA3 : Hid (AB w G w3 S3 md3 c3) := hA
      have HC3 : Hid (CI S3 (one t ++ one u ++ [x.hd] ++ [y.hd])) := hC
      have HX3 : Hid (RowW S3 x (List.replicate (k + 1) s)) := HRX.out.grows hG
      have HY3 : Hid (RowW S3 y (List.range' s (k + 1))) := hR
      have HN3 : Hid (S3.n = 6000) := hG.1.trans HN2.out
      have HY0 : Hid (y.hd ≠ 0) := h0
      have HU3 : Hid (usedN S3.sl ≤ 54 * k + 144) := by show _ ≤ _; omega
      have hmd3 : md3 ≤ 144 * (k + 1) := by omega
      have hcc3 : c3 ≤ 23490 * (k + 1) := by omega
      have hon : one x ++ one y = [x.hd, y.hd] := by rw [one_ne HX0.out, one_ne HY0.out]; rfl
      clear hA hC hG hR h0 hu hw hm hc hS T HRG HRX HN2 hus2 hmd2 hcc2
      by_cases hk0 : k = 0
      · have ht := HT0.out.2 hk0
        have hu := HU0.out.2 hk0
        rw [ht, hu]
        have hC : CI S3 [x.hd, y.hd] := by
          have h := HC3.out
          rw [one_eq ht, one_eq hu] at h
          exact h
        have T : Hid (Calls _ _ _ _ _) := workR HA3.out hC (by omega) 1073741824
        clear hC HC3
        go_wp2_with (go_at_call 24; fail)
        refine (T.out).mono ?_
        rintro e w4 ⟨S4, f, rfl, hA, hC, hK, -, hW, hS⟩
        obtain ⟨hw4, -⟩ := hW (by have := HU3.out; omega)
        have HB4 : Hid (MyB w G S4 s (k + 1) x y md3 c3 w4) := ⟨hA, by rw [hon]; exact hC, HX3.out.carry hC hK (.inr (by simp)), HY3.out.carry hC hK (.inr (by simp)), hK.1.trans HN3.out, hw4, hmd3, hcc3⟩
        clear hA hC hK hW hS hw4 T HA3 HX3 HY3
        go_wp2
        go_roundw
        case rel => exact ⟨k + 1, x, y, S4, md3, c3, by omega, rfl, rfl, by go_num, HB4⟩
        case measure => simp [intOf]; omega
      · have ht : t.hd ≠ 0 := fun e => hk0 (HT0.out.1 e)
        have hu : u.hd ≠ 0 := fun e => hk0 (HU0.out.1 e)
        have q2 : (t.hd != 0) = true := by rw [bne_iff_ne]; exact ht
        have q3 : (u.hd != 0) = true := by rw [bne_iff_ne]; exact hu
        have hC : CI S3 [t.hd, u.hd, x.hd, y.hd] := by
          have h := HC3.out
          rw [one_ne ht, one_ne hu] at h
          exact h
        have T : Hid (Calls _ _ _ _ _) := dropR HA3.out hC (by omega) (x := t.hd) (by simp)
        clear hC HC3
        go_wp2_with (go_at_call 23; fail)
        refine (T.out).mono ?_
        rintro e w4 ⟨rfl, hA, hC, hK, hu4, hS⟩
        rw [List.erase_cons_head] at hC
        have HX4 : Hid (RowW (S3.drop t.hd) x (List.replicate (k + 1) s)) := HX3.out.carry hC hK (.inr (by simp))
        have HY4 : Hid (RowW (S3.drop t.hd) y (List.range' s (k + 1))) := HY3.out.carry hC hK (.inr (by simp))
        have HN4 : Hid ((S3.drop t.hd).n = 6000) := hK.1.trans HN3.out
        have HU4 : Hid (usedN (S3.drop t.hd).sl ≤ 54 * k + 144) := by show _ ≤ _; rw [hu4]; exact HU3.out
        have T : Hid (Calls _ _ _ _ _) := dropR hA hC (by omega) (x := u.hd) (by simp)
        clear hA hC hK hu4 hS HA3 HX3 HY3 HN3 HU3
        go_wp2_with (go_at_call 23; fail)
        refine (T.out).mono ?_
        rintro e w5 ⟨rfl, hA, hC, hK, hu5, hS⟩
        rw [List.erase_cons_head] at hC
        have HX5 : Hid (RowW ((S3.drop t.hd).drop u.hd) x (List.replicate (k + 1) s)) := HX4.out.carry hC hK (.inr (by simp))
        have HY5 : Hid (RowW ((S3.drop t.hd).drop u.hd) y (List.range' s (k + 1))) := HY4.out.carry hC hK (.inr (by simp))
        have HN5 : Hid (((S3.drop t.hd).drop u.hd).n = 6000) := hK.1.trans HN4.out
        have HU5 : Hid (usedN ((S3.drop t.hd).drop u.hd).sl ≤ 54 * k + 144) := by show _ ≤ _; rw [hu5]; exact HU4.out
        have T : Hid (Calls _ _ _ _ _) := workR hA hC (by omega) 1073741824
        clear hA hC hK hu5 hS HX4 HY4 HN4 HU4
        go_wp2_with (go_at_call 24; fail)
        refine (T.out).mono ?_
        rintro e w6 ⟨S4, f, rfl, hA, hC, hK, -, hW, hS⟩
        obtain ⟨hw4, -⟩ := hW (by have := HU5.out; omega)
        have HB4 : Hid (MyB w G S4 s (k + 1) x y md3 c3 w6) := ⟨hA, by rw [hon]; exact hC, HX5.out.carry hC hK (.inr (by simp)), HY5.out.carry hC hK (.inr (by simp)), hK.1.trans HN5.out, hw4, hmd3, hcc3⟩
        clear hA hC hK hW hS hw4 T HX5 HY5
        go_wp2
        go_roundw
        case rel => exact ⟨k + 1, x, y, S4, md3, c3, by omega, rfl, rfl, by go_num, HB4⟩
        case measure => simp [intOf]; omega
    · obtain rfl : k = n := by omega
      have q0 : decide ((k : Int) < (k : Int)) = false := decide_eq_false (by omega)
      have q1 : decide (k < k) = false := decide_eq_false (by omega)
      have HA : Hid (AB w G wr S md c) := HB.out.ab
      have HRH : Hid (RowW S t (List.replicate k s)) := HB.out.rh
      have HRG : Hid (RowW S u (List.range' s k)) := HB.out.rg
      have hlr : (List.replicate k s).length = k := List.length_replicate
      have hlg : (List.range' s k).length = k := List.length_range'
      clear HB
      have hw1 : IntKind.i64.wrap ((s : Int) + 1) = ((s + 1 : Nat) : Int) := by rw [IntKind.wrap_i64]; omega
      have e0 : (((k : Nat) : Int) != ((k : Nat) : Int)) = false := by simp
      have T : Hid (Calls _ _ _ _ _) := rankW HA.out.rd HRH.out (by omega) (i := k) (by omega) hs
      rw [List.take_of_length_le (show (List.replicate k s).length ≤ k by omega)] at T
      rw [count_same] at T
      go_wp2_with (go_at_call 13; fail)
      refine (T.out).mono ?_
      rintro e w21 ⟨rfl, hb⟩
      have hA : AB w G w21 S md c := HA.out.grow hb
      clear HA T hb
      have HA : Hid (AB _ _ _ _ _ _) := hA
      clear hA
      have T : Hid (Calls _ _ _ _ _) := beforeW HA.out.rd HRH.out (by omega) (s := s + 1) (by omega)
      rw [before_same] at T
      go_wp2_with (go_at_call 15; fail)
      refine (T.out).mono ?_
      rintro e w22 ⟨rfl, hb⟩
      have hA : AB w G w22 S md c := HA.out.grow hb
      clear HA T hb
      have HA : Hid (AB _ _ _ _ _ _) := hA
      clear hA
      have T : Hid (Calls _ _ _ _ _) := beforeW HA.out.rd HRH.out (by omega) (s := s) (by omega)
      rw [before_none] at T
      rw [show ((0 : Nat) : Int) = 0 from rfl] at T
      go_wp2_with (go_at_call 15; fail)
      refine (T.out).mono ?_
      rintro e w23 ⟨rfl, hb⟩
      have hA : AB w G w23 S md c := HA.out.grow hb
      clear HA T hb
      have HA : Hid (AB _ _ _ _ _ _) := hA
      clear hA
      have T : Hid (Calls _ _ _ _ _) := lenW HA.out.rd HRG.out
      rw [hlg] at T
      go_wp2_with (go_at_call 21; fail)
      refine (T.out).mono ?_
      rintro e w24 ⟨rfl, hb⟩
      have hA : AB w G w24 S md c := HA.out.grow hb
      clear HA T hb
      have HA : Hid (AB _ _ _ _ _ _) := hA
      clear hA
      go_wp2
      go_loopw [13] (fun jv wr2 => ∃ j : Nat, j ≤ k ∧ jv = .int .i64 (j : Nat) ∧ Hid (AB w G wr2 S md c)) (fun i _ => k - (intOf i).toNat)
      case atStart => exact ⟨0, by omega, rfl, HA⟩
      case round =>
      obtain ⟨j, hj, rfl, HA2⟩ := hrel
      clear HA
      have HA : Hid (AB w G _ S md c) := HA2
      clear HA2
      by_cases hjl : j < k
      · have q2 : decide ((j : Int) < (k : Int)) = true := decide_eq_true (by omega)
        have q3 : decide (j < k) = true := decide_eq_true hjl
        have hws : IntKind.i64.wrap ((s : Int) + (j : Int)) = ((s + j : Nat) : Int) := by rw [IntKind.wrap_i64]; omega
        have e1 : ((((s + j : Nat)) : Int) != ((s + j : Nat) : Int)) = false := by simp
        have e2 : (((j : Nat) : Int) != ((j : Nat) : Int)) = false := by simp
        have hsj : s + j < 257 := by omega
        have HLT : Hid (j < k) := hjl
        have HBR : Hid ((List.range' s k).countP (fun x => decide (x < s + j)) = j) := before_rise (by omega)
        have HGE : Hid ((List.range' s k)[j]? = some (s + j)) := rise_get hjl
        generalize hsjn : s + j = sj at *
        have T : Hid (Calls _ _ _ _ _) := getW_in HA.out.rd HRG.out (by omega) HGE.out
        go_wp2_with (go_at_call 16; fail)
        refine (T.out).mono ?_
        rintro e w41 ⟨rfl, hb⟩
        have hA : AB w G w41 S md c := HA.out.grow hb
        clear HA T hb
        have HA : Hid (AB _ _ _ _ _ _) := hA
        clear hA
        have T : Hid (Calls _ _ _ _ _) := beforeW HA.out.rd HRG.out (by omega) (s := sj) (by omega)
        rw [HBR.out] at T
        go_wp2_with (go_at_call 15; fail)
        refine (T.out).mono ?_
        rintro e w42 ⟨rfl, hb⟩
        have hA : AB w G w42 S md c := HA.out.grow hb
        clear HA T hb
        have HA : Hid (AB _ _ _ _ _ _) := hA
        clear hA
        obtain ⟨r1, hr1, hsel⟩ := selectW HA.out.rd HRG.out (by omega) (j := 0) hsj (by omega)
        obtain rfl : r1 = (j : Nat) := by rw [← hsjn] at hr1; exact sel_rise HLT.out hr1
        clear hr1
        have T : Hid (Calls _ _ _ _ _) := hsel
        go_wp2_with (go_at_call 14; fail)
        refine (T.out).mono ?_
        rintro e w43 ⟨rfl, hb⟩
        have hA : AB w G w43 S md c := HA.out.grow hb
        clear HA T hb
        have HA : Hid (AB _ _ _ _ _ _) := hA
        clear hA
        clear hsel
        obtain ⟨r2, hr2, hsel⟩ := selectW HA.out.rd HRH.out (by omega) (j := (j : Nat)) hs (by omega)
        obtain rfl : r2 = (j : Nat) := sel_same HLT.out hr2
        clear hr2
        have T : Hid (Calls _ _ _ _ _) := hsel
        go_wp2_with (go_at_call 14; fail)
        refine (T.out).mono ?_
        rintro e w44 ⟨rfl, hb⟩
        have hA : AB w G w44 S md c := HA.out.grow hb
        clear HA T hb
        have HA : Hid (AB _ _ _ _ _ _) := hA
        clear hA
        clear hsel HLT HBR HGE
        go_wp2
        go_roundw
        case rel => exact ⟨j + 1, by omega, by go_num, HA⟩
        case measure => simp [intOf]; omega
      · obtain rfl : j = k := by omega
        have q2 : decide ((j : Int) < (j : Int)) = false := decide_eq_false (by omega)
        have q3 : decide (j < j) = false := decide_eq_false (by omega)
        have HE : Hid (Below _ _ _) := HA.out.below
        clear HA HRH HRG
        go_wp2
        go_ret
        exact ⟨rfl, HE.out⟩

/-! ### The row's step -/
set_option maxRecDepth 100000 in
theorem lifted (os : Os) (started : os.Started) (H : Type) (enc : TypeId × Value → H) :
    ReturnsInHanded {} Tryd.checked os 8 .any (fun w args => (Rows.waveManySpec.pre enc Tryd.prog Tryd.f8 [] false w args ∧ laidMetH Tryd.prog laid1 w) ∧ sizedMet enc Tryd.prog Tryd.f8 (OpenSpec.ofChange Rows.waveManySpec) false w args) (Rows.waveManySpec.post enc Tryd.prog Tryd.f8 false true false false) := by
  refine returnsInHanded_of_change_and (C := Tryd.checked) (X := fun w _ => laidMetH Tryd.prog laid1 w) (fun _ _ _ hh h => h.of_heap hh) Tryd.own started (by kernel_rfl) Tryd.func8
    (ChangeSpec.witness_shaped (enc := enc) (C := Tryd.checked) (os := os) (X := fun w _ => laidMetH Tryd.prog laid1 w) false (World.doorLaid Tryd.prog 400 os) #[.int .i64 0, .int .i64 0] 8 rfl (World.shaped_of_RefB (by kernel_rfl) (by kernel_rfl)) (by kernel_rfl) (by kernel_rfl) (by kernel_rfl) (door_met os _)) ?_
  intro W base args ds gs before hval0 hW _ _ hL _
  have hval : ∀ (j : Nat) t v, Tryd.f8.params[j]? = some t → args[j]? = some v → Value.okWide Tryd.prog W .any base t v := hval0
  have hW' := hW
  obtain ⟨p, q, hA0, hV, rfl, hfz, hnd⟩ := hW
  have hA : DataW.TrodAll enc Tryd.prog W 0 (fun _ => true) true Tryd.f8.params.toList args.toList ds p := hA0
  rw [Tryd.params8] at hA hval
  obtain ⟨v0, vs0, d0, ds0, p0, q0, hargs, rfl, rfl, h0, r0⟩ := trodAll_cons hA
  obtain ⟨v1, vs1, d1, ds1, p1, q1, rfl, rfl, rfl, h1, r1⟩ := trodAll_cons r0
  obtain ⟨rfl, rfl, rfl⟩ := trodAll_nil r1
  obtain rfl : args = #[v0, v1] := by cases args; simp_all
  obtain ⟨rfl, rfl⟩ := trodVars_none hV
  obtain ⟨a0, rfl, rfl, rfl, wf0⟩ := open_int Tryd.underlying3 (hval 0 3 v0 rfl rfl) h0
  have w0 := wf_i64 wf0
  obtain ⟨a1, rfl, rfl, rfl, wf1⟩ := open_int Tryd.underlying3 (hval 1 3 v1 rfl rfl) h1
  have w1 := wf_i64 wf1
  clear hA0 hval0
  simp only [List.append_nil] at hW'
  refine (walk a0 a1 W (of_laid hL) w0 w1).mono fun e W' ⟨he, hg⟩ => ?_
  subst he
  exact ⟨_, rfl, post_carry Tryd.laidOut (by rw [Tryd.params8]; intro t ht; simp only [List.mem_cons, List.not_mem_nil, or_false] at ht; rcases ht with rfl | rfl <;> exact ⟨by kernel_rfl, of_decide_eq_true (by kernel_rfl)⟩) rfl hW' (fun _ _ _ => (trodAll_cons_mk (shut_bool Tryd.underlying4 _) trodAll_mk0)) rfl rfl hg⟩

theorem over : Rows.waveManyRow.holds Tryd.pinned (OpenSpec.ofChange Rows.waveManySpec) :=
  OpenClaim.holds_of_wide 8 Tryd.f8 rfl rfl rfl rfl rfl rfl rfl ⟨rfl, rfl, rfl, rfl, rfl⟩ rfl rfl rfl rfl rfl (by kernel_rfl) Tryd.func8 (by kernel_rfl)
    (of_decide_eq_true (by kernel_rfl)) (by unfold Func.isWrapper; first | (rw [if_pos (by decide +kernel)]; kernel_rfl) | (rw [if_neg (by decide +kernel)]; exact ⟨rfl, rfl⟩))
    (fun os started H enc _ => lifted os started H enc)

end Go.Proofs.YtjbiofjfjljeoaaDoor.waveMany

namespace Go.Proofs.YtjbiofjfjljeoaaDoor
/-- the row -/
theorem waveMany_row : Rows.WaveManySaid := waveMany.over

/-- the statement: the tied card -/
theorem waveMany_holds : Rows.WaveManyCardSaid :=
  Claim7.holds_tied_plain_at .later [] [.data] true Rows.waveManyCard.stood.harness false
    waveMany_row (fun _ h => by cases h) (by kernel_rfl) (fun _ h => by cases h) waveMany_row_tie rfl ⟨rfl, rfl⟩ (by kernel_rfl) rfl
    (fun f fn hf hfn => by
      obtain rfl : f = 8 := Option.some.inj ((show Tryd.prog.funcNamed "scrinium/scriniumlaw9.WaveMany" = some 8 by kernel_rfl).symm.trans hf) |>.symm
      obtain rfl : fn = Tryd.f8 := (Option.some.inj (Tryd.func8.symm.trans hfn)).symm
      exact ⟨by kernel_rfl, fun j t ht => by
        rw [Tryd.params8] at ht
        have hm : t ∈ [3, 3] := by simpa using Array.mem_of_getElem? ht
        have hall : ([3, 3].all fun u => !Tryd.prog.wantsStandIn u) = true := by kernel_rfl
        exact (show Tryd.prog.wantsStandIn t = false by simpa using List.all_eq_true.1 hall t hm)⟩)
    (by kernel_rfl)
#print axioms waveMany_holds
end Go.Proofs.YtjbiofjfjljeoaaDoor
