/- Pairs that are put in at one end only, or taken out there, leave a list that is not deep: for all numbers up to 200. -/
import Derived.Test.YtfigihlahmgloaaDoorSh
import Derived.Test.YtfigihlahmgloaaDoorLsY
import Derived.Test.YtfigihlahmgloaaDoorLsR2
import Derived.Test.YtfigihlahmgloaaDoorCards
import Derived.Test.YtfigihlahmgloaaDoorTie
import Derived.SevenTiedAt
namespace Go.Proofs.YtfigihlahmgloaaDoor.listFront
open Go.ChangeShapes Go.WideShapes Go.ChangeAt Go.RowKit Go.Proofs.YtfigihlahmgloaaDoor.Ls
set_option linter.unusedVariables false


/-! ### The walk -/
set_option maxRecDepth 100000 in
set_option maxHeartbeats 2000000 in
theorem walk (a0 : Int) (a1 : Int) (a2 : Bool) (w : World) (hT : Tab w) (w0 : -9223372036854775808 ≤ a0 ∧ a0 ≤ 9223372036854775807) (w1 : -9223372036854775808 ≤ a1 ∧ a1 ≤ 9223372036854775807) :
    Calls Tryd.prog 5 #[.int .i64 a0, .int .i64 a1, .bool a2] w fun e w' => e = .returned (.bool true) ∧ Below w.heap.size w w' := by
  have TA : Hid (∀ W, Tab W → _) := fun W h => alive10 W h
  have HT : Hid (Tab w) := hT
  clear hT
  by_cases h1 : a0 < 0
  · clear w0 w1
    have d0 : decide (a0 < 0) = true := decide_eq_true (by omega)
    clear h1
    go_enter Tryd.func5, Tryd.ntmps5
    go_wp2_with (go_at_call 9; fail)
    refine (TA.out _ HT.out).mono ?_
    rintro e w1 ⟨rfl, hb⟩
    have HB : Hid (Below w.heap.size w w1) := hb
    have HT1 : Hid (Tab w1) := tab_below HT.out hb
    clear hb HT TA
    go_wp2
    go_ret
    exact ⟨rfl, HB.out⟩
  by_cases h2 : 200 < a0
  · clear w0 w1
    have d0 : decide (a0 < 0) = false := decide_eq_false (by omega)
    have d1 : decide (200 < a0) = true := decide_eq_true (by omega)
    clear h1 h2
    go_enter Tryd.func5, Tryd.ntmps5
    go_wp2_with (go_at_call 9; fail)
    refine (TA.out _ HT.out).mono ?_
    rintro e w1 ⟨rfl, hb⟩
    have HB : Hid (Below w.heap.size w w1) := hb
    have HT1 : Hid (Tab w1) := tab_below HT.out hb
    clear hb HT TA
    go_wp2
    go_ret
    exact ⟨rfl, HB.out⟩
  by_cases h3 : a1 < 0
  · clear w0 w1
    have d0 : decide (a0 < 0) = false := decide_eq_false (by omega)
    have d1 : decide (200 < a0) = false := decide_eq_false (by omega)
    have d2 : decide (a1 < 0) = true := decide_eq_true (by omega)
    clear h1 h2 h3
    go_enter Tryd.func5, Tryd.ntmps5
    go_wp2_with (go_at_call 9; fail)
    refine (TA.out _ HT.out).mono ?_
    rintro e w1 ⟨rfl, hb⟩
    have HB : Hid (Below w.heap.size w w1) := hb
    have HT1 : Hid (Tab w1) := tab_below HT.out hb
    clear hb HT TA
    go_wp2
    go_ret
    exact ⟨rfl, HB.out⟩
  by_cases h4 : a0 < a1
  · clear w0 w1
    have d0 : decide (a0 < 0) = false := decide_eq_false (by omega)
    have d1 : decide (200 < a0) = false := decide_eq_false (by omega)
    have d2 : decide (a1 < 0) = false := decide_eq_false (by omega)
    have d3 : decide (a0 < a1) = true := decide_eq_true (by omega)
    clear h1 h2 h3 h4
    go_enter Tryd.func5, Tryd.ntmps5
    go_wp2_with (go_at_call 9; fail)
    refine (TA.out _ HT.out).mono ?_
    rintro e w1 ⟨rfl, hb⟩
    have HB : Hid (Below w.heap.size w w1) := hb
    have HT1 : Hid (Tab w1) := tab_below HT.out hb
    clear hb HT TA
    go_wp2
    go_ret
    exact ⟨rfl, HB.out⟩
  obtain ⟨n, rfl⟩ : ∃ n : Nat, a0 = n := ⟨a0.toNat, by omega⟩
  obtain ⟨m, rfl⟩ : ∃ m : Nat, a1 = m := ⟨a1.toNat, by omega⟩
  have hn4 : n ≤ 200 := by omega
  have hmn : m ≤ n := by omega
  have d0 : decide ((n : Int) < 0) = false := decide_eq_false (by omega)
  have d1 : decide (200 < (n : Int)) = false := decide_eq_false (by omega)
  have d2 : decide ((m : Int) < 0) = false := decide_eq_false (by omega)
  have d3 : decide ((n : Int) < (m : Int)) = false := decide_eq_false (by omega)
  have e1 : decide (200 < n) = false := decide_eq_false (by omega)
  have e3 : decide (n < m) = false := decide_eq_false (by omega)
  clear h1 h2 h3 h4 w0 w1
  go_enter Tryd.func5, Tryd.ntmps5
  go_wp2_with (go_at_call 9; fail)
  refine (TA.out _ HT.out).mono ?_
  rintro e w1 ⟨rfl, hb⟩
  have HB : Hid (Below w.heap.size w w1) := hb
  have HT1 : Hid (Tab w1) := tab_below HT.out hb
  clear hb HT TA
  have T : Hid (Calls _ _ _ _ _) := newR HB.out HT1.out 2000 (by omega) (by omega)
  go_wp2_with (go_at_call 10; fail)
  refine (T.out).mono ?_
  rintro e w2 ⟨G, S0, rfl, hA, hC, hn, hu, hw⟩
  have HA : Hid (AB w G w2 S0 0 0) := hA
  have HC : Hid (CI S0 []) := hC
  have HN : Hid (S0.n = 2000) := hn
  have HU : Hid (usedN S0.sl ≤ 0) := Nat.le_of_eq hu
  have HW : Hid (S0.wt = []) := hw
  clear hA hC hn hu hw T HT1 HB
  have hAl := HA.out.lt
  clear d0 d1 d2 d3 e1 e3
  have HC0 : Hid (CI S0 (mineT .nil)) := HC.out
  have HUS : Hid (usedN S0.sl = hsN .nil) := by have := HU.out; show usedN S0.sl = 0; omega
  have HR0 : Hid (RowT S0 .nil []) := RowT.none S0
  have HA0 : Hid (AB w G w2 S0 0 (10000 * 0)) := HA.out
  clear HA HC HU
  go_wp2
  cases a2 with
  | false =>
    have hwnm : IntKind.i64.wrap ((n : Int) + (m : Int)) = (n : Int) + (m : Int) := by rw [IntKind.wrap_i64]; omega
    go_loopw [8, 9] (fun h i wr => ∃ (j : Nat) (S : St) (md : Nat) (t : Tr) (bs : List (Nat × Nat)), j ≤ n + m ∧ h = .int .i64 t.hd ∧ i = .int .i64 (j : Nat) ∧ Hid (bs.length = min j (2 * n - j)) ∧ md ≤ 50 * j ∧ Hid (AB w G wr S md (10000 * j)) ∧ Hid (CI S (mineT t)) ∧ Hid (S.n = 2000) ∧ Hid (S.wt = []) ∧ Hid (usedN S.sl = hsN t) ∧ Hid (RowT S t bs)) (fun _ i _ => n + m - (intOf i).toNat)
    case atStart => exact ⟨0, S0, 0, .nil, [], by omega, rfl, rfl, (by show ([] : List (Nat × Nat)).length = _; simp), by omega, HA0, HC0, HN, HW, HUS, HR0⟩
    case round =>
    obtain ⟨j, S, md, t, bs, hj, rfl, rfl, HBL, hmd, HA, HC, HN, HW, HUS, HR⟩ := hrel
    clear HA0 HC0 HR0
    have hAl := HA.out.lt
    have hd := HR.out.deep (d := 16) (by show bs.length < 206; have := HBL.out; omega)
    have hnn : hsN t ≤ 400 := by have h1 := hsN_le t; have h2 := HR.out.nodes; have := HBL.out; omega
    by_cases hlt : j < n + m
    · have q0 : decide ((j : Int) < (n : Int) + (m : Int)) = true := decide_eq_true (by omega)
      by_cases hjn : j < n
      · have q9 : decide ((j : Int) < (n : Int)) = true := decide_eq_true (by omega)
        have q8 : decide (j < n) = true := decide_eq_true hjn
        have T : Hid (Calls _ _ _ _ _) := lenR HA.out.rd HR.out (by have := HBL.out; omega)
        go_wp2_with (go_at_call 25; fail)
        refine (T.out).mono ?_
        rintro e w4 ⟨rfl, hb⟩
        have HA4 : Hid (AB w G w4 S md (10000 * j)) := HA.out.grow hb
        clear T hb HA
        have HA := HA4
        clear HA4
        have T : Hid (Calls _ _ _ _ _) := insR HA.out HC.out HR.out (by have := HBL.out; omega) (bs.length) (by have := HBL.out; omega) (a := j) (b := 0) (by omega) (by omega) (by have := HN.out; have := HUS.out; omega) (by have := HN.out; omega) (by omega) (by omega) (by omega)
        rw [show ((0 : Nat) : Int) = 0 from rfl] at T
        go_wp2_with (go_at_call 14; fail)
        refine (T.out).mono ?_
        rintro e w5 ⟨S5, t5, m5, rfl, hA, hC, hG, hT, hu, hm, hz, hS, -⟩
        have hlen5 : Hid ((bs.take (bs.length) ++ (j, 0) :: bs.drop (bs.length)).length = min (j + 1) (2 * n - (j + 1))) := by show _ = _; rw [ins_len bs _ (by omega)]; have := HBL.out; omega
        have HC5 : Hid (CI S5 (mineT t ++ mineT t5)) := by rw [mineT_pos hz]; exact hC
        have HA5 : Hid (AB w G w5 S5 (md + m5) (10000 * (j + 1))) := hA
        have HN5 : Hid (S5.n = 2000) := hG.1.trans HN.out
        have HR5 : Hid (RowT S5 t5 _) := hT
        have HU5 : Hid (usedN S5.sl ≤ 450) := by have := HUS.out; show usedN S5.sl ≤ 450; omega
        have hm5 : m5 ≤ 50 := by omega
        clear HA HC HN HW HUS T hA hC hG hT hu hm hS hd HBL
        by_cases hz0 : t.hd = 0
        · have q1 : (t.hd != 0) = false := by simpa using hz0
          have q2 : decide (t.hd = 0) = true := decide_eq_true hz0
          have q3 : (t.hd == 0) = true := by simpa using hz0
          have HC6 : Hid (CI S5 (mineT t5)) := by have h := HC5.out; rw [mineT_zero hz0] at h; exact h
          clear HC5 hz0
          have T : Hid (Calls _ _ _ _ _) := workR HA5.out HC6.out (by omega) 1073741824
          rw [show ((1073741824 : Nat) : Int) = 1073741824 from rfl] at T
          go_wp2_with (go_at_call 18; fail)
          refine (T.out).mono ?_
          rintro e w7 ⟨S7, f7, rfl, hA, hC, hK, -, hu, hS⟩
          obtain ⟨hw7, hu7⟩ := hu (by have := HU5.out; omega)
          have hR7 := HR5.out.carry hC hK (mineT_or t5)
          have HUS7 : Hid (usedN S7.sl = hsN t5) := used_row hC hA.inv hw7 (fun x hx => mineT_mem hx) hR7.held hR7.made
          have HA7 : Hid (AB w G w7 S7 (md + m5) (10000 * (j + 1))) := hA
          have HC7 : Hid (CI S7 (mineT t5)) := hC
          have HR7 : Hid (RowT S7 t5 _) := hR7
          have HW7 : Hid (S7.wt = []) := hw7
          have HN7 : Hid (S7.n = 2000) := hK.1.trans HN5.out
          clear T hA hC hK hu hS hu7 hR7 hw7 HA5 HC6 HR5 HU5 HN5 HR
          go_wp2
          go_roundw
          case rel => exact ⟨j + 1, S7, md + m5, t5, _, by omega, rfl, by go_num, hlen5, by omega, HA7, HC7, HN7, HW7, HUS7, HR7⟩
          case measure => simp [intOf]; omega
        · have q1 : (t.hd != 0) = true := by simpa using hz0
          have q2 : decide (t.hd = 0) = false := decide_eq_false hz0
          have q3 : (t.hd == 0) = false := by simpa using hz0
          have HC6 : Hid (CI S5 ([t.hd] ++ mineT t5)) := by have h := HC5.out; rw [mineT_pos hz0] at h; exact h
          clear HC5 hz0
          have T : Hid (Calls _ _ _ _ _) := dropR HA5.out HC6.out (by omega) (x := t.hd) (by simp)
          go_wp2_with (go_at_call 21; fail)
          refine (T.out).mono ?_
          rintro e w6 ⟨rfl, hA, hC, hK, hu, hS⟩
          have hC2 : CI (S5.drop t.hd) (mineT t5) := by simpa using hC
          have HR6 : Hid (RowT (S5.drop t.hd) t5 _) := HR5.out.carry hC2 hK (mineT_or t5)
          have HA6 : Hid (AB w G w6 (S5.drop t.hd) (md + m5) (10000 * (j + 1))) := hA
          have HC7 : Hid (CI (S5.drop t.hd) (mineT t5)) := hC2
          have HU6 : Hid (usedN (S5.drop t.hd).sl ≤ 450) := by rw [hu]; exact HU5.out
          have HN6 : Hid ((S5.drop t.hd).n = 2000) := hK.1.trans HN5.out
          clear T hA hC hC2 hK hu hS HA5 HC6 HR5 HU5 HN5
          have HC8 := HC7
          clear HC7
          have T : Hid (Calls _ _ _ _ _) := workR HA6.out HC8.out (by omega) 1073741824
          rw [show ((1073741824 : Nat) : Int) = 1073741824 from rfl] at T
          go_wp2_with (go_at_call 18; fail)
          refine (T.out).mono ?_
          rintro e w7 ⟨S7, f7, rfl, hA, hC, hK, -, hu, hS⟩
          obtain ⟨hw7, hu7⟩ := hu (by have := HU6.out; omega)
          have hR7 := HR6.out.carry hC hK (mineT_or t5)
          have HUS7 : Hid (usedN S7.sl = hsN t5) := used_row hC hA.inv hw7 (fun x hx => mineT_mem hx) hR7.held hR7.made
          have HA7 : Hid (AB w G w7 S7 (md + m5) (10000 * (j + 1))) := hA
          have HC7 : Hid (CI S7 (mineT t5)) := hC
          have HR7 : Hid (RowT S7 t5 _) := hR7
          have HW7 : Hid (S7.wt = []) := hw7
          have HN7 : Hid (S7.n = 2000) := hK.1.trans HN6.out
          clear T hA hC hK hu hS hu7 hR7 hw7 HA6 HC8 HR6 HU6 HN6 HR
          go_wp2
          go_roundw
          case rel => exact ⟨j + 1, S7, md + m5, t5, _, by omega, rfl, by go_num, hlen5, by omega, HA7, HC7, HN7, HW7, HUS7, HR7⟩
          case measure => simp [intOf]; omega
      · have q9 : decide ((j : Int) < (n : Int)) = false := decide_eq_false (by omega)
        have q8 : decide (j < n) = false := decide_eq_false hjn
        rcases (show 1 < bs.length ∨ bs.length ≤ 1 by omega) with he1 | he1
        · have T : Hid (Calls _ _ _ _ _) := lenR HA.out.rd HR.out (by have := HBL.out; omega)
          go_wp2_with (go_at_call 25; fail)
          refine (T.out).mono ?_
          rintro e w4 ⟨rfl, hb⟩
          have HA4 : Hid (AB w G w4 S md (10000 * j)) := HA.out.grow hb
          clear T hb HA
          have HA := HA4
          clear HA4
          have T : Hid (Calls _ _ _ _ _) := delR HA.out HC.out HR.out (by have := HBL.out; omega) (bs.length - 1) (by have := HBL.out; omega) (by have := HN.out; have := HUS.out; omega) (by have := HN.out; omega) (by omega) (by omega) (by omega)
          have hwl : IntKind.i64.wrap ((bs.length : Int) - 1) = ((bs.length - 1 : Nat) : Int) := by have := HBL.out; rw [wrap_in (by omega) (by omega)]; omega
          have hlen5 : Hid ((bs.take (bs.length - 1) ++ bs.drop (bs.length - 1 + 1)).length = min (j + 1) (2 * n - (j + 1))) := by show _ = _; rw [List.length_append, List.length_take, List.length_drop]; have := HBL.out; omega
          have HTT := T
          clear T
          have hz1 : decide ((0 : Int) < ((bs.length - 1 : Nat) : Int)) = true := decide_eq_true (by have := HBL.out; omega)
          have hz2 : decide (((bs.length - 1 : Nat) : Int) < 0) = false := decide_eq_false (by omega)
          have hz3 : decide (0 < bs.length - 1) = true := decide_eq_true (by have := HBL.out; omega)
          have hz4 : ¬ ((bs.length - 1 : Nat) : Int) < 0 := by omega
          have hz5 : (0 : Int) < ((bs.length - 1 : Nat) : Int) := by have := HBL.out; omega
          have hz6 : ((bs.length - 1 : Nat) : Int) ≠ 0 := by have := HBL.out; omega
          have T := HTT
          clear HTT
          go_wp2_with (go_at_call 15; fail)
          refine (T.out).mono ?_
          rintro e w5 ⟨S5, t5, m5, rfl, hA, hC, hG, hT, hu, hm, hS, -⟩
          have HC5 : Hid (CI S5 (mineT t ++ mineT t5)) := by rw [mineT_app]; exact hC
          have HA5 : Hid (AB w G w5 S5 (md + m5) (10000 * (j + 1))) := hA
          have HN5 : Hid (S5.n = 2000) := hG.1.trans HN.out
          have HR5 : Hid (RowT S5 t5 _) := hT
          have HU5 : Hid (usedN S5.sl ≤ 450) := by have := HUS.out; show usedN S5.sl ≤ 450; omega
          have hm5 : m5 ≤ 50 := by omega
          clear HA HC HN HW HUS T hA hC hG hT hu hm hS hd HBL
          by_cases hz0 : t.hd = 0
          · have q1 : (t.hd != 0) = false := by simpa using hz0
            have q2 : decide (t.hd = 0) = true := decide_eq_true hz0
            have q3 : (t.hd == 0) = true := by simpa using hz0
            have HC6 : Hid (CI S5 (mineT t5)) := by have h := HC5.out; rw [mineT_zero hz0] at h; exact h
            clear HC5 hz0
            have T : Hid (Calls _ _ _ _ _) := workR HA5.out HC6.out (by omega) 1073741824
            rw [show ((1073741824 : Nat) : Int) = 1073741824 from rfl] at T
            go_wp2_with (go_at_call 18; fail)
            refine (T.out).mono ?_
            rintro e w7 ⟨S7, f7, rfl, hA, hC, hK, -, hu, hS⟩
            obtain ⟨hw7, hu7⟩ := hu (by have := HU5.out; omega)
            have hR7 := HR5.out.carry hC hK (mineT_or t5)
            have HUS7 : Hid (usedN S7.sl = hsN t5) := used_row hC hA.inv hw7 (fun x hx => mineT_mem hx) hR7.held hR7.made
            have HA7 : Hid (AB w G w7 S7 (md + m5) (10000 * (j + 1))) := hA
            have HC7 : Hid (CI S7 (mineT t5)) := hC
            have HR7 : Hid (RowT S7 t5 _) := hR7
            have HW7 : Hid (S7.wt = []) := hw7
            have HN7 : Hid (S7.n = 2000) := hK.1.trans HN5.out
            clear T hA hC hK hu hS hu7 hR7 hw7 HA5 HC6 HR5 HU5 HN5 HR
            go_wp2
            go_roundw
            case rel => exact ⟨j + 1, S7, md + m5, t5, _, by omega, rfl, by go_num, hlen5, by omega, HA7, HC7, HN7, HW7, HUS7, HR7⟩
            case measure => simp [intOf]; omega
          · have q1 : (t.hd != 0) = true := by simpa using hz0
            have q2 : decide (t.hd = 0) = false := decide_eq_false hz0
            have q3 : (t.hd == 0) = false := by simpa using hz0
            have HC6 : Hid (CI S5 ([t.hd] ++ mineT t5)) := by have h := HC5.out; rw [mineT_pos hz0] at h; exact h
            clear HC5 hz0
            have T : Hid (Calls _ _ _ _ _) := dropR HA5.out HC6.out (by omega) (x := t.hd) (by simp)
            go_wp2_with (go_at_call 21; fail)
            refine (T.out).mono ?_
            rintro e w6 ⟨rfl, hA, hC, hK, hu, hS⟩
            have hC2 : CI (S5.drop t.hd) (mineT t5) := by simpa using hC
            have HR6 : Hid (RowT (S5.drop t.hd) t5 _) := HR5.out.carry hC2 hK (mineT_or t5)
            have HA6 : Hid (AB w G w6 (S5.drop t.hd) (md + m5) (10000 * (j + 1))) := hA
            have HC7 : Hid (CI (S5.drop t.hd) (mineT t5)) := hC2
            have HU6 : Hid (usedN (S5.drop t.hd).sl ≤ 450) := by rw [hu]; exact HU5.out
            have HN6 : Hid ((S5.drop t.hd).n = 2000) := hK.1.trans HN5.out
            clear T hA hC hC2 hK hu hS HA5 HC6 HR5 HU5 HN5
            have HC8 := HC7
            clear HC7
            have T : Hid (Calls _ _ _ _ _) := workR HA6.out HC8.out (by omega) 1073741824
            rw [show ((1073741824 : Nat) : Int) = 1073741824 from rfl] at T
            go_wp2_with (go_at_call 18; fail)
            refine (T.out).mono ?_
            rintro e w7 ⟨S7, f7, rfl, hA, hC, hK, -, hu, hS⟩
            obtain ⟨hw7, hu7⟩ := hu (by have := HU6.out; omega)
            have hR7 := HR6.out.carry hC hK (mineT_or t5)
            have HUS7 : Hid (usedN S7.sl = hsN t5) := used_row hC hA.inv hw7 (fun x hx => mineT_mem hx) hR7.held hR7.made
            have HA7 : Hid (AB w G w7 S7 (md + m5) (10000 * (j + 1))) := hA
            have HC7 : Hid (CI S7 (mineT t5)) := hC
            have HR7 : Hid (RowT S7 t5 _) := hR7
            have HW7 : Hid (S7.wt = []) := hw7
            have HN7 : Hid (S7.n = 2000) := hK.1.trans HN6.out
            clear T hA hC hK hu hS hu7 hR7 hw7 HA6 HC8 HR6 HU6 HN6 HR
            go_wp2
            go_roundw
            case rel => exact ⟨j + 1, S7, md + m5, t5, _, by omega, rfl, by go_num, hlen5, by omega, HA7, HC7, HN7, HW7, HUS7, HR7⟩
            case measure => simp [intOf]; omega
        · have T : Hid (Calls _ _ _ _ _) := lenR HA.out.rd HR.out (by have := HBL.out; omega)
          go_wp2_with (go_at_call 25; fail)
          refine (T.out).mono ?_
          rintro e w4 ⟨rfl, hb⟩
          have HA4 : Hid (AB w G w4 S md (10000 * j)) := HA.out.grow hb
          clear T hb HA
          have HA := HA4
          clear HA4
          have T : Hid (Calls _ _ _ _ _) := delR HA.out HC.out HR.out (by have := HBL.out; omega) (bs.length - 1) (by have := HBL.out; omega) (by have := HN.out; have := HUS.out; omega) (by have := HN.out; omega) (by omega) (by omega) (by omega)
          have hwl : IntKind.i64.wrap ((bs.length : Int) - 1) = ((bs.length - 1 : Nat) : Int) := by have := HBL.out; rw [wrap_in (by omega) (by omega)]; omega
          have hlen5 : Hid ((bs.take (bs.length - 1) ++ bs.drop (bs.length - 1 + 1)).length = min (j + 1) (2 * n - (j + 1))) := by show _ = _; rw [List.length_append, List.length_take, List.length_drop]; have := HBL.out; omega
          have HTT := T
          clear T
          have hz1 : bs.length - 1 = 0 := by omega
          rw [hz1] at HTT hwl hlen5
          rw [show ((0 : Nat) : Int) = 0 from rfl] at HTT hwl
          clear hz1
          have T := HTT
          clear HTT
          go_wp2_with (go_at_call 15; fail)
          refine (T.out).mono ?_
          rintro e w5 ⟨S5, t5, m5, rfl, hA, hC, hG, hT, hu, hm, hS, -⟩
          have HC5 : Hid (CI S5 (mineT t ++ mineT t5)) := by rw [mineT_app]; exact hC
          have HA5 : Hid (AB w G w5 S5 (md + m5) (10000 * (j + 1))) := hA
          have HN5 : Hid (S5.n = 2000) := hG.1.trans HN.out
          have HR5 : Hid (RowT S5 t5 _) := hT
          have HU5 : Hid (usedN S5.sl ≤ 450) := by have := HUS.out; show usedN S5.sl ≤ 450; omega
          have hm5 : m5 ≤ 50 := by omega
          clear HA HC HN HW HUS T hA hC hG hT hu hm hS hd HBL
          by_cases hz0 : t.hd = 0
          · have q1 : (t.hd != 0) = false := by simpa using hz0
            have q2 : decide (t.hd = 0) = true := decide_eq_true hz0
            have q3 : (t.hd == 0) = true := by simpa using hz0
            have HC6 : Hid (CI S5 (mineT t5)) := by have h := HC5.out; rw [mineT_zero hz0] at h; exact h
            clear HC5 hz0
            have T : Hid (Calls _ _ _ _ _) := workR HA5.out HC6.out (by omega) 1073741824
            rw [show ((1073741824 : Nat) : Int) = 1073741824 from rfl] at T
            go_wp2_with (go_at_call 18; fail)
            refine (T.out).mono ?_
            rintro e w7 ⟨S7, f7, rfl, hA, hC, hK, -, hu, hS⟩
            obtain ⟨hw7, hu7⟩ := hu (by have := HU5.out; omega)
            have hR7 := HR5.out.carry hC hK (mineT_or t5)
            have HUS7 : Hid (usedN S7.sl = hsN t5) := used_row hC hA.inv hw7 (fun x hx => mineT_mem hx) hR7.held hR7.made
            have HA7 : Hid (AB w G w7 S7 (md + m5) (10000 * (j + 1))) := hA
            have HC7 : Hid (CI S7 (mineT t5)) := hC
            have HR7 : Hid (RowT S7 t5 _) := hR7
            have HW7 : Hid (S7.wt = []) := hw7
            have HN7 : Hid (S7.n = 2000) := hK.1.trans HN5.out
            clear T hA hC hK hu hS hu7 hR7 hw7 HA5 HC6 HR5 HU5 HN5 HR
            go_wp2
            go_roundw
            case rel => exact ⟨j + 1, S7, md + m5, t5, _, by omega, rfl, by go_num, hlen5, by omega, HA7, HC7, HN7, HW7, HUS7, HR7⟩
            case measure => simp [intOf]; omega
          · have q1 : (t.hd != 0) = true := by simpa using hz0
            have q2 : decide (t.hd = 0) = false := decide_eq_false hz0
            have q3 : (t.hd == 0) = false := by simpa using hz0
            have HC6 : Hid (CI S5 ([t.hd] ++ mineT t5)) := by have h := HC5.out; rw [mineT_pos hz0] at h; exact h
            clear HC5 hz0
            have T : Hid (Calls _ _ _ _ _) := dropR HA5.out HC6.out (by omega) (x := t.hd) (by simp)
            go_wp2_with (go_at_call 21; fail)
            refine (T.out).mono ?_
            rintro e w6 ⟨rfl, hA, hC, hK, hu, hS⟩
            have hC2 : CI (S5.drop t.hd) (mineT t5) := by simpa using hC
            have HR6 : Hid (RowT (S5.drop t.hd) t5 _) := HR5.out.carry hC2 hK (mineT_or t5)
            have HA6 : Hid (AB w G w6 (S5.drop t.hd) (md + m5) (10000 * (j + 1))) := hA
            have HC7 : Hid (CI (S5.drop t.hd) (mineT t5)) := hC2
            have HU6 : Hid (usedN (S5.drop t.hd).sl ≤ 450) := by rw [hu]; exact HU5.out
            have HN6 : Hid ((S5.drop t.hd).n = 2000) := hK.1.trans HN5.out
            clear T hA hC hC2 hK hu hS HA5 HC6 HR5 HU5 HN5
            have HC8 := HC7
            clear HC7
            have T : Hid (Calls _ _ _ _ _) := workR HA6.out HC8.out (by omega) 1073741824
            rw [show ((1073741824 : Nat) : Int) = 1073741824 from rfl] at T
            go_wp2_with (go_at_call 18; fail)
            refine (T.out).mono ?_
            rintro e w7 ⟨S7, f7, rfl, hA, hC, hK, -, hu, hS⟩
            obtain ⟨hw7, hu7⟩ := hu (by have := HU6.out; omega)
            have hR7 := HR6.out.carry hC hK (mineT_or t5)
            have HUS7 : Hid (usedN S7.sl = hsN t5) := used_row hC hA.inv hw7 (fun x hx => mineT_mem hx) hR7.held hR7.made
            have HA7 : Hid (AB w G w7 S7 (md + m5) (10000 * (j + 1))) := hA
            have HC7 : Hid (CI S7 (mineT t5)) := hC
            have HR7 : Hid (RowT S7 t5 _) := hR7
            have HW7 : Hid (S7.wt = []) := hw7
            have HN7 : Hid (S7.n = 2000) := hK.1.trans HN6.out
            clear T hA hC hK hu hS hu7 hR7 hw7 HA6 HC8 HR6 HU6 HN6 HR
            go_wp2
            go_roundw
            case rel => exact ⟨j + 1, S7, md + m5, t5, _, by omega, rfl, by go_num, hlen5, by omega, HA7, HC7, HN7, HW7, HUS7, HR7⟩
            case measure => simp [intOf]; omega
    · obtain rfl : j = n + m := by omega
      have q0 : decide (((n + m : Nat) : Int) < (n : Int) + (m : Int)) = false := decide_eq_false (by omega)
      have hbl2 : bs.length = n - m := by have := HBL.out; omega
      have T1 : Hid (Calls _ _ _ _ _) := lenR HA.out.rd HR.out (by have := HBL.out; omega)
      rw [hbl2] at T1
      have hwd : IntKind.i64.wrap ((n : Int) - (m : Int)) = ((n - m : Nat) : Int) := by rw [IntKind.wrap_i64]; omega
      have TD : Hid (∀ W, Rd (.pointer (some ⟨G, 0, none⟩)) S W → _) := fun W hR => deep_any hR HR.out.held HR.out.made (by omega)
      have TW : Hid (∀ W, _) := fun W => wide10 (n - m) (by omega) W
      have HDW : Hid (∀ v, n - m < 2 ^ v → t.deep ≤ 4 + 2 * v) := fun v h => deep_wide HR.out (by rw [hbl2]; exact h) (by omega)
      clear HC HN HBL hbl2
      have hwq : Hid (IntKind.i64.wrap ((hsN t : Int)) = (hsN t : Int)) := by show IntKind.i64.wrap _ = _; rw [IntKind.wrap_i64]; omega
      generalize n - m = x at *
      go_wp2_with (go_at_call 25; fail)
      refine (T1.out).mono ?_
      rintro e w5 ⟨rfl, hb⟩
      have HA5 : Hid (AB w G w5 S md (10000 * (n + m))) := HA.out.grow hb
      clear hb HA T1
      go_wp2_with (go_at_call 20; fail)
      refine (TD.out _ HA5.out.rd).mono ?_
      rintro e w6 ⟨rfl, hb⟩
      have HA6 : Hid (AB w G w6 S md (10000 * (n + m))) := HA5.out.grow hb
      clear hb HA5 TD
      go_wp2_with (go_at_call 17; fail)
      refine (TW.out _).mono ?_
      rintro e w7 ⟨⟨v, rfl, hv1, hv2⟩, hww⟩
      obtain rfl := hww.symm
      have hdv := HDW.out v hv1
      clear TW HDW hv1
      have hv3 : IntKind.i64.wrap (2 * (v : Int)) = 2 * (v : Int) := by rw [IntKind.wrap_i64]; omega
      have hv4 : IntKind.i64.wrap (4 + 2 * (v : Int)) = 4 + 2 * (v : Int) := by rw [IntKind.wrap_i64]; omega
      have hv5 : decide ((t.deep : Int) ≤ 4 + 2 * (v : Int)) = true := decide_eq_true (by omega)
      have T2 : Hid (Calls _ _ _ _ _) := usedB HA6.out
      rw [HUS.out] at T2
      have TC := cells_new w6 [.int .i64 t.hd] 3 _ rfl
      have HA7 : Hid (AB w G (w6.alloc (.cells #[.int .i64 t.hd] 3)) S md (10000 * (n + m))) := HA6.out.grow ((Below.refl _ _).alloc (Nat.le_refl _) _)
      have T3 : Hid (Calls _ _ _ _ _) := reachRow HA7.out HR.out (some ⟨w6.heap.size, 0, none⟩) 1 TC
      clear TC
      go_wp2_with (go_at_call 11; fail)
      refine (T2.out).mono ?_
      rintro e w' ⟨rfl, hww⟩
      obtain rfl := hww.symm
      go_wp2_with (go_at_call 19; fail)
      refine (T3.out).mono ?_
      rintro e w8 ⟨ra, rc, rfl, hb⟩
      have hA8 := HA7.out.grow hb
      have T4 : Hid (Calls _ _ _ _ _) := pendingB hA8
      rw [HW.out] at T4
      have HE : Hid (Below _ _ _) := hA8.below
      clear hA8 hb HA6 HA7 T2 T3 HUS HW HR
      go_wp2_with (go_at_call 12; fail)
      refine (T4.out).mono ?_
      rintro e w' ⟨rfl, hww⟩
      obtain rfl := hww.symm
      have hwq2 := hwq.out
      clear T4 hwq
      generalize hsN t = NN at *
      go_wp2
      go_ret
      exact ⟨rfl, HE.out⟩
  | true =>
    have hwnm : IntKind.i64.wrap ((n : Int) + (m : Int)) = (n : Int) + (m : Int) := by rw [IntKind.wrap_i64]; omega
    go_loopw [8, 9] (fun h i wr => ∃ (j : Nat) (S : St) (md : Nat) (t : Tr) (bs : List (Nat × Nat)), j ≤ n + m ∧ h = .int .i64 t.hd ∧ i = .int .i64 (j : Nat) ∧ Hid (bs.length = min j (2 * n - j)) ∧ md ≤ 50 * j ∧ Hid (AB w G wr S md (10000 * j)) ∧ Hid (CI S (mineT t)) ∧ Hid (S.n = 2000) ∧ Hid (S.wt = []) ∧ Hid (usedN S.sl = hsN t) ∧ Hid (RowT S t bs)) (fun _ i _ => n + m - (intOf i).toNat)
    case atStart => exact ⟨0, S0, 0, .nil, [], by omega, rfl, rfl, (by show ([] : List (Nat × Nat)).length = _; simp), by omega, HA0, HC0, HN, HW, HUS, HR0⟩
    case round =>
    obtain ⟨j, S, md, t, bs, hj, rfl, rfl, HBL, hmd, HA, HC, HN, HW, HUS, HR⟩ := hrel
    clear HA0 HC0 HR0
    have hAl := HA.out.lt
    have hd := HR.out.deep (d := 16) (by show bs.length < 206; have := HBL.out; omega)
    have hnn : hsN t ≤ 400 := by have h1 := hsN_le t; have h2 := HR.out.nodes; have := HBL.out; omega
    by_cases hlt : j < n + m
    · have q0 : decide ((j : Int) < (n : Int) + (m : Int)) = true := decide_eq_true (by omega)
      by_cases hjn : j < n
      · have q9 : decide ((j : Int) < (n : Int)) = true := decide_eq_true (by omega)
        have q8 : decide (j < n) = true := decide_eq_true hjn
        have T : Hid (Calls _ _ _ _ _) := lenR HA.out.rd HR.out (by have := HBL.out; omega)
        go_wp2_with (go_at_call 25; fail)
        refine (T.out).mono ?_
        rintro e w4 ⟨rfl, hb⟩
        have HA4 : Hid (AB w G w4 S md (10000 * j)) := HA.out.grow hb
        clear T hb HA
        have HA := HA4
        clear HA4
        have T : Hid (Calls _ _ _ _ _) := insR HA.out HC.out HR.out (by have := HBL.out; omega) (0) (by have := HBL.out; omega) (a := j) (b := 0) (by omega) (by omega) (by have := HN.out; have := HUS.out; omega) (by have := HN.out; omega) (by omega) (by omega) (by omega)
        rw [show ((0 : Nat) : Int) = 0 from rfl] at T
        go_wp2_with (go_at_call 14; fail)
        refine (T.out).mono ?_
        rintro e w5 ⟨S5, t5, m5, rfl, hA, hC, hG, hT, hu, hm, hz, hS, -⟩
        have hlen5 : Hid ((bs.take (0) ++ (j, 0) :: bs.drop (0)).length = min (j + 1) (2 * n - (j + 1))) := by show _ = _; rw [ins_len bs _ (by omega)]; have := HBL.out; omega
        have HC5 : Hid (CI S5 (mineT t ++ mineT t5)) := by rw [mineT_pos hz]; exact hC
        have HA5 : Hid (AB w G w5 S5 (md + m5) (10000 * (j + 1))) := hA
        have HN5 : Hid (S5.n = 2000) := hG.1.trans HN.out
        have HR5 : Hid (RowT S5 t5 _) := hT
        have HU5 : Hid (usedN S5.sl ≤ 450) := by have := HUS.out; show usedN S5.sl ≤ 450; omega
        have hm5 : m5 ≤ 50 := by omega
        clear HA HC HN HW HUS T hA hC hG hT hu hm hS hd HBL
        by_cases hz0 : t.hd = 0
        · have q1 : (t.hd != 0) = false := by simpa using hz0
          have q2 : decide (t.hd = 0) = true := decide_eq_true hz0
          have q3 : (t.hd == 0) = true := by simpa using hz0
          have HC6 : Hid (CI S5 (mineT t5)) := by have h := HC5.out; rw [mineT_zero hz0] at h; exact h
          clear HC5 hz0
          have T : Hid (Calls _ _ _ _ _) := workR HA5.out HC6.out (by omega) 1073741824
          rw [show ((1073741824 : Nat) : Int) = 1073741824 from rfl] at T
          go_wp2_with (go_at_call 18; fail)
          refine (T.out).mono ?_
          rintro e w7 ⟨S7, f7, rfl, hA, hC, hK, -, hu, hS⟩
          obtain ⟨hw7, hu7⟩ := hu (by have := HU5.out; omega)
          have hR7 := HR5.out.carry hC hK (mineT_or t5)
          have HUS7 : Hid (usedN S7.sl = hsN t5) := used_row hC hA.inv hw7 (fun x hx => mineT_mem hx) hR7.held hR7.made
          have HA7 : Hid (AB w G w7 S7 (md + m5) (10000 * (j + 1))) := hA
          have HC7 : Hid (CI S7 (mineT t5)) := hC
          have HR7 : Hid (RowT S7 t5 _) := hR7
          have HW7 : Hid (S7.wt = []) := hw7
          have HN7 : Hid (S7.n = 2000) := hK.1.trans HN5.out
          clear T hA hC hK hu hS hu7 hR7 hw7 HA5 HC6 HR5 HU5 HN5 HR
          go_wp2
          go_roundw
          case rel => exact ⟨j + 1, S7, md + m5, t5, _, by omega, rfl, by go_num, hlen5, by omega, HA7, HC7, HN7, HW7, HUS7, HR7⟩
          case measure => simp [intOf]; omega
        · have q1 : (t.hd != 0) = true := by simpa using hz0
          have q2 : decide (t.hd = 0) = false := decide_eq_false hz0
          have q3 : (t.hd == 0) = false := by simpa using hz0
          have HC6 : Hid (CI S5 ([t.hd] ++ mineT t5)) := by have h := HC5.out; rw [mineT_pos hz0] at h; exact h
          clear HC5 hz0
          have T : Hid (Calls _ _ _ _ _) := dropR HA5.out HC6.out (by omega) (x := t.hd) (by simp)
          go_wp2_with (go_at_call 21; fail)
          refine (T.out).mono ?_
          rintro e w6 ⟨rfl, hA, hC, hK, hu, hS⟩
          have hC2 : CI (S5.drop t.hd) (mineT t5) := by simpa using hC
          have HR6 : Hid (RowT (S5.drop t.hd) t5 _) := HR5.out.carry hC2 hK (mineT_or t5)
          have HA6 : Hid (AB w G w6 (S5.drop t.hd) (md + m5) (10000 * (j + 1))) := hA
          have HC7 : Hid (CI (S5.drop t.hd) (mineT t5)) := hC2
          have HU6 : Hid (usedN (S5.drop t.hd).sl ≤ 450) := by rw [hu]; exact HU5.out
          have HN6 : Hid ((S5.drop t.hd).n = 2000) := hK.1.trans HN5.out
          clear T hA hC hC2 hK hu hS HA5 HC6 HR5 HU5 HN5
          have HC8 := HC7
          clear HC7
          have T : Hid (Calls _ _ _ _ _) := workR HA6.out HC8.out (by omega) 1073741824
          rw [show ((1073741824 : Nat) : Int) = 1073741824 from rfl] at T
          go_wp2_with (go_at_call 18; fail)
          refine (T.out).mono ?_
          rintro e w7 ⟨S7, f7, rfl, hA, hC, hK, -, hu, hS⟩
          obtain ⟨hw7, hu7⟩ := hu (by have := HU6.out; omega)
          have hR7 := HR6.out.carry hC hK (mineT_or t5)
          have HUS7 : Hid (usedN S7.sl = hsN t5) := used_row hC hA.inv hw7 (fun x hx => mineT_mem hx) hR7.held hR7.made
          have HA7 : Hid (AB w G w7 S7 (md + m5) (10000 * (j + 1))) := hA
          have HC7 : Hid (CI S7 (mineT t5)) := hC
          have HR7 : Hid (RowT S7 t5 _) := hR7
          have HW7 : Hid (S7.wt = []) := hw7
          have HN7 : Hid (S7.n = 2000) := hK.1.trans HN6.out
          clear T hA hC hK hu hS hu7 hR7 hw7 HA6 HC8 HR6 HU6 HN6 HR
          go_wp2
          go_roundw
          case rel => exact ⟨j + 1, S7, md + m5, t5, _, by omega, rfl, by go_num, hlen5, by omega, HA7, HC7, HN7, HW7, HUS7, HR7⟩
          case measure => simp [intOf]; omega
      · have q9 : decide ((j : Int) < (n : Int)) = false := decide_eq_false (by omega)
        have q8 : decide (j < n) = false := decide_eq_false hjn
        have T : Hid (Calls _ _ _ _ _) := lenR HA.out.rd HR.out (by have := HBL.out; omega)
        go_wp2_with (go_at_call 25; fail)
        refine (T.out).mono ?_
        rintro e w4 ⟨rfl, hb⟩
        have HA4 : Hid (AB w G w4 S md (10000 * j)) := HA.out.grow hb
        clear T hb HA
        have HA := HA4
        clear HA4
        have T : Hid (Calls _ _ _ _ _) := delR HA.out HC.out HR.out (by have := HBL.out; omega) 0 (by have := HBL.out; omega) (by have := HN.out; have := HUS.out; omega) (by have := HN.out; omega) (by omega) (by omega) (by omega)
        rw [show ((0 : Nat) : Int) = 0 from rfl] at T
        go_wp2_with (go_at_call 15; fail)
        refine (T.out).mono ?_
        rintro e w5 ⟨S5, t5, m5, rfl, hA, hC, hG, hT, hu, hm, hS, -⟩
        have hlen5 : Hid ((bs.take 0 ++ bs.drop (0 + 1)).length = min (j + 1) (2 * n - (j + 1))) := by show _ = _; simp; have := HBL.out; omega
        have HC5 : Hid (CI S5 (mineT t ++ mineT t5)) := by rw [mineT_app]; exact hC
        have HA5 : Hid (AB w G w5 S5 (md + m5) (10000 * (j + 1))) := hA
        have HN5 : Hid (S5.n = 2000) := hG.1.trans HN.out
        have HR5 : Hid (RowT S5 t5 _) := hT
        have HU5 : Hid (usedN S5.sl ≤ 450) := by have := HUS.out; show usedN S5.sl ≤ 450; omega
        have hm5 : m5 ≤ 50 := by omega
        clear HA HC HN HW HUS T hA hC hG hT hu hm hS hd HBL
        by_cases hz0 : t.hd = 0
        · have q1 : (t.hd != 0) = false := by simpa using hz0
          have q2 : decide (t.hd = 0) = true := decide_eq_true hz0
          have q3 : (t.hd == 0) = true := by simpa using hz0
          have HC6 : Hid (CI S5 (mineT t5)) := by have h := HC5.out; rw [mineT_zero hz0] at h; exact h
          clear HC5 hz0
          have T : Hid (Calls _ _ _ _ _) := workR HA5.out HC6.out (by omega) 1073741824
          rw [show ((1073741824 : Nat) : Int) = 1073741824 from rfl] at T
          go_wp2_with (go_at_call 18; fail)
          refine (T.out).mono ?_
          rintro e w7 ⟨S7, f7, rfl, hA, hC, hK, -, hu, hS⟩
          obtain ⟨hw7, hu7⟩ := hu (by have := HU5.out; omega)
          have hR7 := HR5.out.carry hC hK (mineT_or t5)
          have HUS7 : Hid (usedN S7.sl = hsN t5) := used_row hC hA.inv hw7 (fun x hx => mineT_mem hx) hR7.held hR7.made
          have HA7 : Hid (AB w G w7 S7 (md + m5) (10000 * (j + 1))) := hA
          have HC7 : Hid (CI S7 (mineT t5)) := hC
          have HR7 : Hid (RowT S7 t5 _) := hR7
          have HW7 : Hid (S7.wt = []) := hw7
          have HN7 : Hid (S7.n = 2000) := hK.1.trans HN5.out
          clear T hA hC hK hu hS hu7 hR7 hw7 HA5 HC6 HR5 HU5 HN5 HR
          go_wp2
          go_roundw
          case rel => exact ⟨j + 1, S7, md + m5, t5, _, by omega, rfl, by go_num, hlen5, by omega, HA7, HC7, HN7, HW7, HUS7, HR7⟩
          case measure => simp [intOf]; omega
        · have q1 : (t.hd != 0) = true := by simpa using hz0
          have q2 : decide (t.hd = 0) = false := decide_eq_false hz0
          have q3 : (t.hd == 0) = false := by simpa using hz0
          have HC6 : Hid (CI S5 ([t.hd] ++ mineT t5)) := by have h := HC5.out; rw [mineT_pos hz0] at h; exact h
          clear HC5 hz0
          have T : Hid (Calls _ _ _ _ _) := dropR HA5.out HC6.out (by omega) (x := t.hd) (by simp)
          go_wp2_with (go_at_call 21; fail)
          refine (T.out).mono ?_
          rintro e w6 ⟨rfl, hA, hC, hK, hu, hS⟩
          have hC2 : CI (S5.drop t.hd) (mineT t5) := by simpa using hC
          have HR6 : Hid (RowT (S5.drop t.hd) t5 _) := HR5.out.carry hC2 hK (mineT_or t5)
          have HA6 : Hid (AB w G w6 (S5.drop t.hd) (md + m5) (10000 * (j + 1))) := hA
          have HC7 : Hid (CI (S5.drop t.hd) (mineT t5)) := hC2
          have HU6 : Hid (usedN (S5.drop t.hd).sl ≤ 450) := by rw [hu]; exact HU5.out
          have HN6 : Hid ((S5.drop t.hd).n = 2000) := hK.1.trans HN5.out
          clear T hA hC hC2 hK hu hS HA5 HC6 HR5 HU5 HN5
          have HC8 := HC7
          clear HC7
          have T : Hid (Calls _ _ _ _ _) := workR HA6.out HC8.out (by omega) 1073741824
          rw [show ((1073741824 : Nat) : Int) = 1073741824 from rfl] at T
          go_wp2_with (go_at_call 18; fail)
          refine (T.out).mono ?_
          rintro e w7 ⟨S7, f7, rfl, hA, hC, hK, -, hu, hS⟩
          obtain ⟨hw7, hu7⟩ := hu (by have := HU6.out; omega)
          have hR7 := HR6.out.carry hC hK (mineT_or t5)
          have HUS7 : Hid (usedN S7.sl = hsN t5) := used_row hC hA.inv hw7 (fun x hx => mineT_mem hx) hR7.held hR7.made
          have HA7 : Hid (AB w G w7 S7 (md + m5) (10000 * (j + 1))) := hA
          have HC7 : Hid (CI S7 (mineT t5)) := hC
          have HR7 : Hid (RowT S7 t5 _) := hR7
          have HW7 : Hid (S7.wt = []) := hw7
          have HN7 : Hid (S7.n = 2000) := hK.1.trans HN6.out
          clear T hA hC hK hu hS hu7 hR7 hw7 HA6 HC8 HR6 HU6 HN6 HR
          go_wp2
          go_roundw
          case rel => exact ⟨j + 1, S7, md + m5, t5, _, by omega, rfl, by go_num, hlen5, by omega, HA7, HC7, HN7, HW7, HUS7, HR7⟩
          case measure => simp [intOf]; omega
    · obtain rfl : j = n + m := by omega
      have q0 : decide (((n + m : Nat) : Int) < (n : Int) + (m : Int)) = false := decide_eq_false (by omega)
      have hbl2 : bs.length = n - m := by have := HBL.out; omega
      have T1 : Hid (Calls _ _ _ _ _) := lenR HA.out.rd HR.out (by have := HBL.out; omega)
      rw [hbl2] at T1
      have hwd : IntKind.i64.wrap ((n : Int) - (m : Int)) = ((n - m : Nat) : Int) := by rw [IntKind.wrap_i64]; omega
      have TD : Hid (∀ W, Rd (.pointer (some ⟨G, 0, none⟩)) S W → _) := fun W hR => deep_any hR HR.out.held HR.out.made (by omega)
      have TW : Hid (∀ W, _) := fun W => wide10 (n - m) (by omega) W
      have HDW : Hid (∀ v, n - m < 2 ^ v → t.deep ≤ 4 + 2 * v) := fun v h => deep_wide HR.out (by rw [hbl2]; exact h) (by omega)
      clear HC HN HBL hbl2
      have hwq : Hid (IntKind.i64.wrap ((hsN t : Int)) = (hsN t : Int)) := by show IntKind.i64.wrap _ = _; rw [IntKind.wrap_i64]; omega
      generalize n - m = x at *
      go_wp2_with (go_at_call 25; fail)
      refine (T1.out).mono ?_
      rintro e w5 ⟨rfl, hb⟩
      have HA5 : Hid (AB w G w5 S md (10000 * (n + m))) := HA.out.grow hb
      clear hb HA T1
      go_wp2_with (go_at_call 20; fail)
      refine (TD.out _ HA5.out.rd).mono ?_
      rintro e w6 ⟨rfl, hb⟩
      have HA6 : Hid (AB w G w6 S md (10000 * (n + m))) := HA5.out.grow hb
      clear hb HA5 TD
      go_wp2_with (go_at_call 17; fail)
      refine (TW.out _).mono ?_
      rintro e w7 ⟨⟨v, rfl, hv1, hv2⟩, hww⟩
      obtain rfl := hww.symm
      have hdv := HDW.out v hv1
      clear TW HDW hv1
      have hv3 : IntKind.i64.wrap (2 * (v : Int)) = 2 * (v : Int) := by rw [IntKind.wrap_i64]; omega
      have hv4 : IntKind.i64.wrap (4 + 2 * (v : Int)) = 4 + 2 * (v : Int) := by rw [IntKind.wrap_i64]; omega
      have hv5 : decide ((t.deep : Int) ≤ 4 + 2 * (v : Int)) = true := decide_eq_true (by omega)
      have T2 : Hid (Calls _ _ _ _ _) := usedB HA6.out
      rw [HUS.out] at T2
      have TC := cells_new w6 [.int .i64 t.hd] 3 _ rfl
      have HA7 : Hid (AB w G (w6.alloc (.cells #[.int .i64 t.hd] 3)) S md (10000 * (n + m))) := HA6.out.grow ((Below.refl _ _).alloc (Nat.le_refl _) _)
      have T3 : Hid (Calls _ _ _ _ _) := reachRow HA7.out HR.out (some ⟨w6.heap.size, 0, none⟩) 1 TC
      clear TC
      go_wp2_with (go_at_call 11; fail)
      refine (T2.out).mono ?_
      rintro e w' ⟨rfl, hww⟩
      obtain rfl := hww.symm
      go_wp2_with (go_at_call 19; fail)
      refine (T3.out).mono ?_
      rintro e w8 ⟨ra, rc, rfl, hb⟩
      have hA8 := HA7.out.grow hb
      have T4 : Hid (Calls _ _ _ _ _) := pendingB hA8
      rw [HW.out] at T4
      have HE : Hid (Below _ _ _) := hA8.below
      clear hA8 hb HA6 HA7 T2 T3 HUS HW HR
      go_wp2_with (go_at_call 12; fail)
      refine (T4.out).mono ?_
      rintro e w' ⟨rfl, hww⟩
      obtain rfl := hww.symm
      have hwq2 := hwq.out
      clear T4 hwq
      generalize hsN t = NN at *
      go_wp2
      go_ret
      exact ⟨rfl, HE.out⟩

/-! ### The row's step -/
set_option maxRecDepth 100000 in
theorem lifted (os : Os) (started : os.Started) (H : Type) (enc : TypeId × Value → H) :
    ReturnsInHanded {} Tryd.checked os 5 .any (fun w args => (Rows.listFrontSpec.pre enc Tryd.prog Tryd.f5 [] false w args ∧ laidMetH Tryd.prog laid1 w) ∧ sizedMet enc Tryd.prog Tryd.f5 (OpenSpec.ofChange Rows.listFrontSpec) false w args) (Rows.listFrontSpec.post enc Tryd.prog Tryd.f5 false true false false) := by
  refine returnsInHanded_of_change_and (C := Tryd.checked) (X := fun w _ => laidMetH Tryd.prog laid1 w) (fun _ _ _ hh h => h.of_heap hh) Tryd.own started (by kernel_rfl) Tryd.func5
    (ChangeSpec.witness_shaped (enc := enc) (C := Tryd.checked) (os := os) (X := fun w _ => laidMetH Tryd.prog laid1 w) false (World.doorLaid Tryd.prog 400 os) #[.int .i64 0, .int .i64 0, .bool false] 8 rfl (World.shaped_of_RefB (by kernel_rfl) (by kernel_rfl)) (by kernel_rfl) (by kernel_rfl) (by kernel_rfl) (door_met os _)) ?_
  intro W base args ds gs before hval0 hW _ _ hL _
  have hval : ∀ (j : Nat) t v, Tryd.f5.params[j]? = some t → args[j]? = some v → Value.okWide Tryd.prog W .any base t v := hval0
  have hW' := hW
  obtain ⟨p, q, hA0, hV, rfl, hfz, hnd⟩ := hW
  have hA : DataW.TrodAll enc Tryd.prog W 0 (fun _ => true) true Tryd.f5.params.toList args.toList ds p := hA0
  rw [Tryd.params5] at hA hval
  obtain ⟨v0, vs0, d0, ds0, p0, q0, hargs, rfl, rfl, h0, r0⟩ := trodAll_cons hA
  obtain ⟨v1, vs1, d1, ds1, p1, q1, rfl, rfl, rfl, h1, r1⟩ := trodAll_cons r0
  obtain ⟨v2, vs2, d2, ds2, p2, q2, rfl, rfl, rfl, h2, r2⟩ := trodAll_cons r1
  obtain ⟨rfl, rfl, rfl⟩ := trodAll_nil r2
  obtain rfl : args = #[v0, v1, v2] := by cases args; simp_all
  obtain ⟨rfl, rfl⟩ := trodVars_none hV
  obtain ⟨a0, rfl, rfl, rfl, wf0⟩ := open_int Tryd.underlying3 (hval 0 3 v0 rfl rfl) h0
  have w0 := wf_i64 wf0
  obtain ⟨a1, rfl, rfl, rfl, wf1⟩ := open_int Tryd.underlying3 (hval 1 3 v1 rfl rfl) h1
  have w1 := wf_i64 wf1
  obtain ⟨a2, rfl, rfl, rfl⟩ := open_bool Tryd.underlying4 (hval 2 4 v2 rfl rfl) h2
  clear hA0 hval0
  simp only [List.append_nil] at hW'
  refine (walk a0 a1 a2 W (of_laid hL) w0 w1).mono fun e W' ⟨he, hg⟩ => ?_
  subst he
  exact ⟨_, rfl, post_carry Tryd.laidOut (by rw [Tryd.params5]; intro t ht; simp only [List.mem_cons, List.not_mem_nil, or_false] at ht; rcases ht with rfl | rfl | rfl <;> exact ⟨by kernel_rfl, of_decide_eq_true (by kernel_rfl)⟩) rfl hW' (fun _ _ _ => (trodAll_cons_mk (shut_bool Tryd.underlying4 _) trodAll_mk0)) rfl rfl hg⟩

theorem over : Rows.listFrontRow.holds Tryd.pinned (OpenSpec.ofChange Rows.listFrontSpec) :=
  OpenClaim.holds_of_wide 5 Tryd.f5 rfl rfl rfl rfl rfl rfl rfl ⟨rfl, rfl, rfl, rfl, rfl⟩ rfl rfl rfl rfl rfl (by kernel_rfl) Tryd.func5 (by kernel_rfl)
    (of_decide_eq_true (by kernel_rfl)) (by unfold Func.isWrapper; first | (rw [if_pos (by decide +kernel)]; kernel_rfl) | (rw [if_neg (by decide +kernel)]; exact ⟨rfl, rfl⟩))
    (fun os started H enc _ => lifted os started H enc)

end Go.Proofs.YtfigihlahmgloaaDoor.listFront

namespace Go.Proofs.YtfigihlahmgloaaDoor
/-- the row -/
theorem listFront_row : Rows.ListFrontSaid := listFront.over

/-- the statement: the tied card -/
theorem listFront_holds : Rows.ListFrontCardSaid :=
  Claim7.holds_tied_plain_at .later [] [.data] true Rows.listFrontCard.stood.harness false
    listFront_row (fun _ h => by cases h) (by kernel_rfl) (fun _ h => by cases h) listFront_row_tie rfl ⟨rfl, rfl⟩ (by kernel_rfl) rfl
    (fun f fn hf hfn => by
      obtain rfl : f = 5 := Option.some.inj ((show Tryd.prog.funcNamed "scrinium/scriniumlaw10.ListFront" = some 5 by kernel_rfl).symm.trans hf) |>.symm
      obtain rfl : fn = Tryd.f5 := (Option.some.inj (Tryd.func5.symm.trans hfn)).symm
      exact ⟨by kernel_rfl, fun j t ht => by
        rw [Tryd.params5] at ht
        have hm : t ∈ [3, 3, 4] := by simpa using Array.mem_of_getElem? ht
        have hall : ([3, 3, 4].all fun u => !Tryd.prog.wantsStandIn u) = true := by kernel_rfl
        exact (show Tryd.prog.wantsStandIn t = false by simpa using List.all_eq_true.1 hall t hm)⟩)
    (by kernel_rfl)
#print axioms listFront_holds
end Go.Proofs.YtfigihlahmgloaaDoor
