/- Bits that are put in at the front only, or taken out there, leave a row that is not deep, and no other nodes: for every number of bits up to 400. -/
import Derived.Test.YtfkfnibeipddaaaDoorBSh
import Derived.Test.YtfkfnibeipddaaaDoorMg
import Derived.Test.YtfkfnibeipddaaaDoorCards
import Derived.Test.YtfkfnibeipddaaaDoorTie
import Derived.SevenTiedAt
namespace Go.Proofs.YtfkfnibeipddaaaDoor.bitsFront
open Go.ChangeShapes Go.WideShapes Go.ChangeAt Go.RowKit
set_option linter.unusedVariables false

/-- what somebody has of a row -/
def mineT (t : Tr) : List Int := if t.hd = 0 then [] else [t.hd]
theorem mineT_pos {t : Tr} (h : t.hd ≠ 0) : mineT t = [t.hd] := if_neg h
theorem mineT_zero {t : Tr} (h : t.hd = 0) : mineT t = [] := if_pos h
theorem mineT_or (t : Tr) : t.hd = 0 ∨ t.hd ∈ mineT t := by
  by_cases h : t.hd = 0
  · exact Or.inl h
  · exact Or.inr (by rw [mineT_pos h]; simp)
theorem mineT_mem {t : Tr} {x : Int} (h : x ∈ mineT t) : x = t.hd := by
  by_cases e : t.hd = 0
  · rw [mineT_zero e] at h; cases h
  · rw [mineT_pos e] at h; exact List.mem_singleton.1 h
theorem mineT_app (l : List Int) (t : Tr) : l ++ mineT t = if t.hd = 0 then l else l ++ [t.hd] := by
  by_cases e : t.hd = 0
  · rw [mineT_zero e, if_pos e, List.append_nil]
  · rw [mineT_pos e, if_neg e]

/-! ### The walk -/
set_option maxRecDepth 100000 in
set_option maxHeartbeats 2000000 in
theorem walk (a0 : Int) (a1 : Int) (a2 : Bool) (w : World) (hT : Tab w) (w0 : -9223372036854775808 ≤ a0 ∧ a0 ≤ 9223372036854775807) (w1 : -9223372036854775808 ≤ a1 ∧ a1 ≤ 9223372036854775807) :
    Calls Tryd.prog 5 #[.int .i64 a0, .int .i64 a1, .bool a2] w fun e w' => e = .returned (.bool true) ∧ Below w.heap.size w w' := by
  have TA : Hid (∀ W, Tab W → _) := fun W h => alive8 W h
  have HT : Hid (Tab w) := hT
  clear hT
  by_cases h1 : a0 < 0
  · clear w0 w1
    have d0 : decide (a0 < 0) = true := decide_eq_true (by omega)
    clear h1
    go_enter Tryd.func5, Tryd.ntmps5
    go_wp2_with (go_at_call 9; fail)
    refine (TA.out _ HT.out).mono ?_
    rintro e w1 ⟨rfl, hb⟩
    have HB : Hid (Below w.heap.size w w1) := hb
    have HT1 : Hid (Tab w1) := tab_below HT.out hb
    clear hb HT TA
    go_wp2
    go_ret
    exact ⟨rfl, HB.out⟩
  by_cases h2 : 400 < a0
  · clear w0 w1
    have d0 : decide (a0 < 0) = false := decide_eq_false (by omega)
    have d1 : decide (400 < a0) = true := decide_eq_true (by omega)
    clear h1 h2
    go_enter Tryd.func5, Tryd.ntmps5
    go_wp2_with (go_at_call 9; fail)
    refine (TA.out _ HT.out).mono ?_
    rintro e w1 ⟨rfl, hb⟩
    have HB : Hid (Below w.heap.size w w1) := hb
    have HT1 : Hid (Tab w1) := tab_below HT.out hb
    clear hb HT TA
    go_wp2
    go_ret
    exact ⟨rfl, HB.out⟩
  by_cases h3 : a1 < 0
  · clear w0 w1
    have d0 : decide (a0 < 0) = false := decide_eq_false (by omega)
    have d1 : decide (400 < a0) = false := decide_eq_false (by omega)
    have d2 : decide (a1 < 0) = true := decide_eq_true (by omega)
    clear h1 h2 h3
    go_enter Tryd.func5, Tryd.ntmps5
    go_wp2_with (go_at_call 9; fail)
    refine (TA.out _ HT.out).mono ?_
    rintro e w1 ⟨rfl, hb⟩
    have HB : Hid (Below w.heap.size w w1) := hb
    have HT1 : Hid (Tab w1) := tab_below HT.out hb
    clear hb HT TA
    go_wp2
    go_ret
    exact ⟨rfl, HB.out⟩
  by_cases h4 : a0 < a1
  · clear w0 w1
    have d0 : decide (a0 < 0) = false := decide_eq_false (by omega)
    have d1 : decide (400 < a0) = false := decide_eq_false (by omega)
    have d2 : decide (a1 < 0) = false := decide_eq_false (by omega)
    have d3 : decide (a0 < a1) = true := decide_eq_true (by omega)
    clear h1 h2 h3 h4
    go_enter Tryd.func5, Tryd.ntmps5
    go_wp2_with (go_at_call 9; fail)
    refine (TA.out _ HT.out).mono ?_
    rintro e w1 ⟨rfl, hb⟩
    have HB : Hid (Below w.heap.size w w1) := hb
    have HT1 : Hid (Tab w1) := tab_below HT.out hb
    clear hb HT TA
    go_wp2
    go_ret
    exact ⟨rfl, HB.out⟩
  obtain ⟨n, rfl⟩ : ∃ n : Nat, a0 = n := ⟨a0.toNat, by omega⟩
  obtain ⟨m, rfl⟩ : ∃ m : Nat, a1 = m := ⟨a1.toNat, by omega⟩
  have hn4 : n ≤ 400 := by omega
  have hmn : m ≤ n := by omega
  have d0 : decide ((n : Int) < 0) = false := decide_eq_false (by omega)
  have d1 : decide (400 < (n : Int)) = false := decide_eq_false (by omega)
  have d2 : decide ((m : Int) < 0) = false := decide_eq_false (by omega)
  have d3 : decide ((n : Int) < (m : Int)) = false := decide_eq_false (by omega)
  have e1 : decide (400 < n) = false := decide_eq_false (by omega)
  have e3 : decide (n < m) = false := decide_eq_false (by omega)
  clear h1 h2 h3 h4 w0 w1
  go_enter Tryd.func5, Tryd.ntmps5
  go_wp2_with (go_at_call 9; fail)
  refine (TA.out _ HT.out).mono ?_
  rintro e w1 ⟨rfl, hb⟩
  have HB : Hid (Below w.heap.size w w1) := hb
  have HT1 : Hid (Tab w1) := tab_below HT.out hb
  clear hb HT TA
  have T : Hid (Calls _ _ _ _ _) := newR HB.out HT1.out 1000 (by omega) (by omega)
  go_wp2_with (go_at_call 10; fail)
  refine (T.out).mono ?_
  rintro e w2 ⟨G, S0, rfl, hA, hC, hn, hu, hw⟩
  have HA : Hid (AB w G w2 S0 0 0) := hA
  have HC : Hid (CI S0 []) := hC
  have HN : Hid (S0.n = 1000) := hn
  have HU : Hid (usedN S0.sl ≤ 0) := Nat.le_of_eq hu
  have HW : Hid (S0.wt = []) := hw
  clear hA hC hn hu hw T HB HT1
  have hAl := HA.out.lt
  clear d0 d1 d2 d3 e1 e3
  have HC0 : Hid (CI S0 (mineT .nil)) := HC.out
  have HUS : Hid (usedN S0.sl = hsN .nil) := by have := HU.out; show usedN S0.sl = 0; omega
  have HR0 : Hid (RowT S0 .nil []) := RowT.none S0
  have HA0 : Hid (AB w G w2 S0 0 (1300 * 0)) := HA.out
  clear HA HC HU
  go_wp2
  have hwnm : IntKind.i64.wrap ((n : Int) + (m : Int)) = (n : Int) + (m : Int) := by rw [IntKind.wrap_i64]; omega
  go_loopw [8, 9] (fun h i wr => ∃ (j : Nat) (S : St) (md : Nat) (t : Tr) (bs : List Bool), j ≤ n + m ∧ h = .int .i64 t.hd ∧ i = .int .i64 (j : Nat) ∧ bs.length = min j (2 * n - j) ∧ md ≤ 52 * j ∧ Hid (AB w G wr S md (1300 * j)) ∧ Hid (CI S (mineT t)) ∧ Hid (S.n = 1000) ∧ Hid (S.wt = []) ∧ Hid (usedN S.sl = hsN t) ∧ Hid (RowT S t bs)) (fun _ i _ => n + m - (intOf i).toNat)
  case atStart => exact ⟨0, S0, 0, .nil, [], by omega, rfl, rfl, by simp, by omega, HA0, HC0, HN, HW, HUS, HR0⟩
  case round =>
    obtain ⟨j, S, md, t, bs, hj, rfl, rfl, hbl, hmd, HA, HC, HN, HW, HUS, HR⟩ := hrel
    clear HA0 HC0 HR0
    have hAl := HA.out.lt
    have hd := HR.out.deep (by omega)
    have hnn : hsN t ≤ 101 := by have h1 := hsN_le t; have h2 := HR.out.nodes; omega
    by_cases hlt : j < n + m
    · have q0 : decide ((j : Int) < (n : Int) + (m : Int)) = true := decide_eq_true (by omega)
      by_cases hjn : j < n
      · have q9 : decide ((j : Int) < (n : Int)) = true := decide_eq_true (by omega)
        have q8 : decide (j < n) = true := decide_eq_true hjn
        have T : Hid (∀ b, Calls _ _ _ _ _) := fun b => insR HA.out HC.out HR.out (by omega) 0 (by omega) b (by have := HN.out; have := HUS.out; omega) (by omega) (by omega)
        rw [show ((0 : Nat) : Int) = 0 from rfl] at T
        go_wp2_with (go_at_call 13; fail)
        refine (T.out _).mono ?_
        rintro e w5 ⟨S5, t5, m5, rfl, hA, hC, hG, hT, hu, hm, -, hz, hS⟩
        have hlen5 : ∀ b : Bool, (bs.take 0 ++ b :: bs.drop 0).length = min (j + 1) (2 * n - (j + 1)) := fun b => by simp; omega
        have HC5 : Hid (CI S5 (mineT t ++ mineT t5)) := by rw [mineT_pos hz]; exact hC
        have HA5 : Hid (AB w G w5 S5 (md + m5) (1300 * j + 1300)) := hA
        have HN5 : Hid (S5.n = 1000) := hG.1.trans HN.out
        have HR5 : Hid (RowT S5 t5 _) := hT
        have HU5 : Hid (usedN S5.sl ≤ 153) := by have := HUS.out; show usedN S5.sl ≤ 153; omega
        have hm5 : m5 ≤ 52 := by omega
        clear HA HC HN HW HUS T hA hC hG hT hu hm hS hd
        by_cases hz0 : t.hd = 0
        · have q1 : (t.hd != 0) = false := by simpa using hz0
          have q2 : decide (t.hd = 0) = true := decide_eq_true hz0
          have q3 : (t.hd == 0) = true := by simpa using hz0
          have HC6 : Hid (CI S5 (mineT t5)) := by have h := HC5.out; rw [mineT_zero hz0] at h; exact h
          clear HC5 hz0
          have T : Hid (Calls _ _ _ _ _) := workR HA5.out HC6.out (by omega) 200
          rw [show ((200 : Nat) : Int) = 200 from rfl] at T
          go_wp2_with (go_at_call 15; fail)
          refine (T.out).mono ?_
          rintro e w7 ⟨S7, f7, rfl, hA, hC, hK, -, hu, hS⟩
          obtain ⟨hw7, hu7⟩ := hu (by have := HU5.out; omega)
          have hR7 := HR5.out.carry hC hK (mineT_or t5)
          have HUS7 : Hid (usedN S7.sl = hsN t5) := used_row hC hA.inv hw7 (fun x hx => mineT_mem hx) hR7.held hR7.made
          have HA7 : Hid (AB w G w7 S7 (md + m5) (1300 * j + 1300)) := hA
          have HC7 : Hid (CI S7 (mineT t5)) := hC
          have HR7 : Hid (RowT S7 t5 _) := hR7
          have HW7 : Hid (S7.wt = []) := hw7
          have HN7 : Hid (S7.n = 1000) := hK.1.trans HN5.out
          clear T hA hC hK hu hS hu7 hR7 hw7 HA5 HC6 HR5 HU5 HN5 HR
          go_wp2
          go_roundw
          case rel => exact ⟨j + 1, S7, md + m5, t5, _, by omega, rfl, by go_num, hlen5 _, by omega, HA7, HC7, HN7, HW7, HUS7, HR7⟩
          case measure => simp [intOf]; omega
        · have q1 : (t.hd != 0) = true := by simpa using hz0
          have q2 : decide (t.hd = 0) = false := decide_eq_false hz0
          have q3 : (t.hd == 0) = false := by simpa using hz0
          have HC6 : Hid (CI S5 ([t.hd] ++ mineT t5)) := by have h := HC5.out; rw [mineT_pos hz0] at h; exact h
          clear HC5 hz0
          have T : Hid (Calls _ _ _ _ _) := dropR HA5.out HC6.out (by omega) (x := t.hd) (by simp)
          go_wp2_with (go_at_call 14; fail)
          refine (T.out).mono ?_
          rintro e w6 ⟨rfl, hA, hC, hK, hu, hS⟩
          have hC2 : CI (S5.drop t.hd) (mineT t5) := by simpa using hC
          have HR6 : Hid (RowT (S5.drop t.hd) t5 _) := HR5.out.carry hC2 hK (mineT_or t5)
          have HA6 : Hid (AB w G w6 (S5.drop t.hd) (md + m5) (1300 * j + 1300)) := hA
          have HC7 : Hid (CI (S5.drop t.hd) (mineT t5)) := hC2
          have HU6 : Hid (usedN (S5.drop t.hd).sl ≤ 153) := by rw [hu]; exact HU5.out
          have HN6 : Hid ((S5.drop t.hd).n = 1000) := hK.1.trans HN5.out
          clear T hA hC hC2 hK hu hS HA5 HC6 HR5 HU5 HN5
          have HC8 := HC7
          clear HC7
          have T : Hid (Calls _ _ _ _ _) := workR HA6.out HC8.out (by omega) 200
          rw [show ((200 : Nat) : Int) = 200 from rfl] at T
          go_wp2_with (go_at_call 15; fail)
          refine (T.out).mono ?_
          rintro e w7 ⟨S7, f7, rfl, hA, hC, hK, -, hu, hS⟩
          obtain ⟨hw7, hu7⟩ := hu (by have := HU6.out; omega)
          have hR7 := HR6.out.carry hC hK (mineT_or t5)
          have HUS7 : Hid (usedN S7.sl = hsN t5) := used_row hC hA.inv hw7 (fun x hx => mineT_mem hx) hR7.held hR7.made
          have HA7 : Hid (AB w G w7 S7 (md + m5) (1300 * j + 1300)) := hA
          have HC7 : Hid (CI S7 (mineT t5)) := hC
          have HR7 : Hid (RowT S7 t5 _) := hR7
          have HW7 : Hid (S7.wt = []) := hw7
          have HN7 : Hid (S7.n = 1000) := hK.1.trans HN6.out
          clear T hA hC hK hu hS hu7 hR7 hw7 HA6 HC8 HR6 HU6 HN6 HR
          go_wp2
          go_roundw
          case rel => exact ⟨j + 1, S7, md + m5, t5, _, by omega, rfl, by go_num, hlen5 _, by omega, HA7, HC7, HN7, HW7, HUS7, HR7⟩
          case measure => simp [intOf]; omega
      · have q9 : decide ((j : Int) < (n : Int)) = false := decide_eq_false (by omega)
        have q8 : decide (j < n) = false := decide_eq_false hjn
        have T : Hid (Calls _ _ _ _ _) := delR HA.out HC.out HR.out (by omega) 0 (by omega) (by have := HN.out; have := HUS.out; omega) (by omega) (by omega)
        rw [show ((0 : Nat) : Int) = 0 from rfl] at T
        go_wp2_with (go_at_call 25; fail)
        refine (T.out).mono ?_
        rintro e w5 ⟨S5, t5, m5, rfl, hA, hC, hG, hT, hu, hm, hS⟩
        have hlen5 : (bs.take 0 ++ bs.drop (0 + 1)).length = min (j + 1) (2 * n - (j + 1)) := by simp; omega
        have HC5 : Hid (CI S5 (mineT t ++ mineT t5)) := by rw [mineT_app]; exact hC
        have HA5 : Hid (AB w G w5 S5 (md + m5) (1300 * j + 1300)) := hA
        have HN5 : Hid (S5.n = 1000) := hG.1.trans HN.out
        have HR5 : Hid (RowT S5 t5 _) := hT
        have HU5 : Hid (usedN S5.sl ≤ 153) := by have := HUS.out; show usedN S5.sl ≤ 153; omega
        have hm5 : m5 ≤ 52 := by omega
        clear HA HC HN HW HUS T hA hC hG hT hu hm hS hd
        by_cases hz0 : t.hd = 0
        · have q1 : (t.hd != 0) = false := by simpa using hz0
          have q2 : decide (t.hd = 0) = true := decide_eq_true hz0
          have q3 : (t.hd == 0) = true := by simpa using hz0
          have HC6 : Hid (CI S5 (mineT t5)) := by have h := HC5.out; rw [mineT_zero hz0] at h; exact h
          clear HC5 hz0
          have T : Hid (Calls _ _ _ _ _) := workR HA5.out HC6.out (by omega) 200
          rw [show ((200 : Nat) : Int) = 200 from rfl] at T
          go_wp2_with (go_at_call 15; fail)
          refine (T.out).mono ?_
          rintro e w7 ⟨S7, f7, rfl, hA, hC, hK, -, hu, hS⟩
          obtain ⟨hw7, hu7⟩ := hu (by have := HU5.out; omega)
          have hR7 := HR5.out.carry hC hK (mineT_or t5)
          have HUS7 : Hid (usedN S7.sl = hsN t5) := used_row hC hA.inv hw7 (fun x hx => mineT_mem hx) hR7.held hR7.made
          have HA7 : Hid (AB w G w7 S7 (md + m5) (1300 * j + 1300)) := hA
          have HC7 : Hid (CI S7 (mineT t5)) := hC
          have HR7 : Hid (RowT S7 t5 _) := hR7
          have HW7 : Hid (S7.wt = []) := hw7
          have HN7 : Hid (S7.n = 1000) := hK.1.trans HN5.out
          clear T hA hC hK hu hS hu7 hR7 hw7 HA5 HC6 HR5 HU5 HN5 HR
          go_wp2
          go_roundw
          case rel => exact ⟨j + 1, S7, md + m5, t5, _, by omega, rfl, by go_num, hlen5, by omega, HA7, HC7, HN7, HW7, HUS7, HR7⟩
          case measure => simp [intOf]; omega
        · have q1 : (t.hd != 0) = true := by simpa using hz0
          have q2 : decide (t.hd = 0) = false := decide_eq_false hz0
          have q3 : (t.hd == 0) = false := by simpa using hz0
          have HC6 : Hid (CI S5 ([t.hd] ++ mineT t5)) := by have h := HC5.out; rw [mineT_pos hz0] at h; exact h
          clear HC5 hz0
          have T : Hid (Calls _ _ _ _ _) := dropR HA5.out HC6.out (by omega) (x := t.hd) (by simp)
          go_wp2_with (go_at_call 14; fail)
          refine (T.out).mono ?_
          rintro e w6 ⟨rfl, hA, hC, hK, hu, hS⟩
          have hC2 : CI (S5.drop t.hd) (mineT t5) := by simpa using hC
          have HR6 : Hid (RowT (S5.drop t.hd) t5 _) := HR5.out.carry hC2 hK (mineT_or t5)
          have HA6 : Hid (AB w G w6 (S5.drop t.hd) (md + m5) (1300 * j + 1300)) := hA
          have HC7 : Hid (CI (S5.drop t.hd) (mineT t5)) := hC2
          have HU6 : Hid (usedN (S5.drop t.hd).sl ≤ 153) := by rw [hu]; exact HU5.out
          have HN6 : Hid ((S5.drop t.hd).n = 1000) := hK.1.trans HN5.out
          clear T hA hC hC2 hK hu hS HA5 HC6 HR5 HU5 HN5
          have HC8 := HC7
          clear HC7
          have T : Hid (Calls _ _ _ _ _) := workR HA6.out HC8.out (by omega) 200
          rw [show ((200 : Nat) : Int) = 200 from rfl] at T
          go_wp2_with (go_at_call 15; fail)
          refine (T.out).mono ?_
          rintro e w7 ⟨S7, f7, rfl, hA, hC, hK, -, hu, hS⟩
          obtain ⟨hw7, hu7⟩ := hu (by have := HU6.out; omega)
          have hR7 := HR6.out.carry hC hK (mineT_or t5)
          have HUS7 : Hid (usedN S7.sl = hsN t5) := used_row hC hA.inv hw7 (fun x hx => mineT_mem hx) hR7.held hR7.made
          have HA7 : Hid (AB w G w7 S7 (md + m5) (1300 * j + 1300)) := hA
          have HC7 : Hid (CI S7 (mineT t5)) := hC
          have HR7 : Hid (RowT S7 t5 _) := hR7
          have HW7 : Hid (S7.wt = []) := hw7
          have HN7 : Hid (S7.n = 1000) := hK.1.trans HN6.out
          clear T hA hC hK hu hS hu7 hR7 hw7 HA6 HC8 HR6 HU6 HN6 HR
          go_wp2
          go_roundw
          case rel => exact ⟨j + 1, S7, md + m5, t5, _, by omega, rfl, by go_num, hlen5, by omega, HA7, HC7, HN7, HW7, HUS7, HR7⟩
          case measure => simp [intOf]; omega
    · obtain rfl : j = n + m := by omega
      have q0 : decide (((n + m : Nat) : Int) < (n : Int) + (m : Int)) = false := decide_eq_false (by omega)
      have hbl2 : bs.length = n - m := by omega
      have T1 : Hid (Calls _ _ _ _ _) := lenR HA.out.rd HR.out (by omega)
      rw [hbl2] at T1
      have hwd : IntKind.i64.wrap ((n : Int) - (m : Int)) = ((n - m : Nat) : Int) := by rw [IntKind.wrap_i64]; omega
      have TD : Hid (∀ W, Rd (.pointer (some ⟨G, 0, none⟩)) S W → _) := fun W hR => deep_any hR HR.out.held HR.out.made (by omega)
      have TW : Hid (∀ W, _) := fun W => wide_any (n - m) (by omega) W
      clear HC HN hbl hbl2
      have hwq : Hid (IntKind.i64.wrap ((hsN t : Int)) = (hsN t : Int)) := by show IntKind.i64.wrap _ = _; rw [IntKind.wrap_i64]; omega
      generalize n - m = x at *
      go_wp2_with (go_at_call 21; fail)
      refine (T1.out).mono ?_
      rintro e w5 ⟨rfl, hb⟩
      have HA5 : Hid (AB w G w5 S md (1300 * (n + m))) := HA.out.grow hb
      clear hb HA T1
      go_wp2_with (go_at_call 19; fail)
      refine (TD.out _ HA5.out.rd).mono ?_
      rintro e w6 ⟨rfl, hb⟩
      have HA6 : Hid (AB w G w6 S md (1300 * (n + m))) := HA5.out.grow hb
      clear hb HA5 TD
      go_wp2_with (go_at_call 20; fail)
      refine (TW.out _).mono ?_
      rintro e w7 ⟨⟨v, rfl, hv1, hv2⟩, hww⟩
      obtain rfl := hww.symm
      clear TW
      have hv3 : IntKind.i64.wrap (2 * (v : Int)) = 2 * (v : Int) := by rw [IntKind.wrap_i64]; omega
      have hv4 : IntKind.i64.wrap (4 + 2 * (v : Int)) = 4 + 2 * (v : Int) := by rw [IntKind.wrap_i64]; omega
      have hv5 : decide ((t.deep : Int) ≤ 4 + 2 * (v : Int)) = true := decide_eq_true (by omega)
      have T2 : Hid (Calls _ _ _ _ _) := usedB HA6.out
      rw [HUS.out] at T2
      have TC := cells_new w6 [.int .i64 t.hd] 3 _ rfl
      have HA7 : Hid (AB w G (w6.alloc (.cells #[.int .i64 t.hd] 3)) S md (1300 * (n + m))) := HA6.out.grow ((Below.refl _ _).alloc (Nat.le_refl _) _)
      have T3 : Hid (Calls _ _ _ _ _) := reachRow HA7.out HR.out (some ⟨w6.heap.size, 0, none⟩) 1 TC
      clear TC
      go_wp2_with (go_at_call 26; fail)
      refine (T2.out).mono ?_
      rintro e w' ⟨rfl, hww⟩
      obtain rfl := hww.symm
      go_wp2_with (go_at_call 18; fail)
      refine (T3.out).mono ?_
      rintro e w8 ⟨ra, rc, rfl, hb⟩
      have hA8 := HA7.out.grow hb
      have T4 : Hid (Calls _ _ _ _ _) := pendingB hA8
      rw [HW.out] at T4
      have HE : Hid (Below _ _ _) := hA8.below
      clear hA8 hb HA6 HA7 T2 T3 HUS HW HR
      go_wp2_with (go_at_call 27; fail)
      refine (T4.out).mono ?_
      rintro e w' ⟨rfl, hww⟩
      obtain rfl := hww.symm
      have hwq2 := hwq.out
      clear T4 hwq
      generalize hsN t = NN at *
      go_wp2
      go_ret
      exact ⟨rfl, HE.out⟩

/-! ### The row's step -/
set_option maxRecDepth 100000 in
theorem lifted (os : Os) (started : os.Started) (H : Type) (enc : TypeId × Value → H) :
    ReturnsInHanded {} Tryd.checked os 5 .any (fun w args => (Rows.bitsFrontSpec.pre enc Tryd.prog Tryd.f5 [] false w args ∧ laidMetH Tryd.prog laid1 w) ∧ sizedMet enc Tryd.prog Tryd.f5 (OpenSpec.ofChange Rows.bitsFrontSpec) false w args) (Rows.bitsFrontSpec.post enc Tryd.prog Tryd.f5 false true false false) := by
  refine returnsInHanded_of_change_and (C := Tryd.checked) (X := fun w _ => laidMetH Tryd.prog laid1 w) (fun _ _ _ hh h => h.of_heap hh) Tryd.own started (by kernel_rfl) Tryd.func5
    (ChangeSpec.witness_shaped (enc := enc) (C := Tryd.checked) (os := os) (X := fun w _ => laidMetH Tryd.prog laid1 w) false (World.doorLaid Tryd.prog 400 os) #[.int .i64 0, .int .i64 0, .bool false] 8 rfl (World.shaped_of_RefB (by kernel_rfl) (by kernel_rfl)) (by kernel_rfl) (by kernel_rfl) (by kernel_rfl) (door_met os _)) ?_
  intro W base args ds gs before hval0 hW _ _ hL _
  have hval : ∀ (j : Nat) t v, Tryd.f5.params[j]? = some t → args[j]? = some v → Value.okWide Tryd.prog W .any base t v := hval0
  have hW' := hW
  obtain ⟨p, q, hA0, hV, rfl, hfz, hnd⟩ := hW
  have hA : DataW.TrodAll enc Tryd.prog W 0 (fun _ => true) true Tryd.f5.params.toList args.toList ds p := hA0
  rw [Tryd.params5] at hA hval
  obtain ⟨v0, vs0, d0, ds0, p0, q0, hargs, rfl, rfl, h0, r0⟩ := trodAll_cons hA
  obtain ⟨v1, vs1, d1, ds1, p1, q1, rfl, rfl, rfl, h1, r1⟩ := trodAll_cons r0
  obtain ⟨v2, vs2, d2, ds2, p2, q2, rfl, rfl, rfl, h2, r2⟩ := trodAll_cons r1
  obtain ⟨rfl, rfl, rfl⟩ := trodAll_nil r2
  obtain rfl : args = #[v0, v1, v2] := by cases args; simp_all
  obtain ⟨rfl, rfl⟩ := trodVars_none hV
  obtain ⟨a0, rfl, rfl, rfl, wf0⟩ := open_int Tryd.underlying3 (hval 0 3 v0 rfl rfl) h0
  have w0 := wf_i64 wf0
  obtain ⟨a1, rfl, rfl, rfl, wf1⟩ := open_int Tryd.underlying3 (hval 1 3 v1 rfl rfl) h1
  have w1 := wf_i64 wf1
  obtain ⟨a2, rfl, rfl, rfl⟩ := open_bool Tryd.underlying4 (hval 2 4 v2 rfl rfl) h2
  clear hA0 hval0
  simp only [List.append_nil] at hW'
  refine (walk a0 a1 a2 W (of_laid hL) w0 w1).mono fun e W' ⟨he, hg⟩ => ?_
  subst he
  exact ⟨_, rfl, post_carry Tryd.laidOut (by rw [Tryd.params5]; intro t ht; simp only [List.mem_cons, List.not_mem_nil, or_false] at ht; rcases ht with rfl | rfl | rfl <;> exact ⟨by kernel_rfl, of_decide_eq_true (by kernel_rfl)⟩) rfl hW' (fun _ _ _ => (trodAll_cons_mk (shut_bool Tryd.underlying4 _) trodAll_mk0)) rfl rfl hg⟩

theorem over : Rows.bitsFrontRow.holds Tryd.pinned (OpenSpec.ofChange Rows.bitsFrontSpec) :=
  OpenClaim.holds_of_wide 5 Tryd.f5 rfl rfl rfl rfl rfl rfl rfl ⟨rfl, rfl, rfl, rfl, rfl⟩ rfl rfl rfl rfl rfl (by kernel_rfl) Tryd.func5 (by kernel_rfl)
    (of_decide_eq_true (by kernel_rfl)) (by unfold Func.isWrapper; first | (rw [if_pos (by decide +kernel)]; kernel_rfl) | (rw [if_neg (by decide +kernel)]; exact ⟨rfl, rfl⟩))
    (fun os started H enc _ => lifted os started H enc)

end Go.Proofs.YtfkfnibeipddaaaDoor.bitsFront

namespace Go.Proofs.YtfkfnibeipddaaaDoor
/-- the row -/
theorem bitsFront_row : Rows.BitsFrontSaid := bitsFront.over

/-- the statement: the tied card -/
theorem bitsFront_holds : Rows.BitsFrontCardSaid :=
  Claim7.holds_tied_plain_at .later [] [.data] true Rows.bitsFrontCard.stood.harness false
    bitsFront_row (fun _ h => by cases h) (by kernel_rfl) (fun _ h => by cases h) bitsFront_row_tie rfl ⟨rfl, rfl⟩ (by kernel_rfl) rfl
    (fun f fn hf hfn => by
      obtain rfl : f = 5 := Option.some.inj ((show Tryd.prog.funcNamed "scrinium/scriniumlaw8.BitsFront" = some 5 by kernel_rfl).symm.trans hf) |>.symm
      obtain rfl : fn = Tryd.f5 := (Option.some.inj (Tryd.func5.symm.trans hfn)).symm
      exact ⟨by kernel_rfl, fun j t ht => by
        rw [Tryd.params5] at ht
        have hm : t ∈ [3, 3, 4] := by simpa using Array.mem_of_getElem? ht
        have hall : ([3, 3, 4].all fun u => !Tryd.prog.wantsStandIn u) = true := by kernel_rfl
        exact (show Tryd.prog.wantsStandIn t = false by simpa using List.all_eq_true.1 hall t hm)⟩)
    (by kernel_rfl)
#print axioms bitsFront_holds
end Go.Proofs.YtfkfnibeipddaaaDoor
