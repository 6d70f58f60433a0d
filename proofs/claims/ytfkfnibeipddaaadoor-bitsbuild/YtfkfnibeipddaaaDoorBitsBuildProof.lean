/- A row of at most 300 bits that is built at once is as one that is made bit by bit; both stand in as many nodes as may be: for every list. -/
import Derived.Test.YtfkfnibeipddaaaDoorBSh
import Derived.Test.YtfkfnibeipddaaaDoorMg
import Derived.Test.YtfkfnibeipddaaaDoorCards
import Derived.Test.YtfkfnibeipddaaaDoorTie
import Derived.SevenTiedAt
namespace Go.Proofs.YtfkfnibeipddaaaDoor.bitsBuild
open Go.ChangeShapes Go.WideShapes Go.ChangeAt Go.RowKit
set_option linter.unusedVariables false

/-- what somebody has of a row -/
def mineT (t : Tr) : List Int := if t.hd = 0 then [] else [t.hd]
theorem mineT_pos {t : Tr} (h : t.hd ≠ 0) : mineT t = [t.hd] := if_neg h
theorem mineT_zero {t : Tr} (h : t.hd = 0) : mineT t = [] := if_pos h
theorem mineT_or (t : Tr) : t.hd = 0 ∨ t.hd ∈ mineT t := by
  by_cases h : t.hd = 0
  · exact Or.inl h
  · exact Or.inr (by rw [mineT_pos h]; simp)
theorem mineT_mem {t : Tr} {x : Int} (h : x ∈ mineT t) : x = t.hd := by
  by_cases e : t.hd = 0
  · rw [mineT_zero e] at h; cases h
  · rw [mineT_pos e] at h; exact List.mem_singleton.1 h
theorem mineT_app (l : List Int) (t : Tr) : l ++ mineT t = if t.hd = 0 then l else l ++ [t.hd] := by
  by_cases e : t.hd = 0
  · rw [mineT_zero e, if_pos e, List.append_nil]
  · rw [mineT_pos e, if_neg e]

theorem used_two {S : St} {mine : List Int} {t u : Tr} (C : CI S mine) (I : Inv S) (hw : S.wt = []) (hm1 : ∀ x ∈ mine, x = t.hd ∨ x = u.hd) (hH : Held S t) (hm : t.hd ≠ 0 ∨ t = .nil) (hH2 : Held S u) (hm2 : u.hd ≠ 0 ∨ u = .nil) : usedN S.sl ≤ t.nodes + u.nodes := by
  obtain ⟨a, A⟩ := reInv_ex S ([t.hd] ++ [u.hd])
  rw [← reach_all C I hw A (fun x hx => by rcases hm1 x hx with e | e <;> simp [e]), ← hs_len, ← hs_len, ← List.length_append]
  refine List.Nodup.length_le_of_subset (rise_nodup a) (fun x hx => ?_)
  rcases Rch.parts ((A.done x).1 ((mem_rise a x).1 hx)) with h | h
  · exact List.mem_append.2 (Or.inl (rch_hs hH hm h))
  · exact List.mem_append.2 (Or.inr (rch_hs hH2 hm2 h))

theorem perm_mid (A : List Int) (x : Int) (B : List Int) : ((A ++ [x] ++ B).erase x).Perm (A ++ B) := by
  have h : (A ++ [x] ++ B).Perm (x :: (A ++ B)) := by
    simp only [List.append_assoc, List.cons_append, List.nil_append]
    exact List.perm_middle
  have := h.erase x
  simpa using this

theorem take_step (bs : List Bool) {j : Nat} (h : j < bs.length) : (bs.take j).take j ++ bs[j] :: (bs.take j).drop j = bs.take (j + 1) := by
  have e : (bs.take j).length = j := by rw [List.length_take]; omega
  rw [List.take_of_length_le (by omega), List.drop_eq_nil_of_le (by omega), List.take_succ_eq_append_getElem h]

/-! ### The walk -/
set_option maxRecDepth 100000 in
set_option maxHeartbeats 2000000 in
theorem walk (ao0 : Option Addr) (bs0 : List Bool) (cap0 : Nat) (w : World) (hT : Tab w) (hs0 : HasBools w ao0 bs0) (hl0 : bs0.length ≤ cap0) (hm0 : cap0 ≤ 9223372036854775807) :
    Calls Tryd.prog 3 #[.slice ao0 bs0.length cap0] w fun e w' => e = .returned (.bool true) ∧ Below w.heap.size w w' := by
  have TA : Hid (∀ W, Tab W → _) := fun W h => alive8 W h
  have HT : Hid (Tab w) := hT
  clear hT
  by_cases h0 : 300 < bs0.length
  · clear hs0 hl0 hm0
    have d0 : decide ((300 : Int) < ((bs0.length : Nat) : Int)) = true := decide_eq_true (by omega)
    have d1 : decide (300 < bs0.length) = true := decide_eq_true h0
    clear h0
    go_enter Tryd.func3, Tryd.ntmps3
    go_wp2_with (go_at_call 9; fail)
    refine (TA.out _ HT.out).mono ?_
    rintro e w1 ⟨rfl, hb⟩
    have HB : Hid (Below w.heap.size w w1) := hb
    have HT1 : Hid (Tab w1) := tab_below HT.out hb
    clear hb HT TA
    go_wp2
    go_ret
    exact ⟨rfl, HB.out⟩
  have d0 : decide ((300 : Int) < ((bs0.length : Nat) : Int)) = false := decide_eq_false (by omega)
  have d1 : decide (300 < bs0.length) = false := decide_eq_false h0
  have hln : bs0.length ≤ 300 := by omega
  clear h0
  have HS : Hid (HasBools w ao0 bs0) := hs0
  clear hs0
  go_enter Tryd.func3, Tryd.ntmps3
  go_wp2_with (go_at_call 9; fail)
  refine (TA.out _ HT.out).mono ?_
  rintro e w1 ⟨rfl, hb⟩
  have HB : Hid (Below w.heap.size w w1) := hb
  have HT1 : Hid (Tab w1) := tab_below HT.out hb
  clear hb HT TA
  have T : Hid (Calls _ _ _ _ _) := newR HB.out HT1.out 2000 (by omega) (by omega)
  go_wp2_with (go_at_call 10; fail)
  refine (T.out).mono ?_
  rintro e w2 ⟨G, S0, rfl, hA, hC, hn, hu, hw⟩
  have HA : Hid (AB w G w2 S0 0 0) := hA
  have HC : Hid (CI S0 []) := hC
  have HN : Hid (S0.n = 2000) := hn
  have HU : Hid (usedN S0.sl ≤ 0) := Nat.le_of_eq hu
  have HW : Hid (S0.wt = []) := hw
  clear hA hC hn hu hw T HB HT1
  have hAl := HA.out.lt
  have HUZ : Hid (usedN S0.sl ≤ 0) := HU.out
  have T : Hid (Calls _ _ _ _ _) := buildR HA.out HC.out (HS.out.later HA.out.below) hl0 hm0 (by omega) (by have := HN.out; omega) (by have := HN.out; have := HU.out; omega) (by omega) (by omega)
  go_wp2_with (go_at_call 11; fail)
  refine (T.out).mono ?_
  rintro e w3 ⟨S1, th, m1, rfl, hA, hC, hG, hT, hu, hm, hdp, hS⟩
  have HA2 : Hid (AB w G w3 S1 (0 + m1) (0 + 1300)) := hA
  have HC2 : Hid (CI S1 _) := hC
  have HN2 : Hid (S1.n = 2000) := hG.1.trans HN.out
  have Rh2 : Hid (RowT S1 th (bs0)) := hT
  have HC3 : Hid (CI S1 (mineT th ++ mineT .nil)) := by show CI S1 (mineT th ++ []); rw [List.append_nil]; have h := mineT_app [] th; rw [List.nil_append] at h; rw [h]; exact hC
  have hm1 : m1 ≤ 76 := by omega
  have HMK : Hid (m1 ≤ 1 + bs0.length / 4) := by show m1 ≤ 1 + bs0.length / 4; omega
  have HU1 : Hid (usedN S1.sl ≤ 152) := by have := HUZ.out; show usedN S1.sl ≤ 152; omega
  clear HU HUZ hu hm hS HW hdp
  clear HA HC HN hA hC hT hG T
  have HA := HA2; have HC := HC2; have HN := HN2
  have Rh := Rh2
  clear HA2 HC2 HN2 Rh2
  have HA1 : Hid (AB w G w3 S1 m1 (1300 * (0 + 1))) := by have h := HA.out; rw [Nat.zero_add] at h; exact h
  clear HA
  have T := madeB HA1.out
  have HT : Hid (Calls _ _ _ _ _) := T
  clear T
  have hq1 : decide (4 + ((bs0.length : Nat) : Int) < (m1 : Int)) = false := decide_eq_false (by have := HMK.out; omega)
  have hq2 : IntKind.i64.wrap (4 + ((bs0.length : Nat) : Int)) = 4 + ((bs0.length : Nat) : Int) := by rw [IntKind.wrap_i64]; omega
  go_wp2_with (go_at_call 12; fail)
  refine (HT.out).mono ?_
  rintro e w' ⟨rfl, hww⟩
  obtain rfl := hww.symm
  clear HT HC
  go_wp2
  go_loopw [6, 38] (fun g i wr => ∃ (j : Nat) (S : St) (md : Nat) (t : Tr), j ≤ bs0.length ∧ g = .int .i64 t.hd ∧ i = .int .i64 (j : Nat) ∧ md ≤ 76 + 52 * j ∧ Hid (AB w G wr S md (1300 * (j + 1))) ∧ Hid (CI S (mineT th ++ mineT t)) ∧ Hid (S.n = 2000) ∧ Hid (usedN S.sl ≤ 152) ∧ Hid (RowT S th bs0) ∧ Hid (RowT S t (bs0.take j))) (fun _ i _ => bs0.length - (intOf i).toNat)
  case atStart => exact ⟨0, S1, m1, .nil, by omega, rfl, rfl, by omega, HA1, HC3, HN, HU1, Rh, RowT.none S1⟩
  case round =>
    obtain ⟨j, S, md, t, hj, rfl, rfl, hmd, HA, HC, HN, HU, HRh, HRt⟩ := hrel
    clear HA1 HC3 HU1 Rh
    have hAl := HA.out.lt
    by_cases hlt : j < bs0.length
    · obtain ⟨g, o, hao, hc⟩ := (HS.out.later HA.out.below).cell j hlt
      subst hao
      have dj : decide (j < bs0.length) = true := decide_eq_true hlt
      have htl : (bs0.take j).length = j := by rw [List.length_take]; omega
      have hd := HRt.out.deep (by omega)
      have T : Hid (Calls _ _ _ _ _) := insR HA.out HC.out HRt.out (by omega) j (by omega) bs0[j] (by have := HN.out; have := HU.out; omega) (by omega) (by omega)
      rw [take_step bs0 hlt] at T
      generalize bs0[j] = b at *
      clear htl
      go_wp2_with (go_at_call 13; fail)
      refine (T.out).mono ?_
      rintro e w5 ⟨S5, t5, m5, rfl, hA, hC, hG, hT, hu, hm, -, hz, hS⟩
      have HC5 : Hid (CI S5 (mineT th ++ mineT t ++ mineT t5)) := by rw [mineT_pos hz]; exact hC
      have HA5 : Hid (AB w G w5 S5 (md + m5) (1300 * (j + 1) + 1300)) := hA
      have HN5 : Hid (S5.n = 2000) := hG.1.trans HN.out
      have HRt5 : Hid (RowT S5 t5 _) := hT
      have HRh5 : Hid (RowT S5 th bs0) := HRh.out.grows hG
      have HU5 : Hid (usedN S5.sl ≤ 204) := by have := HU.out; show usedN S5.sl ≤ 204; omega
      have hm5 : m5 ≤ 52 := by omega
      clear HA HC HN HU HRh HRt T hA hC hG hT hu hm hS hd hc
      by_cases hz0 : t.hd = 0
      · have q1 : (t.hd != 0) = false := by simpa using hz0
        have q2 : decide (t.hd = 0) = true := decide_eq_true hz0
        have q3 : (t.hd == 0) = true := by simpa using hz0
        have HC6 : Hid (CI S5 (mineT th ++ mineT t5)) := by have h := HC5.out; rw [mineT_zero hz0, List.append_nil] at h; exact h
        clear HC5 hz0
        have T : Hid (Calls _ _ _ _ _) := workR HA5.out HC6.out (by omega) 100
        rw [show ((100 : Nat) : Int) = 100 from rfl] at T
        go_wp2_with (go_at_call 15; fail)
        refine (T.out).mono ?_
        rintro e w7 ⟨S7, f7, rfl, hA, hC, hK, hor, -, hS⟩
        have hRt := HRt5.out.carry hC hK ((mineT_or t5).imp id (fun q => List.mem_append.2 (Or.inr q)))
        have hRh := HRh5.out.carry hC hK ((mineT_or th).imp id (fun q => List.mem_append.2 (Or.inl q)))
        have HU7 : Hid (usedN S7.sl ≤ 152) := by
          have h1 := HU5.out
          rcases hor with ⟨hw7, -⟩ | ⟨h2, -⟩
          · have h3 := used_two hC hA.inv hw7 (fun x hx => (List.mem_append.1 hx).imp mineT_mem mineT_mem) hRh.held hRh.made hRt.held hRt.made
            have h4 := hRh.nodes
            have h5 := hRt.nodes
            rw [List.length_take] at h5
            show usedN S7.sl ≤ 152
            omega
          · show usedN S7.sl ≤ 152
            omega
        have HA7 : Hid (AB w G w7 S7 (md + m5) (1300 * (j + 1) + 1300)) := hA
        have HC7 : Hid (CI S7 (mineT th ++ mineT t5)) := hC
        have HRt7 : Hid (RowT S7 t5 _) := hRt
        have HRh7 : Hid (RowT S7 th bs0) := hRh
        have HN7 : Hid (S7.n = 2000) := hK.1.trans HN5.out
        clear T hA hC hK hor hS hRt hRh HA5 HC6 HRt5 HRh5 HU5 HN5
        go_wp2
        go_roundw
        case rel => exact ⟨j + 1, S7, md + m5, t5, by omega, rfl, by go_num, by omega, HA7, HC7, HN7, HU7, HRh7, HRt7⟩
        case measure => simp [intOf]; omega
      · have q1 : (t.hd != 0) = true := by simpa using hz0
        have q2 : decide (t.hd = 0) = false := decide_eq_false hz0
        have q3 : (t.hd == 0) = false := by simpa using hz0
        have HC6 : Hid (CI S5 (mineT th ++ [t.hd] ++ mineT t5)) := by have h := HC5.out; rw [mineT_pos hz0] at h; exact h
        clear HC5 hz0
        have T : Hid (Calls _ _ _ _ _) := dropR HA5.out HC6.out (by omega) (x := t.hd) (by simp)
        go_wp2_with (go_at_call 14; fail)
        refine (T.out).mono ?_
        rintro e w6 ⟨rfl, hA, hC, hK, hu, hS⟩
        have hC2 : CI (S5.drop t.hd) (mineT th ++ mineT t5) := hC.perm (perm_mid _ _ _)
        have HRt6 : Hid (RowT (S5.drop t.hd) t5 _) := HRt5.out.carry hC2 hK ((mineT_or t5).imp id (fun q => List.mem_append.2 (Or.inr q)))
        have HRh6 : Hid (RowT (S5.drop t.hd) th bs0) := HRh5.out.carry hC2 hK ((mineT_or th).imp id (fun q => List.mem_append.2 (Or.inl q)))
        have HA6 : Hid (AB w G w6 (S5.drop t.hd) (md + m5) (1300 * (j + 1) + 1300)) := hA
        have HC8 : Hid (CI (S5.drop t.hd) (mineT th ++ mineT t5)) := hC2
        have HU6 : Hid (usedN (S5.drop t.hd).sl ≤ 204) := by rw [hu]; exact HU5.out
        have HN6 : Hid ((S5.drop t.hd).n = 2000) := hK.1.trans HN5.out
        clear T hA hC hC2 hK hu hS HA5 HC6 HRt5 HRh5 HU5 HN5
        have T : Hid (Calls _ _ _ _ _) := workR HA6.out HC8.out (by omega) 100
        rw [show ((100 : Nat) : Int) = 100 from rfl] at T
        go_wp2_with (go_at_call 15; fail)
        refine (T.out).mono ?_
        rintro e w7 ⟨S7, f7, rfl, hA, hC, hK, hor, -, hS⟩
        have hRt := HRt6.out.carry hC hK ((mineT_or t5).imp id (fun q => List.mem_append.2 (Or.inr q)))
        have hRh := HRh6.out.carry hC hK ((mineT_or th).imp id (fun q => List.mem_append.2 (Or.inl q)))
        have HU7 : Hid (usedN S7.sl ≤ 152) := by
          have h1 := HU6.out
          rcases hor with ⟨hw7, -⟩ | ⟨h2, -⟩
          · have h3 := used_two hC hA.inv hw7 (fun x hx => (List.mem_append.1 hx).imp mineT_mem mineT_mem) hRh.held hRh.made hRt.held hRt.made
            have h4 := hRh.nodes
            have h5 := hRt.nodes
            rw [List.length_take] at h5
            show usedN S7.sl ≤ 152
            omega
          · show usedN S7.sl ≤ 152
            omega
        have HA7 : Hid (AB w G w7 S7 (md + m5) (1300 * (j + 1) + 1300)) := hA
        have HC7 : Hid (CI S7 (mineT th ++ mineT t5)) := hC
        have HRt7 : Hid (RowT S7 t5 _) := hRt
        have HRh7 : Hid (RowT S7 th bs0) := hRh
        have HN7 : Hid (S7.n = 2000) := hK.1.trans HN6.out
        clear T hA hC hK hor hS hRt hRh HA6 HC8 HRt6 HRh6 HU6 HN6
        go_wp2
        go_roundw
        case rel => exact ⟨j + 1, S7, md + m5, t5, by omega, rfl, by go_num, by omega, HA7, HC7, HN7, HU7, HRh7, HRt7⟩
        case measure => simp [intOf]; omega
    · obtain rfl : j = bs0.length := by omega
      have dj : decide (bs0.length < bs0.length) = false := decide_eq_false (by omega)
      have HRt2 : Hid (RowT S t bs0) := by have h := HRt.out; rw [List.take_length] at h; exact h
      clear HRt HC HN HU
      have hd := HRh.out.deep (by omega)
      have hn1 := hsN_le th
      have hn2 := HRh.out.nodes
      have hn3 := hsN_le t
      have hn4 := HRt2.out.nodes
      obtain ⟨x, hx⟩ : ∃ x, bs0.length / 4 = x := ⟨_, rfl⟩
      rw [hx] at hn2 hn4
      have hdv : (bs0.length : Int).tdiv 4 = ((x : Nat) : Int) := by rw [← hx]; rfl
      have hdv2 : (bs0.length : Int) / 4 = ((x : Nat) : Int) := by omega
      have hdv3 : IntKind.i64.wrap ((x : Nat) : Int) = ((x : Nat) : Int) := by rw [IntKind.wrap_i64]; omega
      have hwx : IntKind.i64.wrap (1 + ((x : Nat) : Int)) = 1 + ((x : Nat) : Int) := by rw [IntKind.wrap_i64]; omega
      have hq5 : decide ((hsN t : Int) ≤ 1 + ((x : Nat) : Int)) = true := decide_eq_true (by omega)
      have hq6 : decide ((hsN th : Int) ≤ 1 + ((x : Nat) : Int)) = true := decide_eq_true (by omega)
      have TD : Hid (∀ W, Rd (.pointer (some ⟨G, 0, none⟩)) S W → _) := fun W hR => deep_any hR HRh.out.held HRh.out.made (by omega)
      have TW : Hid (∀ W, _) := fun W => wide_any bs0.length (by omega) W
      have hdd : th.deep ≤ 10 := hd
      clear hx hn1 hn2 hn3 hn4 hd
      have T : Hid (Calls _ _ _ _ _) := allR HA.out.rd HRh.out (by omega)
      go_wp2_with (go_at_call 17; fail)
      refine (T.out).mono ?_
      rintro e wa ⟨al, cl, rfl, hl, hb⟩
      have hA := HA.out.grow hb
      have LA : Hid (HasBools wa al bs0) := hl
      clear HA T hb hl
      have HA : Hid (AB w G wa S md _) := hA
      clear hA
      have T : Hid (Calls _ _ _ _ _) := sameB bs0 al ao0 bs0.length bs0.length cl cap0 wa rfl rfl (by omega) LA.out (HS.out.later HA.out.below)
      clear LA
      go_wp2_with (go_at_call 16; fail)
      refine (T.out).mono ?_
      rintro e wb ⟨rfl, hb⟩
      have hA := HA.out.grow hb
      clear HA T hb
      have HA : Hid (AB w G wb S md _) := hA
      clear hA
      have T : Hid (Calls _ _ _ _ _) := allR HA.out.rd HRt2.out (by omega)
      go_wp2_with (go_at_call 17; fail)
      refine (T.out).mono ?_
      rintro e wa ⟨al, cl, rfl, hl, hb⟩
      have hA := HA.out.grow hb
      have LA : Hid (HasBools wa al bs0) := hl
      clear HA T hb hl
      have HA : Hid (AB w G wa S md _) := hA
      clear hA
      have T : Hid (Calls _ _ _ _ _) := sameB bs0 al ao0 bs0.length bs0.length cl cap0 wa rfl rfl (by omega) LA.out (HS.out.later HA.out.below)
      clear LA
      go_wp2_with (go_at_call 16; fail)
      refine (T.out).mono ?_
      rintro e wb ⟨rfl, hb⟩
      have hA := HA.out.grow hb
      clear HA T hb
      have HA : Hid (AB w G wb S md _) := hA
      clear hA
      have TC := cells_new wb [.int .i64 t.hd] 3 _ rfl
      have hA : AB w G (wb.alloc (.cells #[.int .i64 t.hd] 3)) S md _ := HA.out.grow ((Below.refl _ _).alloc (Nat.le_refl _) _)
      have T : Hid (Calls _ _ _ _ _) := reachRow hA HRt2.out (some ⟨wb.heap.size, 0, none⟩) 1 TC
      clear HA TC
      have HA : Hid (AB w G _ S md _) := hA
      clear hA
      go_wp2_with (go_at_call 18; fail)
      refine (T.out).mono ?_
      rintro e wc ⟨rawc, rcwc, rfl, hb⟩
      have hA := HA.out.grow hb
      clear HA T hb
      have HA : Hid (AB w G wc S md _) := hA
      clear hA
      have TC := cells_new wc [.int .i64 th.hd] 3 _ rfl
      have hA : AB w G (wc.alloc (.cells #[.int .i64 th.hd] 3)) S md _ := HA.out.grow ((Below.refl _ _).alloc (Nat.le_refl _) _)
      have T : Hid (Calls _ _ _ _ _) := reachRow hA HRh.out (some ⟨wc.heap.size, 0, none⟩) 1 TC
      clear HA TC
      have HA : Hid (AB w G _ S md _) := hA
      clear hA
      go_wp2_with (go_at_call 18; fail)
      refine (T.out).mono ?_
      rintro e wd ⟨rawd, rcwd, rfl, hb⟩
      have hA := HA.out.grow hb
      clear HA T hb
      have HA : Hid (AB w G wd S md _) := hA
      clear hA
      clear HRh HRt2
      go_wp2_with (go_at_call 19; fail)
      refine (TD.out _ HA.out.rd).mono ?_
      rintro e we ⟨rfl, hb⟩
      have HE : Hid (Below _ _ _) := (HA.out.grow hb).below
      clear hb HA TD
      go_wp2_with (go_at_call 20; fail)
      refine (TW.out _).mono ?_
      rintro e w7 ⟨⟨v, rfl, hv1, hv2⟩, hww⟩
      obtain rfl := hww.symm
      clear TW
      have hv3 : IntKind.i64.wrap (2 * (v : Int)) = 2 * (v : Int) := by rw [IntKind.wrap_i64]; omega
      have hv4 : IntKind.i64.wrap (4 + 2 * (v : Int)) = 4 + 2 * (v : Int) := by rw [IntKind.wrap_i64]; omega
      have hv5 : decide ((th.deep : Int) ≤ 4 + 2 * (v : Int)) = true := decide_eq_true (by omega)
      go_wp2
      go_ret
      exact ⟨rfl, HE.out⟩

/-! ### The row's step -/
set_option maxRecDepth 100000 in
theorem lifted (os : Os) (started : os.Started) (H : Type) (enc : TypeId × Value → H) :
    ReturnsInHanded {} Tryd.checked os 3 .any (fun w args => (Rows.bitsBuildSpec.pre enc Tryd.prog Tryd.f3 [] false w args ∧ laidMetH Tryd.prog laid1 w) ∧ sizedMet enc Tryd.prog Tryd.f3 (OpenSpec.ofChange Rows.bitsBuildSpec) false w args) (Rows.bitsBuildSpec.post enc Tryd.prog Tryd.f3 false true false false) := by
  refine returnsInHanded_of_change_and (C := Tryd.checked) (X := fun w _ => laidMetH Tryd.prog laid1 w) (fun _ _ _ hh h => h.of_heap hh) Tryd.own started (by kernel_rfl) Tryd.func3
    (ChangeSpec.witness_shaped (enc := enc) (C := Tryd.checked) (os := os) (X := fun w _ => laidMetH Tryd.prog laid1 w) false (World.doorLaid Tryd.prog 400 os) #[.slice none 0 0] 8 rfl (World.shaped_of_RefB (by kernel_rfl) (by kernel_rfl)) (by kernel_rfl) (by kernel_rfl) (by kernel_rfl) (door_met os _)) ?_
  intro W base args ds gs before hval0 hW _ _ hL _
  have hval : ∀ (j : Nat) t v, Tryd.f3.params[j]? = some t → args[j]? = some v → Value.okWide Tryd.prog W .any base t v := hval0
  have hW' := hW
  obtain ⟨p, q, hA0, hV, rfl, hfz, hnd⟩ := hW
  have hA : DataW.TrodAll enc Tryd.prog W 0 (fun _ => true) true Tryd.f3.params.toList args.toList ds p := hA0
  rw [Tryd.params3] at hA hval
  obtain ⟨v0, vs0, d0, ds0, p0, q0, hargs, rfl, rfl, h0, r0⟩ := trodAll_cons hA
  obtain ⟨rfl, rfl, rfl⟩ := trodAll_nil r0
  obtain rfl : args = #[v0] := by cases args; simp_all
  obtain ⟨rfl, rfl⟩ := trodVars_none hV
  obtain ⟨ao0, bs0, cap0, rfl, hs0, hl0, hm0⟩ := open_bools (hval 0 22 v0 rfl rfl) h0
  clear hA0 hval0
  simp only [List.append_nil] at hW'
  refine (walk ao0 bs0 cap0 W (of_laid hL) hs0 hl0 hm0).mono fun e W' ⟨he, hg⟩ => ?_
  subst he
  exact ⟨_, rfl, post_carry Tryd.laidOut (by rw [Tryd.params3]; intro t ht; simp only [List.mem_cons, List.not_mem_nil, or_false] at ht; subst ht; exact ⟨by kernel_rfl, of_decide_eq_true (by kernel_rfl)⟩) rfl hW' (fun _ _ _ => (trodAll_cons_mk (shut_bool Tryd.underlying4 _) trodAll_mk0)) rfl rfl hg⟩

theorem over : Rows.bitsBuildRow.holds Tryd.pinned (OpenSpec.ofChange Rows.bitsBuildSpec) :=
  OpenClaim.holds_of_wide 3 Tryd.f3 rfl rfl rfl rfl rfl rfl rfl ⟨rfl, rfl, rfl, rfl, rfl⟩ rfl rfl rfl rfl rfl (by kernel_rfl) Tryd.func3 (by kernel_rfl)
    (of_decide_eq_true (by kernel_rfl)) (by unfold Func.isWrapper; first | (rw [if_pos (by decide +kernel)]; kernel_rfl) | (rw [if_neg (by decide +kernel)]; exact ⟨rfl, rfl⟩))
    (fun os started H enc _ => lifted os started H enc)

end Go.Proofs.YtfkfnibeipddaaaDoor.bitsBuild

namespace Go.Proofs.YtfkfnibeipddaaaDoor
/-- the row -/
theorem bitsBuild_row : Rows.BitsBuildSaid := bitsBuild.over

/-- the statement: the tied card -/
theorem bitsBuild_holds : Rows.BitsBuildCardSaid :=
  Claim7.holds_tied_plain_at .later [] [.data] true Rows.bitsBuildCard.stood.harness false
    bitsBuild_row (fun _ h => by cases h) (by kernel_rfl) (fun _ h => by cases h) bitsBuild_row_tie rfl ⟨rfl, rfl⟩ (by kernel_rfl) rfl
    (fun f fn hf hfn => by
      obtain rfl : f = 3 := Option.some.inj ((show Tryd.prog.funcNamed "scrinium/scriniumlaw8.BitsBuild" = some 3 by kernel_rfl).symm.trans hf) |>.symm
      obtain rfl : fn = Tryd.f3 := (Option.some.inj (Tryd.func3.symm.trans hfn)).symm
      exact ⟨by kernel_rfl, fun j t ht => by
        rw [Tryd.params3] at ht
        have hm : t ∈ [22] := by simpa using Array.mem_of_getElem? ht
        have hall : ([22].all fun u => !Tryd.prog.wantsStandIn u) = true := by kernel_rfl
        exact (show Tryd.prog.wantsStandIn t = false by simpa using List.all_eq_true.1 hall t hm)⟩)
    (by kernel_rfl)
#print axioms bitsBuild_holds
end Go.Proofs.YtfkfnibeipddaaaDoor
