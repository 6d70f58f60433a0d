/- Tables that were made of one another stay as they are, whatever is taken out of the last one: for all lengths of at most ten documents. -/
import Derived.Test.YtibbdbdiklpccaaDoorSh
import Derived.Test.YtibbdbdiklpccaaDoorTbC
import Derived.Test.YtibbdbdiklpccaaDoorTbD
import Derived.Test.YtibbdbdiklpccaaDoorRt
import Derived.Test.YtibbdbdiklpccaaDoorCards
import Derived.Test.YtibbdbdiklpccaaDoorTie
import Derived.SevenTiedAt
namespace Go.Proofs.YtibbdbdiklpccaaDoor.tableKeeps
open Go.ChangeShapes Go.WideShapes Go.ChangeAt Go.RowKit Go.Proofs.YtibbdbdiklpccaaDoor.Ls
set_option linter.unusedVariables false


/-! ### The walk -/
set_option maxRecDepth 100000 in
set_option maxHeartbeats 2000000 in
theorem walk (ao0 : Option Addr) (xs0 : List Int) (cap0 : Nat) (w : World) (hT : Tab w) (hs0 : HasInts w ao0 xs0) (hz0 : ∀ x ∈ xs0, (Lit.int .i64 x).wf = true) (hl0 : xs0.length ≤ cap0) (hm0 : cap0 ≤ 9223372036854775807) (hn0 : ao0 = none → xs0.length = 0 ∧ cap0 = 0) :
    Calls Tryd.prog 6 #[.slice ao0 xs0.length cap0] w fun e w' => e = .returned (.bool true) ∧ Below w.heap.size w w' := by
  have TA : Hid (∀ W, Tab W → _) := fun W h => alive11 W h
  have HT : Hid (Tab w) := hT
  clear hT
  have HS : Hid (HasInts w ao0 xs0) := hs0
  have HT0 : Hid (0 < w.heap.size) := tab_pos HT.out
  clear hs0 hz0 hl0 hm0 hn0
  by_cases h1 : 10 < xs0.length
  · clear HT0
    have d1 : decide ((10 : Int) < ((xs0.length : Nat) : Int)) = true := decide_eq_true (by omega)
    have d1n : decide (10 < xs0.length) = true := decide_eq_true h1
    go_enter Tryd.func6, Tryd.ntmps6
    go_wp2_with (go_at_call 8; fail)
    refine (TA.out _ HT.out).mono ?_
    rintro e w1 ⟨rfl, hb⟩
    have HB : Hid (Below w.heap.size w w1) := hb
    have HT1 : Hid (Tab w1) := tab_below HT.out hb
    clear hb HT TA
    go_wp2
    go_ret
    exact ⟨rfl, HB.out⟩
  have hl10 : xs0.length ≤ 10 := by omega
  have d1 : decide ((10 : Int) < ((xs0.length : Nat) : Int)) = false := decide_eq_false (by omega)
  have d1n : decide (10 < xs0.length) = false := decide_eq_false h1
  clear h1
  go_enter Tryd.func6, Tryd.ntmps6
  go_wp2_with (go_at_call 8; fail)
  refine (TA.out _ HT.out).mono ?_
  rintro e w1 ⟨rfl, hb⟩
  have HB : Hid (Below w.heap.size w w1) := hb
  have HT1 : Hid (Tab w1) := tab_below HT.out hb
  clear hb HT TA
  have T : Hid (Calls _ _ _ _ _) := newR HB.out HT1.out 800 (by omega) (by omega)
  go_wp2_with (go_at_call 9; fail)
  refine (T.out).mono ?_
  rintro e w2 ⟨G, S0, rfl, hA, hC, hn, hu, hw⟩
  have HA : Hid (AB w G w2 S0 0 0) := hA
  have HC : Hid (CI S0 []) := hC
  have HN : Hid (S0.n = 800) := hn
  have HU : Hid (usedN S0.sl ≤ 0) := Nat.le_of_eq hu
  have HW : Hid (S0.wt = []) := hw
  clear hA hC hn hu hw T HT1 HB
  have hAl := HA.out.lt
  have HRO : Hid (RootsAt G (w2.alloc (.cells #[.int .i64 0] 3)) w2.heap.size (.slice (some ⟨w2.heap.size, 0, none⟩) 1 1) [0]) := RootsAt.new HA.out 0
  have HA1 : Hid (AB w G (w2.alloc (.cells #[.int .i64 0] 3)) S0 0 (10000 * 0)) := HA.out.grow ((Below.refl _ _).alloc (Nat.le_refl _) _)
  have HMT : Hid (TabsT S0 xs0 [Tr.nil]) := tabs_one S0 xs0
  have HCE : Hid (∃ mine, CI S0 mine) := ⟨_, HC.out⟩
  have HU0 : Hid (usedN S0.sl ≤ 20 * 0) := HU.out
  have HGB : Hid (w.heap.size ≤ w2.heap.size) := by show w.heap.size ≤ w2.heap.size; omega
  have HP0 : Hid (∀ x ∈ xs0.take 0, 0 ≤ x ∧ x ≤ 40) := fun x hx => by simp at hx
  clear HA HC HU HW d1 d1n
  go_wp2
  go_loopw [4, 28] (fun rv i wr => ∃ (j : Nat) (S : St) (md : Nat) (ts : List Tr) (L : List Int), j ≤ xs0.length ∧ i = .int .i64 (j : Nat) ∧ Hid (ts.length = j + 1) ∧ md ≤ 20 * j ∧ Hid (L = ts.map Tr.hd) ∧ Hid (RootsAt G wr w2.heap.size rv L) ∧ Hid (AB w G wr S md (10000 * j)) ∧ Hid (∃ mine, CI S mine) ∧ Hid (S.n = 800) ∧ Hid (usedN S.sl ≤ 20 * j) ∧ Hid (TabsT S xs0 ts) ∧ Hid (∀ x ∈ xs0.take j, 0 ≤ x ∧ x ≤ 40)) (fun _ i _ => xs0.length - (intOf i).toNat)
  case atStart => exact ⟨0, S0, 0, [Tr.nil], [0], by omega, rfl, rfl, by omega, rfl, HRO, HA1, HCE, HN, HU0, HMT, HP0⟩
  case round =>
    clear HRO HA1 HCE HN HU0 HMT HP0
    obtain ⟨j, S, md, ts, L, hj, rfl, HTS, hmd, HLE, HRO, HA, HCE, HN, HU, HMT, HP⟩ := hrel
    have hAl := HA.out.lt
    obtain ⟨ao, cap, rfl, hcs⟩ := HRO.out.cells
    have HHL : Hid (L.length = j + 1) := by show L.length = j + 1; rw [HLE.out, List.length_map, HTS.out]
    by_cases hlt : j < xs0.length
    · have q0 : decide ((j : Int) < ((xs0.length : Nat) : Int)) = true := decide_eq_true (by omega)
      have q1 : decide (j < xs0.length) = true := decide_eq_true hlt
      obtain ⟨g0, o0, rfl, hcell⟩ := (HS.out.later HA.out.below) j hlt
      by_cases hv0 : xs0[j] < 0
      · have q2 : decide (xs0[j] < 0) = true := decide_eq_true hv0
        have HE : Hid (Below _ _ _) := HA.out.below
        clear HA HN HU HP HRO HCE HMT hcs HHL HLE HTS
        generalize xs0[j] = v at *
        go_wp2
        go_ret
        exact ⟨rfl, HE.out⟩
      by_cases hv1 : 40 < xs0[j]
      · have q2 : decide (xs0[j] < 0) = false := decide_eq_false hv0
        have q3 : decide (40 < xs0[j]) = true := decide_eq_true hv1
        have HE : Hid (Below _ _ _) := HA.out.below
        clear HA HN HU HP HRO HCE HMT hcs HHL HLE HTS
        generalize xs0[j] = v at *
        go_wp2
        go_ret
        exact ⟨rfl, HE.out⟩
      have HP1 : Hid (∀ x ∈ xs0.take (j + 1), 0 ≤ x ∧ x ≤ 40) := few_succ HP.out hlt (by omega) (by omega)
      have HD : Hid (docsL 1 (xs0.take j) ++ [(1 + j, xs0[j].toNat)] = docsL 1 (xs0.take (j + 1))) := docsL_succ hlt
      obtain ⟨v, hv⟩ : ∃ v : Nat, xs0[j] = (v : Nat) := ⟨xs0[j].toNat, by omega⟩
      rw [hv] at hcell hv0 hv1 HD
      rw [Int.toNat_natCast] at HD
      have q2 : decide (((v : Nat) : Int) < 0) = false := decide_eq_false hv0
      have q3 : decide ((40 : Int) < ((v : Nat) : Int)) = false := decide_eq_false hv1
      have q3n : decide (40 < v) = false := decide_eq_false (by omega)
      have hjt : j < ts.length := by have := HTS.out; omega
      obtain ⟨gb, gbo, hao, hcj⟩ := hcs j (.int .i64 ts[j].hd) (by rw [HLE.out]; simp [hjt])
      have hjl : (j : Int) < (L.length : Int) := by have := HHL.out; omega
      have hjl2 : j < L.length := by have := HHL.out; omega
      subst hao
      have hRT := HMT.out j hjt
      obtain ⟨mine, hCI⟩ := HCE.out
      have hlen : (docsL 1 (xs0.take j)).length = j := by rw [docsL_len, List.length_take]; omega
      have T : Hid (Calls _ _ _ _ _) := addR HA.out hCI hRT (by rw [hlen]; omega) (id := 1 + j) (len := v) (by omega) (by omega) (by omega) (docsL_new (Nat.le_of_lt hlt)) (by have h1 := HN.out; have h2 := HU.out; rw [hlen]; omega) (by have := HN.out; omega) (by omega) (by omega)
      rw [HD.out, hlen] at T
      rw [show ((1 + j : Nat) : Int) = (j : Int) + 1 by omega] at T
      have hwk : IntKind.i64.wrap ((j : Int) + 1) = (j : Int) + 1 := wrap_in (by omega) (by omega)
      clear hv HD HP hRT hCI hcs HCE hlen
      go_wp2_with (go_at_call 12; fail)
      refine (T.out).mono ?_
      rintro e w5 ⟨g, rfl, S5, t5, m5, rfl, hA, hC, hG, hT, hu, hm, hS, hw⟩
      have HRO5 : Hid (RootsAt G w5 w2.heap.size (.slice (some ⟨gb, gbo, none⟩) L.length cap) L) := HRO.out.sp hS
      have HA5 : Hid (AB w G w5 S5 (md + m5) (10000 * (j + 1))) := hA
      have HN5 : Hid (S5.n = 800) := hG.1.trans HN.out
      have hm5 : m5 ≤ 20 := by omega
      have HU5 : Hid (usedN S5.sl ≤ 20 * (j + 1)) := by have := HU.out; show usedN S5.sl ≤ 20 * (j + 1); omega
      have HMT5 : Hid (TabsT S5 xs0 (ts ++ [t5])) := HMT.out.grow hG (by rw [HTS.out]; exact hT)
      have HCE5 : Hid (∃ mine, CI S5 mine) := ⟨_, hC⟩
      clear HN HU HMT hA hC hG hT hu hm hS hw T HRO HA hcell hcj hwk
      have hro6 := HRO5.out.later ((Below.refl w5.heap.size w5).alloc (Nat.le_refl _) (.cells #[.int .i64 t5.hd] 3))
      have ha6 := HA5.out.grow ((Below.refl w5.heap.size w5).alloc (Nat.le_refl _) (.cells #[.int .i64 t5.hd] 3))
      have HRO6 : Hid (RootsAt _ _ _ _ _) := hro6
      have HA6 : Hid (AB _ _ _ _ _ _) := ha6
      have HB5 : Hid (w2.heap.size ≤ w5.heap.size) := by
        rcases HRO5.out.own.2 with ⟨h7, -⟩ | ⟨g2, c2, cu2, h7, h8, h9, -⟩
        · cases h7
        · have := (Array.getElem?_eq_some_iff.1 h9).1
          show w2.heap.size ≤ w5.heap.size
          omega
      clear hro6 ha6 HRO5 HA5
      go_wp2_with (at_builtin; refine wpList_append_src _ rfl (.tmp 53) (.tmp 55) 26 rfl Tryd.elemQ w2.heap.size _ _ _ (by rfl) HRO6.out.own (some ⟨w5.heap.size, 0, none⟩) 1 1 [.int .i64 t5.hd] rfl (fun h => nomatch h) rfl (cells_new _ _ _ _ rfl) (ints_one [_]) (by have := HHL.out; unfold maxLen; omega) (by have := HHL.out; omega) (by have := HB5.out; simp; omega) ?_; intro v' w7 hown1 hgrow hat _)
      obtain ⟨hA7, hRO7⟩ := RootsAt.append HA6.out HRO6.out HT0.out HGB.out hown1 hgrow hat
      have HLE7 : Hid (L ++ [t5.hd] = (ts ++ [t5]).map Tr.hd) := by show L ++ [t5.hd] = (ts ++ [t5]).map Tr.hd; rw [HLE.out, List.map_append]; rfl
      have HA7 : Hid (AB w G w7 S5 (md + m5) (10000 * (j + 1))) := hA7
      have HRO7 : Hid (RootsAt G w7 w2.heap.size v' (L ++ [t5.hd])) := hRO7
      have HTS7 : Hid ((ts ++ [t5]).length = j + 1 + 1) := by show (ts ++ [t5]).length = j + 1 + 1; rw [List.length_append, HTS.out]; rfl
      clear hown1 hgrow hat hA7 hRO7 HA6 HRO6
      go_wp2
      go_roundw
      case rel => exact ⟨j + 1, S5, md + m5, ts ++ [t5], L ++ [t5.hd], by omega, by go_num, HTS7, by omega, HLE7, HRO7, HA7, HCE5, HN5, HU5, HMT5, HP1⟩
      case measure => simp [intOf]; omega
    · obtain rfl : j = xs0.length := by omega
      have q0 : decide (((xs0.length : Nat) : Int) < ((xs0.length : Nat) : Int)) = false := decide_eq_false (by omega)
      have q1 : decide (xs0.length < xs0.length) = false := decide_eq_false (by omega)
      rw [List.take_length] at HP
      have hjt : xs0.length < ts.length := by have := HTS.out; omega
      obtain ⟨gb, gbo, hao, hcj⟩ := hcs xs0.length (.int .i64 ts[xs0.length].hd) (by rw [HLE.out]; simp [hjt])
      subst hao
      have hLl := HHL.out
      have hle1 : ((L.length : Nat) : Int) - 1 = ((xs0.length : Nat) : Int) := by omega
      have hle2 : IntKind.i64.wrap (((L.length : Nat) : Int) - 1) = ((xs0.length : Nat) : Int) := by rw [hle1]; exact wrap_in (by omega) (by omega)
      have hle3 : ((xs0.length : Nat) : Int) < ((L.length : Nat) : Int) := by omega
      have hle4 : xs0.length < L.length := by omega
      have HRT : Hid (RowT S ts[xs0.length] ((docsL 1 xs0).drop 0)) := by
        have := HMT.out xs0.length hjt
        rw [List.take_length] at this
        exact this
      have HLR : Hid (∃ t, t = ts[xs0.length]) := ⟨_, rfl⟩
      obtain ⟨t, ht⟩ := HLR.out
      rw [← ht] at hcj HRT
      clear ht HLR hcs hle1 hLl
      go_wp2
      have HU0 : Hid (usedN S.sl ≤ 20 * (xs0.length + 0)) := HU.out
      go_loopw [9, 66] (fun hv kv wr2 => ∃ (k md2 c2 : Nat) (S2 : St) (t2 : Tr), k ≤ xs0.length ∧ kv = .int .i64 (k : Nat) ∧ hv = .int .i64 t2.hd ∧ md2 ≤ 20 * (xs0.length + k) ∧ c2 ≤ 10000 * (xs0.length + k) ∧ Hid (RootsAt G wr2 w2.heap.size (.slice (some ⟨gb, gbo, none⟩) L.length cap) L) ∧ Hid (AB w G wr2 S2 md2 c2) ∧ Hid (∃ mine, CI S2 mine) ∧ Hid (S2.n = 800) ∧ Hid (usedN S2.sl ≤ 20 * (xs0.length + k)) ∧ Hid (TabsT S2 xs0 ts) ∧ Hid (RowT S2 t2 ((docsL 1 xs0).drop k))) (fun _ i _ => xs0.length - (intOf i).toNat)
      case atStart => exact ⟨0, md, 10000 * xs0.length, S, t, by omega, rfl, rfl, by omega, by omega, HRO, HA, HCE, HN, HU0, HMT, HRT⟩
      case round =>
      obtain ⟨k, md2, c2, S2, t2, hk, rfl, rfl, hmd2, hc2, HRO2, HA2, HCE2, HN2, HU2, HMT2, HRT2⟩ := hrel
      clear HRO HA HCE HN HU HMT HRT HU0 hcj
      obtain ⟨wr2, rfl⟩ : ∃ X : World, X = wr := ⟨wr, rfl⟩
      have hAl2 := HA2.out.lt
      have HDL : Hid (((docsL 1 xs0).drop k).length = xs0.length - k) := by show _ = _; rw [List.length_drop, docsL_len]
      by_cases hkl : k < xs0.length
      · have q2 : decide ((k : Int) < ((xs0.length : Nat) : Int)) = true := decide_eq_true (by omega)
        have q3 : decide (k < xs0.length) = true := decide_eq_true hkl
        obtain ⟨mine, hCI⟩ := HCE2.out
        have hDL := HDL.out
        have T : Hid (Calls _ _ _ _ _) := cutR HA2.out hCI HRT2.out (by omega) (drop_nodup k (docsL_nodup 1 xs0)) (i := 0) (id := 1 + k) (len := xs0[k].toNat) (docsL_drop hkl) (by have h1 := HN2.out; have h2 := HU2.out; rw [HDL.out]; omega) (by have := HN2.out; omega) (by omega) (by omega)
        rw [drop_cut, show ((1 + k : Nat) : Int) = (k : Int) + 1 by omega, HDL.out] at T
        have hwk : IntKind.i64.wrap ((k : Int) + 1) = (k : Int) + 1 := wrap_in (by omega) (by omega)
        have HDL1 : Hid ((((docsL 1 xs0).drop (k + 1)).length : Int) = ((xs0.length : Nat) : Int) - (k : Int) - 1) := by show _ = _; rw [List.length_drop, docsL_len]; omega
        have HDL2 : Hid (((docsL 1 xs0).drop (k + 1)).length ≤ 6000) := by show _ ≤ _; rw [List.length_drop, docsL_len]; omega
        have z0 : ((((xs0.length : Nat) : Int) - (k : Int) - 1) != (((xs0.length : Nat) : Int) - (k : Int) - 1)) = false := by simp
        have hwa : IntKind.i64.wrap (((xs0.length : Nat) : Int) - (k : Int)) = ((xs0.length : Nat) : Int) - (k : Int) := wrap_in (by omega) (by omega)
        have hwb : IntKind.i64.wrap (((xs0.length : Nat) : Int) - (k : Int) - 1) = ((xs0.length : Nat) : Int) - (k : Int) - 1 := wrap_in (by omega) (by omega)
        clear hCI HCE2 hDL
        go_wp2_with (go_at_call 13; fail)
        refine (T.out).mono ?_
        rintro e w5 ⟨g, rfl, S5, t5, m5, rfl, hA, hC, hG, hT, hu, hm, hS, hw⟩
        have HRO5 : Hid (RootsAt G w5 w2.heap.size (.slice (some ⟨gb, gbo, none⟩) L.length cap) L) := HRO2.out.sp hS
        have HA5 : Hid (AB w G w5 S5 (md2 + m5) (c2 + 10000)) := hA
        have HN5 : Hid (S5.n = 800) := hG.1.trans HN2.out
        have hm5 : m5 ≤ 20 := by omega
        have HU5 : Hid (usedN S5.sl ≤ 20 * (xs0.length + (k + 1))) := by have := HU2.out; show usedN S5.sl ≤ _; omega
        have HMT5 : Hid (TabsT S5 xs0 ts) := HMT2.out.grows hG
        have HRT5 : Hid (RowT S5 t5 ((docsL 1 xs0).drop (k + 1))) := hT
        have HCE5 : Hid (∃ mine, CI S5 mine) := ⟨_, hC⟩
        clear HN2 HU2 HMT2 hA hC hG hT hu hm hS hw T HRO2 HA2 HRT2
        have T : Hid (Calls _ _ _ _ _) := tlen_any HA5.out.rd HRT5.out HDL2.out
        rw [HDL1.out] at T
        go_wp2_with (go_at_call 16; fail)
        refine (T.out).mono ?_
        rintro e w6 ⟨rfl, hb⟩
        have HA6 : Hid (AB w G w6 S5 (md2 + m5) (c2 + 10000)) := HA5.out.grow hb
        have HRO6 : Hid (RootsAt G w6 w2.heap.size (.slice (some ⟨gb, gbo, none⟩) L.length cap) L) := HRO5.out.later hb
        clear hb T HA5 HRO5 HDL HDL1 HDL2
        go_wp2
        go_roundw
        case rel => exact ⟨k + 1, md2 + m5, c2 + 10000, S5, t5, by omega, by go_num, rfl, by omega, by omega, HRO6, HA6, HCE5, HN5, HU5, HMT5, HRT5⟩
        case measure => simp [intOf]; omega
      · obtain rfl : k = xs0.length := by omega
        have q2 : decide (((xs0.length : Nat) : Int) < ((xs0.length : Nat) : Int)) = false := decide_eq_false (by omega)
        have q3 : decide (xs0.length < xs0.length) = false := decide_eq_false (by omega)
        have hz : t2.hd = 0 := HRT2.out.zero.2 (List.eq_nil_of_length_eq_zero (by rw [HDL.out]; omega))
        have HZ : Hid (t2.hd = 0) := hz
        clear hz HDL HCE2 HN2 HU2 HRT2
        go_wp2
        have HTOT0 : Hid ((totalOf (docsL 1 (xs0.take (0 - 1))) : Nat) = 0) := rfl
        go_loopw [13, 94] (fun tv kv wr3 => ∃ (k : Nat), k ≤ xs0.length + 1 ∧ kv = .int .i64 (k : Nat) ∧ tv = .int .i64 (totalOf (docsL 1 (xs0.take (k - 1))) : Nat) ∧ Hid (RootsAt G wr3 w2.heap.size (.slice (some ⟨gb, gbo, none⟩) L.length cap) L) ∧ Hid (AB w G wr3 S2 md2 c2)) (fun _ i _ => xs0.length + 1 - (intOf i).toNat)
        case atStart => exact ⟨0, by omega, rfl, rfl, HRO2, HA2⟩
        case round =>
        obtain ⟨k, hk3, rfl, rfl, HRO3, HA3⟩ := hrel
        clear HRO2 HA2 HTOT0
        obtain ⟨wr3, rfl⟩ : ∃ X : World, X = wr := ⟨wr, rfl⟩
        have hAl3 := HA3.out.lt
        by_cases hkl : k < xs0.length + 1
        · have hkt : k < ts.length := by have := HTS.out; omega
          have q4 : decide ((k : Int) < ((L.length : Nat) : Int)) = true := decide_eq_true (by have := HHL.out; omega)
          have q5 : decide (k < L.length) = true := decide_eq_true (by have := HHL.out; omega)
          have hkL : (k : Int) < ((L.length : Nat) : Int) := by have := HHL.out; omega
          have hkL2 : k < L.length := by have := HHL.out; omega
          obtain ⟨ao', cap', e0, hcs⟩ := HRO3.out.cells
          cases e0
          obtain ⟨g5, o5, hao, hcj⟩ := hcs k (.int .i64 ts[k].hd) (by rw [HLE.out]; simp [hkt])
          cases hao
          have hR := HMT2.out k hkt
          have HRK : Hid (RowT S2 ts[k] (docsL 1 (xs0.take k))) := hR
          have hlk : Hid ((docsL 1 (xs0.take k)).length = k) := by show _ = _; rw [docsL_len, List.length_take]; omega
          have HFK : Hid (∀ x ∈ docsL 1 (xs0.take k), x.2 ≤ 40) := docsL_few (fun x hx => HP.out x (List.mem_of_mem_take hx))
          have htk := totalOf_le HFK.out
          rw [hlk.out] at htk
          clear hcs hR
          by_cases hk0 : k = 0
          · have hd0 : decide ((0 : Int) < (k : Int)) = false := decide_eq_false (by omega)
            have hd1 : decide (0 < k) = false := decide_eq_false (by omega)
            have T : Hid (Calls _ _ _ _ _) := tlen_any HA3.out.rd HRK.out (by rw [hlk.out]; omega)
            rw [hlk.out] at T
            have T2 : Hid (∀ W, AB w G W S2 md2 c2 → Calls _ _ _ _ _) := fun W h => total_any h.rd HRK.out (by rw [hlk.out]; omega) HFK.out
            rw [show k - 1 = k by omega]
            clear hk0
            have HT1 : Hid (totalOf (docsL 1 (xs0.take (k + 1 - 1))) = totalOf (docsL 1 (xs0.take k))) := rfl
            generalize totalOf (docsL 1 (xs0.take k)) = tt at *
            go_wp2_with (go_at_call 16; fail)
            refine (T.out).mono ?_
            rintro e w6 ⟨rfl, hb⟩
            have HA6 : Hid (AB w G w6 S2 md2 c2) := HA3.out.grow hb
            have HRO6 : Hid (RootsAt G w6 w2.heap.size (.slice (some ⟨_, gbo, none⟩) L.length cap) L) := HRO3.out.later hb
            clear hb T HA3 HRO3
            have T : Hid (Calls _ _ _ _ _) := T2.out _ HA6.out
            go_wp2_with (go_at_call 20; fail)
            refine (T.out).mono ?_
            rintro e w7 ⟨rfl, hb⟩
            have HA7 : Hid (AB w G w7 S2 md2 c2) := HA6.out.grow hb
            have HRO7 : Hid (RootsAt G w7 w2.heap.size (.slice (some ⟨_, gbo, none⟩) L.length cap) L) := HRO6.out.later hb
            clear hb T T2 HA6 HRO6 HRK HFK hlk hcj
            go_wp2
            go_roundw
            case rel => exact ⟨k + 1, by omega, by go_num, by rw [HT1.out], HRO7, HA7⟩
            case measure => simp [intOf]; omega
          · obtain ⟨m, rfl⟩ : ∃ m, k = m + 1 := ⟨k - 1, by omega⟩
            rw [show m + 1 - 1 = m by omega]
            have hml : m < xs0.length := by omega
            obtain ⟨g6, o6, rfl, hc6⟩ := (HS.out.later HA3.out.below) m hml
            have HD : Hid (docsL 1 (xs0.take m) ++ [(1 + m, xs0[m].toNat)] = docsL 1 (xs0.take (m + 1))) := docsL_succ hml
            have hv0 := HP.out xs0[m] (List.getElem_mem hml)
            obtain ⟨v, hv⟩ : ∃ v : Nat, xs0[m] = (v : Nat) := ⟨xs0[m].toNat, by omega⟩
            rw [hv] at hc6 hv0 HD
            rw [Int.toNat_natCast] at HD
            have ht1 : totalOf (docsL 1 (xs0.take (m + 1))) = totalOf (docsL 1 (xs0.take m)) + v + 1 := by rw [← HD.out, totalOf_snoc]
            have T : Hid (Calls _ _ _ _ _) := tlen_any HA3.out.rd HRK.out (by rw [hlk.out]; omega)
            rw [hlk.out] at T
            have T2 : Hid (∀ W, AB w G W S2 md2 c2 → Calls _ _ _ _ _) := fun W h => total_any h.rd HRK.out (by rw [hlk.out]; omega) HFK.out
            rw [ht1] at T2 htk
            have HT1 : Hid (totalOf (docsL 1 (xs0.take (m + 1 + 1 - 1))) = totalOf (docsL 1 (xs0.take m)) + v + 1) := ht1
            have hd0 : decide ((0 : Int) < ((m + 1 : Nat) : Int)) = true := decide_eq_true (by omega)
            have hd1 : decide ((0 : Int) < (m : Int) + 1) = true := decide_eq_true (by omega)
            have hix : IntKind.i64.wrap ((m : Int) + 1 - 1) = (m : Int) := by rw [show (m : Int) + 1 - 1 = (m : Int) by omega]; exact wrap_in (by omega) (by omega)
            clear hv HD ht1
            generalize totalOf (docsL 1 (xs0.take m)) = tt at *
            go_wp2_with (go_at_call 16; fail)
            refine (T.out).mono ?_
            rintro e w6 ⟨rfl, hb⟩
            have HA6 : Hid (AB w G w6 S2 md2 c2) := HA3.out.grow hb
            have HRO6 : Hid (RootsAt G w6 w2.heap.size (.slice (some ⟨gb, gbo, none⟩) L.length cap) L) := HRO3.out.later hb
            clear hb T HA3 HRO3 hc6
            have T : Hid (Calls _ _ _ _ _) := T2.out _ HA6.out
            go_wp2_with (go_at_call 20; fail)
            refine (T.out).mono ?_
            rintro e w7 ⟨rfl, hb⟩
            have HA7 : Hid (AB w G w7 S2 md2 c2) := HA6.out.grow hb
            have HRO7 : Hid (RootsAt G w7 w2.heap.size (.slice (some ⟨_, gbo, none⟩) L.length cap) L) := HRO6.out.later hb
            clear hb T T2 HA6 HRO6 HRK HFK hlk hcj
            go_wp2
            go_roundw
            case rel => exact ⟨m + 1 + 1, by omega, by go_num, by rw [HT1.out]; go_num, HRO7, HA7⟩
            case measure => simp [intOf]; omega
        · obtain rfl : k = xs0.length + 1 := by omega
          have q4 : decide (((xs0.length + 1 : Nat) : Int) < ((L.length : Nat) : Int)) = false := decide_eq_false (by have := HHL.out; omega)
          have q5 : decide (xs0.length + 1 < L.length) = false := decide_eq_false (by have := HHL.out; omega)
          have q6 : decide (((xs0.length : Nat) : Int) + 1 < ((L.length : Nat) : Int)) = false := decide_eq_false (by have := HHL.out; omega)
          have HE : Hid (Below _ _ _) := HA3.out.below
          have z5 : (t2.hd == 0) = true := by rw [HZ.out]; rfl
          have z6 : decide (t2.hd = 0) = true := decide_eq_true HZ.out
          clear HRO3 HA3 HZ
          go_wp2
          go_ret
          exact ⟨by first | rfl | simp_all, HE.out⟩

/-! ### The row's step -/
set_option maxRecDepth 100000 in
theorem lifted (os : Os) (started : os.Started) (H : Type) (enc : TypeId × Value → H) :
    ReturnsInHanded {} Tryd.checked os 6 .any (fun w args => (Rows.tableKeepsSpec.pre enc Tryd.prog Tryd.f6 [] false w args ∧ laidMetH Tryd.prog laid1 w) ∧ sizedMet enc Tryd.prog Tryd.f6 (OpenSpec.ofChange Rows.tableKeepsSpec) false w args) (Rows.tableKeepsSpec.post enc Tryd.prog Tryd.f6 false true false false) := by
  refine returnsInHanded_of_change_and (C := Tryd.checked) (X := fun w _ => laidMetH Tryd.prog laid1 w) (fun _ _ _ hh h => h.of_heap hh) Tryd.own started (by kernel_rfl) Tryd.func6
    (ChangeSpec.witness_shaped (enc := enc) (C := Tryd.checked) (os := os) (X := fun w _ => laidMetH Tryd.prog laid1 w) false (World.doorLaid Tryd.prog 400 os) #[.slice none 0 0] 8 rfl (World.shaped_of_RefB (by kernel_rfl) (by kernel_rfl)) (by kernel_rfl) (by kernel_rfl) (by kernel_rfl) (door_met os _)) ?_
  intro W base args ds gs before hval0 hW _ _ hL _
  have hval : ∀ (j : Nat) t v, Tryd.f6.params[j]? = some t → args[j]? = some v → Value.okWide Tryd.prog W .any base t v := hval0
  have hW' := hW
  obtain ⟨p, q, hA0, hV, rfl, hfz, hnd⟩ := hW
  have hA : DataW.TrodAll enc Tryd.prog W 0 (fun _ => true) true Tryd.f6.params.toList args.toList ds p := hA0
  rw [Tryd.params6] at hA hval
  obtain ⟨v0, vs0, d0, ds0, p0, q0, hargs, rfl, rfl, h0, r0⟩ := trodAll_cons hA
  obtain ⟨rfl, rfl, rfl⟩ := trodAll_nil r0
  obtain rfl : args = #[v0] := by cases args; simp_all
  obtain ⟨rfl, rfl⟩ := trodVars_none hV
  obtain ⟨ao0, xs0, cap0, rfl, hs0, hz0, hl0, hm0, hn0⟩ := open_nums (hval 0 26 v0 rfl rfl) h0
  clear hA0 hval0
  simp only [List.append_nil] at hW'
  refine (walk ao0 xs0 cap0 W (of_laid hL) hs0 hz0 hl0 hm0 hn0).mono fun e W' ⟨he, hg⟩ => ?_
  subst he
  exact ⟨_, rfl, post_carry Tryd.laidOut (by rw [Tryd.params6]; intro t ht; simp only [List.mem_cons, List.not_mem_nil, or_false] at ht; subst ht; exact ⟨by kernel_rfl, of_decide_eq_true (by kernel_rfl)⟩) rfl hW' (fun _ _ _ => (trodAll_cons_mk (shut_bool Tryd.underlying4 _) trodAll_mk0)) rfl rfl hg⟩

theorem over : Rows.tableKeepsRow.holds Tryd.pinned (OpenSpec.ofChange Rows.tableKeepsSpec) :=
  OpenClaim.holds_of_wide 6 Tryd.f6 rfl rfl rfl rfl rfl rfl rfl ⟨rfl, rfl, rfl, rfl, rfl⟩ rfl rfl rfl rfl rfl (by kernel_rfl) Tryd.func6 (by kernel_rfl)
    (of_decide_eq_true (by kernel_rfl)) (by unfold Func.isWrapper; first | (rw [if_pos (by decide +kernel)]; kernel_rfl) | (rw [if_neg (by decide +kernel)]; exact ⟨rfl, rfl⟩))
    (fun os started H enc _ => lifted os started H enc)

end Go.Proofs.YtibbdbdiklpccaaDoor.tableKeeps

namespace Go.Proofs.YtibbdbdiklpccaaDoor
/-- the row -/
theorem tableKeeps_row : Rows.TableKeepsSaid := tableKeeps.over

/-- the statement: the tied card -/
theorem tableKeeps_holds : Rows.TableKeepsCardSaid :=
  Claim7.holds_tied_plain_at .later [] [.data] true Rows.tableKeepsCard.stood.harness false
    tableKeeps_row (fun _ h => by cases h) (by kernel_rfl) (fun _ h => by cases h) tableKeeps_row_tie rfl ⟨rfl, rfl⟩ (by kernel_rfl) rfl
    (fun f fn hf hfn => by
      obtain rfl : f = 6 := Option.some.inj ((show Tryd.prog.funcNamed "scrinium/scriniumlaw11.TableKeeps" = some 6 by kernel_rfl).symm.trans hf) |>.symm
      obtain rfl : fn = Tryd.f6 := (Option.some.inj (Tryd.func6.symm.trans hfn)).symm
      exact ⟨by kernel_rfl, fun j t ht => by
        rw [Tryd.params6] at ht
        have hm : t ∈ [26] := by simpa using Array.mem_of_getElem? ht
        have hall : ([26].all fun u => !Tryd.prog.wantsStandIn u) = true := by kernel_rfl
        exact (show Tryd.prog.wantsStandIn t = false by simpa using List.all_eq_true.1 hall t hm)⟩)
    (by kernel_rfl)
#print axioms tableKeeps_holds
end Go.Proofs.YtibbdbdiklpccaaDoor
