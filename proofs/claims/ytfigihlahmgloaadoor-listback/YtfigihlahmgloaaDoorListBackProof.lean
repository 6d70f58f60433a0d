/- A pair that is put in, or set, and taken out again leaves a list as it was: for every list of at most 60 pairs, every place and pair. -/
import Derived.Test.YtfigihlahmgloaaDoorSh
import Derived.Test.YtfigihlahmgloaaDoorLsY
import Derived.Test.YtfigihlahmgloaaDoorCards
import Derived.Test.YtfigihlahmgloaaDoorTie
import Derived.SevenTiedAt
namespace Go.Proofs.YtfigihlahmgloaaDoor.listBack
open Go.ChangeShapes Go.WideShapes Go.ChangeAt Go.RowKit Go.Proofs.YtfigihlahmgloaaDoor.Ls
set_option linter.unusedVariables false


/-! ### The walk -/
set_option maxRecDepth 100000 in
set_option maxHeartbeats 2000000 in
theorem walk (ao0 : Option Addr) (xs0 : List (Int × Int)) (cap0 : Nat) (a1 : Int) (x2 y2 : Int) (w : World) (hT : Tab w) (hs0 : HasItems w ao0 xs0) (hz0 : ∀ x ∈ xs0, inR x.1 ∧ inR x.2) (hl0 : xs0.length ≤ cap0) (hm0 : cap0 ≤ 9223372036854775807) (w1 : -9223372036854775808 ≤ a1 ∧ a1 ≤ 9223372036854775807) (hx2 : inR x2) (hy2 : inR y2) :
    Calls Tryd.prog 4 #[.slice ao0 xs0.length cap0, .int .i64 a1, .agg #[.int .i64 x2, .int .i64 y2]] w fun e w' => e = .returned (.bool true) ∧ Below w.heap.size w w' := by
  have TA : Hid (∀ W, Tab W → _) := fun W h => alive10 W h
  have HT : Hid (Tab w) := hT
  clear hT
  have hx2a := hx2.1
  have hx2b := hx2.2
  have hy2a := hy2.1
  have hy2b := hy2.2
  clear hx2 hy2
  by_cases h1 : 60 < xs0.length
  · have d1 : decide ((60 : Int) < ((xs0.length : Nat) : Int)) = true := decide_eq_true (by omega)
    have e1 : decide (60 < xs0.length) = true := decide_eq_true (by omega)
    clear hs0 hz0
    go_enter Tryd.func4, Tryd.ntmps4
    go_wp2_with (go_at_call 9; fail)
    have hbx : Below w.heap.size w (w.alloc (.cells #[.int .i64 x2, .int .i64 y2] 29)) := (Below.refl _ _).alloc (Nat.le_refl _) _
    refine (TA.out _ (tab_below HT.out hbx)).mono ?_
    rintro e w1 ⟨rfl, hb⟩
    have HB : Hid (Below w.heap.size w w1) := hbx.trans (hb.mono hbx.size)
    have HT1 : Hid (Tab w1) := tab_below HT.out HB.out
    have BX : Hid (BlkAt w1 (w.heap.size) 29 [.int .i64 x2, .int .i64 y2]) := (BlkAt.made rfl _ [.int .i64 x2, .int .i64 y2]).later hb
    clear hb hbx HT TA
    go_wp2
    go_ret
    exact ⟨rfl, HB.out⟩
  by_cases h2 : x2 < 0
  · have d1 : decide ((60 : Int) < ((xs0.length : Nat) : Int)) = false := decide_eq_false (by omega)
    have e1 : decide (60 < xs0.length) = false := decide_eq_false (by omega)
    have d2 : decide (x2 < 0) = true := decide_eq_true (by omega)
    clear hs0 hz0
    go_enter Tryd.func4, Tryd.ntmps4
    go_wp2_with (go_at_call 9; fail)
    have hbx : Below w.heap.size w (w.alloc (.cells #[.int .i64 x2, .int .i64 y2] 29)) := (Below.refl _ _).alloc (Nat.le_refl _) _
    refine (TA.out _ (tab_below HT.out hbx)).mono ?_
    rintro e w1 ⟨rfl, hb⟩
    have HB : Hid (Below w.heap.size w w1) := hbx.trans (hb.mono hbx.size)
    have HT1 : Hid (Tab w1) := tab_below HT.out HB.out
    have BX : Hid (BlkAt w1 (w.heap.size) 29 [.int .i64 x2, .int .i64 y2]) := (BlkAt.made rfl _ [.int .i64 x2, .int .i64 y2]).later hb
    clear hb hbx HT TA
    go_wp2
    go_ret
    exact ⟨rfl, HB.out⟩
  by_cases h3 : y2 < 0
  · have d1 : decide ((60 : Int) < ((xs0.length : Nat) : Int)) = false := decide_eq_false (by omega)
    have e1 : decide (60 < xs0.length) = false := decide_eq_false (by omega)
    have d2 : decide (x2 < 0) = false := decide_eq_false (by omega)
    have d3 : decide (y2 < 0) = true := decide_eq_true (by omega)
    clear hs0 hz0
    go_enter Tryd.func4, Tryd.ntmps4
    go_wp2_with (go_at_call 9; fail)
    have hbx : Below w.heap.size w (w.alloc (.cells #[.int .i64 x2, .int .i64 y2] 29)) := (Below.refl _ _).alloc (Nat.le_refl _) _
    refine (TA.out _ (tab_below HT.out hbx)).mono ?_
    rintro e w1 ⟨rfl, hb⟩
    have HB : Hid (Below w.heap.size w w1) := hbx.trans (hb.mono hbx.size)
    have HT1 : Hid (Tab w1) := tab_below HT.out HB.out
    have BX : Hid (BlkAt w1 (w.heap.size) 29 [.int .i64 x2, .int .i64 y2]) := (BlkAt.made rfl _ [.int .i64 x2, .int .i64 y2]).later hb
    clear hb hbx HT TA
    go_wp2
    go_ret
    exact ⟨rfl, HB.out⟩
  have d1 : decide ((60 : Int) < ((xs0.length : Nat) : Int)) = false := decide_eq_false (by omega)
  have e1 : decide (60 < xs0.length) = false := decide_eq_false (by omega)
  have d2 : decide (x2 < 0) = false := decide_eq_false (by omega)
  have d3 : decide (y2 < 0) = false := decide_eq_false (by omega)
  have hln : xs0.length ≤ 60 := by omega
  have w1a := w1.1
  have w1b := w1.2
  have hx0 : 0 ≤ x2 := by omega
  have hy0 : 0 ≤ y2 := by omega
  clear h1 h2 h3 w1
  have HS : Hid (HasItems w ao0 xs0) := hs0
  have HZ : Hid (∀ x ∈ xs0, inR x.1 ∧ inR x.2) := hz0
  clear hs0 hz0
  go_enter Tryd.func4, Tryd.ntmps4
  go_wp2_with (go_at_call 9; fail)
  have hbx : Below w.heap.size w (w.alloc (.cells #[.int .i64 x2, .int .i64 y2] 29)) := (Below.refl _ _).alloc (Nat.le_refl _) _
  refine (TA.out _ (tab_below HT.out hbx)).mono ?_
  rintro e w1 ⟨rfl, hb⟩
  have HB : Hid (Below w.heap.size w w1) := hbx.trans (hb.mono hbx.size)
  have HT1 : Hid (Tab w1) := tab_below HT.out HB.out
  have BX : Hid (BlkAt w1 (w.heap.size) 29 [.int .i64 x2, .int .i64 y2]) := (BlkAt.made rfl _ [.int .i64 x2, .int .i64 y2]).later hb
  clear hb hbx HT TA
  have T : Hid (Calls _ _ _ _ _) := newR (Below.refl _ _) HT1.out 3000 (by omega) (by omega)
  go_wp2_with (go_at_call 10; fail)
  refine (T.out).mono ?_
  rintro e w2 ⟨G, S0, rfl, hA, hC, hn, hu, hw⟩
  have HA : Hid (AB w1 G w2 S0 0 0) := hA
  have HC : Hid (CI S0 []) := hC
  have HN : Hid (S0.n = 3000) := hn
  have HU : Hid (usedN S0.sl ≤ 0) := Nat.le_of_eq hu
  have HW : Hid (S0.wt = []) := hw
  have hBX : Hid (BlkAt w2 (w.heap.size) 29 [.int .i64 x2, .int .i64 y2]) := BX.out.later hA.below
  clear hA hC hn hu hw T HT1 BX
  have BX := hBX; clear hBX
  have hAl := HA.out.lt
  have HS1 : Hid (HasItems w1 ao0 xs0) := HS.out.later HB.out
  clear HS d2 d3 d1 e1
  have HA0 : Hid (AB w1 G w2 S0 0 (10000 * 0)) := HA.out
  have HU0 : Hid (usedN S0.sl ≤ 38 * 0) := HU.out
  have HR0 : Hid (RowT S0 .nil ((xs0.take 0).map np)) := RowT.none S0
  have HP0 : Hid (Pos (xs0.take 0)) := fun x hx => by simp at hx
  have HC0 : Hid (CI S0 (mineT .nil)) := HC.out
  clear HA HU HW HC
  go_wp2
  go_loopw [8, 47] (fun h i wr => ∃ (k : Nat) (S : St) (md : Nat) (t : Tr), k ≤ xs0.length ∧ h = .int .i64 t.hd ∧ i = .int .i64 (k : Nat) ∧ md ≤ 40 * k ∧ Hid (Pos (xs0.take k)) ∧ Hid (AB w1 G wr S md (10000 * k)) ∧ Hid (CI S (mineT t)) ∧ Hid (S.n = 3000) ∧ Hid (usedN S.sl ≤ 38 * k) ∧ Hid (RowT S t ((xs0.take k).map np)) ∧ Hid (BlkAt wr w.heap.size 29 [.int .i64 x2, .int .i64 y2])) (fun _ i _ => xs0.length - (intOf i).toNat)
  case atStart => exact ⟨0, S0, 0, .nil, by omega, rfl, rfl, by omega, HP0, HA0, HC0, HN, HU0, HR0, BX⟩
  case round =>
    obtain ⟨k, S, md, t, hk, rfl, rfl, hmd, HP, HA, HC, HN, HU, HR, BX⟩ := hrel
    have hAl := HA.out.lt
    have hbl : ((xs0.take k).map np).length = k := by rw [List.length_map, List.length_take]; omega
    have hd := HR.out.deep (d := 12) (by rw [hbl]; show k < 64; omega)
    clear HA0 HU0 HR0 HP0 HC0
    by_cases hlt : k < xs0.length
    · have HSr : Hid (HasItems wr ao0 xs0) := HS1.out.later HA.out.below
      obtain ⟨gb, ob, rfl, hc, hd2⟩ := HSr.out.cell k hlt
      obtain ⟨hz1, hz2⟩ := HZ.out xs0[k] (List.getElem_mem hlt)
      have hz1b := hz1.2
      have hz2b := hz2.2
      have hz1a := hz1.1
      have hz2a := hz2.1
      have HTK : Hid ((xs0.take (k + 1)).map np = (xs0.take k).map np ++ [np xs0[k]]) := take_np xs0 hlt
      have HPK : Hid (0 ≤ xs0[k].1 → 0 ≤ xs0[k].2 → Pos (xs0.take (k + 1))) := HP.out.succ hlt
      have HNP : Hid (np xs0[k] = (xs0[k].1.toNat, xs0[k].2.toNat)) := rfl
      clear HSr hz1 hz2
      generalize xs0[k].1 = p at *
      generalize xs0[k].2 = q at *
      generalize np xs0[k] = pq at *
      have q0 : decide ((k : Int) < (((xs0.length) : Nat) : Int)) = true := decide_eq_true (by omega)
      have q1 : decide (k < xs0.length) = true := decide_eq_true hlt
      have hb0 : Below wr.heap.size wr (wr.alloc (.cells #[.int .i64 p, .int .i64 q] 29)) := (Below.refl _ _).alloc (Nat.le_refl _) _
      by_cases hp0 : p < 0
      · have q2 : decide (p < 0) = true := decide_eq_true hp0
        have HE : Hid (Below w.heap.size w (wr.alloc (.cells #[.int .i64 p, .int .i64 q] 29))) := HB.out.trans ((HA.out.grow hb0).below.mono HB.out.size)
        clear HA HC HN HU HR BX HTK HPK HNP HP hb0 hd
        go_wp2
        go_ret
        exact ⟨rfl, HE.out⟩
      have q2 : decide (p < 0) = false := decide_eq_false hp0
      by_cases hq0 : q < 0
      · have q3 : decide (q < 0) = true := decide_eq_true hq0
        have HE : Hid (Below w.heap.size w (wr.alloc (.cells #[.int .i64 p, .int .i64 q] 29))) := HB.out.trans ((HA.out.grow hb0).below.mono HB.out.size)
        clear HA HC HN HU HR BX HTK HPK HNP HP hb0 hd
        go_wp2
        go_ret
        exact ⟨rfl, HE.out⟩
      obtain ⟨pn, rfl⟩ : ∃ n : Nat, p = n := ⟨p.toNat, by omega⟩
      obtain ⟨qn, rfl⟩ : ∃ n : Nat, q = n := ⟨q.toNat, by omega⟩
      have q3 : decide ((qn : Int) < 0) = false := decide_eq_false (by omega)
      have T : Hid (Calls _ _ _ _ _) := insR (HA.out.grow hb0) HC.out HR.out (by omega) k (by omega) (a := pn) (b := qn) (by omega) (by omega) (by have := HN.out; have := HU.out; omega) (by have := HN.out; omega) (by omega) (by omega) (by omega)
      go_wp2_with (go_at_call 14; fail)
      refine (T.out).mono ?_
      rintro e w5 ⟨S5, t5, m5, rfl, hA, hC, hG, hT, hu, hm, hz, hS, -⟩
      have BX5 : Hid (BlkAt w5 w.heap.size 29 [.int .i64 x2, .int .i64 y2]) := hS.2 _ _ _ (by decide) (by decide) (by decide) (by decide) (BX.out.later hb0)
      have HA5 : Hid (AB w1 G w5 S5 (md + m5) (10000 * (k + 1))) := hA
      have HC5 : Hid (CI S5 (mineT t ++ mineT t5)) := by rw [mineT_pos hz]; exact hC
      have HN5 : Hid (S5.n = 3000) := hG.1.trans HN.out
      have HU5 : Hid (usedN S5.sl ≤ 38 * (k + 1)) := by have := HU.out; show usedN S5.sl ≤ 38 * (k + 1); omega
      have hm5 : m5 ≤ 38 := by omega
      have HR5 : Hid (RowT S5 t5 ((xs0.take (k + 1)).map np)) := by
        have h := hT
        rw [ins_end _ _ hbl.symm] at h
        rw [HNP.out, Int.toNat_natCast, Int.toNat_natCast] at HTK
        show RowT S5 t5 ((xs0.take (k + 1)).map np)
        rw [HTK.out]
        exact h
      have HP5 : Hid (Pos (xs0.take (k + 1))) := HPK.out (by omega) (by omega)
      clear T hA hC hG hT hu hm hz hS HA HC HN HU HR BX HTK HPK HNP HP hb0 hc hd2 hd
      by_cases hz0 : t.hd = 0
      · have z1 : (t.hd != 0) = false := by simpa using hz0
        have z2 : decide (t.hd = 0) = true := decide_eq_true hz0
        have z3 : (t.hd == 0) = true := by simpa using hz0
        have HC6 : Hid (CI S5 (mineT t5)) := by have h := HC5.out; rw [mineT_zero hz0] at h; exact h
        clear HC5 hz0
        have T : Hid (Calls _ _ _ _ _) := workR HA5.out HC6.out (by omega) 1073741824
        rw [show ((1073741824 : Nat) : Int) = 1073741824 from rfl] at T
        go_wp2_with (go_at_call 18; fail)
        refine (T.out).mono ?_
        rintro e w7 ⟨S7, f7, rfl, hA, hC, hK, hu, -, hS⟩
        have hR7 := HR5.out.carry hC hK (mineT_or t5)
        have HU7 : Hid (usedN S7.sl ≤ 38 * (k + 1)) := by have := HU5.out; show usedN S7.sl ≤ 38 * (k + 1); omega
        have HA7 : Hid (AB w1 G w7 S7 (md + m5) (10000 * (k + 1))) := hA
        have HC7 : Hid (CI S7 (mineT t5)) := hC
        have HR7 : Hid (RowT S7 t5 ((xs0.take (k + 1)).map np)) := hR7
        have HN7 : Hid (S7.n = 3000) := hK.1.trans HN5.out
        have BX7 : Hid (BlkAt w7 w.heap.size 29 [.int .i64 x2, .int .i64 y2]) := hS.2 _ _ _ (by decide) (by decide) (by decide) (by decide) BX5.out
        clear T hA hC hK hu hS hR7 HA5 HC6 HR5 HU5 HN5 BX5
        go_wp2
        go_roundw
        case rel => exact ⟨k + 1, S7, md + m5, t5, by omega, rfl, by go_num, by omega, HP5, HA7, HC7, HN7, HU7, HR7, BX7⟩
        case measure => simp [intOf]; omega
      · have z1 : (t.hd != 0) = true := by simpa using hz0
        have z2 : decide (t.hd = 0) = false := decide_eq_false hz0
        have z3 : (t.hd == 0) = false := by simpa using hz0
        have HC6 : Hid (CI S5 ([t.hd] ++ mineT t5)) := by have h := HC5.out; rw [mineT_pos hz0] at h; exact h
        clear HC5 hz0
        have T : Hid (Calls _ _ _ _ _) := dropR HA5.out HC6.out (by omega) (x := t.hd) (by simp)
        go_wp2_with (go_at_call 21; fail)
        refine (T.out).mono ?_
        rintro e w6 ⟨rfl, hA, hC, hK, hu, hS⟩
        have hC2 : CI (S5.drop t.hd) (mineT t5) := by simpa using hC
        have HR6 : Hid (RowT (S5.drop t.hd) t5 ((xs0.take (k + 1)).map np)) := HR5.out.carry hC2 hK (mineT_or t5)
        have HA6 : Hid (AB w1 G w6 (S5.drop t.hd) (md + m5) (10000 * (k + 1))) := hA
        have HC7 : Hid (CI (S5.drop t.hd) (mineT t5)) := hC2
        have HU6 : Hid (usedN (S5.drop t.hd).sl ≤ 38 * (k + 1)) := by have := HU5.out; show usedN _ ≤ _; rw [hu]; exact this
        have HN6 : Hid ((S5.drop t.hd).n = 3000) := hK.1.trans HN5.out
        have BX6 : Hid (BlkAt w6 w.heap.size 29 [.int .i64 x2, .int .i64 y2]) := hS.2 _ _ _ (by decide) (by decide) (by decide) (by decide) BX5.out
        clear T hA hC hC2 hK hu hS HA5 HC6 HR5 HU5 HN5 BX5
        have HC8 := HC7
        clear HC7
        have T : Hid (Calls _ _ _ _ _) := workR HA6.out HC8.out (by omega) 1073741824
        rw [show ((1073741824 : Nat) : Int) = 1073741824 from rfl] at T
        go_wp2_with (go_at_call 18; fail)
        refine (T.out).mono ?_
        rintro e w7 ⟨S7, f7, rfl, hA, hC, hK, hu, -, hS⟩
        have hR7 := HR6.out.carry hC hK (mineT_or t5)
        have HU7 : Hid (usedN S7.sl ≤ 38 * (k + 1)) := by have := HU6.out; show usedN S7.sl ≤ 38 * (k + 1); omega
        have HA7 : Hid (AB w1 G w7 S7 (md + m5) (10000 * (k + 1))) := hA
        have HC7 : Hid (CI S7 (mineT t5)) := hC
        have HR7 : Hid (RowT S7 t5 ((xs0.take (k + 1)).map np)) := hR7
        have HN7 : Hid (S7.n = 3000) := hK.1.trans HN6.out
        have BX7 : Hid (BlkAt w7 w.heap.size 29 [.int .i64 x2, .int .i64 y2]) := hS.2 _ _ _ (by decide) (by decide) (by decide) (by decide) BX6.out
        clear T hA hC hK hu hS hR7 HA6 HC8 HR6 HU6 HN6 BX6
        go_wp2
        go_roundw
        case rel => exact ⟨k + 1, S7, md + m5, t5, by omega, rfl, by go_num, by omega, HP5, HA7, HC7, HN7, HU7, HR7, BX7⟩
        case measure => simp [intOf]; omega
    · obtain rfl : k = xs0.length := by omega
      have q0 : decide ((((xs0.length) : Nat) : Int) < (((xs0.length) : Nat) : Int)) = false := decide_eq_false (by omega)
      have q1 : decide (xs0.length < xs0.length) = false := decide_eq_false (by omega)
      rw [List.take_length] at HR HP hbl
      obtain ⟨j, hj, hjm, hr1, hr2⟩ := remP a1 (n := xs0.length + 1) (by omega)
      rw [show (((xs0.length + 1 : Nat)) : Int) = ((xs0.length : Nat) : Int) + 1 by omega] at hjm hr1 hr2
      rw [← Int.add_assoc] at hjm
      generalize hr : Int.tmod a1 (((xs0.length) : Int) + 1) = r at *
      obtain ⟨xn, rfl⟩ : ∃ n : Nat, x2 = n := ⟨x2.toNat, by omega⟩
      obtain ⟨yn, rfl⟩ : ∃ n : Nat, y2 = n := ⟨y2.toNat, by omega⟩
      obtain ⟨BS, hBS⟩ : ∃ BS, xs0.map np = BS := ⟨_, rfl⟩
      have HXZ : Hid (BS.map zp = xs0) := by rw [← hBS]; exact zp_np HP.out
      have HNB : Hid (∀ (i : Nat) (h : i < xs0.length), BS[i]? = some (np xs0[i])) := fun i h => by rw [← hBS]; simp [h]
      have HPP : Hid (Pos xs0) := HP.out
      rw [hBS] at HR hbl
      clear hBS HP
      have HBL : Hid (BS.length = xs0.length) := hbl
      clear hbl
      have Rh := HR
      clear HR
      have hwn : IntKind.i64.wrap (((xs0.length : Nat) : Int) + 1) = ((xs0.length : Nat) : Int) + 1 := wrap_in (by omega) (by omega)
      have hwj2 : IntKind.i64.wrap (r + ((xs0.length : Nat) : Int)) = r + ((xs0.length : Nat) : Int) := wrap_in (by omega) (by omega)
      have hwj3 : IntKind.i64.wrap (r + ((xs0.length : Nat) : Int) + 1) = r + ((xs0.length : Nat) : Int) + 1 := wrap_in (by omega) (by omega)
      have c0BX : wr.cell? ⟨w.heap.size, 0, none⟩ = some (.int .i64 (xn : Nat)) := BX.out.cell rfl
      have c1BX : wr.cell? ⟨w.heap.size, 1, none⟩ = some (.int .i64 (yn : Nat)) := BX.out.cell rfl
      have lBX := BX.out.lt
      have T : Hid (Calls _ _ _ _ _) := insR HA.out HC.out Rh.out (by have := HBL.out; omega) j (by have := HBL.out; omega) (a := xn) (b := yn) (by omega) (by omega) (by have := HN.out; have := HU.out; omega) (by have := HN.out; omega) (by omega) (by omega) (by omega)
      go_wp2_with (go_at_call 14; fail)
      refine (T.out).mono ?_
      rintro e w6 ⟨S6, tg, m6, rfl, hA, hC, hG, hT, hu, hm, hz, hS, hw⟩
      have HA2 : Hid (AB w1 G w6 S6 (md + m6) (10000 * xs0.length + 10000)) := hA
      have HC2 : Hid (CI S6 _) := hC
      have HN2 : Hid (S6.n = 3000) := hG.1.trans HN.out
      have HU2 : Hid (usedN S6.sl ≤ 38 * xs0.length + 38) := by have := HU.out; show usedN S6.sl ≤ 38 * xs0.length + 38; omega
      have HM6 : Hid (m6 ≤ 3000) := by show m6 ≤ 3000; omega
      have hRh := Rh.out.grows hG
      have Rg2 : Hid (RowT S6 tg (BS.take j ++ (xn, yn) :: BS.drop j)) := hT
      have hBX : Hid (BlkAt w6 (w.heap.size) 29 [.int .i64 (xn : Nat), .int .i64 (yn : Nat)]) := hS.2 _ _ _ (by decide) (by decide) (by decide) (by decide) BX.out
      clear HA HC HN HU hA hC hT hG T hu hm hS hw Rh
      clear BX
      have BX := hBX; clear hBX
      have HA := HA2; have HC := HC2; have HN := HN2; have HU := HU2
      have Rh : Hid (RowT _ _ _) := hRh
      have Rg := Rg2
      clear HA2 HC2 HN2 HU2 Rg2 hRh
      clear c0BX c1BX lBX hd
      have HXL : Hid ((BS.take j ++ (xn, yn) :: BS.drop j).length = xs0.length + 1) := by show _ = _; rw [ins_len BS _ (by have := HBL.out; omega)]; have := HBL.out; omega
      have HDL : Hid ((BS.take j ++ (xn, yn) :: BS.drop j).take j ++ (BS.take j ++ (xn, yn) :: BS.drop j).drop (j + 1) = BS) := ins_del BS _ (by have := HBL.out; omega)
      have HGT : Hid ((BS.take j ++ (xn, yn) :: BS.drop j)[j]? = some (xn, yn)) := ins_get BS _ (by have := HBL.out; omega)
      generalize BS.take j ++ (xn, yn) :: BS.drop j = X at *
      have hdg := Rg.out.deep (d := 12) (by rw [HXL.out]; show xs0.length + 1 < 64; omega)
      have HMD : Hid (md + m6 ≤ 5400) := by have := HM6.out; show md + m6 ≤ 5400; omega
      have T : Hid (Calls _ _ _ _ _) := delR HA.out HC.out Rg.out (by have := HXL.out; omega) j (by have := HXL.out; omega) (by have := HN.out; have := HU.out; omega) (by have := HN.out; omega) (by omega) (by have := HMD.out; omega) (by omega)
      go_wp2_with (go_at_call 15; fail)
      refine (T.out).mono ?_
      rintro e w7 ⟨S7, tf, m7, rfl, hA, hC, hG, hT, hu, hm, hS, hw⟩
      have HA2 : Hid (AB w1 G w7 S7 (md + m6 + m7) (10000 * xs0.length + 10000 + 10000)) := hA
      have HC2 : Hid (CI S7 _) := hC
      have HN2 : Hid (S7.n = 3000) := hG.1.trans HN.out
      have HU2 : Hid (usedN S7.sl ≤ 38 * xs0.length + 74) := by have := HU.out; show usedN S7.sl ≤ 38 * xs0.length + 74; omega
      have HM7 : Hid (m7 ≤ 3000) := by show m7 ≤ 3000; omega
      have hRh := Rh.out.grows hG
      have hRg := Rg.out.grows hG
      have Rf2 : Hid (RowT S7 tf (BS)) := by rw [HDL.out] at hT; exact hT
      have hBX : Hid (BlkAt w7 (w.heap.size) 29 [.int .i64 (xn : Nat), .int .i64 (yn : Nat)]) := hS.2 _ _ _ (by decide) (by decide) (by decide) (by decide) BX.out
      clear HA HC HN HU hA hC hT hG T hu hm hS hw Rh Rg
      clear BX
      have BX := hBX; clear hBX
      have HA := HA2; have HC := HC2; have HN := HN2; have HU := HU2
      have Rh : Hid (RowT _ _ _) := hRh
      have Rg : Hid (RowT _ _ _) := hRg
      have Rf := Rf2
      clear HA2 HC2 HN2 HU2 Rf2 hRh hRg
      clear HDL hdg
      have T : Hid (Calls _ _ _ _ _) := getR_in HA.out.rd Rg.out (by have := HXL.out; omega) j HGT.out
      go_wp2_with (go_at_call 22; fail)
      refine (T.out).mono ?_
      rintro e w8 ⟨rfl, hb⟩
      have hA : AB w1 G w8 S7 (md + m6 + m7) (10000 * xs0.length + 10000 + 10000) := HA.out.grow hb
      have hBX : BlkAt w8 (w.heap.size) 29 [.int .i64 (xn : Nat), .int .i64 (yn : Nat)] := BX.out.later hb
      clear HA T hb BX
      have HA : Hid (AB _ _ _ _ _ _) := hA
      have BX : Hid (BlkAt _ _ _ _) := hBX
      clear hA hBX
      clear HGT
      have hb : Below w8.heap.size w8 (w8.alloc (.cells #[.int .i64 (xn : Nat), .int .i64 (yn : Nat)] 29)) := (Below.refl _ _).alloc (Nat.le_refl _) _
      have T : Hid True := trivial
      have c0BX : w8.cell? ⟨w.heap.size, 0, none⟩ = some (.int .i64 (xn : Nat)) := BX.out.cell rfl
      have c1BX : w8.cell? ⟨w.heap.size, 1, none⟩ = some (.int .i64 (yn : Nat)) := BX.out.cell rfl
      have lBX := BX.out.lt
      have hA : AB w1 G (w8.alloc (.cells #[.int .i64 (xn : Nat), .int .i64 (yn : Nat)] 29)) S7 (md + m6 + m7) (10000 * xs0.length + 10000 + 10000) := HA.out.grow hb
      have hBX : BlkAt (w8.alloc (.cells #[.int .i64 (xn : Nat), .int .i64 (yn : Nat)] 29)) (w.heap.size) 29 [.int .i64 (xn : Nat), .int .i64 (yn : Nat)] := BX.out.later hb
      clear HA T hb BX
      have HA : Hid (AB _ _ _ _ _ _) := hA
      have BX : Hid (BlkAt _ _ _ _) := hBX
      clear hA hBX
      have hyg : Hid (BlkAt (w8.alloc (.cells #[.int .i64 (xn : Nat), .int .i64 (yn : Nat)] 29)) w8.heap.size 29 [.int .i64 (xn : Nat), .int .i64 (yn : Nat)]) := BlkAt.made rfl _ [_, _]
      have e1 : ((xn : Int) == (xn : Int)) = true := by simp
      have e2 : ((yn : Int) == (yn : Int)) = true := by simp
      have T : Hid (Calls _ _ _ _ _) := allR HA.out.rd Rf.out (by have := HBL.out; omega)
      go_wp2_with (go_at_call 24; fail)
      refine (T.out).mono ?_
      rintro e w9 ⟨af, cf, rfl, hl, hb⟩
      have Lf : Hid (HasItems w9 af xs0) := by rw [HXZ.out] at hl; exact hl
      clear hl
      have hA : AB w1 G w9 S7 (md + m6 + m7) (10000 * xs0.length + 10000 + 10000) := HA.out.grow hb
      have hBX : BlkAt w9 (w.heap.size) 29 [.int .i64 (xn : Nat), .int .i64 (yn : Nat)] := BX.out.later hb
      clear HA T hb BX
      have HA : Hid (AB _ _ _ _ _ _) := hA
      have BX : Hid (BlkAt _ _ _ _) := hBX
      clear hA hBX
      have T : Hid (Calls _ _ _ _ _) := sameI xs0 af ao0 BS.length xs0.length cf cap0 _ HBL.out rfl (by omega) Lf.out (HS1.out.later HA.out.below)
      go_wp2_with (go_at_call 23; fail)
      refine (T.out).mono ?_
      rintro e w10 ⟨rfl, hb⟩
      have hA : AB w1 G w10 S7 (md + m6 + m7) (10000 * xs0.length + 10000 + 10000) := HA.out.grow hb
      have hLf : HasItems w10 af (xs0) := Lf.out.later hb
      have hBX : BlkAt w10 (w.heap.size) 29 [.int .i64 (xn : Nat), .int .i64 (yn : Nat)] := BX.out.later hb
      clear HA T hb Lf BX
      have HA : Hid (AB _ _ _ _ _ _) := hA
      have Lf : Hid (HasItems _ _ _) := hLf
      have BX : Hid (BlkAt _ _ _ _) := hBX
      clear hA hLf hBX
      clear Lf
      clear hyg c0BX c1BX lBX
      have T : Hid (Calls _ _ _ _ _) := allR HA.out.rd Rh.out (by have := HBL.out; omega)
      go_wp2_with (go_at_call 24; fail)
      refine (T.out).mono ?_
      rintro e w11 ⟨ah, ch, rfl, hl, hb⟩
      have Lh : Hid (HasItems w11 ah xs0) := by rw [HXZ.out] at hl; exact hl
      clear hl
      have hA : AB w1 G w11 S7 (md + m6 + m7) (10000 * xs0.length + 10000 + 10000) := HA.out.grow hb
      have hBX : BlkAt w11 (w.heap.size) 29 [.int .i64 (xn : Nat), .int .i64 (yn : Nat)] := BX.out.later hb
      clear HA T hb BX
      have HA : Hid (AB _ _ _ _ _ _) := hA
      have BX : Hid (BlkAt _ _ _ _) := hBX
      clear hA hBX
      have T : Hid (Calls _ _ _ _ _) := sameI xs0 ah ao0 BS.length xs0.length ch cap0 _ HBL.out rfl (by omega) Lh.out (HS1.out.later HA.out.below)
      go_wp2_with (go_at_call 23; fail)
      refine (T.out).mono ?_
      rintro e w12 ⟨rfl, hb⟩
      have hA : AB w1 G w12 S7 (md + m6 + m7) (10000 * xs0.length + 10000 + 10000) := HA.out.grow hb
      have hLh : HasItems w12 ah (xs0) := Lh.out.later hb
      have hBX : BlkAt w12 (w.heap.size) 29 [.int .i64 (xn : Nat), .int .i64 (yn : Nat)] := BX.out.later hb
      clear HA T hb Lh BX
      have HA : Hid (AB _ _ _ _ _ _) := hA
      have Lh : Hid (HasItems _ _ _) := hLh
      have BX : Hid (BlkAt _ _ _ _) := hBX
      clear hA hLh hBX
      clear Lh
      clear Rg Rf
      by_cases hje : j = xs0.length
      · have z1 : decide ((j : Int) = ((xs0.length : Nat) : Int)) = true := decide_eq_true (by omega)
        have z2 : ((j : Int) == ((xs0.length : Nat) : Int)) = true := by simp; omega
        have z3 : decide (j = xs0.length) = true := decide_eq_true hje
        have z4 : (j == xs0.length) = true := by simpa using hje
        have HE : Hid (Below w.heap.size w _) := HB.out.trans (HA.out.below.mono HB.out.size)
        clear HA Rh HC HN HU hje BX
        go_wp2
        go_ret
        exact ⟨rfl, HE.out⟩
      have z1 : decide ((j : Int) = ((xs0.length : Nat) : Int)) = false := decide_eq_false (by omega)
      have z2 : ((j : Int) == ((xs0.length : Nat) : Int)) = false := by simp; omega
      have z3 : decide (j = xs0.length) = false := decide_eq_false hje
      have z4 : (j == xs0.length) = false := by simpa using hje
      have hjl : j < xs0.length := by omega
      clear hje
      have hd := Rh.out.deep (d := 12) (by rw [HBL.out]; show xs0.length < 64; omega)
      have c0BX : w12.cell? ⟨w.heap.size, 0, none⟩ = some (.int .i64 (xn : Nat)) := BX.out.cell rfl
      have c1BX : w12.cell? ⟨w.heap.size, 1, none⟩ = some (.int .i64 (yn : Nat)) := BX.out.cell rfl
      have lBX := BX.out.lt
      have HMD2 : Hid (md + m6 + m7 ≤ 8400) := by have := HM7.out; have := HMD.out; show md + m6 + m7 ≤ 8400; omega
      have T : Hid (Calls _ _ _ _ _) := setR HA.out HC.out Rh.out (by have := HBL.out; omega) j (by have := HBL.out; omega) (a := xn) (b := yn) (by omega) (by omega) (by have := HN.out; have := HU.out; omega) (by have := HN.out; omega) (by omega) (by have := HMD2.out; omega) (by omega)
      go_wp2_with (go_at_call 16; fail)
      refine (T.out).mono ?_
      rintro e w13 ⟨S8, ts, m8, rfl, hA, hC, hG, hT, hu, hm, hz, hS, hw⟩
      have HA2 : Hid (AB w1 G w13 S8 (md + m6 + m7 + m8) (10000 * xs0.length + 10000 + 10000 + 10000)) := hA
      have HC2 : Hid (CI S8 _) := hC
      have HN2 : Hid (S8.n = 3000) := hG.1.trans HN.out
      have HU2 : Hid (usedN S8.sl ≤ 38 * xs0.length + 111) := by have := HU.out; show usedN S8.sl ≤ 38 * xs0.length + 111; omega
      have HM8 : Hid (m8 ≤ 3000) := by show m8 ≤ 3000; omega
      have hRh := Rh.out.grows hG
      have Rs2 : Hid (RowT S8 ts (BS.take j ++ (xn, yn) :: BS.drop (j + 1))) := hT
      have hBX : Hid (BlkAt w13 (w.heap.size) 29 [.int .i64 (xn : Nat), .int .i64 (yn : Nat)]) := hS.2 _ _ _ (by decide) (by decide) (by decide) (by decide) BX.out
      clear HA HC HN HU hA hC hT hG T hu hm hS hw Rh
      clear BX
      have BX := hBX; clear hBX
      have HA := HA2; have HC := HC2; have HN := HN2; have HU := HU2
      have Rh : Hid (RowT _ _ _) := hRh
      have Rs := Rs2
      clear HA2 HC2 HN2 HU2 Rs2 hRh
      clear c0BX c1BX lBX hd
      have HYL : Hid ((BS.take j ++ (xn, yn) :: BS.drop (j + 1)).length = xs0.length) := by show _ = _; rw [set_len BS _ (by have := HBL.out; omega)]; exact HBL.out
      have HYG : Hid ((BS.take j ++ (xn, yn) :: BS.drop (j + 1))[j]? = some (xn, yn)) := set_get BS _ (by have := HBL.out; omega)
      have HYB : Hid ((BS.take j ++ (xn, yn) :: BS.drop (j + 1)).take j ++ np xs0[j] :: (BS.take j ++ (xn, yn) :: BS.drop (j + 1)).drop (j + 1) = BS) := set_back BS _ _ (HNB.out j hjl)
      generalize BS.take j ++ (xn, yn) :: BS.drop (j + 1) = Y at *
      have T : Hid (Calls _ _ _ _ _) := getR_in HA.out.rd Rs.out (by have := HYL.out; omega) j HYG.out
      go_wp2_with (go_at_call 22; fail)
      refine (T.out).mono ?_
      rintro e w14 ⟨rfl, hb⟩
      have hA : AB w1 G w14 S8 (md + m6 + m7 + m8) (10000 * xs0.length + 10000 + 10000 + 10000) := HA.out.grow hb
      have hBX : BlkAt w14 (w.heap.size) 29 [.int .i64 (xn : Nat), .int .i64 (yn : Nat)] := BX.out.later hb
      clear HA T hb BX
      have HA : Hid (AB _ _ _ _ _ _) := hA
      have BX : Hid (BlkAt _ _ _ _) := hBX
      clear hA hBX
      clear HYG
      have HSr : Hid (HasItems w14 ao0 xs0) := HS1.out.later HA.out.below
      obtain ⟨gb, ob, rfl, hc, hd2⟩ := HSr.out.cell j hjl
      have hgbl := World.block_lt_of_cell? _ _ hc
      obtain ⟨hz1, hz2⟩ := HZ.out xs0[j] (List.getElem_mem hjl)
      obtain ⟨hp1, hp2⟩ := HPP.out xs0[j] (List.getElem_mem hjl)
      have hz1b := hz1.2
      have hz2b := hz2.2
      have HNP : Hid (np xs0[j] = (xs0[j].1.toNat, xs0[j].2.toNat)) := rfl
      clear hz1 hz2 HSr
      generalize xs0[j].1 = p at *
      generalize xs0[j].2 = q at *
      generalize np xs0[j] = pq at *
      obtain ⟨pn, rfl⟩ : ∃ n : Nat, p = n := ⟨p.toNat, by omega⟩
      obtain ⟨qn, rfl⟩ : ∃ n : Nat, q = n := ⟨q.toNat, by omega⟩
      have hb : Below w14.heap.size w14 (w14.alloc (.cells #[.int .i64 (xn : Nat), .int .i64 (yn : Nat)] 29)) := (Below.refl _ _).alloc (Nat.le_refl _) _
      have T : Hid True := trivial
      have hA : AB w1 G (w14.alloc (.cells #[.int .i64 (xn : Nat), .int .i64 (yn : Nat)] 29)) S8 (md + m6 + m7 + m8) (10000 * xs0.length + 10000 + 10000 + 10000) := HA.out.grow hb
      have hBX : BlkAt (w14.alloc (.cells #[.int .i64 (xn : Nat), .int .i64 (yn : Nat)] 29)) (w.heap.size) 29 [.int .i64 (xn : Nat), .int .i64 (yn : Nat)] := BX.out.later hb
      clear HA T hb BX
      have HA : Hid (AB _ _ _ _ _ _) := hA
      have BX : Hid (BlkAt _ _ _ _) := hBX
      clear hA hBX
      have BZ : Hid (BlkAt (w14.alloc (.cells #[.int .i64 (xn : Nat), .int .i64 (yn : Nat)] 29)) (w14.heap.size) 29 [.int .i64 (xn : Nat), .int .i64 (yn : Nat)]) := BlkAt.made rfl _ [_, _]
      have hds := Rs.out.deep (d := 12) (by rw [HYL.out]; show xs0.length < 64; omega)
      have HMD3 : Hid (md + m6 + m7 + m8 ≤ 11400) := by have := HM8.out; have := HMD2.out; show md + m6 + m7 + m8 ≤ 11400; omega
      have T : Hid (Calls _ _ _ _ _) := setR HA.out HC.out Rs.out (by have := HYL.out; omega) j (by have := HYL.out; omega) (a := pn) (b := qn) (by omega) (by omega) (by have := HN.out; have := HU.out; omega) (by have := HN.out; omega) (by omega) (by have := HMD3.out; omega) (by omega)
      go_wp2_with (go_at_call 16; fail)
      refine (T.out).mono ?_
      rintro e w15 ⟨S9, tb, m9, rfl, hA, hC, hG, hT, hu, hm, hz, hS, hw⟩
      have HA2 : Hid (AB w1 G w15 S9 (md + m6 + m7 + m8 + m9) (10000 * xs0.length + 10000 + 10000 + 10000 + 10000)) := hA
      have HC2 : Hid (CI S9 _) := hC
      have HN2 : Hid (S9.n = 3000) := hG.1.trans HN.out
      have HU2 : Hid (usedN S9.sl ≤ 38 * xs0.length + 148) := by have := HU.out; show usedN S9.sl ≤ 38 * xs0.length + 148; omega
      have HM9 : Hid (m9 ≤ 3000) := by show m9 ≤ 3000; omega
      have hRh := Rh.out.grows hG
      have hRs := Rs.out.grows hG
      have Rb2 : Hid (RowT S9 tb (BS)) := by have h1 := HYB.out; rw [HNP.out, Int.toNat_natCast, Int.toNat_natCast] at h1; rw [h1] at hT; exact hT
      have hBX : Hid (BlkAt w15 (w.heap.size) 29 [.int .i64 (xn : Nat), .int .i64 (yn : Nat)]) := hS.2 _ _ _ (by decide) (by decide) (by decide) (by decide) BX.out
      have hBZ : Hid (BlkAt w15 (w14.heap.size) 29 [.int .i64 (xn : Nat), .int .i64 (yn : Nat)]) := hS.2 _ _ _ (by decide) (by decide) (by decide) (by decide) BZ.out
      clear HA HC HN HU hA hC hT hG T hu hm hS hw Rh Rs
      clear BX BZ
      have BX := hBX; clear hBX
      have BZ := hBZ; clear hBZ
      have HA := HA2; have HC := HC2; have HN := HN2; have HU := HU2
      have Rh : Hid (RowT _ _ _) := hRh
      have Rs : Hid (RowT _ _ _) := hRs
      have Rb := Rb2
      clear HA2 HC2 HN2 HU2 Rb2 hRh hRs
      clear hds hc hd2 hp1 hp2 HNP HYB
      have c0BX : w15.cell? ⟨w.heap.size, 0, none⟩ = some (.int .i64 (xn : Nat)) := BX.out.cell rfl
      have c1BX : w15.cell? ⟨w.heap.size, 1, none⟩ = some (.int .i64 (yn : Nat)) := BX.out.cell rfl
      have lBX := BX.out.lt
      have c0BZ : w15.cell? ⟨w14.heap.size, 0, none⟩ = some (.int .i64 (xn : Nat)) := BZ.out.cell rfl
      have c1BZ : w15.cell? ⟨w14.heap.size, 1, none⟩ = some (.int .i64 (yn : Nat)) := BZ.out.cell rfl
      have lBZ := BZ.out.lt
      have T : Hid (Calls _ _ _ _ _) := allR HA.out.rd Rb.out (by have := HBL.out; omega)
      go_wp2_with (go_at_call 24; fail)
      refine (T.out).mono ?_
      rintro e w16 ⟨ab, cb, rfl, hl, hb⟩
      have Lb : Hid (HasItems w16 ab xs0) := by rw [HXZ.out] at hl; exact hl
      clear hl
      have hA : AB w1 G w16 S9 (md + m6 + m7 + m8 + m9) (10000 * xs0.length + 10000 + 10000 + 10000 + 10000) := HA.out.grow hb
      have hBX : BlkAt w16 (w.heap.size) 29 [.int .i64 (xn : Nat), .int .i64 (yn : Nat)] := BX.out.later hb
      have hBZ : BlkAt w16 (w14.heap.size) 29 [.int .i64 (xn : Nat), .int .i64 (yn : Nat)] := BZ.out.later hb
      clear HA T hb BX BZ
      have HA : Hid (AB _ _ _ _ _ _) := hA
      have BX : Hid (BlkAt _ _ _ _) := hBX
      have BZ : Hid (BlkAt _ _ _ _) := hBZ
      clear hA hBX hBZ
      have T : Hid (Calls _ _ _ _ _) := sameI xs0 ab (some ⟨gb, ob, none⟩) BS.length xs0.length cb cap0 _ HBL.out rfl (by omega) Lb.out (HS1.out.later HA.out.below)
      go_wp2_with (go_at_call 23; fail)
      refine (T.out).mono ?_
      rintro e w17 ⟨rfl, hb⟩
      have hA : AB w1 G w17 S9 (md + m6 + m7 + m8 + m9) (10000 * xs0.length + 10000 + 10000 + 10000 + 10000) := HA.out.grow hb
      have hLb : HasItems w17 ab (xs0) := Lb.out.later hb
      have hBX : BlkAt w17 (w.heap.size) 29 [.int .i64 (xn : Nat), .int .i64 (yn : Nat)] := BX.out.later hb
      have hBZ : BlkAt w17 (w14.heap.size) 29 [.int .i64 (xn : Nat), .int .i64 (yn : Nat)] := BZ.out.later hb
      clear HA T hb Lb BX BZ
      have HA : Hid (AB _ _ _ _ _ _) := hA
      have Lb : Hid (HasItems _ _ _) := hLb
      have BX : Hid (BlkAt _ _ _ _) := hBX
      have BZ : Hid (BlkAt _ _ _ _) := hBZ
      clear hA hLb hBX hBZ
      clear Lb
      clear c0BX c1BX lBX c0BZ c1BZ lBZ
      have T : Hid (Calls _ _ _ _ _) := allR HA.out.rd Rh.out (by have := HBL.out; omega)
      go_wp2_with (go_at_call 24; fail)
      refine (T.out).mono ?_
      rintro e w18 ⟨ai, ci, rfl, hl, hb⟩
      have Li : Hid (HasItems w18 ai xs0) := by rw [HXZ.out] at hl; exact hl
      clear hl
      have hA : AB w1 G w18 S9 (md + m6 + m7 + m8 + m9) (10000 * xs0.length + 10000 + 10000 + 10000 + 10000) := HA.out.grow hb
      have hBX : BlkAt w18 (w.heap.size) 29 [.int .i64 (xn : Nat), .int .i64 (yn : Nat)] := BX.out.later hb
      have hBZ : BlkAt w18 (w14.heap.size) 29 [.int .i64 (xn : Nat), .int .i64 (yn : Nat)] := BZ.out.later hb
      clear HA T hb BX BZ
      have HA : Hid (AB _ _ _ _ _ _) := hA
      have BX : Hid (BlkAt _ _ _ _) := hBX
      have BZ : Hid (BlkAt _ _ _ _) := hBZ
      clear hA hBX hBZ
      have T : Hid (Calls _ _ _ _ _) := sameI xs0 ai (some ⟨gb, ob, none⟩) BS.length xs0.length ci cap0 _ HBL.out rfl (by omega) Li.out (HS1.out.later HA.out.below)
      go_wp2_with (go_at_call 23; fail)
      refine (T.out).mono ?_
      rintro e w19 ⟨rfl, hb⟩
      have hA : AB w1 G w19 S9 (md + m6 + m7 + m8 + m9) (10000 * xs0.length + 10000 + 10000 + 10000 + 10000) := HA.out.grow hb
      have hLi : HasItems w19 ai (xs0) := Li.out.later hb
      have hBX : BlkAt w19 (w.heap.size) 29 [.int .i64 (xn : Nat), .int .i64 (yn : Nat)] := BX.out.later hb
      have hBZ : BlkAt w19 (w14.heap.size) 29 [.int .i64 (xn : Nat), .int .i64 (yn : Nat)] := BZ.out.later hb
      clear HA T hb Li BX BZ
      have HA : Hid (AB _ _ _ _ _ _) := hA
      have Li : Hid (HasItems _ _ _) := hLi
      have BX : Hid (BlkAt _ _ _ _) := hBX
      have BZ : Hid (BlkAt _ _ _ _) := hBZ
      clear hA hLi hBX hBZ
      clear Li
      have HE : Hid (Below w.heap.size w _) := HB.out.trans (HA.out.below.mono HB.out.size)
      clear HA Rb Rs Rh HC HN HU HXZ HBL BX BZ
      go_wp2
      go_ret
      exact ⟨rfl, HE.out⟩

/-! ### The row's step -/
set_option maxRecDepth 100000 in
theorem lifted (os : Os) (started : os.Started) (H : Type) (enc : TypeId × Value → H) :
    ReturnsInHanded {} Tryd.checked os 4 .any (fun w args => (Rows.listBackSpec.pre enc Tryd.prog Tryd.f4 [] false w args ∧ laidMetH Tryd.prog laid1 w) ∧ sizedMet enc Tryd.prog Tryd.f4 (OpenSpec.ofChange Rows.listBackSpec) false w args) (Rows.listBackSpec.post enc Tryd.prog Tryd.f4 false true false false) := by
  refine returnsInHanded_of_change_and (C := Tryd.checked) (X := fun w _ => laidMetH Tryd.prog laid1 w) (fun _ _ _ hh h => h.of_heap hh) Tryd.own started (by kernel_rfl) Tryd.func4
    (ChangeSpec.witness_shaped (enc := enc) (C := Tryd.checked) (os := os) (X := fun w _ => laidMetH Tryd.prog laid1 w) false (World.doorLaid Tryd.prog 400 os) #[.slice none 0 0, .int .i64 0, .agg #[.int .i64 0, .int .i64 0]] 8 rfl (World.shaped_of_RefB (by kernel_rfl) (by kernel_rfl)) (by kernel_rfl) (by kernel_rfl) (by kernel_rfl) (door_met os _)) ?_
  intro W base args ds gs before hval0 hW _ _ hL _
  have hval : ∀ (j : Nat) t v, Tryd.f4.params[j]? = some t → args[j]? = some v → Value.okWide Tryd.prog W .any base t v := hval0
  have hW' := hW
  obtain ⟨p, q, hA0, hV, rfl, hfz, hnd⟩ := hW
  have hA : DataW.TrodAll enc Tryd.prog W 0 (fun _ => true) true Tryd.f4.params.toList args.toList ds p := hA0
  rw [Tryd.params4] at hA hval
  obtain ⟨v0, vs0, d0, ds0, p0, q0, hargs, rfl, rfl, h0, r0⟩ := trodAll_cons hA
  obtain ⟨v1, vs1, d1, ds1, p1, q1, rfl, rfl, rfl, h1, r1⟩ := trodAll_cons r0
  obtain ⟨v2, vs2, d2, ds2, p2, q2, rfl, rfl, rfl, h2, r2⟩ := trodAll_cons r1
  obtain ⟨rfl, rfl, rfl⟩ := trodAll_nil r2
  obtain rfl : args = #[v0, v1, v2] := by cases args; simp_all
  obtain ⟨rfl, rfl⟩ := trodVars_none hV
  obtain ⟨ao0, xs0, cap0, rfl, hs0, hz0, hl0, hm0⟩ := open_items (hval 0 32 v0 rfl rfl) h0
  obtain ⟨a1, rfl, rfl, rfl, wf1⟩ := open_int Tryd.underlying3 (hval 1 3 v1 rfl rfl) h1
  have w1 := wf_i64 wf1
  obtain ⟨x2, y2, rfl, hx2, hy2⟩ := open_item (hval 2 29 v2 rfl rfl) h2
  clear hA0 hval0
  simp only [List.append_nil] at hW'
  refine (walk ao0 xs0 cap0 a1 x2 y2 W (of_laid hL) hs0 hz0 hl0 hm0 w1 hx2 hy2).mono fun e W' ⟨he, hg⟩ => ?_
  subst he
  exact ⟨_, rfl, post_carry Tryd.laidOut (by rw [Tryd.params4]; intro t ht; simp only [List.mem_cons, List.not_mem_nil, or_false] at ht; rcases ht with rfl | rfl | rfl <;> exact ⟨by kernel_rfl, of_decide_eq_true (by kernel_rfl)⟩) rfl hW' (fun _ _ _ => (trodAll_cons_mk (shut_bool Tryd.underlying4 _) trodAll_mk0)) rfl rfl hg⟩

theorem over : Rows.listBackRow.holds Tryd.pinned (OpenSpec.ofChange Rows.listBackSpec) :=
  OpenClaim.holds_of_wide 4 Tryd.f4 rfl rfl rfl rfl rfl rfl rfl ⟨rfl, rfl, rfl, rfl, rfl⟩ rfl rfl rfl rfl rfl (by kernel_rfl) Tryd.func4 (by kernel_rfl)
    (of_decide_eq_true (by kernel_rfl)) (by unfold Func.isWrapper; first | (rw [if_pos (by decide +kernel)]; kernel_rfl) | (rw [if_neg (by decide +kernel)]; exact ⟨rfl, rfl⟩))
    (fun os started H enc _ => lifted os started H enc)

end Go.Proofs.YtfigihlahmgloaaDoor.listBack

namespace Go.Proofs.YtfigihlahmgloaaDoor
/-- the row -/
theorem listBack_row : Rows.ListBackSaid := listBack.over

/-- the statement: the tied card -/
theorem listBack_holds : Rows.ListBackCardSaid :=
  Claim7.holds_tied_plain_at .later [] [.data] true Rows.listBackCard.stood.harness false
    listBack_row (fun _ h => by cases h) (by kernel_rfl) (fun _ h => by cases h) listBack_row_tie rfl ⟨rfl, rfl⟩ (by kernel_rfl) rfl
    (fun f fn hf hfn => by
      obtain rfl : f = 4 := Option.some.inj ((show Tryd.prog.funcNamed "scrinium/scriniumlaw10.ListBack" = some 4 by kernel_rfl).symm.trans hf) |>.symm
      obtain rfl : fn = Tryd.f4 := (Option.some.inj (Tryd.func4.symm.trans hfn)).symm
      exact ⟨by kernel_rfl, fun j t ht => by
        rw [Tryd.params4] at ht
        have hm : t ∈ [32, 3, 29] := by simpa using Array.mem_of_getElem? ht
        have hall : ([32, 3, 29].all fun u => !Tryd.prog.wantsStandIn u) = true := by kernel_rfl
        exact (show Tryd.prog.wantsStandIn t = false by simpa using List.all_eq_true.1 hall t hm)⟩)
    (by kernel_rfl)
#print axioms listBack_holds
end Go.Proofs.YtfigihlahmgloaaDoor
