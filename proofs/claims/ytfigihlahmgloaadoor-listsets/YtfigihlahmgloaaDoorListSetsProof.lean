/- Set in one place a list is as it was in all others: for every list of at most 60 pairs, every place and pair. -/
import Derived.Test.YtfigihlahmgloaaDoorSh
import Derived.Test.YtfigihlahmgloaaDoorLsY
import Derived.Test.YtfigihlahmgloaaDoorLsZ
import Derived.Test.YtfigihlahmgloaaDoorCards
import Derived.Test.YtfigihlahmgloaaDoorTie
import Derived.SevenTiedAt
namespace Go.Proofs.YtfigihlahmgloaaDoor.listSets
open Go.ChangeShapes Go.WideShapes Go.ChangeAt Go.RowKit Go.Proofs.YtfigihlahmgloaaDoor.Ls
set_option linter.unusedVariables false


/-! ### The walk -/
set_option maxRecDepth 100000 in
set_option maxHeartbeats 2000000 in
theorem walk (ao0 : Option Addr) (xs0 : List (Int × Int)) (cap0 : Nat) (a1 : Int) (x2 y2 : Int) (w : World) (hT : Tab w) (hs0 : HasItems w ao0 xs0) (hz0 : ∀ x ∈ xs0, inR x.1 ∧ inR x.2) (hl0 : xs0.length ≤ cap0) (hm0 : cap0 ≤ 9223372036854775807) (w1 : -9223372036854775808 ≤ a1 ∧ a1 ≤ 9223372036854775807) (hx2 : inR x2) (hy2 : inR y2) :
    Calls Tryd.prog 7 #[.slice ao0 xs0.length cap0, .int .i64 a1, .agg #[.int .i64 x2, .int .i64 y2]] w fun e w' => e = .returned (.bool true) ∧ Below w.heap.size w w' := by
  have TA : Hid (∀ W, Tab W → _) := fun W h => alive10 W h
  have HT : Hid (Tab w) := hT
  clear hT
  have hx2a := hx2.1
  have hx2b := hx2.2
  have hy2a := hy2.1
  have hy2b := hy2.2
  clear hx2 hy2
  by_cases h0 : xs0.length < 1
  · have e0 : decide (xs0.length < 1) = true := decide_eq_true (by omega)
    have d0 : decide (((xs0.length : Nat) : Int) < 1) = true := decide_eq_true (by omega)
    clear hs0 hz0
    go_enter Tryd.func7, Tryd.ntmps7
    go_wp2_with (go_at_call 9; fail)
    have hbx : Below w.heap.size w (w.alloc (.cells #[.int .i64 x2, .int .i64 y2] 29)) := (Below.refl _ _).alloc (Nat.le_refl _) _
    refine (TA.out _ (tab_below HT.out hbx)).mono ?_
    rintro e w1 ⟨rfl, hb⟩
    have HB : Hid (Below w.heap.size w w1) := hbx.trans (hb.mono hbx.size)
    have HT1 : Hid (Tab w1) := tab_below HT.out HB.out
    have BX : Hid (BlkAt w1 (w.heap.size) 29 [.int .i64 x2, .int .i64 y2]) := (BlkAt.made rfl _ [.int .i64 x2, .int .i64 y2]).later hb
    clear hb hbx HT TA
    go_wp2
    go_ret
    exact ⟨rfl, HB.out⟩
  by_cases h1 : 60 < xs0.length
  · have d0 : decide (((xs0.length : Nat) : Int) < 1) = false := decide_eq_false (by omega)
    have e0 : decide (xs0.length < 1) = false := decide_eq_false (by omega)
    have d1 : decide ((60 : Int) < ((xs0.length : Nat) : Int)) = true := decide_eq_true (by omega)
    have e1 : decide (60 < xs0.length) = true := decide_eq_true (by omega)
    clear hs0 hz0
    go_enter Tryd.func7, Tryd.ntmps7
    go_wp2_with (go_at_call 9; fail)
    have hbx : Below w.heap.size w (w.alloc (.cells #[.int .i64 x2, .int .i64 y2] 29)) := (Below.refl _ _).alloc (Nat.le_refl _) _
    refine (TA.out _ (tab_below HT.out hbx)).mono ?_
    rintro e w1 ⟨rfl, hb⟩
    have HB : Hid (Below w.heap.size w w1) := hbx.trans (hb.mono hbx.size)
    have HT1 : Hid (Tab w1) := tab_below HT.out HB.out
    have BX : Hid (BlkAt w1 (w.heap.size) 29 [.int .i64 x2, .int .i64 y2]) := (BlkAt.made rfl _ [.int .i64 x2, .int .i64 y2]).later hb
    clear hb hbx HT TA
    go_wp2
    go_ret
    exact ⟨rfl, HB.out⟩
  by_cases h2 : x2 < 0
  · have d0 : decide (((xs0.length : Nat) : Int) < 1) = false := decide_eq_false (by omega)
    have e0 : decide (xs0.length < 1) = false := decide_eq_false (by omega)
    have d1 : decide ((60 : Int) < ((xs0.length : Nat) : Int)) = false := decide_eq_false (by omega)
    have e1 : decide (60 < xs0.length) = false := decide_eq_false (by omega)
    have d2 : decide (x2 < 0) = true := decide_eq_true (by omega)
    clear hs0 hz0
    go_enter Tryd.func7, Tryd.ntmps7
    go_wp2_with (go_at_call 9; fail)
    have hbx : Below w.heap.size w (w.alloc (.cells #[.int .i64 x2, .int .i64 y2] 29)) := (Below.refl _ _).alloc (Nat.le_refl _) _
    refine (TA.out _ (tab_below HT.out hbx)).mono ?_
    rintro e w1 ⟨rfl, hb⟩
    have HB : Hid (Below w.heap.size w w1) := hbx.trans (hb.mono hbx.size)
    have HT1 : Hid (Tab w1) := tab_below HT.out HB.out
    have BX : Hid (BlkAt w1 (w.heap.size) 29 [.int .i64 x2, .int .i64 y2]) := (BlkAt.made rfl _ [.int .i64 x2, .int .i64 y2]).later hb
    clear hb hbx HT TA
    go_wp2
    go_ret
    exact ⟨rfl, HB.out⟩
  by_cases h3 : y2 < 0
  · have d0 : decide (((xs0.length : Nat) : Int) < 1) = false := decide_eq_false (by omega)
    have e0 : decide (xs0.length < 1) = false := decide_eq_false (by omega)
    have d1 : decide ((60 : Int) < ((xs0.length : Nat) : Int)) = false := decide_eq_false (by omega)
    have e1 : decide (60 < xs0.length) = false := decide_eq_false (by omega)
    have d2 : decide (x2 < 0) = false := decide_eq_false (by omega)
    have d3 : decide (y2 < 0) = true := decide_eq_true (by omega)
    clear hs0 hz0
    go_enter Tryd.func7, Tryd.ntmps7
    go_wp2_with (go_at_call 9; fail)
    have hbx : Below w.heap.size w (w.alloc (.cells #[.int .i64 x2, .int .i64 y2] 29)) := (Below.refl _ _).alloc (Nat.le_refl _) _
    refine (TA.out _ (tab_below HT.out hbx)).mono ?_
    rintro e w1 ⟨rfl, hb⟩
    have HB : Hid (Below w.heap.size w w1) := hbx.trans (hb.mono hbx.size)
    have HT1 : Hid (Tab w1) := tab_below HT.out HB.out
    have BX : Hid (BlkAt w1 (w.heap.size) 29 [.int .i64 x2, .int .i64 y2]) := (BlkAt.made rfl _ [.int .i64 x2, .int .i64 y2]).later hb
    clear hb hbx HT TA
    go_wp2
    go_ret
    exact ⟨rfl, HB.out⟩
  have d0 : decide (((xs0.length : Nat) : Int) < 1) = false := decide_eq_false (by omega)
  have e0 : decide (xs0.length < 1) = false := decide_eq_false (by omega)
  have d1 : decide ((60 : Int) < ((xs0.length : Nat) : Int)) = false := decide_eq_false (by omega)
  have e1 : decide (60 < xs0.length) = false := decide_eq_false (by omega)
  have d2 : decide (x2 < 0) = false := decide_eq_false (by omega)
  have d3 : decide (y2 < 0) = false := decide_eq_false (by omega)
  have hln : xs0.length ≤ 60 := by omega
  have hl1 : 1 ≤ xs0.length := by omega
  have w1a := w1.1
  have w1b := w1.2
  have hx0 : 0 ≤ x2 := by omega
  have hy0 : 0 ≤ y2 := by omega
  clear h1 h2 h3 w1 h0
  have HS : Hid (HasItems w ao0 xs0) := hs0
  have HZ : Hid (∀ x ∈ xs0, inR x.1 ∧ inR x.2) := hz0
  clear hs0 hz0
  go_enter Tryd.func7, Tryd.ntmps7
  go_wp2_with (go_at_call 9; fail)
  have hbx : Below w.heap.size w (w.alloc (.cells #[.int .i64 x2, .int .i64 y2] 29)) := (Below.refl _ _).alloc (Nat.le_refl _) _
  refine (TA.out _ (tab_below HT.out hbx)).mono ?_
  rintro e w1 ⟨rfl, hb⟩
  have HB : Hid (Below w.heap.size w w1) := hbx.trans (hb.mono hbx.size)
  have HT1 : Hid (Tab w1) := tab_below HT.out HB.out
  have BX : Hid (BlkAt w1 (w.heap.size) 29 [.int .i64 x2, .int .i64 y2]) := (BlkAt.made rfl _ [.int .i64 x2, .int .i64 y2]).later hb
  clear hb hbx HT TA
  have T : Hid (Calls _ _ _ _ _) := newR (Below.refl _ _) HT1.out 3000 (by omega) (by omega)
  go_wp2_with (go_at_call 10; fail)
  refine (T.out).mono ?_
  rintro e w2 ⟨G, S0, rfl, hA, hC, hn, hu, hw⟩
  have HA : Hid (AB w1 G w2 S0 0 0) := hA
  have HC : Hid (CI S0 []) := hC
  have HN : Hid (S0.n = 3000) := hn
  have HU : Hid (usedN S0.sl ≤ 0) := Nat.le_of_eq hu
  have HW : Hid (S0.wt = []) := hw
  have hBX : Hid (BlkAt w2 (w.heap.size) 29 [.int .i64 x2, .int .i64 y2]) := BX.out.later hA.below
  clear hA hC hn hu hw T HT1 BX
  have BX := hBX; clear hBX
  have hAl := HA.out.lt
  have HS1 : Hid (HasItems w1 ao0 xs0) := HS.out.later HB.out
  clear HS d2 d3 d1 e1 d0 e0
  have HA0 : Hid (AB w1 G w2 S0 0 (10000 * 0)) := HA.out
  have HU0 : Hid (usedN S0.sl ≤ 38 * 0) := HU.out
  have HR0 : Hid (RowT S0 .nil ((xs0.take 0).map np)) := RowT.none S0
  have HP0 : Hid (Pos (xs0.take 0)) := fun x hx => by simp at hx
  clear HA HU HW
  go_wp2
  go_loopw [8, 43] (fun h i wr => ∃ (k : Nat) (S : St) (md : Nat) (t : Tr) (mine : List Int), k ≤ xs0.length ∧ h = .int .i64 t.hd ∧ i = .int .i64 (k : Nat) ∧ md ≤ 40 * k ∧ Hid (Pos (xs0.take k)) ∧ Hid (AB w1 G wr S md (10000 * k)) ∧ Hid (CI S mine) ∧ Hid (S.n = 3000) ∧ Hid (usedN S.sl ≤ 38 * k) ∧ Hid (RowT S t ((xs0.take k).map np)) ∧ Hid (BlkAt wr w.heap.size 29 [.int .i64 x2, .int .i64 y2])) (fun _ i _ => xs0.length - (intOf i).toNat)
  case atStart => exact ⟨0, S0, 0, .nil, [], by omega, rfl, rfl, by omega, HP0, HA0, HC, HN, HU0, HR0, BX⟩
  case round =>
    obtain ⟨k, S, md, t, mine, hk, rfl, rfl, hmd, HP, HA, HC, HN, HU, HR, BX⟩ := hrel
    have hAl := HA.out.lt
    have hbl : ((xs0.take k).map np).length = k := by rw [List.length_map, List.length_take]; omega
    have hd := HR.out.deep (d := 12) (by rw [hbl]; show k < 64; omega)
    clear HA0 HU0 HR0 HP0
    by_cases hlt : k < xs0.length
    · have HSr : Hid (HasItems wr ao0 xs0) := HS1.out.later HA.out.below
      obtain ⟨gb, ob, rfl, hc, hd2⟩ := HSr.out.cell k hlt
      obtain ⟨hz1, hz2⟩ := HZ.out xs0[k] (List.getElem_mem hlt)
      have hz1b := hz1.2
      have hz2b := hz2.2
      have hz1a := hz1.1
      have hz2a := hz2.1
      have HTK : Hid ((xs0.take (k + 1)).map np = (xs0.take k).map np ++ [np xs0[k]]) := take_np xs0 hlt
      have HPK : Hid (0 ≤ xs0[k].1 → 0 ≤ xs0[k].2 → Pos (xs0.take (k + 1))) := HP.out.succ hlt
      have HNP : Hid (np xs0[k] = (xs0[k].1.toNat, xs0[k].2.toNat)) := rfl
      clear HSr hz1 hz2
      generalize xs0[k].1 = p at *
      generalize xs0[k].2 = q at *
      generalize np xs0[k] = pq at *
      have q0 : decide ((k : Int) < (((xs0.length) : Nat) : Int)) = true := decide_eq_true (by omega)
      have q1 : decide (k < xs0.length) = true := decide_eq_true hlt
      have hb0 : Below wr.heap.size wr (wr.alloc (.cells #[.int .i64 p, .int .i64 q] 29)) := (Below.refl _ _).alloc (Nat.le_refl _) _
      by_cases hneg : p < 0 ∨ q < 0
      · have T : Hid (Calls _ _ _ _ _) := ins_arg (p := .pointer (some ⟨G, 0, none⟩)) (h := t.hd) (i := (k : Int)) (a := p) (b := q) hneg (wr.alloc (.cells #[.int .i64 p, .int .i64 q] 29))
        have HE0 : Hid (Below w1.heap.size w1 (wr.alloc (.cells #[.int .i64 p, .int .i64 q] 29))) := (HA.out.grow hb0).below
        go_wp2_with (go_at_call 14; fail)
        refine (T.out).mono ?_
        rintro e w5 ⟨rfl, hb⟩
        have BY : Hid (BlkAt w5 wr.heap.size 29 [.int .i64 p, .int .i64 q]) := (BlkAt.made rfl _ [_, _]).later hb
        have HE : Hid (Below w.heap.size w w5) := HB.out.trans ((HE0.out.trans (hb.mono HE0.out.size)).mono HB.out.size)
        have c0 : w5.cell? ⟨wr.heap.size, 0, none⟩ = some (.int .i64 p) := BY.out.cell rfl
        have c1 : w5.cell? ⟨wr.heap.size, 1, none⟩ = some (.int .i64 q) := BY.out.cell rfl
        clear T hb HE0 HA HC HN HU HR BX HTK HPK HNP HP hb0 hc hd2
        by_cases hp0 : p < 0
        · have q2 : decide (p < 0) = true := decide_eq_true hp0
          clear hneg
          go_wp2
          go_ret
          exact ⟨rfl, HE.out⟩
        · have q2 : decide (p < 0) = false := decide_eq_false hp0
          have q3 : decide (q < 0) = true := decide_eq_true (by omega)
          clear hneg
          go_wp2
          go_ret
          exact ⟨rfl, HE.out⟩
      · obtain ⟨pn, rfl⟩ : ∃ n : Nat, p = n := ⟨p.toNat, by omega⟩
        obtain ⟨qn, rfl⟩ : ∃ n : Nat, q = n := ⟨q.toNat, by omega⟩
        have q2 : decide ((pn : Int) < 0) = false := decide_eq_false (by omega)
        have q3 : decide ((qn : Int) < 0) = false := decide_eq_false (by omega)
        have T : Hid (Calls _ _ _ _ _) := insR (HA.out.grow hb0) HC.out HR.out (by omega) k (by omega) (a := pn) (b := qn) (by omega) (by omega) (by have := HN.out; have := HU.out; omega) (by have := HN.out; omega) (by omega) (by omega) (by omega)
        go_wp2_with (go_at_call 14; fail)
        refine (T.out).mono ?_
        rintro e w5 ⟨S5, t5, m5, rfl, hA, hC, hG, hT, hu, hm, hz, hS, -⟩
        have BY : Hid (BlkAt w5 wr.heap.size 29 [.int .i64 (pn : Nat), .int .i64 (qn : Nat)]) := hS.2 _ _ _ (by decide) (by decide) (by decide) (by decide) (BlkAt.made rfl _ [_, _])
        have BX5 : Hid (BlkAt w5 w.heap.size 29 [.int .i64 x2, .int .i64 y2]) := hS.2 _ _ _ (by decide) (by decide) (by decide) (by decide) (BX.out.later hb0)
        have c0 : w5.cell? ⟨wr.heap.size, 0, none⟩ = some (.int .i64 (pn : Nat)) := BY.out.cell rfl
        have c1 : w5.cell? ⟨wr.heap.size, 1, none⟩ = some (.int .i64 (qn : Nat)) := BY.out.cell rfl
        have HA5 : Hid (AB w1 G w5 S5 (md + m5) (10000 * (k + 1))) := hA
        have HC5 : Hid (CI S5 _) := hC
        have HN5 : Hid (S5.n = 3000) := hG.1.trans HN.out
        have HU5 : Hid (usedN S5.sl ≤ 38 * (k + 1)) := by have := HU.out; show usedN S5.sl ≤ 38 * (k + 1); omega
        have hm5 : m5 ≤ 38 := by omega
        have HR5 : Hid (RowT S5 t5 ((xs0.take (k + 1)).map np)) := by
          have h := hT
          rw [ins_end _ _ hbl.symm] at h
          rw [HNP.out, Int.toNat_natCast, Int.toNat_natCast] at HTK
          show RowT S5 t5 ((xs0.take (k + 1)).map np)
          rw [HTK.out]
          exact h
        have HP5 : Hid (Pos (xs0.take (k + 1))) := HPK.out (by omega) (by omega)
        clear T hA hC hG hT hu hm hz hS HA HC HN HU HR BX HTK HPK HNP HP hb0 hc hd2 hd hneg
        go_wp2
        go_roundw
        case rel => exact ⟨k + 1, S5, md + m5, t5, _, by omega, rfl, by go_num, by omega, HP5, HA5, HC5, HN5, HU5, HR5, BX5⟩
        case measure => simp [intOf]; omega
    · obtain rfl : k = xs0.length := by omega
      have q0 : decide ((((xs0.length) : Nat) : Int) < (((xs0.length) : Nat) : Int)) = false := decide_eq_false (by omega)
      have q1 : decide (xs0.length < xs0.length) = false := decide_eq_false (by omega)
      rw [List.take_length] at HR HP hbl
      obtain ⟨j, hj, hjm, hr1, hr2⟩ := remP a1 hl1
      generalize hr : Int.tmod a1 ((xs0.length : Nat) : Int) = r at *
      obtain ⟨xn, rfl⟩ : ∃ n : Nat, x2 = n := ⟨x2.toNat, by omega⟩
      obtain ⟨yn, rfl⟩ : ∃ n : Nat, y2 = n := ⟨y2.toNat, by omega⟩
      obtain ⟨BS, hBS⟩ : ∃ BS, xs0.map np = BS := ⟨_, rfl⟩
      have HXZ : Hid (BS.map zp = xs0) := by rw [← hBS]; exact zp_np HP.out
      rw [hBS] at HR hbl
      clear hBS HP
      have HBL : Hid (BS.length = xs0.length) := hbl
      clear hbl
      have Rh := HR
      clear HR
      have hwj : wrap64 (r + ((xs0.length : Nat) : Int)) = r + ((xs0.length : Nat) : Int) := by simp only [wrap64]; omega
      have hwj2 : IntKind.i64.wrap (r + ((xs0.length : Nat) : Int)) = r + ((xs0.length : Nat) : Int) := wrap_in (by omega) (by omega)
      have c0BX : wr.cell? ⟨w.heap.size, 0, none⟩ = some (.int .i64 (xn : Nat)) := BX.out.cell rfl
      have c1BX : wr.cell? ⟨w.heap.size, 1, none⟩ = some (.int .i64 (yn : Nat)) := BX.out.cell rfl
      have T : Hid (Calls _ _ _ _ _) := setR HA.out HC.out Rh.out (by have := HBL.out; omega) j (by have := HBL.out; omega) (a := xn) (b := yn) (by omega) (by omega) (by have := HN.out; have := HU.out; omega) (by have := HN.out; omega) (by omega) (by omega) (by omega)
      go_wp2_with (go_at_call 16; fail)
      refine (T.out).mono ?_
      rintro e w6 ⟨S6, tg, m6, rfl, hA, hC, hG, hT, hu, hm, hz, hS, hw⟩
      have HA2 : Hid (AB w1 G w6 S6 (md + m6) (10000 * xs0.length + 10000)) := hA
      have HC2 : Hid (CI S6 _) := hC
      have HN2 : Hid (S6.n = 3000) := hG.1.trans HN.out
      have HU2 : Hid (usedN S6.sl ≤ 38 * xs0.length + 37) := by have := HU.out; show usedN S6.sl ≤ 38 * xs0.length + 37; omega
      have HM6 : Hid (m6 ≤ 3000) := by show m6 ≤ 3000; omega
      have hRh := Rh.out.grows hG
      have Rg2 : Hid (RowT S6 tg (BS.take j ++ (xn, yn) :: BS.drop (j + 1))) := hT
      have hBX : Hid (BlkAt w6 (w.heap.size) 29 [.int .i64 (xn : Nat), .int .i64 (yn : Nat)]) := hS.2 _ _ _ (by decide) (by decide) (by decide) (by decide) BX.out
      clear HA HC HN HU hA hC hT hG T hu hm hS hw Rh
      clear BX
      have BX := hBX; clear hBX
      have HA := HA2; have HC := HC2; have HN := HN2; have HU := HU2
      have Rh : Hid (RowT _ _ _) := hRh
      have Rg := Rg2
      clear HA2 HC2 HN2 HU2 Rg2 hRh
      have hnn : ao0 = none → xs0.length = 0 ∧ cap0 = 0 := fun e => by obtain ⟨g, o, h, -⟩ := HS1.out.cell 0 (by omega); rw [e] at h; cases h
      have HSr : Hid (HasItems w6 ao0 xs0) := HS1.out.later HA.out.below
      have HBw : Hid (w.heap.size < w6.heap.size) := BX.out.lt
      go_wp2_with (
        at_builtin
        refine wpList_append_src _ rfl (.const (.slice none 0 0)) (.tmp 92) 32 rfl elemItem w6.heap.size _ 0 [] (by rfl) (World.ownsRow_nil _ _ _ _) ao0 xs0.length cap0 (itemsZ xs0) (by rfl) hnn (itemsZ_len xs0) HSr.out.cells (itemsZ_one xs0) (by unfold maxLen; omega) (by omega) (Nat.le_refl _) ?_
        intro v7 w7 hown hgrow _ _
        rw [List.nil_append, Nat.zero_add] at hown
        have hb : Below w6.heap.size w6 w7 := (Below.refl w6.heap.size w6).grown hgrow (Nat.le_refl _) (fun g e => nomatch e)
        obtain ⟨gw, cw, ws, rfl, hgw, hblk, hbeg⟩ := want_blk hown hl1
        have BW : Hid (BlkAt w7 gw 29 ws) := hblk
        have HBG : Hid (Begins ws xs0) := hbeg
        have HB7 : Hid (Below w6.heap.size w6 w7) := hb
        have BX7 : Hid (BlkAt w7 w.heap.size 29 [.int .i64 (xn : Nat), .int .i64 (yn : Nat)]) := BX.out.later hb
        have hw1 := HA.out.below.size; have hw17 := hb.size
        obtain ⟨hat0, hat1⟩ := hbeg.at hj
        have c0 : w7.cell? ⟨w.heap.size, 0, none⟩ = some (.int .i64 (xn : Nat)) := BX7.out.cell rfl
        have c1 : w7.cell? ⟨w.heap.size, 1, none⟩ = some (.int .i64 (yn : Nat)) := BX7.out.cell rfl
        have c2 : w7.cell? ⟨gw, j * 2, none⟩ = some _ := hblk.cell hat0
        have c3 : w7.cell? ⟨gw, j * 2 + 1, none⟩ = some _ := hblk.cell hat1
        have f2 := hblk.frozen (j * 2)
        have f3 := hblk.frozen (j * 2 + 1)
        have hgl := hblk.lt
        clear hown hgrow hb hblk hbeg BX HSr hnn hat0 hat1)
      have HW9 : Hid (HasItems ((w7.setCell ⟨gw, j * 2, none⟩ (.int .i64 (xn : Nat))).setCell ⟨gw, j * 2 + 1, none⟩ (.int .i64 (yn : Nat))) (some ⟨gw, 0, none⟩) (xs0.set j ((xn : Int), (yn : Int)))) := items_of_blk ((BW.out.set (j * 2) _).set (j * 2 + 1) _) (HBG.out.set hj _ _)
      have HB9 : Hid (Below w6.heap.size w6 ((w7.setCell ⟨gw, j * 2, none⟩ (.int .i64 (xn : Nat))).setCell ⟨gw, j * 2 + 1, none⟩ (.int .i64 (yn : Nat)))) := (HB7.out.setCell (p := ⟨gw, j * 2, none⟩) hgw _).setCell (p := ⟨gw, j * 2 + 1, none⟩) hgw _
      have HZL : Hid ((BS.take j ++ (xn, yn) :: BS.drop (j + 1)).length = xs0.length) := by show _ = _; rw [set_len BS _ (by have := HBL.out; omega)]; exact HBL.out
      have HZZ : Hid ((BS.take j ++ (xn, yn) :: BS.drop (j + 1)).map zp = xs0.set j ((xn : Int), (yn : Int))) := by show _ = _; rw [set_eq BS _ (by have := HBL.out; omega), List.map_set, HXZ.out]; rfl
      have HXL : Hid ((xs0.set j ((xn : Int), (yn : Int))).length = xs0.length) := List.length_set
      generalize BS.take j ++ (xn, yn) :: BS.drop (j + 1) = Z at *
      generalize xs0.set j ((xn : Int), (yn : Int)) = XS at *
      have HA9 : Hid (AB w1 G ((w7.setCell ⟨gw, j * 2, none⟩ (.int .i64 (xn : Nat))).setCell ⟨gw, j * 2 + 1, none⟩ (.int .i64 (yn : Nat))) S6 (md + m6) (10000 * xs0.length + 10000)) := HA.out.grow HB9.out
      clear HA HB7 HB9 BW HBG BX7 c0 c1
      have HA := HA9
      clear HA9
      have HWW := HW9
      clear HW9
      have T : Hid (Calls _ _ _ _ _) := allR HA.out.rd Rg.out (by have := HZL.out; omega)
      go_wp2_with (go_at_call 24; fail)
      refine (T.out).mono ?_
      rintro e w10 ⟨ag, cg, rfl, hl, hb⟩
      have Lg : Hid (HasItems w10 ag XS) := by rw [HZZ.out] at hl; exact hl
      clear hl
      have hA : AB w1 G w10 S6 (md + m6) (10000 * xs0.length + 10000) := HA.out.grow hb
      have hHWW : HasItems w10 (some ⟨gw, 0, none⟩) (XS) := HWW.out.later hb
      clear HA T hb HWW
      have HA : Hid (AB _ _ _ _ _ _) := hA
      have HWW : Hid (HasItems _ _ _) := hHWW
      clear hA hHWW
      have T : Hid (Calls _ _ _ _ _) := sameI XS ag (some ⟨gw, 0, none⟩) Z.length xs0.length cg cw _ (by have h1 := HZL.out; have h2 := HXL.out; omega) (by have h2 := HXL.out; omega) (by have h2 := HXL.out; omega) Lg.out HWW.out
      go_wp2_with (go_at_call 23; fail)
      refine (T.out).mono ?_
      rintro e w11 ⟨rfl, hb⟩
      have hA : AB w1 G w11 S6 (md + m6) (10000 * xs0.length + 10000) := HA.out.grow hb
      have hHWW : HasItems w11 (some ⟨gw, 0, none⟩) (XS) := HWW.out.later hb
      have hLg : HasItems w11 ag (XS) := Lg.out.later hb
      clear HA T hb HWW Lg
      have HA : Hid (AB _ _ _ _ _ _) := hA
      have HWW : Hid (HasItems _ _ _) := hHWW
      have Lg : Hid (HasItems _ _ _) := hLg
      clear hA hHWW hLg
      clear HWW Lg
      have T : Hid (Calls _ _ _ _ _) := allR HA.out.rd Rh.out (by have := HBL.out; omega)
      go_wp2_with (go_at_call 24; fail)
      refine (T.out).mono ?_
      rintro e w12 ⟨ah, ch, rfl, hl, hb⟩
      have Lh : Hid (HasItems w12 ah xs0) := by rw [HXZ.out] at hl; exact hl
      clear hl
      have hA : AB w1 G w12 S6 (md + m6) (10000 * xs0.length + 10000) := HA.out.grow hb
      clear HA T hb
      have HA : Hid (AB _ _ _ _ _ _) := hA
      clear hA
      have T : Hid (Calls _ _ _ _ _) := sameI xs0 ah ao0 BS.length xs0.length ch cap0 _ HBL.out rfl (by omega) Lh.out (HS1.out.later HA.out.below)
      go_wp2_with (go_at_call 23; fail)
      refine (T.out).mono ?_
      rintro e w13 ⟨rfl, hb⟩
      have hA : AB w1 G w13 S6 (md + m6) (10000 * xs0.length + 10000) := HA.out.grow hb
      have hLh : HasItems w13 ah (xs0) := Lh.out.later hb
      clear HA T hb Lh
      have HA : Hid (AB _ _ _ _ _ _) := hA
      have Lh : Hid (HasItems _ _ _) := hLh
      clear hA hLh
      clear Lh
      have T : Hid (Calls _ _ _ _ _) := lenR HA.out.rd Rg.out (by have := HZL.out; omega)
      rw [HZL.out] at T
      go_wp2_with (go_at_call 25; fail)
      refine (T.out).mono ?_
      rintro e w14 ⟨rfl, hb⟩
      have hA : AB w1 G w14 S6 (md + m6) (10000 * xs0.length + 10000) := HA.out.grow hb
      clear HA T hb
      have HA : Hid (AB _ _ _ _ _ _) := hA
      clear hA
      have HE : Hid (Below w.heap.size w _) := HB.out.trans (HA.out.below.mono HB.out.size)
      clear HA Rg Rh HC HN HU HZL HZZ HXL HXZ HBL
      have hee : (((xs0.length : Nat) : Int) == ((xs0.length : Nat) : Int)) = true := by simp
      go_wp2
      go_ret
      exact ⟨rfl, HE.out⟩

/-! ### The row's step -/
set_option maxRecDepth 100000 in
theorem lifted (os : Os) (started : os.Started) (H : Type) (enc : TypeId × Value → H) :
    ReturnsInHanded {} Tryd.checked os 7 .any (fun w args => (Rows.listSetsSpec.pre enc Tryd.prog Tryd.f7 [] false w args ∧ laidMetH Tryd.prog laid1 w) ∧ sizedMet enc Tryd.prog Tryd.f7 (OpenSpec.ofChange Rows.listSetsSpec) false w args) (Rows.listSetsSpec.post enc Tryd.prog Tryd.f7 false true false false) := by
  refine returnsInHanded_of_change_and (C := Tryd.checked) (X := fun w _ => laidMetH Tryd.prog laid1 w) (fun _ _ _ hh h => h.of_heap hh) Tryd.own started (by kernel_rfl) Tryd.func7
    (ChangeSpec.witness_shaped (enc := enc) (C := Tryd.checked) (os := os) (X := fun w _ => laidMetH Tryd.prog laid1 w) false (World.doorLaid Tryd.prog 400 os) #[.slice none 0 0, .int .i64 0, .agg #[.int .i64 0, .int .i64 0]] 8 rfl (World.shaped_of_RefB (by kernel_rfl) (by kernel_rfl)) (by kernel_rfl) (by kernel_rfl) (by kernel_rfl) (door_met os _)) ?_
  intro W base args ds gs before hval0 hW _ _ hL _
  have hval : ∀ (j : Nat) t v, Tryd.f7.params[j]? = some t → args[j]? = some v → Value.okWide Tryd.prog W .any base t v := hval0
  have hW' := hW
  obtain ⟨p, q, hA0, hV, rfl, hfz, hnd⟩ := hW
  have hA : DataW.TrodAll enc Tryd.prog W 0 (fun _ => true) true Tryd.f7.params.toList args.toList ds p := hA0
  rw [Tryd.params7] at hA hval
  obtain ⟨v0, vs0, d0, ds0, p0, q0, hargs, rfl, rfl, h0, r0⟩ := trodAll_cons hA
  obtain ⟨v1, vs1, d1, ds1, p1, q1, rfl, rfl, rfl, h1, r1⟩ := trodAll_cons r0
  obtain ⟨v2, vs2, d2, ds2, p2, q2, rfl, rfl, rfl, h2, r2⟩ := trodAll_cons r1
  obtain ⟨rfl, rfl, rfl⟩ := trodAll_nil r2
  obtain rfl : args = #[v0, v1, v2] := by cases args; simp_all
  obtain ⟨rfl, rfl⟩ := trodVars_none hV
  obtain ⟨ao0, xs0, cap0, rfl, hs0, hz0, hl0, hm0⟩ := open_items (hval 0 32 v0 rfl rfl) h0
  obtain ⟨a1, rfl, rfl, rfl, wf1⟩ := open_int Tryd.underlying3 (hval 1 3 v1 rfl rfl) h1
  have w1 := wf_i64 wf1
  obtain ⟨x2, y2, rfl, hx2, hy2⟩ := open_item (hval 2 29 v2 rfl rfl) h2
  clear hA0 hval0
  simp only [List.append_nil] at hW'
  refine (walk ao0 xs0 cap0 a1 x2 y2 W (of_laid hL) hs0 hz0 hl0 hm0 w1 hx2 hy2).mono fun e W' ⟨he, hg⟩ => ?_
  subst he
  exact ⟨_, rfl, post_carry Tryd.laidOut (by rw [Tryd.params7]; intro t ht; simp only [List.mem_cons, List.not_mem_nil, or_false] at ht; rcases ht with rfl | rfl | rfl <;> exact ⟨by kernel_rfl, of_decide_eq_true (by kernel_rfl)⟩) rfl hW' (fun _ _ _ => (trodAll_cons_mk (shut_bool Tryd.underlying4 _) trodAll_mk0)) rfl rfl hg⟩

theorem over : Rows.listSetsRow.holds Tryd.pinned (OpenSpec.ofChange Rows.listSetsSpec) :=
  OpenClaim.holds_of_wide 7 Tryd.f7 rfl rfl rfl rfl rfl rfl rfl ⟨rfl, rfl, rfl, rfl, rfl⟩ rfl rfl rfl rfl rfl (by kernel_rfl) Tryd.func7 (by kernel_rfl)
    (of_decide_eq_true (by kernel_rfl)) (by unfold Func.isWrapper; first | (rw [if_pos (by decide +kernel)]; kernel_rfl) | (rw [if_neg (by decide +kernel)]; exact ⟨rfl, rfl⟩))
    (fun os started H enc _ => lifted os started H enc)

end Go.Proofs.YtfigihlahmgloaaDoor.listSets

namespace Go.Proofs.YtfigihlahmgloaaDoor
/-- the row -/
theorem listSets_row : Rows.ListSetsSaid := listSets.over

/-- the statement: the tied card -/
theorem listSets_holds : Rows.ListSetsCardSaid :=
  Claim7.holds_tied_plain_at .later [] [.data] true Rows.listSetsCard.stood.harness false
    listSets_row (fun _ h => by cases h) (by kernel_rfl) (fun _ h => by cases h) listSets_row_tie rfl ⟨rfl, rfl⟩ (by kernel_rfl) rfl
    (fun f fn hf hfn => by
      obtain rfl : f = 7 := Option.some.inj ((show Tryd.prog.funcNamed "scrinium/scriniumlaw10.ListSets" = some 7 by kernel_rfl).symm.trans hf) |>.symm
      obtain rfl : fn = Tryd.f7 := (Option.some.inj (Tryd.func7.symm.trans hfn)).symm
      exact ⟨by kernel_rfl, fun j t ht => by
        rw [Tryd.params7] at ht
        have hm : t ∈ [32, 3, 29] := by simpa using Array.mem_of_getElem? ht
        have hall : ([32, 3, 29].all fun u => !Tryd.prog.wantsStandIn u) = true := by kernel_rfl
        exact (show Tryd.prog.wantsStandIn t = false by simpa using List.all_eq_true.1 hall t hm)⟩)
    (by kernel_rfl)
#print axioms listSets_holds
end Go.Proofs.YtfigihlahmgloaaDoor
