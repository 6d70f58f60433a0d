/- Lists made of one another, one pair more each time, all stay as they are: for every number of them up to 60, every place. -/
import Derived.Test.YtfigihlahmgloaaDoorSh
import Derived.Test.YtfigihlahmgloaaDoorLsY
import Derived.Test.YtfigihlahmgloaaDoorRt
import Derived.Test.YtfigihlahmgloaaDoorLsMp
import Derived.Test.YtfigihlahmgloaaDoorCards
import Derived.Test.YtfigihlahmgloaaDoorTie
import Derived.SevenTiedAt
namespace Go.Proofs.YtfigihlahmgloaaDoor.listMany
open Go.ChangeShapes Go.WideShapes Go.ChangeAt Go.RowKit Go.Proofs.YtfigihlahmgloaaDoor.Ls
set_option linter.unusedVariables false


/-! ### The walk -/
set_option maxRecDepth 100000 in
set_option maxHeartbeats 2000000 in
theorem walk (a0 : Int) (a1 : Int) (w : World) (hT : Tab w) (w0 : -9223372036854775808 ≤ a0 ∧ a0 ≤ 9223372036854775807) (w1 : -9223372036854775808 ≤ a1 ∧ a1 ≤ 9223372036854775807) :
    Calls Tryd.prog 8 #[.int .i64 a0, .int .i64 a1] w fun e w' => e = .returned (.bool true) ∧ Below w.heap.size w w' := by
  have TA : Hid (∀ W, Tab W → _) := fun W h => alive10 W h
  have HT : Hid (Tab w) := hT
  clear hT
  by_cases h1 : a0 < 0
  · clear w0 w1
    have d0 : decide (a0 < 0) = true := decide_eq_true (by omega)
    clear h1
    go_enter Tryd.func8, Tryd.ntmps8
    go_wp2_with (go_at_call 9; fail)
    refine (TA.out _ HT.out).mono ?_
    rintro e w1 ⟨rfl, hb⟩
    have HB : Hid (Below w.heap.size w w1) := hb
    have HT1 : Hid (Tab w1) := tab_below HT.out hb
    clear hb HT TA
    go_wp2
    go_ret
    exact ⟨rfl, HB.out⟩
  by_cases h2 : 60 < a0
  · clear w0 w1
    have d0 : decide (a0 < 0) = false := decide_eq_false (by omega)
    have d1 : decide (60 < a0) = true := decide_eq_true (by omega)
    clear h1 h2
    go_enter Tryd.func8, Tryd.ntmps8
    go_wp2_with (go_at_call 9; fail)
    refine (TA.out _ HT.out).mono ?_
    rintro e w1 ⟨rfl, hb⟩
    have HB : Hid (Below w.heap.size w w1) := hb
    have HT1 : Hid (Tab w1) := tab_below HT.out hb
    clear hb HT TA
    go_wp2
    go_ret
    exact ⟨rfl, HB.out⟩
  obtain ⟨n, rfl⟩ : ∃ n : Nat, a0 = n := ⟨a0.toNat, by omega⟩
  have hn6 : n ≤ 60 := by omega
  have d0 : decide ((n : Int) < 0) = false := decide_eq_false (by omega)
  have d1 : decide (60 < (n : Int)) = false := decide_eq_false (by omega)
  have e1 : decide (60 < n) = false := decide_eq_false (by omega)
  have w1a := w1.1
  have w1b := w1.2
  have HT0 : Hid (0 < w.heap.size) := tab_pos HT.out
  clear h1 h2 w0 w1
  go_enter Tryd.func8, Tryd.ntmps8
  go_wp2_with (go_at_call 9; fail)
  refine (TA.out _ HT.out).mono ?_
  rintro e w1 ⟨rfl, hb⟩
  have HB : Hid (Below w.heap.size w w1) := hb
  have HT1 : Hid (Tab w1) := tab_below HT.out hb
  clear hb HT TA
  have T : Hid (Calls _ _ _ _ _) := newR HB.out HT1.out 4000 (by omega) (by omega)
  go_wp2_with (go_at_call 10; fail)
  refine (T.out).mono ?_
  rintro e w2 ⟨G, S0, rfl, hA, hC, hn, hu, hw⟩
  have HA : Hid (AB w G w2 S0 0 0) := hA
  have HC : Hid (CI S0 []) := hC
  have HN : Hid (S0.n = 4000) := hn
  have HU : Hid (usedN S0.sl ≤ 0) := Nat.le_of_eq hu
  have HW : Hid (S0.wt = []) := hw
  clear hA hC hn hu hw T HT1 HB
  have hAl := HA.out.lt
  have HRO : Hid (RootsAt G (w2.alloc (.cells #[.int .i64 0] 3)) w2.heap.size (.slice (some ⟨w2.heap.size, 0, none⟩) 1 1) [0]) := RootsAt.new HA.out 0
  have HA1 : Hid (AB w G (w2.alloc (.cells #[.int .i64 0] 3)) S0 0 (10000 * 0)) := HA.out.grow ((Below.refl _ _).alloc (Nat.le_refl _) _)
  have HMT : Hid (ManyT S0 [Tr.nil]) := by
    intro i hi
    have : i = 0 := by simpa using hi
    subst this
    exact ⟨[], ⟨rfl, (fun x hx => nomatch hx), List.nodup_nil⟩, RowT.none S0⟩
  have HCE : Hid (∃ mine, CI S0 mine) := ⟨_, HC.out⟩
  have HU0 : Hid (usedN S0.sl ≤ 38 * 0) := HU.out
  have HGB : Hid (w.heap.size ≤ w2.heap.size) := by show w.heap.size ≤ w2.heap.size; omega
  clear HA HC HU HW d0 d1 e1
  go_wp2
  go_loopw [6, 7] (fun rv i wr => ∃ (j : Nat) (S : St) (md : Nat) (ts : List Tr) (L : List Int), j ≤ n ∧ i = .int .i64 (j : Nat) ∧ Hid (ts.length = j + 1) ∧ md ≤ 40 * j ∧ Hid (L = ts.map Tr.hd) ∧ Hid (RootsAt G wr w2.heap.size rv L) ∧ Hid (AB w G wr S md (10000 * j)) ∧ Hid (∃ mine, CI S mine) ∧ Hid (S.n = 4000) ∧ Hid (usedN S.sl ≤ 38 * j) ∧ Hid (ManyT S ts)) (fun _ i _ => n - (intOf i).toNat)
  case atStart => exact ⟨0, S0, 0, [Tr.nil], [0], by omega, rfl, rfl, by omega, rfl, HRO, HA1, HCE, HN, HU0, HMT⟩
  case round =>
    obtain ⟨j, S, md, ts, L, hj, rfl, HTS, hmd, HLE, HRO, HA, HCE, HN, HU, HMT⟩ := hrel
    have hAl := HA.out.lt
    obtain ⟨ao, cap, rfl, hcs⟩ := HRO.out.cells
    have HHL : Hid (L.length = j + 1) := by show L.length = j + 1; rw [HLE.out, List.length_map, HTS.out]
    by_cases hlt : j < n
    · have q0 : decide ((j : Int) < (n : Int)) = true := decide_eq_true (by omega)
      have q1 : decide (j < n) = true := decide_eq_true hlt
      have hjt : j < ts.length := by have := HTS.out; omega
      obtain ⟨gb, gbo, hao, hcj⟩ := hcs j (.int .i64 ts[j].hd) (by rw [HLE.out]; simp [hjt])
      have hjl : (j : Int) < (L.length : Int) := by have := HHL.out; omega
      have hjl2 : j < L.length := by have := HHL.out; omega
      subst hao
      obtain ⟨bs, hPM, hRT⟩ := HMT.out j hjt
      obtain ⟨mine, hCI⟩ := HCE.out
      have hbl := hPM.len
      have hd := hRT.deep (d := 12) (by show bs.length < 64; omega)
      obtain ⟨x, hx, hxm, hr1, hr2⟩ := remP a1 (n := j + 1) (by omega)
      rw [show (((j + 1 : Nat)) : Int) = (j : Int) + 1 by omega] at hxm hr1 hr2
      rw [← Int.add_assoc] at hxm
      have T : Hid (∀ W, AB w G W S md (10000 * j) → Calls _ _ _ _ _) := fun W hA => insR hA hCI hRT (by omega) x (by omega) (a := j) (b := 1) (by omega) (by omega) (by have := HN.out; have := HU.out; omega) (by have := HN.out; omega) (by omega) (by omega) (by omega)
      rw [show ((1 : Nat) : Int) = 1 from rfl] at T
      have HPM : Hid (Perm1 ts.length (bs.take x ++ (j, 1) :: bs.drop x)) := by
        have := hPM.ins (p := x) (by omega)
        show Perm1 ts.length _
        rw [HTS.out]
        exact this
      generalize hr : Int.tmod a1 ((j : Int) + 1) = r at *
      have hwk : IntKind.i64.wrap ((j : Int) + 1) = (j : Int) + 1 := wrap_in (by omega) (by omega)
      have hwj2 : IntKind.i64.wrap (r + (j : Int)) = r + (j : Int) := wrap_in (by omega) (by omega)
      have hwj3 : IntKind.i64.wrap (r + (j : Int) + 1) = r + (j : Int) + 1 := wrap_in (by omega) (by omega)
      have hne0 : ((j : Int) + 1 == 0) = false := by simp; omega
      have hne1 : decide ((j : Int) + 1 = 0) = false := decide_eq_false (by omega)
      have hne2 : (j : Int) + 1 ≠ 0 := by omega
      have hHU : Hid (usedN S.sl + (2 + 3 * ts[j].deep) ≤ usedN S.sl + 38) := by show _ ≤ _; omega
      clear hRT hCI hcs HCE hPM hbl hx
      have hmkc : Hid (∀ W, RootsAt G W w2.heap.size (.slice (some ⟨gb, gbo, none⟩) L.length cap) L → W.cell? ⟨gb, gbo + j, none⟩ = some (.int .i64 ts[j].hd)) := fun W h => by
        obtain ⟨ao', cap', e0, hc⟩ := h.cells
        cases e0
        obtain ⟨g', o', e1, hc2⟩ := hc j (.int .i64 ts[j].hd) (by rw [HLE.out]; simp [hjt])
        cases e1
        exact hc2
      have hbd : Below wr.heap.size wr wr.drew := (Below.refl _ _).drew
      have hS0 : (fun W => W.cell? ⟨gb, gbo + j, none⟩ = some (.int .i64 ts[j].hd) ∧ RootsAt G W w2.heap.size (.slice (some ⟨gb, gbo, none⟩) L.length cap) L) wr.drew := ⟨hmkc.out _ (HRO.out.later hbd), HRO.out.later hbd⟩
      have hA0 : AB w G wr.drew S md (10000 * j) := HA.out.grow hbd
      have R0 : Hid (∀ W, (fun W => W.cell? ⟨gb, gbo + j, none⟩ = some (.int .i64 ts[j].hd) ∧ RootsAt G W w2.heap.size (.slice (some ⟨gb, gbo, none⟩) L.length cap) L) W → AB w G W S md (10000 * j) → Calls Tryd.prog 14 #[.pointer (some ⟨G, 0, none⟩), .int .i64 ts[j].hd, .int .i64 (x : Nat), .agg #[.int .i64 (j : Nat), .int .i64 1]] W fun e w' => (∃ S' t' m, e = .returned (.tuple #[.int .i64 t'.hd, .int .i64 0]) ∧ AB w G w' S' (md + m) (10000 * j + 10000) ∧ CI S' (mine ++ [t'.hd]) ∧ Grows S S' ∧ RowT S' t' (bs.take x ++ (j, 1) :: bs.drop x) ∧ usedN S'.sl = usedN S.sl + m ∧ m ≤ 2 + 3 * ts[j].deep) ∧ (fun W => W.cell? ⟨gb, gbo + j, none⟩ = some (.int .i64 ts[j].hd) ∧ RootsAt G W w2.heap.size (.slice (some ⟨gb, gbo, none⟩) L.length cap) L) w') := fun W h hA => (T.out W hA).mono fun e w' ⟨S', t', m, q1, q2, q3, q4, q5, q6, q7, q8, q9, q10⟩ => ⟨⟨S', t', m, q1, q2, q3, q4, q5, q6, q7⟩, hmkc.out w' (h.2.sp q9), h.2.sp q9⟩
      have HHD : Hid (ts[j].deep ≤ 12) := hd
      clear hbd T hmkc HA HRO hcj hd
      go_wp2
      go_region_held3 (fun W => W.cell? ⟨gb, gbo + j, none⟩ = some (.int .i64 ts[j].hd) ∧ RootsAt G W w2.heap.size (.slice (some ⟨gb, gbo, none⟩) L.length cap) L) (with_reducible assumption) ((first | (go_at_call 14; with_reducible refine (R0.out _ (by with_reducible assumption) (by with_reducible assumption)).mono ?_; rintro e w5 ⟨⟨S5, t5, m5, rfl, hA, hC, hG, hT, hu, hm⟩, hS5z⟩; clear R0)))
      have HRO5 : Hid (RootsAt G w5 w2.heap.size (.slice (some ⟨gb, gbo, none⟩) L.length cap) L) := hS5z.2
      have hd := HHD.out
      have HA5 : Hid (AB w G w5 S5 (md + m5) (10000 * (j + 1))) := hA
      have HN5 : Hid (S5.n = 4000) := hG.1.trans HN.out
      have hm5 : m5 ≤ 38 := by omega
      have HU5 : Hid (usedN S5.sl ≤ 38 * (j + 1)) := by have := HU.out; show usedN S5.sl ≤ 38 * (j + 1); omega
      have HMT5 : Hid (ManyT S5 (ts ++ [t5])) := HMT.out.grow hG HPM.out hT
      have HCE5 : Hid (∃ mine, CI S5 mine) := ⟨_, hC⟩
      clear HN HU HMT hA hC hG hT hu hm hd HHD HPM hS0 hA0 hS5z hxm hr1 hr2 hr hwk hwj2 hwj3 hne0 hne1 hne2 hHU
      have hro6 := HRO5.out.later ((Below.refl w5.heap.size w5).alloc (Nat.le_refl _) (.cells #[.int .i64 t5.hd] 3))
      have ha6 := HA5.out.grow ((Below.refl w5.heap.size w5).alloc (Nat.le_refl _) (.cells #[.int .i64 t5.hd] 3))
      have HRO6 : Hid (RootsAt _ _ _ _ _) := hro6
      have HA6 : Hid (AB _ _ _ _ _ _) := ha6
      have HB5 : Hid (w2.heap.size ≤ w5.heap.size) := by
        rcases HRO5.out.own.2 with ⟨h7, -⟩ | ⟨g2, c2, cu2, h7, h8, h9, -⟩
        · cases h7
        · have := (Array.getElem?_eq_some_iff.1 h9).1
          show w2.heap.size ≤ w5.heap.size
          omega
      clear hro6 ha6 HRO5 HA5
      go_wp2_with (at_builtin; refine wpList_append_src _ rfl (.tmp 56) (.tmp 58) 26 rfl Tryd.elemQ w2.heap.size _ _ _ (by rfl) HRO6.out.own (some ⟨w5.heap.size, 0, none⟩) 1 1 [.int .i64 t5.hd] rfl (fun h => nomatch h) rfl (cells_new _ _ _ _ rfl) (ints_one [_]) (by have := HHL.out; unfold maxLen; omega) (by have := HHL.out; omega) (by have := HB5.out; simp; omega) ?_; intro v' w7 hown1 hgrow hat _)
      obtain ⟨hA7, hRO7⟩ := RootsAt.append HA6.out HRO6.out HT0.out HGB.out hown1 hgrow hat
      have HLE7 : Hid (L ++ [t5.hd] = (ts ++ [t5]).map Tr.hd) := by show L ++ [t5.hd] = (ts ++ [t5]).map Tr.hd; rw [HLE.out, List.map_append]; rfl
      have HA7 : Hid (AB w G w7 S5 (md + m5) (10000 * (j + 1))) := hA7
      have HRO7 : Hid (RootsAt G w7 w2.heap.size v' (L ++ [t5.hd])) := hRO7
      have HTS7 : Hid ((ts ++ [t5]).length = j + 1 + 1) := by show (ts ++ [t5]).length = j + 1 + 1; rw [List.length_append, HTS.out]; rfl
      clear hown1 hgrow hat hA7 hRO7 HA6 HRO6
      go_wp2
      go_roundw
      case rel => exact ⟨j + 1, S5, md + m5, ts ++ [t5], L ++ [t5.hd], by omega, by go_num, HTS7, by omega, HLE7, HRO7, HA7, HCE5, HN5, HU5, HMT5⟩
      case measure => simp [intOf]; omega
    · obtain rfl : j = n := by omega
      have q0 : decide ((j : Int) < (j : Int)) = false := decide_eq_false (by omega)
      have q1 : decide (j < j) = false := decide_eq_false (by omega)
      clear HCE HN HU hcs
      go_wp2
      go_loopw [62] (fun i wr2 => ∃ x : Nat, x ≤ L.length ∧ i = .int .i64 (x : Nat) ∧ Hid (RootsAt G wr2 w2.heap.size (.slice ao L.length cap) L) ∧ Hid (AB w G wr2 S md (10000 * j))) (fun i _ => L.length - (intOf i).toNat)
      case atStart => exact ⟨0, by omega, rfl, HRO, HA⟩
      case round =>
      obtain ⟨x, hx, rfl, HRO2, HA2⟩ := hrel
      clear HRO HA
      obtain ⟨wr2, rfl⟩ : ∃ X : World, X = wr := ⟨wr, rfl⟩
      have hAl2 := HA2.out.lt
      by_cases hxl : x < L.length
      · have hxt : x < ts.length := by have h1 := HHL.out; have h2 := HTS.out; omega
        obtain ⟨ao', cap', e0, hcs⟩ := HRO2.out.cells
        cases e0
        obtain ⟨gb, gbo, hao, hcj⟩ := hcs x (.int .i64 ts[x].hd) (by rw [HLE.out]; simp [hxt])
        subst hao
        obtain ⟨bs, hPM, hRT⟩ := HMT.out x hxt
        have hb6 : x ≤ 60 := by have := HHL.out; omega
        have HTX : Hid (∃ th, th = ts[x].hd) := ⟨_, rfl⟩
        obtain ⟨tx, htx⟩ : ∃ tx, tx = ts[x] := ⟨_, rfl⟩
        rw [← htx] at hcj hRT
        clear htx HTX
        obtain rfl := hPM.len
        have q2 : decide (((bs.length : Nat) : Int) < (L.length : Int)) = true := decide_eq_true (by omega)
        have q3 : decide (bs.length < L.length) = true := decide_eq_true hxl
        have hxl2 : ((bs.length : Nat) : Int) < (L.length : Int) := by omega
        have HPM : Hid (Perm1 bs.length bs) := hPM
        have HRT : Hid (RowT S tx bs) := hRT
        have hmk := make_nums wr2
        have hbm : Below wr2.heap.size wr2 (wr2.alloc (.map #[] 0)) := (Below.refl _ _).alloc (Nat.le_refl _) _
        have hnu0 : NumsAt (wr2.alloc (.map #[] 0)) wr2.heap.size ((bs.take 0).map (·.1)) := heap_alloc_new wr2 _
        have T : Hid (Calls _ _ _ _ _) := allR (HA2.out.rd.later hbm) hRT (by omega)
        have HBM : Hid (Below _ _ _) := hbm
        have HNU0 : Hid (NumsAt _ _ _) := hnu0
        clear hcs hRT hPM hbm hnu0
        go_wp2_with (go_at_call 24; fail)
        refine (T.out).mono ?_
        rintro e w8 ⟨al, cl, rfl, hl, hb⟩
        have HL8 : Hid (HasItems w8 al (bs.map zp)) := hl
        have HN8 : Hid (NumsAt w8 wr2.heap.size ((bs.take 0).map (·.1))) := HNU0.out.later hb
        have HB8 : Hid (Below wr2.heap.size wr2 w8) := HBM.out.trans (hb.mono HBM.out.size)
        clear hl hb T HBM HNU0 hmk hcj
        go_wp2
        go_loopw [72] (fun i wr3 => ∃ y : Nat, y ≤ bs.length ∧ i = .int .i64 (y : Nat) ∧ Hid (NumsAt wr3 wr2.heap.size ((bs.take y).map (·.1))) ∧ Hid (HasItems wr3 al (bs.map zp)) ∧ Hid (Below wr2.heap.size wr2 wr3)) (fun i _ => bs.length - (intOf i).toNat)
        case atStart => exact ⟨0, by omega, rfl, HN8, HL8, HB8⟩
        case round =>
        obtain ⟨y, hy, rfl, HN9, HL9, HB9⟩ := hrel
        clear HN8 HL8 HB8
        obtain ⟨wr3, rfl⟩ : ∃ X : World, X = wr := ⟨wr, rfl⟩
        have hs9 := HB9.out.size
        have hm9 : wr2.heap.size < wr3.heap.size := (Array.getElem?_eq_some_iff.1 HN9.out).1
        by_cases hyl : y < bs.length
        · have q4 : decide ((y : Int) < ((bs.length : Nat) : Int)) = true := decide_eq_true (by omega)
          have q5 : decide (y < bs.length) = true := decide_eq_true hyl
          obtain ⟨g, o, hal, hc, hd2⟩ := HL9.out.cell y (by simpa using hyl)
          have hall := HPM.out.all bs[y] (List.getElem_mem hyl)
          have hnew := fresh1 HPM.out hyl
          have htk := take_fst bs hyl
          have ez : (bs.map zp)[y]'(by simpa using hyl) = (((bs[y].1 : Nat) : Int), ((bs[y].2 : Nat) : Int)) := by simp [zp]
          rw [ez, hall.2] at hc hd2
          have h1a := hall.1
          dsimp only at hc hd2
          have hal0 : wr3.cell? ⟨g, o + y * 2, none⟩ = some (.int .i64 ((bs[y].1 : Nat) : Int)) := hc
          have hal1 : wr3.cell? ⟨g, o + y * 2 + 1, none⟩ = some (.int .i64 1) := hd2
          have hgl := World.block_lt_of_cell? _ _ hal0
          have HXM : Hid (HasItems (wr3.alloc (.cells #[.int .i64 ((bs[y].1 : Nat) : Int), .int .i64 1] 29)) al (bs.map zp)) := HL9.out.later ((Below.refl _ _).alloc (Nat.le_refl _) _)
          have hna : NumsAt (wr3.alloc (.cells #[.int .i64 ((bs[y].1 : Nat) : Int), .int .i64 1] 29)) wr2.heap.size ((bs.take y).map (·.1)) := HN9.out.later ((Below.refl _ _).alloc (Nat.le_refl _) _)
          have hlk := lookI_no hna bs[y].1 hnew
          obtain ⟨w9, hly, hn9, hf9⟩ := layI_new hna bs[y].1 hnew
          rw [← htk] at hn9
          have HN10 : Hid (NumsAt w9 wr2.heap.size ((bs.take (y + 1)).map (·.1))) := hn9
          have HL10 : Hid (HasItems w9 al (bs.map zp)) := HXM.out.fr hna hf9
          have HB10 : Hid (Below wr2.heap.size wr2 w9) := (HB9.out.alloc hs9 (.cells #[.int .i64 ((bs[y].1 : Nat) : Int), .int .i64 1] 29)).trans (hf9.below (by simp; omega) (fun k hk => by omega))
          subst hal
          clear hc hd2 hnew htk ez hn9 hf9 HXM hna HN9 HL9 HB9 hall
          generalize bs[y].1 = a at *
          have q6 : decide ((a : Int) < 0) = false := decide_eq_false (by omega)
          have q7 : decide (((bs.length : Nat) : Int) ≤ (a : Int)) = false := decide_eq_false (by omega)
          have q8 : decide (bs.length ≤ a) = false := decide_eq_false (by omega)
          go_wp2
          go_roundw
          case rel => exact ⟨y + 1, by omega, by go_num, HN10, HL10, HB10⟩
          case measure => simp [intOf]; omega
        · obtain rfl : y = bs.length := by omega
          have q4 : decide (((bs.length : Nat) : Int) < ((bs.length : Nat) : Int)) = false := decide_eq_false (by omega)
          have q5 : decide (bs.length < bs.length) = false := decide_eq_false (by omega)
          have hln := len_nums HN9.out
          rw [List.take_length, List.length_map] at hln
          have T : Hid (Calls _ _ _ _ _) := lenR (HA2.out.rd.later HB9.out) HRT.out (by omega)
          have q6 : (((bs.length : Nat) : Int) != ((bs.length : Nat) : Int)) = false := by simp
          have HB := HB9
          clear HN9 HL9 HB9
          go_wp2_with (go_at_call 25; fail)
          refine (T.out).mono ?_
          rintro e w10 ⟨rfl, hb⟩
          have hbb := HB.out.trans (hb.mono HB.out.size)
          have HRO3 : Hid (RootsAt G w10 w2.heap.size _ L) := HRO2.out.later hbb
          have HA3 : Hid (AB w G w10 S md (10000 * j)) := HA2.out.grow hbb
          clear hb hbb HB T HRO2 HA2 hln HRT HPM
          go_wp2
          go_roundw
          case rel => exact ⟨bs.length + 1, by omega, by go_num, HRO3, HA3⟩
          case measure => simp [intOf]; omega
      · obtain rfl : x = L.length := by omega
        have q2 : decide ((L.length : Int) < (L.length : Int)) = false := decide_eq_false (by omega)
        have q3 : decide (L.length < L.length) = false := decide_eq_false (by omega)
        have HE : Hid (Below _ _ _) := HA2.out.below
        clear HA2 HRO2
        go_wp2
        go_ret
        exact ⟨rfl, HE.out⟩

/-! ### The row's step -/
set_option maxRecDepth 100000 in
theorem lifted (os : Os) (started : os.Started) (H : Type) (enc : TypeId × Value → H) :
    ReturnsInHanded {} Tryd.checked os 8 .any (fun w args => (Rows.listManySpec.pre enc Tryd.prog Tryd.f8 [] false w args ∧ laidMetH Tryd.prog laid1 w) ∧ sizedMet enc Tryd.prog Tryd.f8 (OpenSpec.ofChange Rows.listManySpec) false w args) (Rows.listManySpec.post enc Tryd.prog Tryd.f8 false true false false) := by
  refine returnsInHanded_of_change_and (C := Tryd.checked) (X := fun w _ => laidMetH Tryd.prog laid1 w) (fun _ _ _ hh h => h.of_heap hh) Tryd.own started (by kernel_rfl) Tryd.func8
    (ChangeSpec.witness_shaped (enc := enc) (C := Tryd.checked) (os := os) (X := fun w _ => laidMetH Tryd.prog laid1 w) false (World.doorLaid Tryd.prog 400 os) #[.int .i64 0, .int .i64 0] 8 rfl (World.shaped_of_RefB (by kernel_rfl) (by kernel_rfl)) (by kernel_rfl) (by kernel_rfl) (by kernel_rfl) (door_met os _)) ?_
  intro W base args ds gs before hval0 hW _ _ hL _
  have hval : ∀ (j : Nat) t v, Tryd.f8.params[j]? = some t → args[j]? = some v → Value.okWide Tryd.prog W .any base t v := hval0
  have hW' := hW
  obtain ⟨p, q, hA0, hV, rfl, hfz, hnd⟩ := hW
  have hA : DataW.TrodAll enc Tryd.prog W 0 (fun _ => true) true Tryd.f8.params.toList args.toList ds p := hA0
  rw [Tryd.params8] at hA hval
  obtain ⟨v0, vs0, d0, ds0, p0, q0, hargs, rfl, rfl, h0, r0⟩ := trodAll_cons hA
  obtain ⟨v1, vs1, d1, ds1, p1, q1, rfl, rfl, rfl, h1, r1⟩ := trodAll_cons r0
  obtain ⟨rfl, rfl, rfl⟩ := trodAll_nil r1
  obtain rfl : args = #[v0, v1] := by cases args; simp_all
  obtain ⟨rfl, rfl⟩ := trodVars_none hV
  obtain ⟨a0, rfl, rfl, rfl, wf0⟩ := open_int Tryd.underlying3 (hval 0 3 v0 rfl rfl) h0
  have w0 := wf_i64 wf0
  obtain ⟨a1, rfl, rfl, rfl, wf1⟩ := open_int Tryd.underlying3 (hval 1 3 v1 rfl rfl) h1
  have w1 := wf_i64 wf1
  clear hA0 hval0
  simp only [List.append_nil] at hW'
  refine (walk a0 a1 W (of_laid hL) w0 w1).mono fun e W' ⟨he, hg⟩ => ?_
  subst he
  exact ⟨_, rfl, post_carry Tryd.laidOut (by rw [Tryd.params8]; intro t ht; simp only [List.mem_cons, List.not_mem_nil, or_false] at ht; rcases ht with rfl | rfl <;> exact ⟨by kernel_rfl, of_decide_eq_true (by kernel_rfl)⟩) rfl hW' (fun _ _ _ => (trodAll_cons_mk (shut_bool Tryd.underlying4 _) trodAll_mk0)) rfl rfl hg⟩

theorem over : Rows.listManyRow.holds Tryd.pinned (OpenSpec.ofChange Rows.listManySpec) :=
  OpenClaim.holds_of_wide 8 Tryd.f8 rfl rfl rfl rfl rfl rfl rfl ⟨rfl, rfl, rfl, rfl, rfl⟩ rfl rfl rfl rfl rfl (by kernel_rfl) Tryd.func8 (by kernel_rfl)
    (of_decide_eq_true (by kernel_rfl)) (by unfold Func.isWrapper; first | (rw [if_pos (by decide +kernel)]; kernel_rfl) | (rw [if_neg (by decide +kernel)]; exact ⟨rfl, rfl⟩))
    (fun os started H enc _ => lifted os started H enc)

end Go.Proofs.YtfigihlahmgloaaDoor.listMany

namespace Go.Proofs.YtfigihlahmgloaaDoor
/-- the row -/
theorem listMany_row : Rows.ListManySaid := listMany.over

/-- the statement: the tied card -/
theorem listMany_holds : Rows.ListManyCardSaid :=
  Claim7.holds_tied_plain_at .later [] [.data] true Rows.listManyCard.stood.harness false
    listMany_row (fun _ h => by cases h) (by kernel_rfl) (fun _ h => by cases h) listMany_row_tie rfl ⟨rfl, rfl⟩ (by kernel_rfl) rfl
    (fun f fn hf hfn => by
      obtain rfl : f = 8 := Option.some.inj ((show Tryd.prog.funcNamed "scrinium/scriniumlaw10.ListMany" = some 8 by kernel_rfl).symm.trans hf) |>.symm
      obtain rfl : fn = Tryd.f8 := (Option.some.inj (Tryd.func8.symm.trans hfn)).symm
      exact ⟨by kernel_rfl, fun j t ht => by
        rw [Tryd.params8] at ht
        have hm : t ∈ [3, 3] := by simpa using Array.mem_of_getElem? ht
        have hall : ([3, 3].all fun u => !Tryd.prog.wantsStandIn u) = true := by kernel_rfl
        exact (show Tryd.prog.wantsStandIn t = false by simpa using List.all_eq_true.1 hall t hm)⟩)
    (by kernel_rfl)
#print axioms listMany_holds
end Go.Proofs.YtfigihlahmgloaaDoor
