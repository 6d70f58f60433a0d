/- Documents stand in the order in which they were added, and one that is taken out and added again stands last: for all lengths of at most ten documents, every place. -/
import Derived.Test.YtibbdbdiklpccaaDoorSh
import Derived.Test.YtibbdbdiklpccaaDoorTbC
import Derived.Test.YtibbdbdiklpccaaDoorTbD
import Derived.Test.YtibbdbdiklpccaaDoorRt
import Derived.Deep.RegionHeld3
import Derived.Test.YtibbdbdiklpccaaDoorCards
import Derived.Test.YtibbdbdiklpccaaDoorTie
import Derived.SevenTiedAt
namespace Go.Proofs.YtibbdbdiklpccaaDoor.tableBack
open Go.ChangeShapes Go.WideShapes Go.ChangeAt Go.RowKit Go.Proofs.YtibbdbdiklpccaaDoor.Ls
set_option linter.unusedVariables false


/-! ### The walk -/
set_option maxRecDepth 100000 in
set_option maxHeartbeats 2000000 in
theorem walk (ao0 : Option Addr) (xs0 : List Int) (cap0 : Nat) (a1 : Int) (w : World) (hT : Tab w) (hs0 : HasInts w ao0 xs0) (hz0 : ∀ x ∈ xs0, (Lit.int .i64 x).wf = true) (hl0 : xs0.length ≤ cap0) (hm0 : cap0 ≤ 9223372036854775807) (hn0 : ao0 = none → xs0.length = 0 ∧ cap0 = 0) (w1 : -9223372036854775808 ≤ a1 ∧ a1 ≤ 9223372036854775807) :
    Calls Tryd.prog 4 #[.slice ao0 xs0.length cap0, .int .i64 a1] w fun e w' => e = .returned (.bool true) ∧ Below w.heap.size w w' := by
  have TA : Hid (∀ W, Tab W → _) := fun W h => alive11 W h
  have HT : Hid (Tab w) := hT
  clear hT
  have w1a := w1.1
  have w1b := w1.2
  have HS : Hid (HasInts w ao0 xs0) := hs0
  clear hs0 hz0 hl0 hm0 hn0 w1
  by_cases h0 : xs0.length < 1
  · have d0 : decide (((xs0.length : Nat) : Int) < 1) = true := decide_eq_true (by omega)
    have d0n : decide (xs0.length < 1) = true := decide_eq_true h0
    go_enter Tryd.func4, Tryd.ntmps4
    go_wp2_with (go_at_call 8; fail)
    refine (TA.out _ HT.out).mono ?_
    rintro e w1 ⟨rfl, hb⟩
    have HB : Hid (Below w.heap.size w w1) := hb
    have HT1 : Hid (Tab w1) := tab_below HT.out hb
    clear hb HT TA
    go_wp2
    go_ret
    exact ⟨rfl, HB.out⟩
  by_cases h1 : 10 < xs0.length
  · have d0 : decide (((xs0.length : Nat) : Int) < 1) = false := decide_eq_false (by omega)
    have d0n : decide (xs0.length < 1) = false := decide_eq_false h0
    have d1 : decide ((10 : Int) < ((xs0.length : Nat) : Int)) = true := decide_eq_true (by omega)
    have d1n : decide (10 < xs0.length) = true := decide_eq_true h1
    go_enter Tryd.func4, Tryd.ntmps4
    go_wp2_with (go_at_call 8; fail)
    refine (TA.out _ HT.out).mono ?_
    rintro e w1 ⟨rfl, hb⟩
    have HB : Hid (Below w.heap.size w w1) := hb
    have HT1 : Hid (Tab w1) := tab_below HT.out hb
    clear hb HT TA
    go_wp2
    go_ret
    exact ⟨rfl, HB.out⟩
  have hl1 : 1 ≤ xs0.length := by omega
  have hl10 : xs0.length ≤ 10 := by omega
  have d0 : decide (((xs0.length : Nat) : Int) < 1) = false := decide_eq_false (by omega)
  have d0n : decide (xs0.length < 1) = false := decide_eq_false h0
  have d1 : decide ((10 : Int) < ((xs0.length : Nat) : Int)) = false := decide_eq_false (by omega)
  have d1n : decide (10 < xs0.length) = false := decide_eq_false h1
  clear h0 h1
  go_enter Tryd.func4, Tryd.ntmps4
  go_wp2_with (go_at_call 8; fail)
  refine (TA.out _ HT.out).mono ?_
  rintro e w1 ⟨rfl, hb⟩
  have HB : Hid (Below w.heap.size w w1) := hb
  have HT1 : Hid (Tab w1) := tab_below HT.out hb
  clear hb HT TA
  have T : Hid (Calls _ _ _ _ _) := newR HB.out HT1.out 500 (by omega) (by omega)
  go_wp2_with (go_at_call 9; fail)
  refine (T.out).mono ?_
  rintro e w2 ⟨G, S0, rfl, hA, hC, hn, hu, hw⟩
  have HA : Hid (AB w G w2 S0 0 0) := hA
  have HC : Hid (CI S0 []) := hC
  have HN : Hid (S0.n = 500) := hn
  have HU : Hid (usedN S0.sl ≤ 0) := Nat.le_of_eq hu
  have HW : Hid (S0.wt = []) := hw
  clear hA hC hn hu hw T HT1 HB
  have hAl := HA.out.lt
  have HR0 : Hid (RowT S0 Tr.nil (docsL 10 (xs0.take 0))) := RowT.none S0
  have HX0 : Hid (∃ mine, CI S0 mine) := ⟨_, HC.out⟩
  have HP0 : Hid (∀ x ∈ xs0.take 0, 0 ≤ x ∧ x ≤ 40) := fun x hx => by simp at hx
  clear HC HW d0 d1 d0n d1n
  go_wp2
  go_loopw [6, 7, 40] (fun hv tv kv wr => ∃ (j md c : Nat) (S : St) (t : Tr), j ≤ xs0.length ∧ kv = .int .i64 (j : Nat) ∧ hv = .int .i64 t.hd ∧ tv = .int .i64 (totalOf (docsL 10 (xs0.take j)) : Nat) ∧ md ≤ 20 * j ∧ c ≤ 10000 * j ∧ Hid (AB w G wr S md c) ∧ Hid (∃ mine, CI S mine) ∧ Hid (S.n = 500) ∧ Hid (usedN S.sl ≤ 20 * j) ∧ Hid (RowT S t (docsL 10 (xs0.take j))) ∧ Hid (∀ x ∈ xs0.take j, 0 ≤ x ∧ x ≤ 40)) (fun _ _ i _ => xs0.length - (intOf i).toNat)
  case atStart => exact ⟨0, 0, 0, S0, Tr.nil, by omega, rfl, rfl, rfl, by omega, by omega, HA, HX0, HN, HU, HR0, HP0⟩
  case round =>
    clear HA HX0 HN HU HR0 HP0
    obtain ⟨j, md, c, S, t, hj, rfl, rfl, rfl, hmd, hc, HA, HX, HN, HU, HR, HP⟩ := hrel
    obtain ⟨mine, HC⟩ : ∃ mine, Hid (CI S mine) := HX.out
    have hAl := HA.out.lt
    have hlen : Hid ((docsL 10 (xs0.take j)).length = j) := by show _ = _; rw [docsL_len, List.length_take]; omega
    have htl := totalOf_le (docsL_few (b := 10) HP.out)
    rw [hlen.out] at htl
    by_cases hlt : j < xs0.length
    · have q0 : decide ((j : Int) < ((xs0.length : Nat) : Int)) = true := decide_eq_true (by omega)
      have q1 : decide (j < xs0.length) = true := decide_eq_true hlt
      obtain ⟨g0, o0, rfl, hcell⟩ := (HS.out.later HA.out.below) j hlt
      by_cases hv0 : xs0[j] < 0
      · have q2 : decide (xs0[j] < 0) = true := decide_eq_true hv0
        have HE : Hid (Below _ _ _) := HA.out.below
        clear HA HX HN HU HR HP HC hlen htl
        generalize xs0[j] = v at *
        go_wp2
        go_ret
        exact ⟨rfl, HE.out⟩
      by_cases hv1 : 40 < xs0[j]
      · have q2 : decide (xs0[j] < 0) = false := decide_eq_false hv0
        have q3 : decide (40 < xs0[j]) = true := decide_eq_true hv1
        have HE : Hid (Below _ _ _) := HA.out.below
        clear HA HX HN HU HR HP HC hlen htl
        generalize xs0[j] = v at *
        go_wp2
        go_ret
        exact ⟨rfl, HE.out⟩
      have HP1 : Hid (∀ x ∈ xs0.take (j + 1), 0 ≤ x ∧ x ≤ 40) := fun x hx => by
        rw [List.take_succ_eq_append_getElem hlt] at hx
        rcases List.mem_append.1 hx with h | h
        · exact HP.out x h
        · have : x = xs0[j] := by simpa using h
          subst this
          omega
      have HD : Hid (docsL 10 (xs0.take j) ++ [(10 + j, xs0[j].toNat)] = docsL 10 (xs0.take (j + 1))) := docsL_succ hlt
      obtain ⟨v, hv⟩ : ∃ v : Nat, xs0[j] = (v : Nat) := ⟨xs0[j].toNat, by omega⟩
      rw [hv] at hcell hv0 hv1 HD
      rw [Int.toNat_natCast] at HD
      have HT1 : Hid (totalOf (docsL 10 (xs0.take (j + 1))) = totalOf (docsL 10 (xs0.take j)) + v + 1) := by show _ = _; rw [← HD.out, totalOf_snoc]
      have q2 : decide (((v : Nat) : Int) < 0) = false := decide_eq_false hv0
      have q3 : decide ((40 : Int) < ((v : Nat) : Int)) = false := decide_eq_false hv1
      have q3n : decide (40 < v) = false := decide_eq_false (by omega)
      have T : Hid (Calls _ _ _ _ _) := addR HA.out HC.out HR.out (by rw [hlen.out]; omega) (id := 10 + j) (len := v) (by omega) (by omega) (by omega) (fun x hx => by obtain ⟨k, hk, rfl⟩ := docsL_in hx; have := List.length_take (i := j) (l := xs0); show 10 + k ≠ 10 + j; omega) (by have h1 := HN.out; have h2 := HU.out; rw [hlen.out]; omega) (by have := HN.out; omega) (by omega) (by omega)
      rw [HD.out, hlen.out] at T
      rw [show ((10 + j : Nat) : Int) = 10 + (j : Int) by omega] at T
      clear hv HD HP
      generalize totalOf (docsL 10 (xs0.take j)) = tt at *
      go_wp2_with (go_at_call 12; fail)
      refine (T.out).mono ?_
      rintro e w3 ⟨g, rfl, S3, t3, m3, rfl, hA, hC, hG, hT, hu, hm, hS, hw⟩
      have HA3 : Hid (AB w G w3 S3 (md + m3) (c + 10000)) := hA
      have HX3 : Hid (∃ mine, CI S3 mine) := ⟨_, hC⟩
      have HN3 : Hid (S3.n = 500) := hG.1.trans HN.out
      have HU3 : Hid (usedN S3.sl ≤ 20 * (j + 1)) := by have := HU.out; show usedN S3.sl ≤ _; omega
      have HR3 : Hid (RowT S3 t3 (docsL 10 (xs0.take (j + 1)))) := hT
      have hmm : m3 ≤ 20 := by omega
      have ht1 := HT1.out
      clear hA hC hG hT hu hm hS hw T HA HX HN HU HR HC hlen HT1 hcell
      go_wp2
      go_roundw
      case rel => exact ⟨j + 1, md + m3, c + 10000, S3, t3, by omega, by go_num, rfl, by rw [ht1]; go_num, by omega, by omega, HA3, HX3, HN3, HU3, HR3, HP1⟩
      case measure => simp [intOf]; omega
    · obtain rfl : j = xs0.length := by omega
      have q0 : decide (((xs0.length : Nat) : Int) < ((xs0.length : Nat) : Int)) = false := decide_eq_false (by omega)
      have q1 : decide (xs0.length < xs0.length) = false := decide_eq_false (by omega)
      rw [List.take_length] at HR HP hlen htl
      rw [List.take_length]
      obtain ⟨n, hk, hkm, hr1, hr2⟩ := remP a1 hl1
      generalize hr : Int.tmod a1 ((xs0.length : Nat) : Int) = r at *
      have hwj : IntKind.i64.wrap (r + ((xs0.length : Nat) : Int)) = r + ((xs0.length : Nat) : Int) := wrap_in (by omega) (by omega)
      have hne0 : (((xs0.length : Nat) : Int) == 0) = false := by rw [beq_eq_false_iff_ne]; omega
      have hne1 : decide (((xs0.length : Nat) : Int) = 0) = false := decide_eq_false (by omega)
      have hne2 : ((xs0.length : Nat) : Int) ≠ 0 := by omega
      have hne3 : decide (xs0.length = 0) = false := decide_eq_false (by omega)
      have HF : Hid (∀ x ∈ docsL 10 xs0, x.2 ≤ 40) := docsL_few HP.out
      obtain ⟨v, hv⟩ : ∃ v : Nat, xs0[n] = (v : Nat) := ⟨xs0[n].toNat, by have := HP.out xs0[n] (List.getElem_mem hk); omega⟩
      have hv40 : v ≤ 40 := by have := HP.out xs0[n] (List.getElem_mem hk); omega
      have HG : Hid ((docsL 10 xs0)[n]? = some (10 + n, v)) := by show _ = _; rw [docsL_get hk, hv, Int.toNat_natCast]
      have HND : Hid (((docsL 10 xs0).map (·.1)).Nodup) := docsL_nodup 10 xs0
      have HCL : Hid (∃ g o, ao0 = some ⟨g, o, none⟩ ∧ w.cell? ⟨g, o + n, none⟩ = some (.int .i64 (v : Nat))) := by
        obtain ⟨g, o, h1, h2⟩ := HS.out n hk
        exact ⟨g, o, h1, by rw [h2, hv]⟩
      clear HP hv
      generalize docsL 10 xs0 = DL at *
      obtain ⟨g0, o0, rfl, hcw⟩ := HCL.out
      have HCW : Hid (w.cell? ⟨g0, o0 + n, none⟩ = some (.int .i64 (v : Nat))) := hcw
      have HTC := totalOf_cut HG.out
      have HCN : Hid (∀ x ∈ DL.take n ++ DL.drop (n + 1), x.1 ≠ 10 + n) := cut_gone HND.out HG.out
      have HCX : Hid (((DL.take n ++ DL.drop (n + 1)).map (·.1)).Nodup) := cut_nodup n HND.out
      have hnl : n < DL.length := by rw [hlen.out]; exact hk
      have HC4 : Hid (∀ x ∈ DL.take n ++ DL.drop (n + 1), x.2 ≤ 40) := fun x hx => HF.out x (cut_mem hx)
      have hcl : Hid ((DL.take n ++ DL.drop (n + 1)).length = xs0.length - 1) := by show _ = _; rw [cut_len hnl, hlen.out]
      clear HCL hcw
      have hn10 : n < 10 := Nat.lt_of_lt_of_le hk hl10
      obtain ⟨hw11, hw12, hn11, hn12⟩ := num10 hn10
      have T : Hid (Calls _ _ _ _ _) := cutR HA.out HC.out HR.out (by rw [hlen.out]; omega) HND.out (i := n) (id := 10 + n) (len := v) HG.out (by have h1 := HN.out; have h2 := HU.out; rw [hlen.out]; omega) (by have := HN.out; omega) (by omega) (by omega)
      rw [hlen.out, show ((10 + n : Nat) : Int) = 10 + (n : Int) by omega] at T
      generalize DL.take n ++ DL.drop (n + 1) = CL at *
      go_wp2_with (go_at_call 13; fail)
      refine (T.out).mono ?_
      rintro e w3 ⟨g, rfl, S3, t3, m3, rfl, hA, hC, hG, hT, hu, hm, hS, hw⟩
      have HA3 : Hid (AB w G w3 S3 (md + m3) (c + 10000)) := hA
      have HC3 : Hid (CI S3 _) := hC
      have HN3 : Hid (S3.n = 500) := hG.1.trans HN.out
      have HU3 : Hid (usedN S3.sl ≤ 20 * 11) := by have := HU.out; show usedN S3.sl ≤ _; omega
      have HRc : Hid (RowT S3 t3 CL) := hT
      have HR3 : Hid (RowT S3 t DL) := HR.out.grows hG
      have hmm : m3 ≤ 20 := by omega
      clear hA hC hG hT hu hm hS hw T HA HX HN HU HR HC hkm hwj hne0 hne1 hne2 hne3 hr1 hr2 hr
      have hnn : totalOf DL = totalOf CL + v + 1 := by omega
      have hct : totalOf CL ≤ 410 := by omega
      have hcc : ((xs0.length : Nat) : Int) - 1 = ((CL.length : Nat) : Int) := by rw [hcl.out]; omega
      have P0 : Hid (∀ W, (fun W => W.cell? ⟨g0, o0 + n, none⟩ = some (.int .i64 (v : Nat)) ∧ AB w G W S3 (md + m3) (c + 10000)) W → Calls Tryd.prog 16 #[.pointer (some ⟨G, 0, none⟩), .int .i64 t3.hd] W fun e w' => e = .returned (.int .i64 (CL.length : Nat)) ∧ (fun W => W.cell? ⟨g0, o0 + n, none⟩ = some (.int .i64 (v : Nat)) ∧ AB w G W S3 (md + m3) (c + 10000)) w') := fun W h => (tlen_any h.2.rd HRc.out (by rw [hcl.out]; omega)).mono fun e w' ⟨h1, h2⟩ => ⟨h1, (World.cell?_of_block (w := W) (h2.block g0 (World.block_lt_of_cell? _ _ h.1))).trans h.1, h.2.grow h2⟩
      have P1 : Hid (∀ W, (fun W => W.cell? ⟨g0, o0 + n, none⟩ = some (.int .i64 (v : Nat)) ∧ AB w G W S3 (md + m3) (c + 10000)) W → Calls Tryd.prog 20 #[.pointer (some ⟨G, 0, none⟩), .int .i64 t3.hd] W fun e w' => e = .returned (.int .i64 (totalOf CL : Nat)) ∧ (fun W => W.cell? ⟨g0, o0 + n, none⟩ = some (.int .i64 (v : Nat)) ∧ AB w G W S3 (md + m3) (c + 10000)) w') := fun W h => (total_any h.2.rd HRc.out (by rw [hcl.out]; omega) HC4.out).mono fun e w' ⟨h1, h2⟩ => ⟨h1, (World.cell?_of_block (w := W) (h2.block g0 (World.block_lt_of_cell? _ _ h.1))).trans h.1, h.2.grow h2⟩
      have hS0 : (fun W => W.cell? ⟨g0, o0 + n, none⟩ = some (.int .i64 (v : Nat)) ∧ AB w G W S3 (md + m3) (c + 10000)) w3.drew := ⟨(World.cell?_of_block (w := w) (HA3.out.below.block g0 (World.block_lt_of_cell? _ _ HCW.out))).trans HCW.out, HA3.out.grow (Below.refl _ w3).drew⟩
      rw [hnn]
      rw [← hcc] at P0
      have HTT : Hid (totalOf DL = totalOf CL + v + 1) := hnn
      clear HA3 HTC hnn
      obtain ⟨tt, htt⟩ : ∃ tt, tt = totalOf CL := ⟨_, rfl⟩
      rw [← htt] at P1 hct ⊢
      have HTX : Hid (tt = totalOf CL) := htt
      clear htt
      obtain ⟨lc, hlc⟩ : ∃ lc : Int, lc = ((xs0.length : Nat) : Int) - 1 := ⟨_, rfl⟩
      rw [← hlc] at P0
      have z0 : (lc != (((xs0.length : Nat) : Int) - 1)) = false := by rw [bne_eq_false_iff_eq]; exact hlc
      have z0b : decide (lc = (((xs0.length : Nat) : Int) - 1)) = true := decide_eq_true hlc
      obtain ⟨T0, hT0⟩ : ∃ T0 : Int, T0 = ((tt + v + 1 : Nat) : Int) := ⟨_, rfl⟩
      rw [← hT0]
      have HT0 : Hid (T0 = ((tt + v + 1 : Nat) : Int)) := hT0
      have ht0 : T0 = (tt : Int) + (v : Int) + 1 := by omega
      have z1 : (((tt : Nat) : Int) != T0 - ((v : Nat) : Int) - 1) = false := by rw [bne_eq_false_iff_eq]; omega
      have hwa : IntKind.i64.wrap (T0 - ((v : Nat) : Int)) = T0 - ((v : Nat) : Int) := wrap_in (by omega) (by omega)
      have hwb : IntKind.i64.wrap (T0 - ((v : Nat) : Int) - 1) = T0 - ((v : Nat) : Int) - 1 := wrap_in (by omega) (by omega)
      have hwl : IntKind.i64.wrap (((xs0.length : Nat) : Int) - 1) = ((xs0.length : Nat) : Int) - 1 := wrap_in (by omega) (by omega)
      have HLC : Hid (lc = ((xs0.length : Nat) : Int) - 1) := hlc
      have HCC : Hid (((xs0.length : Nat) : Int) - 1 = ((CL.length : Nat) : Int)) := hcc
      have ht1 : 0 ≤ T0 ∧ T0 ≤ 1000 := by omega
      clear hT0 hcc hlc ht0 z0b
      have HND2 : Hid (((CL ++ [(10 + n, v)]).map (·.1)).Nodup) := snoc_nodup HCX.out HCN.out
      have HF2 : Hid (∀ x ∈ CL ++ [(10 + n, v)], x.2 ≤ 40) := fun x hx => by
        rcases List.mem_append.1 hx with h | h
        · exact HC4.out x h
        · have : x = (10 + n, v) := by simpa using h
          subst this
          exact hv40
      have HL2 : Hid ((CL ++ [(10 + n, v)]).length ≤ 10) := by show _ ≤ _; rw [List.length_append, hcl.out]; simp; omega
      have HT2 : Hid (((totalOf (CL ++ [(10 + n, v)]) : Nat) : Int) = T0) := by show _ = _; rw [totalOf_snoc, ← HTX.out, HT0.out]
      have HT3 : Hid (((totalOf DL : Nat) : Int) = T0) := by show _ = _; rw [HTT.out, ← HTX.out, HT0.out]
      have hcast : ((10 + n : Nat) : Int) = 10 + (n : Int) := by omega
      have hCLl : Hid (CL.length ≤ 6000 ∧ CL.length < 10) := by show _ ∧ _; rw [hcl.out]; omega
      have hDLl : Hid (DL.length ≤ 6000) := by show _ ≤ _; rw [hlen.out]; omega
      have hCDl : Hid ((CL ++ [(10 + n, v)]).length ≤ 6000) := by show _ ≤ _; have := HL2.out; omega
      have HCI : Hid (∀ x ∈ CL, ((x.1 : Nat) : Int) ≠ 10 + (n : Int)) := by have h := ids_int HCN.out; rw [hcast] at h; exact h
      have HRM : Hid (usedN S3.sl + 2 * (CL.length + 1) ≤ S3.n ∧ 0 < S3.n) := by show _ ∧ _; have h1 := HN3.out; have h2 := HU3.out; rw [hcl.out]; omega
      have HCB : Hid (c + 10000 ≤ 800000000 ∧ md + m3 ≤ 800000000) := by show _ ∧ _; omega
      have HLE : Hid (((CL.length : Nat) : Int) = lc) := by show _ = _; rw [← HCC.out, HLC.out]
      have HCE : Hid (((10 + n : Nat) : Int) = 10 + (n : Int)) := hcast
      have z3 : (lc == (((xs0.length : Nat) : Int) - 1)) = true := by rw [beq_iff_eq]; exact HLC.out
      clear hcast
      go_wp2
      go_region_held3 (fun W => W.cell? ⟨g0, o0 + n, none⟩ = some (.int .i64 (v : Nat)) ∧ AB w G W S3 (md + m3) (c + 10000)) (with_reducible assumption) ((first | (go_at_call 16; with_reducible refine (P0.out _ (by with_reducible assumption)).mono ?_; rintro e w4 ⟨rfl, hS4⟩; clear P0) | (go_at_call 20; with_reducible refine (P1.out _ (by with_reducible assumption)).mono ?_; rintro e w5 ⟨rfl, hS5⟩; clear P1)))
      have HA5 : Hid (AB w G w5 S3 (md + m3) (c + 10000)) := hS5.2
      clear hS4 hS5 hS0 z0 z1 hwa hwb
      have T : Hid (Calls _ _ _ _ _) := place_out HA5.out.rd HRc.out hCLl.out.1 (id := 10 + (n : Int)) HCI.out
      go_wp2_with (go_at_call 19; fail)
      refine (T.out).mono ?_
      rintro e w6 ⟨rfl, hb⟩
      have HA6 : Hid (AB w G w6 S3 (md + m3) (c + 10000)) := HA5.out.grow hb
      clear hb T HA5
      have hc6 : w6.cell? ⟨g0, o0 + n, none⟩ = some (.int .i64 (v : Nat)) := (World.cell?_of_block (w := w) (HA6.out.below.block g0 (World.block_lt_of_cell? _ _ HCW.out))).trans HCW.out
      have T : Hid (Calls _ _ _ _ _) := addR HA6.out HC3.out HRc.out hCLl.out.2 (id := 10 + n) (len := v) hn11 hn12 hv40 HCN.out HRM.out.1 HRM.out.2 HCB.out.1 HCB.out.2
      rw [HCE.out] at T
      go_wp2_with (go_at_call 12; fail)
      refine (T.out).mono ?_
      rintro e w7 ⟨g, rfl, S7, t7, m7, rfl, hA, hC, hG, hT, hu, hm, hS, hw⟩
      have HA7 : Hid (AB w G w7 S7 (md + m3 + m7) (c + 10000 + 10000)) := hA
      have HRd : Hid (RowT S7 t7 (CL ++ [(10 + n, v)])) := hT
      have HR7 : Hid (RowT S7 t DL) := HR3.out.grows hG
      clear hA hC hG hT hu hm hS hw T HA6 HC3 HN3 HU3 HRc HR3 hc6
      have T : Hid (Calls _ _ _ _ _) := place_in HA7.out.rd HRd.out hCDl.out HND2.out (i := CL.length) (a := 10 + n) (b := v) (snoc_get _ _)
      rw [HCE.out, HLE.out] at T
      go_wp2_with (go_at_call 19; fail)
      refine (T.out).mono ?_
      rintro e w8 ⟨rfl, hb⟩
      have HA8 : Hid (AB w G w8 S7 (md + m3 + m7) (c + 10000 + 10000)) := HA7.out.grow hb
      clear hb T HA7
      have T : Hid (Calls _ _ _ _ _) := at_in HA8.out.rd HR7.out hDLl.out (i := n) HG.out
      rw [HCE.out] at T
      go_wp2_with (go_at_call 18; fail)
      refine (T.out).mono ?_
      rintro e w9 ⟨rfl, hb⟩
      have HA9 : Hid (AB w G w9 S7 (md + m3 + m7) (c + 10000 + 10000)) := HA8.out.grow hb
      clear hb T HA8
      have T : Hid (Calls _ _ _ _ _) := total_any HA9.out.rd HRd.out hCDl.out HF2.out
      rw [HT2.out] at T
      go_wp2_with (go_at_call 20; fail)
      refine (T.out).mono ?_
      rintro e w10 ⟨rfl, hb⟩
      have HA10 : Hid (AB w G w10 S7 (md + m3 + m7) (c + 10000 + 10000)) := HA9.out.grow hb
      clear hb T HA9 HRd
      have hc10 : w10.cell? ⟨g0, o0 + n, none⟩ = some (.int .i64 (v : Nat)) := (World.cell?_of_block (w := w) (HA10.out.below.block g0 (World.block_lt_of_cell? _ _ HCW.out))).trans HCW.out
      have T : Hid (Calls _ _ _ _ _) := total_any HA10.out.rd HR7.out hDLl.out HF.out
      rw [HT3.out] at T
      go_wp2_with (go_at_call 20; fail)
      refine (T.out).mono ?_
      rintro e w11 ⟨rfl, hb⟩
      have HE : Hid (Below _ _ _) := (HA10.out.grow hb).below
      clear hb T HA10 HR7 hc10
      go_wp2
      go_ret
      exact ⟨by first | rfl | simp, HE.out⟩

/-! ### The row's step -/
set_option maxRecDepth 100000 in
theorem lifted (os : Os) (started : os.Started) (H : Type) (enc : TypeId × Value → H) :
    ReturnsInHanded {} Tryd.checked os 4 .any (fun w args => (Rows.tableBackSpec.pre enc Tryd.prog Tryd.f4 [] false w args ∧ laidMetH Tryd.prog laid1 w) ∧ sizedMet enc Tryd.prog Tryd.f4 (OpenSpec.ofChange Rows.tableBackSpec) false w args) (Rows.tableBackSpec.post enc Tryd.prog Tryd.f4 false true false false) := by
  refine returnsInHanded_of_change_and (C := Tryd.checked) (X := fun w _ => laidMetH Tryd.prog laid1 w) (fun _ _ _ hh h => h.of_heap hh) Tryd.own started (by kernel_rfl) Tryd.func4
    (ChangeSpec.witness_shaped (enc := enc) (C := Tryd.checked) (os := os) (X := fun w _ => laidMetH Tryd.prog laid1 w) false (World.doorLaid Tryd.prog 400 os) #[.slice none 0 0, .int .i64 0] 8 rfl (World.shaped_of_RefB (by kernel_rfl) (by kernel_rfl)) (by kernel_rfl) (by kernel_rfl) (by kernel_rfl) (door_met os _)) ?_
  intro W base args ds gs before hval0 hW _ _ hL _
  have hval : ∀ (j : Nat) t v, Tryd.f4.params[j]? = some t → args[j]? = some v → Value.okWide Tryd.prog W .any base t v := hval0
  have hW' := hW
  obtain ⟨p, q, hA0, hV, rfl, hfz, hnd⟩ := hW
  have hA : DataW.TrodAll enc Tryd.prog W 0 (fun _ => true) true Tryd.f4.params.toList args.toList ds p := hA0
  rw [Tryd.params4] at hA hval
  obtain ⟨v0, vs0, d0, ds0, p0, q0, hargs, rfl, rfl, h0, r0⟩ := trodAll_cons hA
  obtain ⟨v1, vs1, d1, ds1, p1, q1, rfl, rfl, rfl, h1, r1⟩ := trodAll_cons r0
  obtain ⟨rfl, rfl, rfl⟩ := trodAll_nil r1
  obtain rfl : args = #[v0, v1] := by cases args; simp_all
  obtain ⟨rfl, rfl⟩ := trodVars_none hV
  obtain ⟨ao0, xs0, cap0, rfl, hs0, hz0, hl0, hm0, hn0⟩ := open_nums (hval 0 26 v0 rfl rfl) h0
  obtain ⟨a1, rfl, rfl, rfl, wf1⟩ := open_int Tryd.underlying3 (hval 1 3 v1 rfl rfl) h1
  have w1 := wf_i64 wf1
  clear hA0 hval0
  simp only [List.append_nil] at hW'
  refine (walk ao0 xs0 cap0 a1 W (of_laid hL) hs0 hz0 hl0 hm0 hn0 w1).mono fun e W' ⟨he, hg⟩ => ?_
  subst he
  exact ⟨_, rfl, post_carry Tryd.laidOut (by rw [Tryd.params4]; intro t ht; simp only [List.mem_cons, List.not_mem_nil, or_false] at ht; rcases ht with rfl | rfl <;> exact ⟨by kernel_rfl, of_decide_eq_true (by kernel_rfl)⟩) rfl hW' (fun _ _ _ => (trodAll_cons_mk (shut_bool Tryd.underlying4 _) trodAll_mk0)) rfl rfl hg⟩

theorem over : Rows.tableBackRow.holds Tryd.pinned (OpenSpec.ofChange Rows.tableBackSpec) :=
  OpenClaim.holds_of_wide 4 Tryd.f4 rfl rfl rfl rfl rfl rfl rfl ⟨rfl, rfl, rfl, rfl, rfl⟩ rfl rfl rfl rfl rfl (by kernel_rfl) Tryd.func4 (by kernel_rfl)
    (of_decide_eq_true (by kernel_rfl)) (by unfold Func.isWrapper; first | (rw [if_pos (by decide +kernel)]; kernel_rfl) | (rw [if_neg (by decide +kernel)]; exact ⟨rfl, rfl⟩))
    (fun os started H enc _ => lifted os started H enc)

end Go.Proofs.YtibbdbdiklpccaaDoor.tableBack

namespace Go.Proofs.YtibbdbdiklpccaaDoor
/-- the row -/
theorem tableBack_row : Rows.TableBackSaid := tableBack.over

/-- the statement: the tied card -/
theorem tableBack_holds : Rows.TableBackCardSaid :=
  Claim7.holds_tied_plain_at .later [] [.data] true Rows.tableBackCard.stood.harness false
    tableBack_row (fun _ h => by cases h) (by kernel_rfl) (fun _ h => by cases h) tableBack_row_tie rfl ⟨rfl, rfl⟩ (by kernel_rfl) rfl
    (fun f fn hf hfn => by
      obtain rfl : f = 4 := Option.some.inj ((show Tryd.prog.funcNamed "scrinium/scriniumlaw11.TableBack" = some 4 by kernel_rfl).symm.trans hf) |>.symm
      obtain rfl : fn = Tryd.f4 := (Option.some.inj (Tryd.func4.symm.trans hfn)).symm
      exact ⟨by kernel_rfl, fun j t ht => by
        rw [Tryd.params4] at ht
        have hm : t ∈ [26, 3] := by simpa using Array.mem_of_getElem? ht
        have hall : ([26, 3].all fun u => !Tryd.prog.wantsStandIn u) = true := by kernel_rfl
        exact (show Tryd.prog.wantsStandIn t = false by simpa using List.all_eq_true.1 hall t hm)⟩)
    (by kernel_rfl)
#print axioms tableBack_holds
end Go.Proofs.YtibbdbdiklpccaaDoor
