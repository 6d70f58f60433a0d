/- BackFinds holds of every documents and piece of one of them: of their symbols the rows that are told are just those that begin with the pattern: as many as there are places where it stands, and these places. -/
import Derived.Test.YtcheclhiekdjmaaBackV
import Derived.Test.YtcheclhiekdjmaaRMore
import Derived.Test.YtcheclhiekdjmaaRMap
import Derived.Test.YtcheclhiekdjmaaRows
namespace Go.Proofs.Ytcheclhiekdjmaa.backFinds
open Go.ChangeShapes Go.WideShapes Go.ChangeAt Go.RowKit Go.Sort
open Go.ChangeMaps (open_string shut_string)
set_option linter.unusedVariables false

theorem own : ownKnob Try.prog.godebug = none := by kernel_rfl

/-- a number, whatever it is, made a place -/
theorem rem_place (R : Int) (n : Nat) (h1 : -(n : Int) < R) (h2 : R < n) : ∃ D : Nat, D < n ∧ Int.tmod (R + n) n = D := by
  refine ⟨((R + n) % n).toNat, ?_, ?_⟩
  · have := Int.emod_lt_of_pos (R + n) (show (0 : Int) < n by omega)
    have := Int.emod_nonneg (R + n) (show (n : Int) ≠ 0 by omega)
    omega
  · rw [Int.tmod_eq_emod_of_nonneg (by omega)]
    have := Int.emod_nonneg (R + n) (show (n : Int) ≠ 0 by omega)
    omega

theorem rem_in (a : Int) (n : Nat) (h : 0 < n) : -(n : Int) < Int.tmod a n ∧ Int.tmod a n < n := ⟨Int.lt_tmod_of_pos a (by omega), Int.tmod_lt_of_pos a (by omega)⟩

theorem set_ext {wr W : World} {m : Nat} {rs : List (Nat × Nat)} (h : SetAt wr m rs) (hx : Ext wr W) : SetAt W m rs := by
  have hlt : m < wr.heap.size := (Array.getElem?_eq_some_iff.1 h).1
  exact (hx.heap hlt).trans h

theorem not_in_take {rs : List (Nat × Nat)} (h : rs.Nodup) {k : Nat} (hk : k < rs.length) : rs[k] ∉ rs.take k := by
  intro hm
  rw [List.mem_take_iff_getElem] at hm
  obtain ⟨i, hi, e⟩ := hm
  have := List.pairwise_iff_getElem.1 h i k (by omega) hk (by omega)
  exact this e

/-- the rows that are found: a stretch of all -/
def foundR (p : ByteArray) (ss : List ByteArray) : List (Nat × Nat) := (sorted (docs ss)).filter (beg (docs ss) p.data.toList)

structure Found (p : ByteArray) (ss : List ByteArray) (lo hi : Nat) (S : List (Nat × Nat)) : Prop where
  lt : lo < hi
  le : hi ≤ (sortedD ss).length
  len : S.length = hi - lo
  cnt : cntN' p ss = hi - lo
  nd : S.Nodup
  at_ : ∀ k x, S[k]? = some x → (sortedD ss)[lo + k]? = some x
  mem : ∀ x, x ∈ naiveD p ss ss.length → x ∈ S

theorem found_of {ss : List ByteArray} (hr : rightB ss = true) {D I J : Nat} (hD : D < ss.length) (hIJ : I + J ≤ ss[D].size) : Found (ss[D].extract I (I + J)) ss (rangeB (symD ss) (ss[D].extract I (I + J))).1 (rangeB (symD ss) (ss[D].extract I (I + J))).2 (foundR (ss[D].extract I (I + J)) ss) := by
  have hsd : sortedD ss = sorted (docs ss) := by simp [sortedD, hr]
  have hpre : (ss[D].extract I (I + J)).data.toList <+: suf (docs ss) (D, I) := by
    unfold suf
    rw [docAt_docs hD, ← Lib.toList_data, Lib.extract_toList]
    exact List.take_prefix _ _
  generalize ss[D].extract I (I + J) = p at *
  have hrg := range_docs hr p
  have hle := range_le (colI (docs ss)) p.data.toList
  rw [len_colI] at hle
  have hcnt := range_count (docs ss) p.data.toList
  rw [len_docs] at hcnt
  have hflt := range_filter (docs ss) p.data.toList
  have hmem : (D, I) ∈ sorted (docs ss) := mem_sorted.2 ⟨by rw [len_docs]; exact hD, by rw [docAt_docs hD]; show I ≤ ss[D].size; omega⟩
  obtain ⟨k, hk, ek⟩ := List.getElem_of_mem hmem
  have hkr := (range_rows (docs ss) p.data.toList k hk).2 (by rw [ek]; exact hpre)
  rw [hrg]
  have hlen : (foundR p ss).length = (rangeN (colI (docs ss)) p.data.toList).2 - (rangeN (colI (docs ss)) p.data.toList).1 := by
    unfold foundR
    rw [hflt]
    simp
    omega
  refine ⟨by omega, by rw [hsd]; exact hle.2, hlen, ?_, (nodup_sorted _).filter _, fun j x hx => ?_, fun x hx => ?_⟩
  · unfold cntN' naiveD
    exact hcnt.symm
  · unfold foundR at hx
    rw [hflt, List.getElem?_drop, List.getElem?_take] at hx
    rw [hsd]
    split at hx
    · exact hx
    · cases hx
  · unfold naiveD at hx
    have h := mem_naive (l := docs ss) (p := p.data.toList) (r := x)
    rw [len_docs] at h
    obtain ⟨h1, h2⟩ := h.1 hx
    exact List.mem_filter.2 ⟨mem_sorted.2 h1, beg_iff.2 h2⟩


/-! ### The walk -/
set_option maxRecDepth 100000 in
set_option maxHeartbeats 2000000 in
theorem walk (ao0 : Option Addr) (ss0 : List ByteArray) (cap0 : Nat) (a1 : Int) (a2 : Int) (a3 : Int) (w : World) (hs0 : HasStrs w ao0 ss0) (hz0 : ∀ s ∈ ss0, s.size ≤ 9223372036854775807) (hl0 : ss0.length ≤ 9223372036854775807) (w1 : (Lit.int .i64 a1).wf = true) (w2 : (Lit.int .i64 a2).wf = true) (w3 : (Lit.int .i64 a3).wf = true) :
    Calls Try.prog 3 #[.slice ao0 ss0.length cap0, .int .i64 a1, .int .i64 a2, .int .i64 a3] w fun e w' => e = .returned (.bool true) ∧ Below w.heap.size w w' := by
  clear w1 w2 w3
  have t1 := few_any ss0 ao0 cap0 w hs0 hl0
  have T3 : Hid (Calls _ _ _ _ _) := valive_any w
  cases hf : fewB ss0 with
  | false =>
    rw [hf] at t1
    have T1 : Hid (Calls _ _ _ _ _) := t1
    clear t1 hs0 hz0 hl0 hf 
    go_enter Try.func3, Try.ntmps3
    go_wp2_with (go_at_call 8; fail)
    refine (T1.out).mono ?_
    rintro e w1 ⟨rfl, hw⟩
    obtain rfl := hw.symm
    go_wp2_with (go_at_call 10; fail)
    refine (T3.out).mono ?_
    rintro e w2 ⟨rfl, hb⟩
    go_wp2
    go_ret
    exact ⟨rfl, hb⟩
  | true =>
    have t2 := right_any ss0 ao0 cap0 w hs0
    rw [hf] at t1
    have T1 : Hid (Calls _ _ _ _ _) := t1
    clear t1
    cases hr : rightB ss0 with
    | false =>
      rw [hr] at t2
      have T2 : Hid (Calls _ _ _ _ _) := t2
      clear t2 hs0 hz0 hl0 hf hr 
      go_enter Try.func3, Try.ntmps3
      go_wp2_with (go_at_call 8; fail)
      refine (T1.out).mono ?_
      rintro e w1 ⟨rfl, hw⟩
      obtain rfl := hw.symm
      go_wp2_with (go_at_call 9; fail)
      refine (T2.out).mono ?_
      rintro e w1 ⟨rfl, hw⟩
      obtain rfl := hw.symm
      go_wp2_with (go_at_call 10; fail)
      refine (T3.out).mono ?_
      rintro e w2 ⟨rfl, hb⟩
      go_wp2
      go_ret
      exact ⟨rfl, hb⟩
    | true =>
      rw [hr] at t2
      have T2 : Hid (Calls _ _ _ _ _) := t2
      clear t2
      have hl10 : ss0.length ≤ 10 := right_len hr
      by_cases hl0' : ss0.length = 0
      · have hz : ((ss0.length : Int) == 0) = true := by rw [hl0']; rfl
        clear hs0 hz0 hl0 hf hr hl0'
        go_enter Try.func3, Try.ntmps3
        go_wp2_with (go_at_call 8; fail)
        refine (T1.out).mono ?_
        rintro e w1 ⟨rfl, hw⟩
        obtain rfl := hw.symm
        go_wp2_with (go_at_call 9; fail)
        refine (T2.out).mono ?_
        rintro e w1 ⟨rfl, hw⟩
        obtain rfl := hw.symm
        go_wp2_with (go_at_call 10; fail)
        refine (T3.out).mono ?_
        rintro e w2 ⟨rfl, hb⟩
        go_wp2
        go_ret
        exact ⟨rfl, hb⟩
      · have hz : ((ss0.length : Int) == 0) = false := by rw [beq_eq_false_iff_ne]; omega
        have hnz : ¬ (ss0.length : Int) = 0 := by omega
        obtain ⟨b1, b2⟩ := rem_in a1 ss0.length (by omega)
        obtain ⟨R1, hR1⟩ : ∃ R1, Int.tmod a1 (ss0.length : Int) = R1 := ⟨_, rfl⟩
        rw [hR1] at b1 b2
        obtain ⟨D, hDn, hD⟩ := rem_place R1 ss0.length b1 b2
        have hL40 : ss0[D].size ≤ 40 := right_at hr hDn
        obtain ⟨b3, b4⟩ := rem_in a2 (ss0[D].size + 1) (by omega)
        obtain ⟨R2, hR2⟩ : ∃ R2, Int.tmod a2 ((ss0[D].size + 1 : Nat) : Int) = R2 := ⟨_, rfl⟩
        rw [hR2] at b3 b4
        obtain ⟨P, hPn, hP⟩ := rem_place R2 (ss0[D].size + 1) b3 b4
        obtain ⟨b5, b6⟩ := rem_in a3 (ss0[D].size - P + 1) (by omega)
        obtain ⟨R3, hR3⟩ : ∃ R3, Int.tmod a3 ((ss0[D].size - P + 1 : Nat) : Int) = R3 := ⟨_, rfl⟩
        rw [hR3] at b5 b6
        obtain ⟨Q, hQn, hQ⟩ := rem_place R3 (ss0[D].size - P + 1) b5 b6
        have e2 : ((ss0[D].size + 1 : Nat) : Int) = (ss0[D].size : Int) + 1 := by omega
        have e3 : ((ss0[D].size - P + 1 : Nat) : Int) = (ss0[D].size : Int) - (P : Int) + 1 := by omega
        rw [e2] at hR2 hP b3 b4
        rw [e3] at hR3 hQ b5 b6
        have hP' : Int.tmod (R2 + (ss0[D].size : Int) + 1) ((ss0[D].size : Int) + 1) = (P : Int) := by rw [← hP]; congr 1; omega
        have hQ' : Int.tmod (R3 + (ss0[D].size : Int) - (P : Int) + 1) ((ss0[D].size : Int) - (P : Int) + 1) = (Q : Int) := by rw [← hQ]; congr 1; omega
        have FD : Hid (Found _ ss0 _ _ _) := found_of hr hDn (I := P) (J := Q) (by omega)
        have HS : Hid (HasStrs w ao0 ss0) := hs0
        have HR : Hid (rightB ss0 = true) := hr
        have T4 : Hid (∀ W, HasStrs W ao0 ss0 → _) := fun W h => symbols_any ss0 ao0 cap0 W h
        have T5 : Hid (∀ W, HasStrs W ao0 ss0 → _) := fun W h => sorted_any ss0 ao0 cap0 W h
        clear hs0 hr hf hl0 hz0 hP hQ e2 e3
        go_enter Try.func3, Try.ntmps3
        go_wp2_with (go_at_call 8; fail)
        refine (T1.out).mono ?_
        rintro e w1 ⟨rfl, hw⟩
        obtain rfl := hw.symm
        go_wp2_with (go_at_call 9; fail)
        refine (T2.out).mono ?_
        rintro e w1 ⟨rfl, hw⟩
        obtain rfl := hw.symm
        go_wp2_with (go_at_call 10; fail)
        refine (T3.out).mono ?_
        rintro e w2 ⟨rfl, hb⟩
        obtain ⟨g, o, hao, hc⟩ := HasStrs.at (HasCells.later HS.out hb) hDn
        have hgw := cell_in hc
        subst hao
        have HB2 : Hid (Below w.heap.size w w2) := hb
        have HSW : Hid (∀ W, Below w.heap.size w W → HasStrs W (some ⟨g, o, none⟩) ss0) := fun W h => HasCells.later HS.out h
        obtain ⟨p, hp⟩ : ∃ p, p = ss0[D].extract P (P + Q) := ⟨_, rfl⟩
        have hps : p.size ≤ 1000000 := by
          rw [hp]
          simp
          omega
        rw [← hp] at FD
        have HP : Hid (p = ss0[D].extract P (P + Q)) := hp
        clear hb T1 T2 T3 hp
        go_wp2_with (go_at_call 11; fail)
        rw [← HP.out]
        clear HP hR1 hR2 hR3 hD hP' hQ' b1 b2 b3 b4 b5 b6 hc hgw hPn hQn hL40
        refine (T4.out _ (HSW.out _ HB2.out)).mono ?_
        rintro e w3 ⟨v3, rfl, hown3, hb3⟩
        obtain ⟨a3', c3, rfl, -, -, -, -⟩ := owns_cells hown3
        have HI3 : Hid (HasInts w3 a3' (symD ss0)) := HasInts.of_own hown3
        have HB3 : Hid (Below w.heap.size w w3) := below_next HB2.out hb3
        obtain ⟨n, hn⟩ : ∃ n, n = (symD ss0).length := ⟨_, rfl⟩
        have HN : Hid (n = (symD ss0).length) := hn
        rw [← hn]
        clear hown3 hb3 HB2 T4 hn
        go_wp2_with (go_at_call 12; fail)
        refine (T5.out _ (HSW.out _ HB3.out)).mono ?_
        rintro e w4 ⟨v4, rfl, hown4, hb4⟩
        obtain ⟨a4, c4, rfl, hc4, -, -, -⟩ := owns_cells hown4
        have hcap4 := owns_cap hown4
        have HB4 : Hid (Below w.heap.size w w4) := below_next HB3.out hb4
        have HB34 : Hid (Below w3.heap.size w3 w4) := hb4
        have HC4 : Hid (HasCells w4 a4 (cellsR (sortedD ss0))) := hc4
        have hn410 : (sortedD ss0).length ≤ 410 := sortedD_len ss0
        clear hown4 hb4 hc4 T5
        have T6 : Hid (∀ W, HasInts W a3' (symD ss0) → _) := fun W h => range_sym HR.out HN.out p a3' c3 W hps h
        have T7 : Hid (∀ W, HasStrs W (some ⟨g, o, none⟩) ss0 → _) := fun W h => naive_sym HR.out p (some ⟨g, o, none⟩) cap0 W h
        generalize (rangeB (symD ss0) p).1 = lo at *
        generalize (rangeB (symD ss0) p).2 = hi at *
        generalize foundR p ss0 = S at *
        have hlohi := FD.out.lt
        have hhile := FD.out.le
        have hSl := FD.out.len
        have HCNT : Hid (_ = _) := FD.out.cnt
        rw [HCNT.out] at T7
        have HSD : Hid (∀ k x, S[k]? = some x → (sortedD ss0)[lo + k]? = some x) := FD.out.at_
        have HND : Hid (S.Nodup) := FD.out.nd
        have HME : Hid (∀ x, x ∈ naiveD p ss0 ss0.length → x ∈ S) := FD.out.mem
        have HNL : Hid ((naiveD p ss0 ss0.length).length = hi - lo) := HCNT.out
        clear FD HCNT
        generalize naiveD p ss0 ss0.length = nv at *
        obtain ⟨M, hM⟩ : ∃ M, (sortedD ss0).length = M := ⟨_, rfl⟩
        rw [hM] at hcap4 hn410 hhile
        rw [hM]
        have HM : Hid (_ = _) := hM
        clear hM
        go_wp2_with (go_at_call 13; fail)
        refine (T6.out _ (HI3.out.later HB34.out)).mono ?_
        rintro e w5 ⟨rfl, hb5⟩
        have HB5 : Hid (Below w.heap.size w w5) := below_next HB4.out hb5
        have HC5 : Hid (HasCells w5 a4 (cellsR (sortedD ss0))) := HasCells.later HC4.out hb5
        have hmm := @run_makeMap Try.prog
        clear hb5 T6 HI3 HB34 HC4 HB4 HB3
        obtain ⟨x0, hx0⟩ : ∃ x0, S[0]? = some x0 := ⟨S[0], List.getElem?_eq_getElem (by omega)⟩
        have hx1 := HSD.out 0 x0 hx0
        obtain ⟨hl1, hl2⟩ := List.getElem?_eq_some_iff.1 hx1
        obtain ⟨hq1, -⟩ := cellsR_at (sortedD ss0) (lo + 0) hl1
        obtain ⟨g4, o4, hao4, -⟩ := HC5.out _ _ hq1
        subst hao4
        clear hx0 hx1 hl1 hl2 hq1
        have hclo : ¬ c4 = lo := by omega
        go_wp2
        clear hmm
        obtain ⟨w6, hw6⟩ : ∃ w6, w6 = w5.alloc (.map #[] 0) := ⟨_, rfl⟩
        obtain ⟨m, hm⟩ : ∃ m, m = w5.heap.size := ⟨_, rfl⟩
        have h56 : Below w5.heap.size w5 w6 := by rw [hw6]; exact below_alloc (Below.refl _ _) _
        have hm6 : SetAt w6 m (S.take 0) := by rw [hw6, hm]; exact heap_alloc_new w5 _
        have hsz6 : m < w6.heap.size := by rw [hw6, hm]; simp
        rw [← hw6, ← hm]
        have HB6 : Hid (Below w.heap.size w w6) := below_next HB5.out h56
        have HC6 : Hid (HasCells w6 (some ⟨g4, o4, none⟩) (cellsR (sortedD ss0))) := HasCells.later HC5.out h56
        have HM6 : Hid (SetAt w6 m (S.take 0)) := hm6
        have HSZ : Hid (m < w6.heap.size) := hsz6
        have HWM : Hid (w.heap.size ≤ m) := by rw [hm]; exact HB5.out.size
        have HGM : Hid (∀ j u, (cellsR (sortedD ss0))[j]? = some u → g4 < m) := fun j u hu => by
          obtain ⟨g', o', e', hc⟩ := HC5.out j u hu
          cases e'
          rw [hm]
          exact cell_in hc
        clear hw6 hm h56 hm6 hsz6 HB5 HC5
        go_loopw [121] (fun q wr => ∃ k : Nat, k ≤ S.length ∧ q = .int .i64 k ∧ Hid (SetAt wr m (S.take k)) ∧ Hid (Fr (fun g => g = m) w6 wr)) (fun q _ => S.length - (intOf q).toNat)
        case atStart => exact ⟨0, Nat.zero_le _, rfl, HM6, Fr.refl _ _⟩
        case round =>
          obtain ⟨k, hk, rfl, hset, hfr⟩ := hrel
          by_cases hlt : k < S.length
          · have hni : S[k] ∉ S.take k := not_in_take HND.out hlt
            have htk : S.take (k + 1) = S.take k ++ [S[k]] := List.take_succ_eq_append_getElem hlt
            have hx1 := HSD.out k S[k] (List.getElem?_eq_getElem hlt)
            obtain ⟨hl1, hl2⟩ := List.getElem?_eq_some_iff.1 hx1
            obtain ⟨hq1, hq2⟩ := cellsR_at (sortedD ss0) (lo + k) hl1
            have hgm := HGM.out _ _ hq1
            obtain ⟨g', o', e', hr1⟩ := HC6.out _ _ hq1
            cases e'
            obtain ⟨g', o', e', hr2⟩ := HC6.out _ _ hq2
            cases e'
            rw [hl2] at hr1 hr2
            have hr1' : wr.cell? ⟨g4, o4 + lo * 2 + k * 2, none⟩ = some (.int .i64 (S[k].1 : Nat)) := by
              rw [show o4 + lo * 2 + k * 2 = o4 + (lo + k) * 2 by omega, World.cell?_of_block (w := w6) (hfr.out.block g4 (cell_in hr1) (by omega))]
              exact hr1
            have hr2' : wr.cell? ⟨g4, o4 + lo * 2 + k * 2 + 1, none⟩ = some (.int .i64 (S[k].2 : Nat)) := by
              rw [show o4 + lo * 2 + k * 2 + 1 = o4 + ((lo + k) * 2 + 1) by omega, World.cell?_of_block (w := w6) (hfr.out.block g4 (cell_in hr2) (by omega))]
              exact hr2
            have hgw := cell_in hr1'
            obtain ⟨w7, hw7⟩ : ∃ w7, w7 = wr.alloc (.cells #[.int .i64 (S[k].1 : Nat), .int .i64 (S[k].2 : Nat)] 34) := ⟨_, rfl⟩
            obtain ⟨X, hX⟩ : ∃ X, X = wr.heap.size := ⟨_, rfl⟩
            obtain ⟨x1, x2⟩ := boxed_at (W := w7) (g := X) (by rw [hw7]; exact cells_boxed wr _ _ _ _ hX)
            have hE7 : Ext wr w7 := by rw [hw7]; exact (Ext.refl wr).alloc _
            have HF7 : Hid (Fr (fun g => g = m) w6 w7) := hfr.out.trans (Fr.of_below hE7.below)
            obtain ⟨w8, hup, hset8, hfr8⟩ := lay_new (w := w7) (set_ext hset.out hE7) S[k].1 S[k].2 hni
            have HS8 : Hid (SetAt w8 m (S.take (k + 1))) := by rw [htk]; exact hset8
            have HF8 : Hid (Fr _ w6 w8) := HF7.out.trans hfr8
            rw [hw7] at hup
            clear hr1 hr2 hq1 hq2 hx1 hl1 hl2 hni htk hset8 hfr8 hE7 hw7 hX x1 x2
            generalize S[k].1 = d at *
            generalize S[k].2 = a at *
            have hkl : (k : Int) < (hi - lo : Nat) := by omega
            go_wp2
            go_roundw
            case rel => exact ⟨k + 1, by omega, by go_num, HS8, HF8⟩
            case measure => simp [intOf]; omega
          · obtain rfl : k = S.length := by omega
            have hset2 := hset.out
            rw [List.take_length] at hset2
            have hbr : Below w.heap.size w wr := HB6.out.trans (hfr.out.below (by have := HSZ.out; have := HWM.out; omega) (fun g hg => by have := HWM.out; omega))
            have T8 : Hid (Calls _ _ _ _ _) := T7.out wr (HSW.out _ hbr)
            have HBr : Hid (Below w.heap.size w wr) := hbr
            have HSr : Hid (SetAt wr m S) := hset2
            clear hset hset2 hbr hfr T7 HM6 HSD HND HC6 HB6
            have hkl : ¬ ((S.length : Nat) : Int) < (hi - lo : Nat) := by omega
            go_wp2_with (go_at_call 14; fail)
            refine (T8.out).mono ?_
            rintro e w9 ⟨v9, rfl, hown9, hb9⟩
            obtain ⟨a9, c9, rfl, hc9, -, -, -⟩ := owns_cells hown9
            have hmw : m < wr.heap.size := (Array.getElem?_eq_some_iff.1 HSr.out).1
            have hS9 : SetAt w9 m S := (hb9.block m hmw).trans HSr.out
            have HS9 : Hid (SetAt w9 m S) := hS9
            have HB9 : Hid (Below w.heap.size w w9) := below_next HBr.out hb9
            have HC9 : Hid (HasCells w9 a9 (cellsR nv)) := hc9
            clear hown9 hb9 hc9 hS9 T8 hmw
            have hnl : nv.length = hi - lo := HNL.out
            obtain ⟨N2, hN2⟩ : ∃ N2, N2 = hi - lo := ⟨_, rfl⟩
            rw [← hN2] at hnl
            rw [← hN2]
            have HNV : Hid (nv.length = N2) := hnl
            have hSN : S.length = N2 := by omega
            have HSN : Hid (S.length = N2) := hSN
            have hcast : (hi : Int) - (lo : Int) = (N2 : Int) := by omega
            have hN410 : N2 ≤ 410 := by omega
            clear hnl hSl hSN HNL hkl
            go_wp2
            go_loopw [133] (fun q wr2 => ∃ k : Nat, k ≤ N2 ∧ q = .int .i64 k ∧ Hid (Ext w9 wr2)) (fun q _ => N2 - (intOf q).toNat)
            case atStart => exact ⟨0, Nat.zero_le _, rfl, Ext.refl _⟩
            case round =>
              obtain ⟨k, hk2, rfl, hE⟩ := hrel
              by_cases hlt2 : k < N2
              · have hkn : k < nv.length := by rw [HNV.out]; exact hlt2
                obtain ⟨hq1, hq2⟩ := cellsR_at nv k hkn
                obtain ⟨g', o', hao9, hr1⟩ := (HasCells.ext HC9.out hE.out) _ _ hq1
                obtain ⟨g'', o'', e', hr2⟩ := (HasCells.ext HC9.out hE.out) _ _ hq2
                rw [hao9] at e'
                cases e'
                rw [← Nat.add_assoc] at hr2
                have hgw := cell_in hr1
                have hin : (nv[k].1, nv[k].2) ∈ S := HME.out nv[k] (List.getElem_mem _)
                have hlook : (Instr.lookup 32 (.map (some m)) (.agg #[.int .i64 (nv[k].1 : Nat), .int .i64 (nv[k].2 : Nat)]) false).run Try.prog (wr.alloc (.cells #[.int .i64 (nv[k].1 : Nat), .int .i64 (nv[k].2 : Nat)] 34)) = .ok (.bool true) _ := look_yes (set_ext HS9.out (hE.out.alloc _)) nv[k].1 nv[k].2 hin
                have HE2 : Hid (Ext w9 (wr.alloc (.cells #[.int .i64 (nv[k].1 : Nat), .int .i64 (nv[k].2 : Nat)] 34))) := hE.out.alloc _
                subst hao9
                clear hq1 hq2 hin
                generalize nv[k].1 = d at *
                generalize nv[k].2 = a at *
                go_wp2
                go_roundw
                case rel => exact ⟨k + 1, by omega, by go_num, HE2⟩
                case measure => simp [intOf]; omega
              · obtain rfl : k = N2 := by omega
                have hlen := len_set (set_ext HS9.out hE.out)
                rw [HSN.out] at hlen
                have HBE : Hid (Below w.heap.size w wr) := below_next HB9.out hE.out.below
                have hw64 : wrap64 ((hi : Int) - (lo : Int)) = (k : Int) := by rw [w64 (by omega) (by omega)]; omega
                go_wp2
                go_ret
                exact ⟨rfl, HBE.out⟩

/-! ### The row's step -/
set_option maxRecDepth 100000 in
theorem lifted (os : Os) (started : os.Started) (H : Type) (enc : TypeId × Value → H) :
    ReturnsInHanded {} Try.checked os 3 .any (Rows.backFindsSpec.pre6 enc Try.prog Try.f3 Rows.backFindsRow.domain false) (Rows.backFindsSpec.post enc Try.prog Try.f3 false true false false) := by
  refine returnsInHanded_of_change (C := Try.checked) own started (by kernel_rfl) Try.func3
    (ChangeSpec.witness6 (enc := enc) (C := Try.checked) false ⟨#[], #[.slice none 0 0, .int .i64 0, .int .i64 0, .int .i64 0], []⟩ 8 (by kernel_rfl) (by kernel_rfl) (by kernel_rfl) (by kernel_rfl)) ?_
  intro W base args ds gs before hval0 hW hcnd _
  have hval : ∀ (j : Nat) t v, Try.f3.params[j]? = some t → args[j]? = some v → Value.okWide Try.prog W .any base t v := hval0
  have hW' := hW
  obtain ⟨p, q, hA0, hV, rfl, hfz, hnd⟩ := hW
  have hA : DataW.TrodAll enc Try.prog W 0 (fun _ => true) true Try.f3.params.toList args.toList ds p := hA0
  rw [Try.params3] at hA hval
  obtain ⟨v0, vs0, d0, ds0, p0, q0, hargs, rfl, rfl, h0, r0⟩ := trodAll_cons hA
  obtain ⟨v1, vs1, d1, ds1, p1, q1, rfl, rfl, rfl, h1, r1⟩ := trodAll_cons r0
  obtain ⟨v2, vs2, d2, ds2, p2, q2, rfl, rfl, rfl, h2, r2⟩ := trodAll_cons r1
  obtain ⟨v3, vs3, d3, ds3, p3, q3, rfl, rfl, rfl, h3, r3⟩ := trodAll_cons r2
  obtain ⟨rfl, rfl, rfl⟩ := trodAll_nil r3
  obtain rfl : args = #[v0, v1, v2, v3] := by cases args; simp_all
  obtain ⟨rfl, rfl⟩ := trodVars_none hV
  obtain ⟨ao0, ss0, cap0, rfl, hs0, hz0, hl0⟩ := open_texts (hval 0 22 v0 rfl rfl) h0
  obtain ⟨a1, rfl, rfl, rfl, w1⟩ := open_int Try.underlying3 (hval 1 3 v1 rfl rfl) h1
  obtain ⟨a2, rfl, rfl, rfl, w2⟩ := open_int Try.underlying3 (hval 2 3 v2 rfl rfl) h2
  obtain ⟨a3, rfl, rfl, rfl, w3⟩ := open_int Try.underlying3 (hval 3 3 v3 rfl rfl) h3
  clear hA0 hval0
  simp only [List.append_nil] at hW'
  refine (walk ao0 ss0 cap0 a1 a2 a3 W hs0 hz0 hl0 w1 w2 w3).mono fun e W' ⟨he, hg⟩ => ?_
  subst he
  exact ⟨_, rfl, post_carry Try.laidOut (by rw [Try.params3]; intro t ht; simp only [List.mem_cons, List.not_mem_nil, or_false] at ht; rcases ht with rfl | rfl | rfl | rfl <;> exact ⟨by kernel_rfl, of_decide_eq_true (by kernel_rfl)⟩) rfl hW' (fun _ _ _ => (trodAll_cons_mk (shut_bool Try.underlying4 _) trodAll_mk0)) rfl rfl hg⟩

theorem over : Rows.backFindsRow.holds Try.pinned (OpenSpec.ofChange Rows.backFindsSpec) :=
  OpenClaim.holds_of_wide 3 Try.f3 rfl rfl rfl rfl rfl rfl rfl ⟨rfl, rfl, rfl, rfl, rfl⟩ rfl rfl rfl rfl rfl (by kernel_rfl) Try.func3 (by kernel_rfl)
    (of_decide_eq_true (by kernel_rfl)) (by unfold Func.isWrapper; first | (rw [if_pos (by decide +kernel)]; kernel_rfl) | (rw [if_neg (by decide +kernel)]; exact ⟨rfl, rfl⟩))
    (fun os started H enc _ => lifted os started H enc)

end Go.Proofs.Ytcheclhiekdjmaa.backFinds

namespace Go.Proofs.Ytcheclhiekdjmaa
/-- the statement -/
theorem backFinds_holds : Rows.BackFindsSaid := backFinds.over
#print axioms backFinds_holds
end Go.Proofs.Ytcheclhiekdjmaa
