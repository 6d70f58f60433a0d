/- The document's own searches: Back, Range, Naive, walked. -/
import Derived.Test.YtcheclhiekdjmaaGreatBwtR
import Derived.Test.YtcheclhiekdjmaaGreatBackR
import Derived.Test.YtcheclhiekdjmaaGreatFewB
namespace Go.Proofs.YtcheclhiekdjmaaGreat
open Go.RowKit Go.Sort

theorem step_low {xs : List Int} (hc : colB xs = true) (b : UInt8) {i : Nat} (hi : i ≤ xs.length) : stepB xs ((b.toNat : Int) + 1) (i : Int) = lowN xs (symU b) i := by
  have hb := b.toNat_lt
  unfold stepB
  rw [if_pos ⟨by omega, by omega⟩, befB, hc, if_pos rfl, rankB, hc, if_pos rfl, cutI_nat hi]
  rfl

theorem stepB_none {xs : List Int} (hc : colB xs = false) (s i : Int) : stepB xs s i = 0 := by
  unfold stepB befB rankB
  simp [hc]

set_option maxRecDepth 100000 in
set_option maxHeartbeats 1000000 in
theorem refBack_any (s lo hi : Int) (xs : List Int) (ao : Option Addr) (cap : Nat) (w : World) (hx : xs.length ≤ 1000000) (ha : HasInts w ao xs) :
    Calls Tryz.prog 10 #[.int .i64 s, .int .i64 lo, .int .i64 hi, .slice ao xs.length cap] w fun e w' => e = .returned (.tuple #[.int .i64 (stepB xs s lo : Nat), .int .i64 (stepB xs s hi : Nat)]) ∧ w' = w := by
  have t0 := refColumn_any xs ao cap w (by omega) ha
  by_cases h1 : 1 ≤ s
  · by_cases h2 : s < 257
    · cases hr : colB xs with
      | true =>
        rw [hr] at t0
        have T0 : Hid (Calls _ _ _ _ _) := t0
        have e1 : stepB xs s lo = befB xs s + rankB xs s lo := by simp [stepB, h1, h2]
        have e2 : stepB xs s hi = befB xs s + rankB xs s hi := by simp [stepB, h1, h2]
        rw [e1, e2, Int.natCast_add, Int.natCast_add]
        have T1 : Hid (Calls _ _ _ _ _) := refBefore_any xs ao cap s w hx ha
        have T3 : Hid (Calls _ _ _ _ _) := refRank_any xs ao cap s lo w hx ha
        have T4 : Hid (Calls _ _ _ _ _) := refRank_any xs ao cap s hi w hx ha
        have hb1 := befB_le xs s
        have hr1 := rankB_le xs s lo
        have hr2 := rankB_le xs s hi
        clear e1 e2 ha hr t0
        generalize befB xs s = B at *
        generalize rankB xs s lo = R1 at *
        generalize rankB xs s hi = R2 at *
        go_enter Tryz.func10, Tryz.ntmps10
        go_wp2_with (go_at_call 24; fail)
        refine (T0.out).mono ?_
        rintro e w1 ⟨rfl, hw⟩
        obtain rfl := hw.symm
        go_wp2_with (go_at_call 27; fail)
        with_reducible refine (T1.out).mono ?_
        rintro e w1 ⟨rfl, hw⟩
        obtain rfl := hw.symm
        go_wp2_with (go_at_call 28; fail)
        with_reducible refine (T3.out).mono ?_
        rintro e w2 ⟨rfl, hw⟩
        obtain rfl := hw.symm
        go_wp2_with (go_at_call 27; fail)
        with_reducible refine (T1.out).mono ?_
        rintro e w1 ⟨rfl, hw⟩
        obtain rfl := hw.symm
        go_wp2_with (go_at_call 28; fail)
        with_reducible refine (T4.out).mono ?_
        rintro e w2 ⟨rfl, hw⟩
        obtain rfl := hw.symm
        clear T0 T1 T3 T4
        go_wp2
        go_ret2
        exact ⟨rfl, rfl⟩
      | false =>
        rw [hr] at t0
        have T0 : Hid (Calls _ _ _ _ _) := t0
        rw [stepB_none hr, stepB_none hr]
        clear ha t0 hr
        go_enter Tryz.func10, Tryz.ntmps10
        go_wp2_with (go_at_call 24; fail)
        refine (T0.out).mono ?_
        rintro e w1 ⟨rfl, hw⟩
        obtain rfl := hw.symm
        go_wp2
        go_ret2
        exact ⟨rfl, rfl⟩
    · have e : ∀ i, stepB xs s i = 0 := fun i => by simp [stepB]; omega
      rw [e, e]
      clear ha e t0
      go_enter Tryz.func10, Tryz.ntmps10
      go_wp2
      go_ret2
      exact ⟨rfl, rfl⟩
  · have e : ∀ i, stepB xs s i = 0 := fun i => by simp [stepB]; omega
    rw [e, e]
    clear ha e t0
    go_enter Tryz.func10, Tryz.ntmps10
    go_wp2
    go_ret2
    exact ⟨rfl, rfl⟩

set_option maxRecDepth 100000 in
set_option maxHeartbeats 2000000 in
theorem refRange_any (p : ByteArray) (xs : List Int) (ao : Option Addr) (cap : Nat) (w : World) (hx : xs.length ≤ 1000000) (hp : p.size ≤ 9223372036854775807) (ha : HasInts w ao xs) :
    Calls Tryz.prog 8 #[.string p, .slice ao xs.length cap] w fun e w' => e = .returned (.tuple #[.int .i64 (rangeB xs p).1, .int .i64 (rangeB xs p).2]) ∧ w' = w := by
  have t1 := refColumn_any xs ao cap w (by omega) ha
  cases hr : colB xs with
  | false =>
    have e : rangeB xs p = (0, 0) := by simp [rangeB, hr]
    rw [e]
    rw [hr] at t1
    have T1 : Hid (Calls _ _ _ _ _) := t1
    clear t1 ha hr e
    go_enter Tryz.func8, Tryz.ntmps8
    go_wp2_with (go_at_call 24; fail)
    refine (T1.out).mono ?_
    rintro e w1 ⟨rfl, hw⟩
    obtain rfl := hw.symm
    go_wp2
    go_ret2
    exact ⟨rfl, rfl⟩
  | true =>
    have e : rangeB xs p = rangeN xs p.data.toList := by simp [rangeB, hr]
    rw [e]
    rw [hr] at t1
    have T1 : Hid (Calls _ _ _ _ _) := t1
    have HG0 : Hid (goN xs (p.data.toList.take p.size).reverse 0 xs.length = rangeN xs p.data.toList) := by
      show goN xs _ 0 xs.length = goN xs _ 0 xs.length
      rw [List.take_of_length_le (show p.data.toList.length ≤ p.size from Nat.le_refl _)]
    have T3 : Hid (∀ (b : UInt8) (lo hi : Nat), lo ≤ xs.length → hi ≤ xs.length → Calls Tryz.prog 10 #[.int .i64 ((b.toNat : Int) + 1), .int .i64 lo, .int .i64 hi, .slice ao xs.length cap] w fun e w' => e = .returned (.tuple #[.int .i64 (lowN xs (symU b) lo : Nat), .int .i64 (lowN xs (symU b) hi : Nat)]) ∧ w' = w) := fun b lo hi h1 h2 => by
      have t := refBack_any ((b.toNat : Int) + 1) lo hi xs ao cap w hx ha
      rw [step_low hr b h1, step_low hr b h2] at t
      exact t
    clear t1 ha hr e
    generalize rangeN xs p.data.toList = RES at *
    go_enter Tryz.func8, Tryz.ntmps8
    go_wp2_with (go_at_call 24; fail)
    refine (T1.out).mono ?_
    rintro e w1 ⟨rfl, hw⟩
    obtain rfl := hw.symm
    clear T1
    go_wp2
    go_loopw [6, 7, 8] (fun a b q wr => ∃ m lo hi : Nat, m ≤ p.size ∧ q = .int .i64 ((m : Int) - 1) ∧ a = .int .i64 lo ∧ b = .int .i64 hi ∧ lo ≤ xs.length ∧ hi ≤ xs.length ∧ Hid (goN xs (p.data.toList.take m).reverse lo hi = RES) ∧ wr = w) (fun _ _ q _ => (intOf q + 1).toNat)
    case atStart => exact ⟨p.size, 0, xs.length, Nat.le_refl _, rfl, rfl, rfl, Nat.zero_le _, Nat.le_refl _, HG0, rfl⟩
    case round =>
      obtain ⟨m, lo, hi, hm, rfl, rfl, rfl, hlo, hhi, hgo, hwr⟩ := hrel
      obtain rfl := hwr.symm
      by_cases h0 : m = 0
      · subst h0
        have hres : RES = (lo, hi) := by have := hgo.out; simp [goN] at this; exact this.symm
        subst hres
        clear hgo HG0
        go_wp2
        go_ret2
        exact ⟨rfl, rfl⟩
      · obtain ⟨k, rfl⟩ : ∃ k, m = k + 1 := ⟨m - 1, by omega⟩
        have hk : k < p.size := by omega
        have ek : ((k + 1 : Nat) : Int) - 1 = (k : Int) := by omega
        rw [ek]
        have hgo' := hgo.out
        rw [take_rev hk] at hgo'
        have hb255 : (p[k].toNat : Int) ≤ 255 := by have := p[k].toNat_lt; omega
        have T5 : Hid (Calls _ _ _ _ _) := T3.out p[k] lo hi hlo hhi
        have hl1 := low_le xs (symU p[k]) lo
        have hl2 := low_le xs (symU p[k]) hi
        have hw1 := w64_byte (x := (p[k].toNat : Int)) (by omega) hb255
        clear T3 ek hgo HG0
        by_cases hc : lowN xs (symU p[k]) lo < lowN xs (symU p[k]) hi
        · rw [goN, if_pos hc] at hgo'
          have HG : Hid (_ = _) := hgo'
          clear hgo'
          generalize lowN xs (symU p[k]) lo = L at *
          generalize lowN xs (symU p[k]) hi = H at *
          go_wp2_with (go_at_call 10; fail)
          with_reducible refine (T5.out).mono ?_
          rintro e w4 ⟨rfl, hw⟩
          obtain rfl := hw.symm
          clear T5
          go_wp2
          go_roundw
          case rel => exact ⟨k, L, H, by omega, by go_num, rfl, rfl, hl1, hl2, HG, by first | rfl | trivial⟩
          case measure => simp [intOf]
        · rw [goN, if_neg hc] at hgo'
          subst hgo'
          generalize lowN xs (symU p[k]) lo = L at *
          generalize lowN xs (symU p[k]) hi = H at *
          go_wp2_with (go_at_call 10; fail)
          with_reducible refine (T5.out).mono ?_
          rintro e w4 ⟨rfl, hw⟩
          obtain rfl := hw.symm
          clear T5
          go_wp2
          go_ret2
          exact ⟨rfl, rfl⟩

/-! ### Naive -/

theorem naiveTo_rest {p : ByteArray} {ss : List ByteArray} {d : Nat} (hd : d < ss.length) : ∀ (n j : Nat), j + n = ss[d].size + 1 → ¬ j + p.size ≤ ss[d].size → naiveTo p ss d j = naiveD p ss (d + 1)
  | 0, j, hj, _ => by
    obtain rfl : j = ss[d].size + 1 := by omega
    exact naiveTo_all hd
  | n + 1, j, hj, hn => by
    rw [← naiveTo_no (piece_no hd (by omega) hn)]
    exact naiveTo_rest hd n (j + 1) (by omega) (by omega)

set_option maxRecDepth 100000 in
set_option maxHeartbeats 2000000 in
theorem refNaive_any (p : ByteArray) (ss : List ByteArray) (ao : Option Addr) (cap : Nat) (w : World) (hss : HasStrs w ao ss) (hp : p.size ≤ 1000000) (hl : ss.length + bytesTo (docs ss) ss.length ≤ 1000000) :
    Calls Tryz.prog 15 #[.string p, .slice ao ss.length cap] w fun e w' => ∃ v, e = .returned v ∧ w'.ownsRow w.heap.size 64 2 v (naiveD p ss ss.length).length (cellsR (naiveD p ss ss.length)) ∧ Below w.heap.size w w' := by
  obtain ⟨B, hB⟩ : ∃ B, B = w.heap.size := ⟨_, rfl⟩
  rw [← hB]
  have HB : Hid (B = w.heap.size) := hB
  have HS : Hid (HasStrs w ao ss) := hss
  have hl2 : ss.length ≤ 1000000 := by omega
  have HL : Hid (∀ d j (h : d < ss.length), j ≤ ss[d].size + 1 → (naiveTo p ss d j).length ≤ 1000000) := fun d j h hj => Nat.le_trans (len_naiveTo h hj) hl
  have HZ : Hid (∀ d (h : d < ss.length), ss[d].size ≤ 1000000) := fun d h => by
    have h1 := doc_bytes (docs ss) (d := d) ss.length h
    rw [docAt_docs h] at h1
    have h2 : ss[d].data.toList.length = ss[d].size := rfl
    omega
  clear hB hss hl
  go_enter Tryz.func15, Tryz.ntmps15
  go_wp2
  go_loopw [5, 6] (fun v q wr => ∃ d : Nat, d ≤ ss.length ∧ q = .int .i64 d ∧ Hid (wr.ownsRow B 64 2 v (naiveD p ss d).length (cellsR (naiveD p ss d))) ∧ Hid (Below B w wr)) (fun _ q _ => ss.length - (intOf q).toNat)
  case atStart => exact ⟨0, Nat.zero_le _, rfl, World.ownsRow_nil _ _ _ _, Below.refl _ _⟩
  case round =>
    obtain ⟨d, hd, rfl, hown, hbel⟩ := hrel
    by_cases hlt : d < ss.length
    · have hs40 : ss[d].size ≤ 1000000 := HZ.out d hlt
      have hown' := hown.out
      rw [← naiveTo_zero] at hown'
      have HO : Hid (World.ownsRow _ _ _ _ _ _ _) := hown'
      clear hown hown'
      go_wp2
      go_loopw [5, 7] (fun v2 q2 wr2 => ∃ j : Nat, j ≤ ss[d].size + 1 ∧ q2 = .int .i64 j ∧ Hid (wr2.ownsRow B 64 2 v2 (naiveTo p ss d j).length (cellsR (naiveTo p ss d j))) ∧ Hid (Below B w wr2)) (fun _ q2 _ => ss[d].size + 1 - (intOf q2).toNat)
      case atStart => exact ⟨0, Nat.zero_le _, rfl, HO, hbel⟩
      case round =>
        obtain ⟨j, hj, rfl, hown2, hbel2⟩ := hrel
        have hsz : B ≤ wr.heap.size := by have := hbel2.out.size; have := HB.out; omega
        have hsW : HasStrs wr ao ss := HasCells.below HS.out (hbel2.out) (fun g o e hne => by have := HB.out; subst e; rw [this]; exact HS.out.lt hne)
        obtain ⟨g, o, hao, hc⟩ := HasStrs.at hsW hlt
        have hgw := cell_in hc
        subst hao
        have hw1 : wrap64 ((j : Int) + (p.size : Int)) = (j : Int) + (p.size : Int) := w64 (by omega) (by omega)
        clear hsW
        by_cases hjt : j + p.size ≤ ss[d].size
        · have hN : Hid ((naiveTo p ss d j).length ≤ 1000000) := HL.out d j hlt hj
          have hpc := piece_yes (p := p) hlt hjt
          cases hb : beg (docs ss) p.data.toList (d, j) with
          | true =>
            rw [hb] at hpc
            have HE : Hid (_ = _) := naiveTo_yes hb
            clear hb
            go_wp2_with (at_builtin; refine wpList_append_src _ rfl (.tmp 38) (.tmp 42) 32 rfl Tryz.elemRow B _ _ _ (by rfl) (hown2.out.alloc _) (some ⟨wr.heap.size, 0, none⟩) 1 1 [.int .i64 d, .int .i64 j] rfl (fun h => nomatch h) rfl (cells_new _ _ _ _ rfl) (row_one _ _) (by have := hN.out; unfold maxLen; omega) (by have := hN.out; omega) (by simp; omega) ?_; intro v' w1 hown1 hgrow _ _)
            have hb1 := (hbel2.out.alloc hsz (.cells #[.int .i64 d, .int .i64 j] 64)).grown hgrow (by simp; omega) (fun g hg => (hown2.out.lt g hg).1)
            rw [cellsR_snoc, ← HE.out] at hown1
            have e2 : (naiveTo p ss d j).length + 1 = (naiveTo p ss d (j + 1)).length := by rw [HE.out]; simp
            rw [e2] at hown1
            clear e2
            go_roundw
            case rel => exact ⟨j + 1, by omega, by go_num, hown1, hb1⟩
            case measure => simp [intOf]; omega
          | false =>
            rw [hb] at hpc
            have hnew := hown2.out
            rw [← naiveTo_no hb] at hnew
            have HN : Hid (World.ownsRow _ _ _ _ _ _ _) := hnew
            clear hb hnew hown2
            go_wp2
            go_roundw
            case rel => exact ⟨j + 1, by omega, by go_num, HN, hbel2⟩
            case measure => simp [intOf]; omega
        · have hnew := hown2.out
          rw [naiveTo_rest hlt (ss[d].size + 1 - j) j (by omega) hjt] at hnew
          have HN : Hid (World.ownsRow _ _ _ _ _ _ _) := hnew
          clear hnew
          clear hown2
          go_wp2
          go_roundw
          case rel => exact ⟨d + 1, by omega, by go_num, HN, hbel2⟩
          case measure => simp [intOf]; omega
    · obtain rfl : d = ss.length := by omega
      go_wp2
      go_ret
      exact ⟨_, rfl, hown.out, hbel.out⟩

end Go.Proofs.YtcheclhiekdjmaaGreat
