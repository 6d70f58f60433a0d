/- The document's own Text, walked; numbers lent with a mark behind them, and that they stay. -/
import Derived.Test.YtimofcbfkblmkaaGreatBwtR
namespace Go.Proofs.YtimofcbfkblmkaaGreat
open Go.RowKit Go.Sort

theorem conv_one (b : UInt8) (w : World) (x : Int) (hx : x = b.toNat) :
    (convert 62 9 (.slice (some ⟨w.heap.size, 0, none⟩) 1 1)).run Tryz.prog (w.alloc (.cells #[.int .u8 x] 5)) = .ok (.string ⟨#[b]⟩) (w.alloc (.cells #[.int .u8 x] 5)) := by
  subst hx
  exact conv_bytes [b] 1 1 w.heap.size w rfl rfl

theorem front_text {b : UInt8} {S : ByteArray} {acc : List UInt8} (h : S.data.toList = acc) : ((⟨#[b]⟩ : ByteArray) ++ S).data.toList = b :: acc := by
  obtain ⟨a⟩ := S
  simp at h
  subst h
  simp

theorem text_of {S : ByteArray} {acc : List UInt8} (h : S.data.toList = acc) : S = ⟨acc.toArray⟩ := by
  obtain ⟨a⟩ := S
  simp at h
  subst h
  simp

set_option maxRecDepth 100000 in
set_option maxHeartbeats 2000000 in
theorem refText_any (xs : List Int) (ao : Option Addr) (cap : Nat) (doc : Int) (w : World) (hx : xs.length ≤ 100000) (ha : HasInts w ao xs) :
    Calls Tryz.prog 10 #[.int .i64 doc, .slice ao xs.length cap] w fun e w' => e = .returned (.tuple #[.string ⟨((textB xs doc).getD []).toArray⟩, .bool (textB xs doc).isSome]) ∧ Below w.heap.size w w' := by
  have t1 := refColumn_any xs ao cap w (by omega) ha
  by_cases hr : colB xs = true
  · rw [hr] at t1
    have t2 := refRank_any xs ao cap 0 (xs.length : Int) w (by omega) ha
    rw [rankB_zeros hr] at t2
    by_cases h1 : 0 ≤ doc
    · by_cases h2 : doc < zerosN xs
      · obtain ⟨d, rfl⟩ := Int.eq_ofNat_of_zero_le h1
        have e : textB xs (d : Int) = readN xs xs.length d [] := by simp only [textB, hr, h1, h2]; simp
        have hd : d < xs.length := by have := zeros_le xs; omega
        obtain ⟨RES, hRES⟩ : ∃ RES, readN xs xs.length d [] = RES := ⟨_, rfl⟩
        rw [e, hRES]
        have HREAD : Hid (readN xs (xs.length - ([] : List UInt8).length) d [] = RES) := hRES
        have HCOL : Hid (∀ k (hk : k < xs.length), 0 ≤ xs[k] ∧ xs[k] < 257) := fun k hk => col_at hr hk
        have TN : Hid (∀ (k : Nat) (hk : k < xs.length) W, xs[k] ≠ 0 → HasInts W ao xs → Calls Tryz.prog 12 #[.int .i64 (k : Nat), .slice ao xs.length cap] W fun e w' => e = .returned (.tuple #[.int .i64 (lfN xs k : Nat), .bool true]) ∧ Ext W w') := fun k hk W hz h => by
          have t := refNext_any xs ao cap (k : Int) W (by omega) h
          have e : nextOk xs (k : Int) = true := by
            simp only [nextOk, hr, Bool.true_and, decide_eq_true_eq, Int.toNat_natCast, getD_at hk]
            exact ⟨by omega, by omega, hz⟩
          have e2 : nextV xs (k : Int) = (lfN xs k : Nat) := by rw [nextV, e, if_pos rfl, Int.toNat_natCast]
          rw [e2, e] at t
          exact t
        have T1 : Hid (Calls _ _ _ _ _) := t1
        have T2 : Hid (Calls _ _ _ _ _) := t2
        have HA : Hid (HasInts w ao xs) := ha
        clear t1 t2 ha hr e hRES
        generalize zerosN xs = Z at *
        have hg1 : decide ((d : Int) < 0) = false := decide_eq_false (by omega)
        have hg2 : decide (Z ≤ d) = false := decide_eq_false (by omega)
        clear h1 h2
        go_enter Tryz.func10, Tryz.ntmps10
        go_wp2_with (go_at_call 15; fail)
        refine (T1.out).mono ?_
        rintro e w1 ⟨rfl, hw⟩
        obtain rfl := hw.symm
        go_wp2_with (go_at_call 17; fail)
        refine (T2.out).mono ?_
        rintro e w1 ⟨rfl, hw⟩
        obtain rfl := hw.symm
        clear T1 T2
        go_wp2
        clear hg1 hg2
        go_loopw [6, 7, 8] (fun s a q wr => ∃ (k R : Nat) (acc : List UInt8) (S : ByteArray), k ≤ xs.length + 1 ∧ q = .int .i64 k ∧ s = .string S ∧ a = .int .i64 (R : Nat) ∧ R < xs.length ∧ S.size = k ∧ Hid (S.data.toList = acc) ∧ Hid (acc.length = k) ∧ Hid (k ≤ xs.length → readN xs (xs.length - acc.length) R acc = RES) ∧ Hid (k = xs.length + 1 → RES = none) ∧ Hid (Below w.heap.size w wr)) (fun _ _ q _ => xs.length + 1 - (intOf q).toNat)
        case atStart => exact ⟨0, d, [], ⟨#[]⟩, Nat.zero_le _, rfl, rfl, rfl, hd, rfl, rfl, rfl, fun _ => HREAD.out, fun h => by omega, Below.refl _ _⟩
        case round =>
          obtain ⟨k, R, acc, S, hk, rfl, rfl, rfl, hR, hsk, hS, hal, hrd, hnn, hbel⟩ := hrel
          by_cases hlt : k ≤ xs.length
          · obtain ⟨g, o, rfl, hc⟩ := (HA.out.later hbel.out).at hR
            obtain ⟨hx0, hx1⟩ := HCOL.out R hR
            have hI1 : (k : Int) ≤ (xs.length : Int) := by omega
            have hI2 : (R : Int) < (xs.length : Int) := by omega
            by_cases hz : xs[R] = 0
            · have hres : some acc = RES := by rw [← hrd.out hlt, readN_zero (by rw [getD_at hR]; exact hz)]
              subst hres
              rw [hz] at hc
              have hSS := text_of hS.out
              subst hSS
              clear hz hrd hnn
              go_wp2
              go_ret2
              exact ⟨rfl, hbel.out⟩
            · have T : Hid (∀ W, HasInts W (some ⟨g, o, none⟩) xs → _) := fun W h => TN.out R hR W hz h
              have hbv := byteI_val hx0 hx1 hz
              have hb1 : xs[R] - 1 = ((byteI xs[R]).toNat : Int) := by
                unfold encB at hbv
                simp only [Value.int.injEq, true_and] at hbv
                exact hbv.symm
              have hcv := conv_one (byteI xs[R]) wr (xs[R] - 1) hb1
              have hlf := lf_lt hR
              have hqq : (xs[R] == 0) = false := by simpa using hz
              have hwu : IntKind.u8.wrap (xs[R] - 1) = xs[R] - 1 := IntWalk.u8_in _ (by omega)
              have HNX : Hid (k + 1 ≤ xs.length → readN xs (xs.length - (byteI xs[R] :: acc).length) (lfN xs R) (byteI xs[R] :: acc) = RES) := fun h => by
                obtain ⟨m, hm⟩ : ∃ m, xs.length - acc.length = m + 1 := ⟨xs.length - acc.length - 1, by have := hal.out; omega⟩
                rw [← hrd.out hlt, hm, show xs.length - (byteI xs[R] :: acc).length = m by simp; omega]
                simp only [readN, getD_at hR]
                rw [if_neg hz]
              have HNN : Hid (k + 1 = xs.length + 1 → RES = none) := fun h => by
                rw [← hrd.out hlt, hal.out, show xs.length - k = 0 by omega]
                simp only [readN, getD_at hR]
                rw [if_neg hz]
              have HNS : Hid (((⟨#[byteI xs[R]]⟩ : ByteArray) ++ S).data.toList = byteI xs[R] :: acc) := front_text hS.out
              have hns : ((⟨#[byteI xs[R]]⟩ : ByteArray) ++ S).size = k + 1 := by
                rw [ByteArray.size_append]
                show 1 + S.size = k + 1
                omega
              have HNL : Hid ((byteI xs[R] :: acc).length = k + 1) := by show _ = _; rw [List.length_cons, hal.out]
              have hss : (⟨#[byteI xs[R]]⟩ : ByteArray).size = 1 := rfl
              have hsum : (⟨#[byteI xs[R]]⟩ : ByteArray).size + S.size ≤ 9223372036854775807 := by rw [hss]; omega
              have HAx : Hid (HasInts wr (some ⟨g, o, none⟩) xs) := HA.out.later hbel.out
              clear hbv hz hrd hnn hS hal
              have HB1 : Hid (_ = _) := hb1
              have HNSZ : Hid (_ = _) := hns
              clear hb1 hns hss
              generalize byteI xs[R] = b at *
              generalize xs[R] = x at *
              generalize lfN xs R = N at *
              go_wp2_with (go_at_call 12; fail)
              refine (T.out _ (HAx.out.later (below_alloc (Below.refl _ _) _))).mono ?_
              rintro e w5 ⟨rfl, hE5⟩
              have HB5 : Hid (Below w.heap.size w w5) := below_next (below_alloc hbel.out _) hE5.below
              clear hE5 T hcv
              go_wp2
              go_roundw
              case rel => exact ⟨k + 1, N, b :: acc, ⟨#[b]⟩ ++ S, by omega, by go_num, rfl, rfl, hlf, HNSZ.out, HNS, HNL, HNX, HNN, HB5⟩
              case measure => simp [intOf]; omega
          · obtain rfl : k = xs.length + 1 := by omega
            have hres := hnn.out rfl
            subst hres
            clear hnn hrd
            have hI1 : (xs.length : Int) < ((xs.length + 1 : Nat) : Int) := by omega
            go_wp2
            go_ret2
            exact ⟨rfl, hbel.out⟩
      · have e : textB xs doc = none := by simp [textB, hr]; omega
        rw [e]
        have T1 : Hid (Calls _ _ _ _ _) := t1
        have T2 : Hid (Calls _ _ _ _ _) := t2
        clear t1 t2 ha hr e
        generalize zerosN xs = Z at *
        go_enter Tryz.func10, Tryz.ntmps10
        go_wp2_with (go_at_call 15; fail)
        refine (T1.out).mono ?_
        rintro e w1 ⟨rfl, hw⟩
        obtain rfl := hw.symm
        go_wp2_with (go_at_call 17; fail)
        refine (T2.out).mono ?_
        rintro e w1 ⟨rfl, hw⟩
        obtain rfl := hw.symm
        go_wp2
        go_ret2
        exact ⟨rfl, Below.refl _ _⟩
    · have e : textB xs doc = none := by simp [textB, hr]; omega
      rw [e]
      have T1 : Hid (Calls _ _ _ _ _) := t1
      clear t1 t2 ha hr e
      go_enter Tryz.func10, Tryz.ntmps10
      go_wp2_with (go_at_call 15; fail)
      refine (T1.out).mono ?_
      rintro e w1 ⟨rfl, hw⟩
      obtain rfl := hw.symm
      go_wp2
      go_ret2
      exact ⟨rfl, Below.refl _ _⟩
  · have hr' : colB xs = false := by simpa using hr
    have e : textB xs doc = none := by simp [textB, hr']
    rw [e]
    rw [hr'] at t1
    have T1 : Hid (Calls _ _ _ _ _) := t1
    clear t1 ha hr hr' e
    go_enter Tryz.func10, Tryz.ntmps10
    go_wp2_with (go_at_call 15; fail)
    refine (T1.out).mono ?_
    rintro e w1 ⟨rfl, hw⟩
    obtain rfl := hw.symm
    go_wp2
    go_ret2
    exact ⟨rfl, Below.refl _ _⟩

/-! ### Lent -/

theorem copyInts_any (xs : List Int) (ao : Option Addr) (cap : Nat) (w : World) (hx : xs.length ≤ 1000) (ha : HasInts w ao xs) (hn : ao = none → xs.length = 0 ∧ cap = 0) :
    Calls Tryz.prog 24 #[.slice ao xs.length cap] w fun e w' => ∃ v, e = .returned v ∧ w'.ownsRow w.heap.size 3 1 v xs.length (xs.map (Value.int .i64)) ∧ Below w.heap.size w w' := by
  go_enter Tryz.func24, Tryz.ntmps24
  go_wp2_with (at_builtin; refine wpList_append_src _ rfl (.const (.slice none 0 0)) (.tmp 3) 22 rfl Tryz.elemIntR w.heap.size _ 0 [] (by rfl) (World.ownsRow_nil _ _ _ _) ao xs.length cap (xs.map (Value.int .i64)) (by rfl) hn (by simp) ha.cells (ints_one _) (by unfold maxLen; omega) (by omega) (Nat.le_refl _) ?_; intro v1 w1 hown1 hgrow1 _ _; rw [List.nil_append, Nat.zero_add] at hown1)
  go_ret
  exact ⟨_, rfl, hown1, grown_below hgrow1 (Nat.le_refl _) (fun g hg => by simp [Value.ownBlock] at hg)⟩

theorem lentI_shape {w : World} {B : Nat} {v : Value} {xs : List Int} (h : w.ownsRow B 3 1 v (xs.length + 1) (xs.map (Value.int .i64) ++ [.int .i64 (-77)])) :
    ∃ g c, v = .slice (some ⟨g, 0, none⟩) (xs.length + 1) c ∧ B ≤ g ∧ xs.length + 1 ≤ c ∧ c ≤ 9223372036854775807 ∧ HasInts w (some ⟨g, 0, none⟩) (xs ++ [-77]) := by
  rcases h.2 with ⟨_, h0⟩ | ⟨g, cap, cur, rfl, hb, hg, hnc, hcm, hcs, htake⟩
  · omega
  · obtain ⟨a', c', e', hcells, -, -, -⟩ := owns_cells h
    cases e'
    have e : xs.map (Value.int .i64) ++ [.int .i64 (-77)] = (xs ++ [-77]).map (Value.int .i64) := by simp
    rw [e] at hcells
    exact ⟨g, cap, rfl, hb, hnc, hcm, HasInts.of_cells hcells⟩

set_option maxHeartbeats 400000 in
theorem lentInts_any (xs : List Int) (ao : Option Addr) (cap : Nat) (w : World) (hx : xs.length ≤ 1000) (ha : HasInts w ao xs) (hn : ao = none → xs.length = 0 ∧ cap = 0) :
    Calls Tryz.prog 5 #[.slice ao xs.length cap] w fun e w' => ∃ g c, e = .returned (.slice (some ⟨g, 0, none⟩) xs.length c) ∧ xs.length + 1 ≤ c ∧ c ≤ 9223372036854775807 ∧ HasInts w' (some ⟨g, 0, none⟩) (xs ++ [-77]) ∧ w.heap.size ≤ g ∧ Below w.heap.size w w' := by
  have T1 : Hid (Calls _ _ _ _ _) := copyInts_any xs ao cap w hx ha hn
  clear ha hn
  go_enter Tryz.func5, Tryz.ntmps5
  go_wp2_with (go_at_call 24; fail)
  refine (T1.out).mono ?_
  rintro e w1 ⟨v1, rfl, hown1, hb1⟩
  have hsz := hb1.size
  go_wp2_with (at_builtin; refine wpList_append_src _ rfl (.tmp 4) (.tmp 5) 22 rfl Tryz.elemIntR w.heap.size v1 xs.length (xs.map (Value.int .i64)) (by rfl) (hown1.alloc _) (some ⟨w1.heap.size, 0, none⟩) 1 1 [.int .i64 (-77)] (by rfl) (fun h => nomatch h) rfl (cells_new _ _ _ _ rfl) (ints_one [_]) (by unfold maxLen; omega) (by omega) (by simp; omega) ?_; intro v2 w2 hown2 hgrow2 _ _; obtain ⟨g2, c2, rfl, hbg, hc, hm, htk⟩ := lentI_shape hown2)
  have hb2 := (hb1.alloc hsz (.cells #[.int .i64 (-77)] 3)).grown hgrow2 (by simp; omega) (fun g hg => (hown1.lt g hg).1)
  go_ret
  exact ⟨_, _, rfl, hc, hm, htk, hbg, hb2⟩

set_option maxHeartbeats 400000 in
theorem staysInts_any (xs : List Int) (g c : Nat) (bo : Option Addr) (cb : Nat) (w : World) (hx : xs.length ≤ 1000) (hc : xs.length + 1 ≤ c) (ha : HasInts w (some ⟨g, 0, none⟩) (xs ++ [-77])) (hb : HasInts w bo xs) :
    Calls Tryz.prog 22 #[.slice (some ⟨g, 0, none⟩) xs.length c, .slice bo xs.length cb] w fun e w' => e = .returned (.bool true) ∧ ∃ n, w' = w.drewN n := by
  have ha1 : HasInts w (some ⟨g, 0, none⟩) xs := by
    have h := ha.cells
    rw [List.map_append] at h
    exact HasInts.of_cells h.left
  obtain ⟨g', o', e', hm⟩ := ha.at (j := xs.length) (by simp)
  cases e'
  simp only [Nat.zero_add, List.getElem_concat_length] at hm
  have T1 : Hid (Calls _ _ _ _ _) := same_eq xs (some ⟨g, 0, none⟩) bo xs.length xs.length c cb w rfl rfl (by omega) ha1 hb
  clear ha hb ha1
  go_enter Tryz.func22, Tryz.ntmps22
  go_wp2_with (go_at_call 35; fail)
  refine (T1.out).mono ?_
  rintro e w1 ⟨rfl, n, rfl⟩
  go_wp2
  go_ret
  exact ⟨rfl, n, rfl⟩

end Go.Proofs.YtimofcbfkblmkaaGreat
