/- Package back: Range, Count, Step. -/
import Derived.Test.YtcheclhiekdjmaaGreatBackC
namespace Go.Proofs.YtcheclhiekdjmaaGreat
open Go.RowKit Go.Sort

/-- what Range tells -/
def rangeB (xs : List Int) (p : ByteArray) : Nat × Nat := if colB xs then rangeN xs p.data.toList else (0, 0)

theorem rangeB_le (xs : List Int) (p : ByteArray) : (rangeB xs p).1 ≤ (rangeB xs p).2 ∧ (rangeB xs p).2 ≤ xs.length := by
  unfold rangeB
  split
  · exact range_le _ _
  · simp

theorem take_rev {p : ByteArray} {k : Nat} (h : k < p.size) : (p.data.toList.take (k + 1)).reverse = p[k] :: (p.data.toList.take k).reverse := by
  have h' : k < p.data.toList.length := h
  rw [List.take_succ_eq_append_getElem h', List.reverse_append]
  rfl

set_option maxRecDepth 100000 in
set_option maxHeartbeats 2000000 in
theorem range_any (p : ByteArray) (xs : List Int) (ao : Option Addr) (cap : Nat) (w : World) (hx : xs.length ≤ 1000000) (hp : p.size ≤ 9223372036854775807) (ha : HasInts w ao xs) :
    Calls Tryz.prog 7 #[.string p, .slice ao xs.length cap] w fun e w' => e = .returned (.tuple #[.int .i64 (rangeB xs p).1, .int .i64 (rangeB xs p).2]) ∧ Below w.heap.size w w' := by
  have t1 := bright_any xs ao cap w (by omega) ha
  cases hr : colB xs with
  | false =>
    have e : rangeB xs p = (0, 0) := by simp [rangeB, hr]
    rw [e]
    rw [hr] at t1
    have T1 : Hid (Calls _ _ _ _ _) := t1
    clear t1 ha hr e
    go_enter Tryz.func7, Tryz.ntmps7
    go_wp2_with (go_at_call 20; fail)
    refine (T1.out).mono ?_
    rintro e w1 ⟨rfl, hw⟩
    obtain rfl := hw.symm
    go_wp2
    go_ret2
    exact ⟨rfl, Below.refl _ _⟩
  | true =>
    have e : rangeB xs p = rangeN xs p.data.toList := by simp [rangeB, hr]
    rw [e]
    have T2 : Hid (Calls _ _ _ _ _) := columnOf_any xs ao cap w hx ha hr
    rw [hr] at t1
    have T1 : Hid (Calls _ _ _ _ _) := t1
    have HG0 : Hid (goN xs (p.data.toList.take p.size).reverse 0 xs.length = rangeN xs p.data.toList) := by
      show goN xs _ 0 xs.length = goN xs _ 0 xs.length
      rw [List.take_of_length_le (show p.data.toList.length ≤ p.size from Nat.le_refl _)]
    clear t1 ha hr e
    generalize rangeN xs p.data.toList = RES at *
    go_enter Tryz.func7, Tryz.ntmps7
    go_wp2_with (go_at_call 20; fail)
    refine (T1.out).mono ?_
    rintro e w1 ⟨rfl, hw⟩
    obtain rfl := hw.symm
    go_wp2_with (go_at_call 21; fail)
    refine (T2.out).mono ?_
    rintro e w2 ⟨g, N, rfl, hcol, hb2⟩
    have T3 : Hid (∀ (b : UInt8) (i n : Nat), Calls Tryz.prog 23 #[.pointer (some ⟨g, 0, none⟩), .int .i64 ((b.toNat : Int) + 1), .int .i64 i] (w2.drewN n) fun e w' => e = .returned (.int .i64 (lowN xs (symU b) i : Nat)) ∧ ∃ q, w' = (w2.drewN n).drewN q) := fun b i n => by
      have hb := b.toNat_lt
      have t := clonger_any xs g N (b.toNat + 1) i (w2.drewN n) hx (by omega) (hcol.drewN n)
      exact t
    have HB2 : Hid (Below w.heap.size w w2) := hb2
    clear T1 T2 hcol hb2
    go_wp2
    go_loopw [7, 8, 9] (fun a b q wr => ∃ m lo hi n : Nat, m ≤ p.size ∧ q = .int .i64 ((m : Int) - 1) ∧ a = .int .i64 lo ∧ b = .int .i64 hi ∧ lo ≤ xs.length ∧ hi ≤ xs.length ∧ Hid (goN xs (p.data.toList.take m).reverse lo hi = RES) ∧ wr = w2.drewN n) (fun _ _ q _ => (intOf q + 1).toNat)
    case atStart => exact ⟨p.size, 0, xs.length, 0, Nat.le_refl _, rfl, rfl, rfl, Nat.zero_le _, Nat.le_refl _, HG0, rfl⟩
    case round =>
      obtain ⟨m, lo, hi, n, hm, rfl, rfl, rfl, hlo, hhi, hgo, rfl⟩ := hrel
      by_cases h0 : m = 0
      · subst h0
        have hres : RES = (lo, hi) := by have := hgo.out; simp [goN] at this; exact this.symm
        subst hres
        have HB3 : Hid (Below w.heap.size w (w2.drewN n)) := below_drewN HB2.out n
        clear hgo HG0
        go_wp2
        go_ret2
        exact ⟨rfl, HB3.out⟩
      · obtain ⟨k, rfl⟩ : ∃ k, m = k + 1 := ⟨m - 1, by omega⟩
        have hk : k < p.size := by omega
        have ek : ((k + 1 : Nat) : Int) - 1 = (k : Int) := by omega
        rw [ek]
        have hgo' := hgo.out
        rw [take_rev hk] at hgo'
        have hb255 : (p[k].toNat : Int) ≤ 255 := by have := p[k].toNat_lt; omega
        have T4 : Hid (∀ W, _) := fun W => of_any (p[k].toNat : Int) W (by omega) hb255
        have t3 := T3.out p[k]
        have hl1 := low_le xs (symU p[k]) lo
        have hl2 := low_le xs (symU p[k]) hi
        have T5 : Hid (∀ n, _) := t3 lo
        have T6 : Hid (∀ n, _) := t3 hi
        clear t3 T3 ek hgo HG0
        by_cases hc : lowN xs (symU p[k]) lo < lowN xs (symU p[k]) hi
        · rw [goN, if_pos hc] at hgo'
          have HG : Hid (_ = _) := hgo'
          clear hgo'
          generalize lowN xs (symU p[k]) lo = L at *
          generalize lowN xs (symU p[k]) hi = H at *
          go_wp2_with (go_at_call 22; fail)
          refine (T4.out _).mono ?_
          rintro e w3 ⟨rfl, rfl⟩
          go_wp2_with (go_at_call 23; fail)
          with_reducible refine (T5.out _).mono ?_
          rintro e w4 ⟨rfl, q1, hw4⟩
          rw [World.drewN_drewN] at hw4
          subst hw4
          go_wp2_with (go_at_call 23; fail)
          with_reducible refine (T6.out _).mono ?_
          rintro e w5 ⟨rfl, q2, hw5⟩
          rw [World.drewN_drewN] at hw5
          subst hw5
          clear T4 T5 T6
          go_wp2
          go_roundw
          case rel => exact ⟨k, L, H, _, by omega, by go_num, rfl, rfl, hl1, hl2, HG, rfl⟩
          case measure => simp [intOf]
        · rw [goN, if_neg hc] at hgo'
          subst hgo'
          generalize lowN xs (symU p[k]) lo = L at *
          generalize lowN xs (symU p[k]) hi = H at *
          go_wp2_with (go_at_call 22; fail)
          refine (T4.out _).mono ?_
          rintro e w3 ⟨rfl, rfl⟩
          go_wp2_with (go_at_call 23; fail)
          with_reducible refine (T5.out _).mono ?_
          rintro e w4 ⟨rfl, q1, hw4⟩
          rw [World.drewN_drewN] at hw4
          subst hw4
          go_wp2_with (go_at_call 23; fail)
          with_reducible refine (T6.out _).mono ?_
          rintro e w5 ⟨rfl, q2, hw5⟩
          rw [World.drewN_drewN] at hw5
          subst hw5
          have HB3 : Hid (Below w.heap.size w (w2.drewN (n + q1 + q2))) := below_drewN HB2.out _
          clear T4 T5 T6
          go_wp2
          go_ret2
          exact ⟨rfl, HB3.out⟩

/-! ### Count -/

/-- what Count tells -/
def countB (xs : List Int) (p : ByteArray) : Int := ((rangeB xs p).2 : Int) - ((rangeB xs p).1 : Int)

set_option maxHeartbeats 1000000 in
theorem count_any (p : ByteArray) (xs : List Int) (ao : Option Addr) (cap : Nat) (w : World) (hx : xs.length ≤ 1000000) (hp : p.size ≤ 9223372036854775807) (ha : HasInts w ao xs) :
    Calls Tryz.prog 13 #[.string p, .slice ao xs.length cap] w fun e w' => e = .returned (.int .i64 (countB xs p)) ∧ Below w.heap.size w w' := by
  have T : Hid (Calls _ _ _ _ _) := range_any p xs ao cap w hx hp ha
  obtain ⟨h1, h2⟩ := rangeB_le xs p
  unfold countB
  clear ha
  generalize (rangeB xs p).1 = L at *
  generalize (rangeB xs p).2 = H at *
  go_enter Tryz.func13, Tryz.ntmps13
  go_wp2_with (go_at_call 7; fail)
  refine (T.out).mono ?_
  rintro e w1 ⟨rfl, hb⟩
  go_wp2
  go_ret
  exact ⟨rfl, hb⟩

/-! ### Step -/

/-- what Step tells of one end -/
def stepB (xs : List Int) (s i : Int) : Nat := if 1 ≤ s ∧ s < 257 then befB xs s + rankB xs s i else 0

theorem befB_le (xs : List Int) (s : Int) : befB xs s ≤ xs.length := by
  unfold befB
  split
  · exact bef_le _ _
  · omega

theorem rankB_le (xs : List Int) (s i : Int) : rankB xs s i ≤ xs.length := by
  unfold rankB
  split
  · exact Nat.le_trans (rank_le _ _ _) (cutI_le _ _)
  · omega

set_option maxRecDepth 100000 in
set_option maxHeartbeats 1000000 in
theorem step_any (s lo hi : Int) (xs : List Int) (ao : Option Addr) (cap : Nat) (w : World) (hx : xs.length ≤ 1000000) (hc : xs.length ≤ cap) (ha : HasInts w ao xs) :
    Calls Tryz.prog 9 #[.int .i64 s, .int .i64 lo, .int .i64 hi, .slice ao xs.length cap] w fun e w' => e = .returned (.tuple #[.int .i64 (stepB xs s lo : Nat), .int .i64 (stepB xs s hi : Nat)]) ∧ Ext w w' := by
  by_cases h1 : 1 ≤ s
  · by_cases h2 : s < 257
    · have e1 : stepB xs s lo = befB xs s + rankB xs s lo := by simp [stepB, h1, h2]
      have e2 : stepB xs s hi = befB xs s + rankB xs s hi := by simp [stepB, h1, h2]
      rw [e1, e2, Int.natCast_add, Int.natCast_add]
      have T1 : Hid (Calls _ _ _ _ _) := before_any xs ao cap s w hx ha
      have T2 : Hid (∀ i W, HasInts W ao xs → _) := fun i W h => rank_any xs ao cap s i W hx hc h
      have HA : Hid (HasInts w ao xs) := ha
      have hb1 := befB_le xs s
      have hr1 := rankB_le xs s lo
      have hr2 := rankB_le xs s hi
      have T3 : Hid (∀ W, HasInts W ao xs → _) := T2.out lo
      have T4 : Hid (∀ W, HasInts W ao xs → _) := T2.out hi
      clear e1 e2 ha T2
      generalize befB xs s = B at *
      generalize rankB xs s lo = R1 at *
      generalize rankB xs s hi = R2 at *
      go_enter Tryz.func9, Tryz.ntmps9
      go_wp2_with (go_at_call 25; fail)
      with_reducible refine (T1.out).mono ?_
      rintro e w1 ⟨rfl, hE1⟩
      go_wp2_with (go_at_call 26; fail)
      with_reducible refine (T3.out _ (HA.out.ext hE1)).mono ?_
      rintro e w2 ⟨rfl, hE2⟩
      have hE3 := hE1.trans hE2
      go_wp2_with (go_at_call 26; fail)
      with_reducible refine (T4.out _ (HA.out.ext hE3)).mono ?_
      rintro e w3 ⟨rfl, hE4⟩
      have HE : Hid (Ext w w3) := hE3.trans hE4
      clear hE1 hE2 hE3 hE4 T1 T3 T4
      go_wp2
      go_ret2
      exact ⟨rfl, HE.out⟩
    · have e : ∀ i, stepB xs s i = 0 := fun i => by simp [stepB]; omega
      rw [e, e]
      clear ha e
      go_enter Tryz.func9, Tryz.ntmps9
      go_wp2
      go_ret2
      exact ⟨rfl, Ext.refl _⟩
  · have e : ∀ i, stepB xs s i = 0 := fun i => by simp [stepB]; omega
    rw [e, e]
    clear ha e
    go_enter Tryz.func9, Tryz.ntmps9
    go_wp2
    go_ret2
    exact ⟨rfl, Ext.refl _⟩

end Go.Proofs.YtcheclhiekdjmaaGreat
