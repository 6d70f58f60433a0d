/- The contracts of the document's own answer for a turn. -/
import Derived.Test.YtfajenfdcpepjaaFirst
namespace Go.Proofs.Ytfajenfdcpepjaa
open Go.RowKit

theorem order_zero (n : Int) (hv : n.natAbs < 2 ^ 53) (h : n ≠ 0) : (FloatKind.f64.format.order (fl n) 0 == some .eq) = false := by
  show (Ieee.double.order (fl n) 0 == some .eq) = false
  have ho := order_fl n 0 hv (by decide)
  rw [fl_zero] at ho
  rw [ho]
  rcases Int.lt_trichotomy n 0 with g | g | g
  · simp [compare, compareOfLessAndEq, g]
  · contradiction
  · have : ¬ n < 0 := by omega
    simp [compare, compareOfLessAndEq, this, h]

theorem neg_any (n : Int) (w : World) (hv : n.natAbs < 2 ^ 53) :
    Calls Try.prog 61 #[.float .f64 (fl n)] w fun e w' => e = .returned (.float .f64 (fl (-n))) ∧ w' = w := by
  have hneg := run_neg_float
  by_cases h : n = 0
  · subst h
    have ho := order_zz
    rw [Int.neg_zero, fl_zero]
    go_enter Try.func61, Try.ntmps61
    go_wp2
    go_ret
    exact ⟨rfl, rfl⟩
  · have ho := order_zero n hv h
    have hn := neg_fl n h hv
    generalize fl (-n) = y at *
    generalize fl n = x at *
    go_enter Try.func61, Try.ntmps61
    go_wp2
    go_ret
    exact ⟨rfl, rfl⟩

theorem plus_any (n : Int) (w : World) (hv : n.natAbs < 2 ^ 53) :
    Calls Try.prog 60 #[.float .f64 (fl n)] w fun e w' => e = .returned (.float .f64 (fl n)) ∧ w' = w := by
  by_cases h : n = 0
  · subst h
    have ho := order_zz
    rw [fl_zero]
    go_enter Try.func60, Try.ntmps60
    go_wp2
    go_ret
    exact ⟨rfl, rfl⟩
  · have ho := order_zero n hv h
    generalize fl n = x at *
    go_enter Try.func60, Try.ntmps60
    go_wp2
    go_ret
    exact ⟨rfl, rfl⟩

theorem rem_twice (n : Int) : ((n.tmod 4) + 4).tmod 4 = n % 4 := by
  have h1 : n.tmod 4 = n % 4 ∨ n.tmod 4 = n % 4 - 4 := by
    rw [Int.tmod_eq_emod]
    split
    · left; omega
    · right; rfl
  rw [Int.tmod_eq_emod_of_nonneg (by omega)]
  omega

theorem refturn_any (a b n : Int) (w : World) (ha : a.natAbs < 2 ^ 53) (hb : b.natAbs < 2 ^ 53) :
    Calls Try.prog 23 #[.complex .f64 (fl a) (fl b), .int .i64 n] w fun e w' => e = .returned (.complex .f64 (fl (turnX a b n)) (fl (turnY a b n))) ∧ w' = w := by
  have hrem := rem_twice n
  have hp1 := fun w => plus_any a w ha
  have hp2 := fun w => plus_any b w hb
  have H1 : Hid (∀ w, _) := hp1
  have H2 : Hid (∀ w, _) := hp2
  have hx : turnX a b n = turnX a b (n % 4) := by simp [turnX]
  have hy : turnY a b n = turnY a b (n % 4) := by simp [turnY]
  have hm0 : 0 ≤ n % 4 := by omega
  have hm3 : n % 4 ≤ 3 := by omega
  rw [hx, hy]
  have zx := turnX_zero a b
  have zy := turnY_zero a b
  have hwr : wrap64 (n.tmod 4 + 4) = n.tmod 4 + 4 := by
    have h1 : n.tmod 4 = n % 4 ∨ n.tmod 4 = n % 4 - 4 := by
      rw [Int.tmod_eq_emod]
      split
      · left; omega
      · right; rfl
    unfold wrap64
    omega
  clear hp1 hp2 hx hy
  generalize n % 4 = m at *
  obtain ⟨M, rfl⟩ := Int.eq_ofNat_of_zero_le hm0
  go_enter Try.func23, Try.ntmps23
  go_wp2_with (first | (go_at_call 60; refine (H1.out _).mono ?_; rintro e w' ⟨rfl, hw⟩; obtain rfl := hw.symm) | (go_at_call 60; refine (H2.out _).mono ?_; rintro e w' ⟨rfl, hw⟩; obtain rfl := hw.symm))
  clear hwr
  go_loopw [5, 6, 7] (fun x y i wr => ∃ k : Nat, k ≤ M ∧ x = .float .f64 (fl (turnX a b (M - k))) ∧ y = .float .f64 (fl (turnY a b (M - k))) ∧ i = .int .i64 k ∧ wr = w) (fun _ _ i _ => (intOf i).toNat)
  case atStart => exact ⟨M, Nat.le_refl _, by rw [Int.sub_self, zx], by rw [Int.sub_self, zy], rfl, rfl⟩
  case round =>
    obtain ⟨k, hk, rfl, rfl, rfl, rfl⟩ := hrel
    by_cases hlt : 0 < k
    · obtain ⟨j, rfl⟩ : ∃ j, k = j + 1 := ⟨k - 1, by omega⟩
      have hl := turn_lt a b ((M : Int) - ((j + 1 : Nat) : Int)) (2 ^ 53) ha hb
      have hng := fun w => neg_any _ w hl.2
      have HN : Hid (∀ w, _) := hng
      have ex : turnX a b ((M : Int) - j) = -(turnY a b ((M : Int) - ((j + 1 : Nat) : Int))) := by
        rw [show (M : Int) - j = ((M : Int) - ((j + 1 : Nat) : Int)) + 1 by omega, ← turnX_turn]
        simp [turnX]
      have ey : turnY a b ((M : Int) - j) = turnX a b ((M : Int) - ((j + 1 : Nat) : Int)) := by
        rw [show (M : Int) - j = ((M : Int) - ((j + 1 : Nat) : Int)) + 1 by omega, ← turnY_turn]
        simp [turnY]
      rw [← ex] at HN
      have E1 : Hid (turnY a b ((M : Int) - j) = turnX a b ((M : Int) - ((j + 1 : Nat) : Int))) := ey
      clear ex ey hng hl zx zy hrem
      generalize hx1 : fl (turnX a b ((M : Int) - ((j + 1 : Nat) : Int))) = x1 at *
      generalize fl (turnY a b ((M : Int) - ((j + 1 : Nat) : Int))) = y1 at *
      generalize hx0 : fl (turnX a b ((M : Int) - (j : Int))) = x0 at *
      have X1 : Hid (_ = x1) := hx1
      have X0 : Hid (_ = x0) := hx0
      clear hx1 hx0
      go_wp2_with (go_at_call 61; refine (HN.out _).mono ?_; rintro e w' ⟨rfl, hw⟩; obtain rfl := hw.symm)
      go_roundw
      case rel => exact ⟨j, by omega, by rw [X0.out], by rw [E1.out, X1.out], by go_num, by first | rfl | trivial⟩
      case measure => simp [intOf]
    · obtain rfl : k = 0 := by omega
      go_wp2
      go_ret
      exact ⟨by first | rfl | simp, by first | rfl | trivial⟩

end Go.Proofs.Ytfajenfdcpepjaa
