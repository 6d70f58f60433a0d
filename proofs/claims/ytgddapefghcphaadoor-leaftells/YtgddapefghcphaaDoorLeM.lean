/- Leaves, plainly: their bits, put in, taken out, in two, together. -/
import Derived.Test.YtgddapefghcphaaDoorLSh
import Derived.Test.YtgddapefghcphaaDoorBitL
namespace Go.Proofs.YtgddapefghcphaaDoor
open Go.RowKit

theorem del_ins (x j : Nat) (b : Bool) : delN (insN x j b) j = x := by
  apply Nat.eq_of_testBit_eq
  intro i
  rw [delN_test, insN_test, insN_test]
  by_cases h : i < j
  · rw [if_pos h, if_pos h]
  · rw [if_neg h, if_neg (by omega), if_neg (by omega)]
    rfl

theorem parts_join (x k : Nat) : x % 2 ^ k ||| x / 2 ^ k * 2 ^ k = x := by
  apply Nat.eq_of_testBit_eq
  intro i
  rw [join_test (Nat.mod_lt _ (Nat.two_pow_pos k)), div_test, Nat.testBit_mod_two_pow]
  by_cases h : i < k
  · simp [h]
  · rw [if_neg h]
    congr 1
    omega

theorem join_low {x y n : Nat} (hx : x < 2 ^ n) : (x ||| y * 2 ^ n) % 2 ^ n = x := by
  apply Nat.eq_of_testBit_eq
  intro i
  rw [Nat.testBit_mod_two_pow, join_test hx]
  by_cases h : i < n
  · simp [h]
  · rw [test_small hx (by omega)]
    simp [h]

theorem join_high {x y n : Nat} (hx : x < 2 ^ n) : (x ||| y * 2 ^ n) / 2 ^ n = y := by
  apply Nat.eq_of_testBit_eq
  intro i
  rw [div_test, join_test hx, if_neg (by omega)]
  congr 1
  omega

theorem pop_join {x y n m : Nat} (hx : x < 2 ^ n) : popN (n + m) (x ||| y * 2 ^ n) = popN n x + popN m y := by
  rw [popN_add, join_high hx]
  congr 1
  exact popN_congr n fun j hj => by rw [join_test hx, if_pos hj]

theorem pop_parts {x n k : Nat} (hk : k ≤ n) : popN k (x % 2 ^ k) + popN (n - k) (x / 2 ^ k) = popN n x := by
  rw [show popN n x = popN (k + (n - k)) x by rw [Nat.add_sub_cancel' hk], popN_add]
  congr 1
  exact popN_congr k fun j hj => by rw [Nat.testBit_mod_two_pow]; simp [hj]

theorem clamp_over {i : Int} {n : Nat} (h : (n : Int) ≤ i) : clampN i n = n := by
  unfold clampN
  rw [if_neg (by omega)]
  split
  · rfl
  · omega

theorem get_in {x n j : Nat} (hx : x < 2 ^ n) (hn : n ≤ 64) (hj : j < n) : getB x (n : Nat) (j : Nat) = x.testBit j := by
  unfold getB
  rw [has_of hn hx hj]
  rfl

/-- the lowest n of a word -/
theorem mask_word {x n : Nat} (hx : x < 18446744073709551616) (hn : n ≤ 64) : bits BinOp.and IntKind.u64 (x : Int) ((2 ^ n - 1 : Nat) : Int) = ((x % 2 ^ n : Nat) : Int) := by
  have h2 := pow_le64 hn
  have h3 : 0 < 2 ^ n := Nat.two_pow_pos n
  rw [bits_and_u64_nat x _ hx (by omega), Nat.and_two_pow_sub_one_eq_mod]

/-- a remainder twice over: a place from 0 to n -/
theorem lrem_place (i : Int) (n : Nat) (hn : n ≤ 64) : ∃ k : Nat, k ≤ n ∧ Int.tmod (Int.tmod i ((n : Int) + 1) + n + 1) ((n : Int) + 1) = k ∧ -(n : Int) ≤ Int.tmod i ((n : Int) + 1) ∧ Int.tmod i ((n : Int) + 1) ≤ n := by
  have h1 : -(n : Int) ≤ Int.tmod i ((n : Int) + 1) ∧ Int.tmod i ((n : Int) + 1) ≤ n := by
    rcases (show i < 0 ∨ 0 ≤ i by omega) with h | h
    · have := Int.tmod_nonneg ((n : Int) + 1) (show 0 ≤ -i by omega)
      have h2 := Int.tmod_lt_of_pos (-i) (show 0 < (n : Int) + 1 by omega)
      rw [Int.neg_tmod] at this h2
      omega
    · have := Int.tmod_nonneg ((n : Int) + 1) h
      have h2 := Int.tmod_lt_of_pos i (show 0 < (n : Int) + 1 by omega)
      omega
  obtain ⟨h2, h3⟩ := h1
  generalize Int.tmod i ((n : Int) + 1) = r at *
  have h4 := Int.tmod_nonneg ((n : Int) + 1) (show 0 ≤ r + n + 1 by omega)
  have h5 := Int.tmod_lt_of_pos (r + n + 1) (show 0 < (n : Int) + 1 by omega)
  exact ⟨(Int.tmod (r + n + 1) ((n : Int) + 1)).toNat, by omega, by omega, h2, h3⟩

end Go.Proofs.YtgddapefghcphaaDoor
