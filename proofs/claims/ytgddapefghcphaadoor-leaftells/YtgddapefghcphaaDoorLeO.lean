/- The library's count of a word's 1s. -/
import Derived.Test.YtgddapefghcphaaDoorLeA
namespace Go.Proofs.YtgddapefghcphaaDoor
open Go.RowKit

theorem msk85 : mskN 85 8 = 6148914691236517205 := rfl
theorem msk51 : mskN 51 8 = 3689348814741910323 := rfl
theorem msk15 : mskN 15 8 = 1085102592571150095 := rfl

theorem and_le_r (a b : Nat) : a &&& b ≤ b := Nat.and_le_right

theorem on1 {x : Nat} (hx : x < 18446744073709551616) : IntKind.u64.wrap (bits BinOp.and IntKind.u64 ((x : Int) / 2) 6148914691236517205 + bits BinOp.and IntKind.u64 (x : Int) 6148914691236517205) = ((st1 8 x : Nat) : Int) ∧ st1 8 x < 18446744073709551616 := by
  have e0 : ((x : Int) / 2) = ((x / 2 : Nat) : Int) := by omega
  have h1 := and_le_r (x / 2) 6148914691236517205
  have h2 := and_le_r x 6148914691236517205
  rw [e0, show (6148914691236517205 : Int) = ((6148914691236517205 : Nat) : Int) from rfl, bits_and_u64_nat _ _ (by omega) (by omega), bits_and_u64_nat _ _ hx (by omega), IntKind.wrap_u64]
  unfold st1
  rw [msk85]
  generalize x / 2 &&& 6148914691236517205 = a at *
  generalize x &&& 6148914691236517205 = b at *
  omega

theorem on2 {x : Nat} (hx : x < 18446744073709551616) : IntKind.u64.wrap (bits BinOp.and IntKind.u64 ((x : Int) / 4) 3689348814741910323 + bits BinOp.and IntKind.u64 (x : Int) 3689348814741910323) = ((st2 8 x : Nat) : Int) ∧ st2 8 x < 18446744073709551616 := by
  have e0 : ((x : Int) / 4) = ((x / 4 : Nat) : Int) := by omega
  have h1 := and_le_r (x / 4) 3689348814741910323
  have h2 := and_le_r x 3689348814741910323
  rw [e0, show (3689348814741910323 : Int) = ((3689348814741910323 : Nat) : Int) from rfl, bits_and_u64_nat _ _ (by omega) (by omega), bits_and_u64_nat _ _ hx (by omega), IntKind.wrap_u64]
  unfold st2
  rw [msk51]
  generalize x / 4 &&& 3689348814741910323 = a at *
  generalize x &&& 3689348814741910323 = b at *
  omega

theorem and_mod (a m : Nat) (hm : m < 18446744073709551616) : (a % 18446744073709551616) &&& m = a &&& m := by
  apply Nat.eq_of_testBit_eq
  intro j
  rw [Nat.testBit_and, Nat.testBit_and, show (18446744073709551616 : Nat) = 2 ^ 64 from rfl, Nat.testBit_mod_two_pow]
  by_cases hj : j < 64
  · simp [hj]
  · rw [test_small (x := m) (n := 64) (by simpa using hm) (by omega)]
    simp

theorem on3 {x : Nat} : bits BinOp.and IntKind.u64 (IntKind.u64.wrap ((x : Int) / 16 + (x : Int))) 1085102592571150095 = ((st3 8 x : Nat) : Int) := by
  have e0 : ((x : Int) / 16 + (x : Int)) = ((x / 16 + x : Nat) : Int) := by omega
  rw [e0, IntKind.wrap_u64]
  unfold st3
  rw [msk15]
  generalize x / 16 + x = a
  have e1 : ((a : Int) % 18446744073709551616) = ((a % 18446744073709551616 : Nat) : Int) := by omega
  rw [e1, show (1085102592571150095 : Int) = ((1085102592571150095 : Nat) : Int) from rfl, bits_and_u64_nat _ _ (by omega) (by omega), and_mod _ _ (by omega)]

theorem on4 {x : Nat} (h : fold1 x < 9223372036854775808) : IntKind.u64.wrap ((x : Int) + (x : Int) / 256) = ((fold1 x : Nat) : Int) := by
  rw [IntKind.wrap_u64]
  unfold fold1 at *
  omega

theorem on5 {x : Nat} (h : fold2 x < 9223372036854775808) : IntKind.u64.wrap ((x : Int) + (x : Int) / 65536) = ((fold2 x : Nat) : Int) := by
  rw [IntKind.wrap_u64]
  unfold fold2 at *
  omega

theorem on6 {x : Nat} (h : fold3 x < 9223372036854775808) : IntKind.u64.wrap ((x : Int) + (x : Int) / 4294967296) = ((fold3 x : Nat) : Int) := by
  rw [IntKind.wrap_u64]
  unfold fold3 at *
  omega

theorem on7 {x : Nat} (h : x < 9223372036854775808) : bits BinOp.and IntKind.i64 (wrap64 (x : Int)) 127 = ((x % 128 : Nat) : Int) := by
  have e : wrap64 (x : Int) = x := by unfold wrap64; omega
  rw [e]
  have h1 : (BitVec.ofInt 64 (x : Int)).toNat = x := by
    rw [BitVec.ofInt_natCast, BitVec.toNat_ofNat]; exact Nat.mod_eq_of_lt (by omega)
  show IntKind.i64.wrap ((BitVec.ofInt 64 (x : Int) &&& BitVec.ofInt 64 127).toNat : Int) = _
  rw [BitVec.toNat_and, h1, show (BitVec.ofInt 64 127).toNat = 127 from rfl, show (127 : Nat) = 2 ^ 7 - 1 from rfl, Nat.and_two_pow_sub_one_eq_mod, IntKind.wrap_i64]
  omega

set_option maxHeartbeats 1000000 in
theorem ones_any (x : Nat) (hx : x < 18446744073709551616) (w : World) :
    Calls Tryd.prog 17 #[.int .u64 (x : Nat)] w fun e w' => e = .returned (.int .i64 ((popN 64 x : Nat) : Int)) ∧ w' = w := by
  obtain ⟨e1, h1⟩ := on1 hx
  obtain ⟨e2, h2⟩ := on2 h1
  have e3 := @on3 (st2 8 (st1 8 x))
  obtain ⟨c1, c2, c3, c4⟩ := count_word x
  unfold st at c1 c2 c3 c4
  have e4 := on4 c1
  have e5 := on5 c2
  have e6 := on6 c3
  have e7 := on7 c3
  rw [c4] at e7
  have H1 : Hid (_ = _) := e1
  have H2 : Hid (_ = _) := e2
  have H3 : Hid (_ = _) := e3
  have H4 : Hid (_ = _) := e4
  have H5 : Hid (_ = _) := e5
  have H6 : Hid (_ = _) := e6
  have H7 : Hid (_ = _) := e7
  clear e1 e2 e3 e4 e5 e6 e7 h1 h2 c1 c2 c3 c4
  go_enter Tryd.func17, Tryd.ntmps17
  go_wp2
  simp only [H1.out, H2.out, H3.out, H4.out, H5.out, H6.out, H7.out]
  go_ret
  exact ⟨rfl, rfl⟩

end Go.Proofs.YtgddapefghcphaaDoor
