/- The bits of a leaf, as a list: what the law's own call tells. -/
import Derived.Test.YtgddapefghcphaaDoorLeP
import Derived.Test.YtgddapefghcphaaDoorBitL
namespace Go.Proofs.YtgddapefghcphaaDoor
open Go.RowKit

/-- a list's leaf is known by its bits -/
theorem packT_eq {bs : List Bool} {x : Nat} (hx : x < 2 ^ bs.length) (h : ∀ i, i < bs.length → bs.getD i false = x.testBit i) : packT bs bs.length = x := by
  apply Nat.eq_of_testBit_eq
  intro i
  by_cases e : i < bs.length
  · rw [packT_test bs _ i e, h i e]
  · rw [test_small (packT_lt bs bs.length) (by omega), test_small hx (by omega)]

theorem pack_bits {x n : Nat} (hx : x < 2 ^ n) : packT (bitsL x n) n = x := by
  have h := packT_eq (bs := bitsL x n) (x := x) (by rw [bitsL_length]; exact hx) (fun i hi => bitsL_get x n i (by rw [bitsL_length] at hi; exact hi))
  rwa [bitsL_length] at h

end Go.Proofs.YtgddapefghcphaaDoor
