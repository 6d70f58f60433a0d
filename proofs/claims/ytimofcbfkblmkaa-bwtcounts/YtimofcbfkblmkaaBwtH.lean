/- Package bwt: Text. -/
import Derived.Test.YtimofcbfkblmkaaBwtG
namespace Go.Proofs.Ytimofcbfkblmkaa
open Go.RowKit Go.Sort

/-- how many terminators there are -/
def zerosN (xs : List Int) : Nat := rankI xs 0 xs.length

theorem zeros_le (xs : List Int) : zerosN xs ≤ xs.length := rank_le _ _ _

/-- what Text tells -/
def textB (xs : List Int) (doc : Int) : Option (List UInt8) := if colB xs && decide (0 ≤ doc ∧ doc < zerosN xs) then readN xs xs.length doc.toNat [] else none

theorem HasInts.of_own {w : World} {base n cap : Nat} {e : TypeId} {ao : Option Addr} {xs : List Int} (h : w.ownsRow base e 1 (.slice ao n cap) n (xs.map (Value.int .i64))) : HasInts w ao xs := by
  obtain ⟨a', c', e', hcells, -, -, -⟩ := owns_cells h
  cases e'
  exact HasInts.of_cells hcells

theorem rankB_zeros {xs : List Int} (h : colB xs = true) : rankB xs 0 (xs.length : Int) = zerosN xs := by simp [rankB, h, cutI_nat (Nat.le_refl _), zerosN]


end Go.Proofs.Ytimofcbfkblmkaa
