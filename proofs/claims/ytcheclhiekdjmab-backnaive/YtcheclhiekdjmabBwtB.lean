/- Package bwt: counting by a test, Rank and Before. -/
import Derived.Test.YtcheclhiekdjmabBwtA
namespace Go.Proofs.Ytcheclhiekdjmab
open Go.RowKit Go.Sort



/-- how many are among the first: below 0 as 0, more than there are as all -/
def cutI (i : Int) (n : Nat) : Nat := (min (max i 0) n).toNat

theorem cutI_le (i : Int) (n : Nat) : cutI i n ≤ n := by unfold cutI; omega

theorem cutI_nat {i n : Nat} (h : i ≤ n) : cutI (i : Int) n = i := by unfold cutI; omega

/-- what Rank tells -/
def rankB (xs : List Int) (s i : Int) : Nat := if colB xs then rankI xs s (cutI i xs.length) else 0

/-- what Before tells -/
def befB (xs : List Int) (s : Int) : Nat := if colB xs then befI xs s else 0



end Go.Proofs.Ytcheclhiekdjmab
