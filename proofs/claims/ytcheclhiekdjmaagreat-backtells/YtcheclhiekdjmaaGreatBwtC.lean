/- Package bwt: Next; and the library's Equal at numbers. -/
import Derived.Test.YtcheclhiekdjmaaGreatBwtB
namespace Go.Proofs.YtcheclhiekdjmaaGreat
open Go.RowKit Go.Sort

theorem Ext.cell {w w' : World} (h : Ext w w') {a : Addr} {v : Value} (hc : w.cell? a = some v) : w'.cell? a = some v := by
  rw [World.cell?_of_block (w := w) (h.heap (cell_in hc))]
  exact hc

/-- has a row a next one? -/
def nextOk (xs : List Int) (i : Int) : Bool := colB xs && decide (0 ≤ i ∧ i < xs.length ∧ xs.getD i.toNat 0 ≠ 0)

/-- what Next tells -/
def nextV (xs : List Int) (i : Int) : Int := if nextOk xs i then (lfN xs i.toNat : Int) else 0

theorem next_no {xs : List Int} {i : Int} (h : nextOk xs i = false) : nextV xs i = 0 := by simp [nextV, h]



end Go.Proofs.YtcheclhiekdjmaaGreat
