/-
  No cell of these rows narrows 'for every input' (looked for: loops, veiled, ifaces, maps, wideKeys, modest, calm, conditions, laid).
  DERIVED. THE GIVEN ROWS OF THIS SEAT. 6 by the template 'for every input the law returns true; each argument reads behind the call as it read before'; 0 by the template 'total and deterministic' (their statements: YtpmkgdpojfnppaaTotals.lean).
  GIVEN WITH THE SEED: the statements are not yours to turn. If you find one false, say at which input.
  Laid BY PROGRAM, IN A SANDBOX (cutbox-rows.mjs): the forced cells as the released guide's own fill.sh prints them over the translation ad51dedb7d3ad762… (all of the seat's roots in one cut). By AI agents, Wed Nov 11 2026. No macro, syntax, notation, axiom, sorry.
-/
import Derived.Test.YtpmkgdpojfnppaaChecked
import GoSem.Claim
import GoSem.ClaimJoined
import GoSem.ClaimMapViews
import Derived.JoinedTies
import Derived.KernelRfl
namespace Go.Proofs.Ytpmkgdpojfnppaa
/- THE CELL 'sum', in the pinned program and in every row, IS THE sha256 OF THE DUMP (.gsa) THAT YtpmkgdpojfnppaaProg.lean LOADS. Nothing in Lean hashes anything: it is a label: what it is worth is what the hold of that sum in a sandbox is worth. -/
noncomputable def Try.pinned : Pinned := { name := "ytpmkgdpojfnppaa", sum := "ad51dedb7d3ad762f6e3725e692ac2294bab591e5ee76caeb95edaaa872e465f", checked := Try.checked }
namespace Rows
def none {H : Type} : Left H := { results := [], args := [] }

/-- 'scriniumlaw3.RowsTells': WHATEVER THE INPUT: true; the input reads as it did. -/
def rowsTellsSpec : ChangeSpec := { name := "rowsTells", fn := fun _ => fun
  | [d1, d2, d3] => { results := [.lit (.bool true)], args := [d1, d2, d3] }
  | _ => none }
def rowsTellsRow : OpenClaim := { program := "ytpmkgdpojfnppaa", sum := "ad51dedb7d3ad762f6e3725e692ac2294bab591e5ee76caeb95edaaa872e465f", func := "scrinium/scriniumlaw3.RowsTells", spec := "rowsTells", unfollowed := true, recurses := true, plainKeys := false, apart := false }
def RowsTellsSaid : Prop := rowsTellsRow.holds Try.pinned (OpenSpec.ofChange rowsTellsSpec)

/-- ITS FALSE NEIGHBOUR: 'it returns false'. Refute it at one input. -/
def rowsTellsWrong : ChangeSpec := { name := "rowsTells", fn := fun _ => fun
  | [d1, d2, d3] => { results := [.lit (.bool false)], args := [d1, d2, d3] }
  | _ => none }
def RowsTellsWrongFalsely : Prop := rowsTellsRow.holds Try.pinned (OpenSpec.ofChange rowsTellsWrong)

/-- 'scriniumlaw3.RowsOrder': WHATEVER THE INPUT: true; the input reads as it did. -/
def rowsOrderSpec : ChangeSpec := { name := "rowsOrder", fn := fun _ => fun
  | [d1, d2, d3, d4] => { results := [.lit (.bool true)], args := [d1, d2, d3, d4] }
  | _ => none }
def rowsOrderRow : OpenClaim := { program := "ytpmkgdpojfnppaa", sum := "ad51dedb7d3ad762f6e3725e692ac2294bab591e5ee76caeb95edaaa872e465f", func := "scrinium/scriniumlaw3.RowsOrder", spec := "rowsOrder", unfollowed := true, recurses := true, plainKeys := false, apart := false }
def RowsOrderSaid : Prop := rowsOrderRow.holds Try.pinned (OpenSpec.ofChange rowsOrderSpec)

/-- ITS FALSE NEIGHBOUR: 'it returns false'. Refute it at one input. -/
def rowsOrderWrong : ChangeSpec := { name := "rowsOrder", fn := fun _ => fun
  | [d1, d2, d3, d4] => { results := [.lit (.bool false)], args := [d1, d2, d3, d4] }
  | _ => none }
def RowsOrderWrongFalsely : Prop := rowsOrderRow.holds Try.pinned (OpenSpec.ofChange rowsOrderWrong)

/-- 'scriniumlaw3.RowsTerminators': WHATEVER THE INPUT: true; the input reads as it did. -/
def rowsTerminatorsSpec : ChangeSpec := { name := "rowsTerminators", fn := fun _ => fun
  | [d] => { results := [.lit (.bool true)], args := [d] }
  | _ => none }
def rowsTerminatorsRow : OpenClaim := { program := "ytpmkgdpojfnppaa", sum := "ad51dedb7d3ad762f6e3725e692ac2294bab591e5ee76caeb95edaaa872e465f", func := "scrinium/scriniumlaw3.RowsTerminators", spec := "rowsTerminators", unfollowed := true, recurses := true, plainKeys := false, apart := false }
def RowsTerminatorsSaid : Prop := rowsTerminatorsRow.holds Try.pinned (OpenSpec.ofChange rowsTerminatorsSpec)

/-- ITS FALSE NEIGHBOUR: 'it returns false'. Refute it at one input. -/
def rowsTerminatorsWrong : ChangeSpec := { name := "rowsTerminators", fn := fun _ => fun
  | [d] => { results := [.lit (.bool false)], args := [d] }
  | _ => none }
def RowsTerminatorsWrongFalsely : Prop := rowsTerminatorsRow.holds Try.pinned (OpenSpec.ofChange rowsTerminatorsWrong)

/-- 'scriniumlaw3.RowsSorted': WHATEVER THE INPUT: true; the input reads as it did. -/
def rowsSortedSpec : ChangeSpec := { name := "rowsSorted", fn := fun _ => fun
  | [d] => { results := [.lit (.bool true)], args := [d] }
  | _ => none }
def rowsSortedRow : OpenClaim := { program := "ytpmkgdpojfnppaa", sum := "ad51dedb7d3ad762f6e3725e692ac2294bab591e5ee76caeb95edaaa872e465f", func := "scrinium/scriniumlaw3.RowsSorted", spec := "rowsSorted", unfollowed := true, recurses := true, plainKeys := false, apart := false }
def RowsSortedSaid : Prop := rowsSortedRow.holds Try.pinned (OpenSpec.ofChange rowsSortedSpec)

/-- ITS FALSE NEIGHBOUR: 'it returns false'. Refute it at one input. -/
def rowsSortedWrong : ChangeSpec := { name := "rowsSorted", fn := fun _ => fun
  | [d] => { results := [.lit (.bool false)], args := [d] }
  | _ => none }
def RowsSortedWrongFalsely : Prop := rowsSortedRow.holds Try.pinned (OpenSpec.ofChange rowsSortedWrong)

/-- 'scriniumlaw3.RowsTwins': WHATEVER THE INPUT: true; the input reads as it did. -/
def rowsTwinsSpec : ChangeSpec := { name := "rowsTwins", fn := fun _ => fun
  | [d1, d2] => { results := [.lit (.bool true)], args := [d1, d2] }
  | _ => none }
def rowsTwinsRow : OpenClaim := { program := "ytpmkgdpojfnppaa", sum := "ad51dedb7d3ad762f6e3725e692ac2294bab591e5ee76caeb95edaaa872e465f", func := "scrinium/scriniumlaw3.RowsTwins", spec := "rowsTwins", unfollowed := true, recurses := true, plainKeys := false, apart := false }
def RowsTwinsSaid : Prop := rowsTwinsRow.holds Try.pinned (OpenSpec.ofChange rowsTwinsSpec)

/-- ITS FALSE NEIGHBOUR: 'it returns false'. Refute it at one input. -/
def rowsTwinsWrong : ChangeSpec := { name := "rowsTwins", fn := fun _ => fun
  | [d1, d2] => { results := [.lit (.bool false)], args := [d1, d2] }
  | _ => none }
def RowsTwinsWrongFalsely : Prop := rowsTwinsRow.holds Try.pinned (OpenSpec.ofChange rowsTwinsWrong)

/-- 'scriniumlaw3.RowsParts': WHATEVER THE INPUT: true; the input reads as it did. -/
def rowsPartsSpec : ChangeSpec := { name := "rowsParts", fn := fun _ => fun
  | [d1, d2, d3] => { results := [.lit (.bool true)], args := [d1, d2, d3] }
  | _ => none }
def rowsPartsRow : OpenClaim := { program := "ytpmkgdpojfnppaa", sum := "ad51dedb7d3ad762f6e3725e692ac2294bab591e5ee76caeb95edaaa872e465f", func := "scrinium/scriniumlaw3.RowsParts", spec := "rowsParts", unfollowed := true, recurses := true, plainKeys := false, apart := false }
def RowsPartsSaid : Prop := rowsPartsRow.holds Try.pinned (OpenSpec.ofChange rowsPartsSpec)

/-- ITS FALSE NEIGHBOUR: 'it returns false'. Refute it at one input. -/
def rowsPartsWrong : ChangeSpec := { name := "rowsParts", fn := fun _ => fun
  | [d1, d2, d3] => { results := [.lit (.bool false)], args := [d1, d2, d3] }
  | _ => none }
def RowsPartsWrongFalsely : Prop := rowsPartsRow.holds Try.pinned (OpenSpec.ofChange rowsPartsWrong)

/- THE SECOND FORM. 'bulk': how many values and letters a reading holds, each counted each time it is reached (what is shared counts as often as it is met; a slice's spare places count too). A statement '..UptoSaid' is the law's where the arguments, and the package variables that the reading takes, are together of bulk at most 1048576: NARROWER than '..Said'. Prove '..Said' where nothing that the law and all that it calls make is longer than what came in: it says more and counts as full. Else prove '..UptoSaid'. A law counts once. -/
mutual
def uptoBulk {H : Type} : DataW H → Nat
  | .lit (.string bytes) => bytes.length + 1
  | .lit _ => 1
  | .nil => 1
  | .ptr d => uptoBulk d + 1
  | .slice elems spare => uptoBulkAll elems + uptoBulkAll spare + 1
  | .agg parts => uptoBulkAll parts + 1
  | .iface _ d => uptoBulk d + 1
  | .map entries => uptoBulkEntries entries + 1
  | .held _ => 1
def uptoBulkAll {H : Type} : List (DataW H) → Nat
  | [] => 0
  | d :: r => uptoBulk d + uptoBulkAll r
def uptoBulkEntries {H : Type} : List (Lit × DataW H) → Nat
  | [] => 0
  | x :: r => uptoBulkEntry x + uptoBulkEntries r
def uptoBulkEntry {H : Type} : Lit × DataW H → Nat
  | (.string bytes, d) => bytes.length + uptoBulk d + 1
  | (_, d) => uptoBulk d + 1
 end
def uptoSmall : (H : Type) → List (DataW H) → Bool := fun _ ds => decide (uptoBulkAll ds ≤ 1048576)
def OpenSpec.upto (s : _root_.Go.ChangeSpec) : _root_.Go.OpenSpec := { _root_.Go.OpenSpec.ofChange s with cond := some uptoSmall }

/-- 'scriniumlaw3.RowsTells', WHERE WHAT IT READS IS OF BULK AT MOST 1048576: true; the input reads as it did. -/
def rowsTellsUptoRow : OpenClaim := { program := "ytpmkgdpojfnppaa", sum := "ad51dedb7d3ad762f6e3725e692ac2294bab591e5ee76caeb95edaaa872e465f", func := "scrinium/scriniumlaw3.RowsTells", spec := "rowsTells", unfollowed := true, recurses := true, plainKeys := false, apart := false, narrowed := true }
def RowsTellsUptoSaid : Prop := rowsTellsUptoRow.holds Try.pinned (OpenSpec.upto rowsTellsSpec)

/-- 'scriniumlaw3.RowsOrder', WHERE WHAT IT READS IS OF BULK AT MOST 1048576: true; the input reads as it did. -/
def rowsOrderUptoRow : OpenClaim := { program := "ytpmkgdpojfnppaa", sum := "ad51dedb7d3ad762f6e3725e692ac2294bab591e5ee76caeb95edaaa872e465f", func := "scrinium/scriniumlaw3.RowsOrder", spec := "rowsOrder", unfollowed := true, recurses := true, plainKeys := false, apart := false, narrowed := true }
def RowsOrderUptoSaid : Prop := rowsOrderUptoRow.holds Try.pinned (OpenSpec.upto rowsOrderSpec)

/-- 'scriniumlaw3.RowsTerminators', WHERE WHAT IT READS IS OF BULK AT MOST 1048576: true; the input reads as it did. -/
def rowsTerminatorsUptoRow : OpenClaim := { program := "ytpmkgdpojfnppaa", sum := "ad51dedb7d3ad762f6e3725e692ac2294bab591e5ee76caeb95edaaa872e465f", func := "scrinium/scriniumlaw3.RowsTerminators", spec := "rowsTerminators", unfollowed := true, recurses := true, plainKeys := false, apart := false, narrowed := true }
def RowsTerminatorsUptoSaid : Prop := rowsTerminatorsUptoRow.holds Try.pinned (OpenSpec.upto rowsTerminatorsSpec)

/-- 'scriniumlaw3.RowsSorted', WHERE WHAT IT READS IS OF BULK AT MOST 1048576: true; the input reads as it did. -/
def rowsSortedUptoRow : OpenClaim := { program := "ytpmkgdpojfnppaa", sum := "ad51dedb7d3ad762f6e3725e692ac2294bab591e5ee76caeb95edaaa872e465f", func := "scrinium/scriniumlaw3.RowsSorted", spec := "rowsSorted", unfollowed := true, recurses := true, plainKeys := false, apart := false, narrowed := true }
def RowsSortedUptoSaid : Prop := rowsSortedUptoRow.holds Try.pinned (OpenSpec.upto rowsSortedSpec)

/-- 'scriniumlaw3.RowsTwins', WHERE WHAT IT READS IS OF BULK AT MOST 1048576: true; the input reads as it did. -/
def rowsTwinsUptoRow : OpenClaim := { program := "ytpmkgdpojfnppaa", sum := "ad51dedb7d3ad762f6e3725e692ac2294bab591e5ee76caeb95edaaa872e465f", func := "scrinium/scriniumlaw3.RowsTwins", spec := "rowsTwins", unfollowed := true, recurses := true, plainKeys := false, apart := false, narrowed := true }
def RowsTwinsUptoSaid : Prop := rowsTwinsUptoRow.holds Try.pinned (OpenSpec.upto rowsTwinsSpec)

/-- 'scriniumlaw3.RowsParts', WHERE WHAT IT READS IS OF BULK AT MOST 1048576: true; the input reads as it did. -/
def rowsPartsUptoRow : OpenClaim := { program := "ytpmkgdpojfnppaa", sum := "ad51dedb7d3ad762f6e3725e692ac2294bab591e5ee76caeb95edaaa872e465f", func := "scrinium/scriniumlaw3.RowsParts", spec := "rowsParts", unfollowed := true, recurses := true, plainKeys := false, apart := false, narrowed := true }
def RowsPartsUptoSaid : Prop := rowsPartsUptoRow.holds Try.pinned (OpenSpec.upto rowsPartsSpec)

end Rows
end Go.Proofs.Ytpmkgdpojfnppaa
