/-
  No cell of these rows narrows 'for every input' (looked for: loops, veiled, ifaces, maps, wideKeys, modest, calm, conditions, laid).
  DERIVED. THE GIVEN ROWS OF THIS SEAT. 4 by the template 'for every input the law returns true; each argument reads behind the call as it read before'; 0 by the template 'total and deterministic' (their statements: YtpmkgdpojfnppabTotals.lean).
  GIVEN WITH THE SEED: the statements are not yours to turn. If you find one false, say at which input.
  Laid BY PROGRAM, IN A SANDBOX (cutbox-rows.mjs): the forced cells as the released guide's own fill.sh prints them over the translation e93d946a4a61685d… (all of the seat's roots in one cut). By AI agents, Wed Nov 11 2026. No macro, syntax, notation, axiom, sorry.
-/
import Derived.Test.YtpmkgdpojfnppabChecked
import GoSem.Claim
import GoSem.ClaimJoined
import GoSem.ClaimMapViews
import Derived.JoinedTies
import Derived.KernelRfl
namespace Go.Proofs.Ytpmkgdpojfnppab
/- THE CELL 'sum', in the pinned program and in every row, IS THE sha256 OF THE DUMP (.gsa) THAT YtpmkgdpojfnppabProg.lean LOADS. Nothing in Lean hashes anything: it is a label: what it is worth is what the hold of that sum in a sandbox is worth. -/
noncomputable def Try.pinned : Pinned := { name := "ytpmkgdpojfnppab", sum := "e93d946a4a61685d56faad8492c9f823ffa0e98f8474aefa1ae7ff28182a43e8", checked := Try.checked }
namespace Rows
def none {H : Type} : Left H := { results := [], args := [] }

/-- 'scriniumlaw3.RowsMany': WHATEVER THE INPUT: true; the input reads as it did. -/
def rowsManySpec : ChangeSpec := { name := "rowsMany", fn := fun _ => fun
  | [d1, d2] => { results := [.lit (.bool true)], args := [d1, d2] }
  | _ => none }
def rowsManyRow : OpenClaim := { program := "ytpmkgdpojfnppab", sum := "e93d946a4a61685d56faad8492c9f823ffa0e98f8474aefa1ae7ff28182a43e8", func := "scrinium/scriniumlaw3.RowsMany", spec := "rowsMany", unfollowed := true, recurses := true, apart := false }
def RowsManySaid : Prop := rowsManyRow.holds Try.pinned (OpenSpec.ofChange rowsManySpec)

/-- ITS FALSE NEIGHBOUR: 'it returns false'. Refute it at one input. -/
def rowsManyWrong : ChangeSpec := { name := "rowsMany", fn := fun _ => fun
  | [d1, d2] => { results := [.lit (.bool false)], args := [d1, d2] }
  | _ => none }
def RowsManyWrongFalsely : Prop := rowsManyRow.holds Try.pinned (OpenSpec.ofChange rowsManyWrong)

/-- 'scriniumlaw3.RowsLengths': WHATEVER THE INPUT: true; the input reads as it did. -/
def rowsLengthsSpec : ChangeSpec := { name := "rowsLengths", fn := fun _ => fun
  | [d1, d2] => { results := [.lit (.bool true)], args := [d1, d2] }
  | _ => none }
def rowsLengthsRow : OpenClaim := { program := "ytpmkgdpojfnppab", sum := "e93d946a4a61685d56faad8492c9f823ffa0e98f8474aefa1ae7ff28182a43e8", func := "scrinium/scriniumlaw3.RowsLengths", spec := "rowsLengths", unfollowed := true, recurses := true, apart := false }
def RowsLengthsSaid : Prop := rowsLengthsRow.holds Try.pinned (OpenSpec.ofChange rowsLengthsSpec)

/-- ITS FALSE NEIGHBOUR: 'it returns false'. Refute it at one input. -/
def rowsLengthsWrong : ChangeSpec := { name := "rowsLengths", fn := fun _ => fun
  | [d1, d2] => { results := [.lit (.bool false)], args := [d1, d2] }
  | _ => none }
def RowsLengthsWrongFalsely : Prop := rowsLengthsRow.holds Try.pinned (OpenSpec.ofChange rowsLengthsWrong)

/-- 'scriniumlaw3.RowsNone': WHATEVER THE INPUT: true; the input reads as it did. -/
def rowsNoneSpec : ChangeSpec := { name := "rowsNone", fn := fun _ => fun
  | [d1, d2, d3] => { results := [.lit (.bool true)], args := [d1, d2, d3] }
  | _ => none }
def rowsNoneRow : OpenClaim := { program := "ytpmkgdpojfnppab", sum := "e93d946a4a61685d56faad8492c9f823ffa0e98f8474aefa1ae7ff28182a43e8", func := "scrinium/scriniumlaw3.RowsNone", spec := "rowsNone", unfollowed := true, recurses := true, apart := false }
def RowsNoneSaid : Prop := rowsNoneRow.holds Try.pinned (OpenSpec.ofChange rowsNoneSpec)

/-- ITS FALSE NEIGHBOUR: 'it returns false'. Refute it at one input. -/
def rowsNoneWrong : ChangeSpec := { name := "rowsNone", fn := fun _ => fun
  | [d1, d2, d3] => { results := [.lit (.bool false)], args := [d1, d2, d3] }
  | _ => none }
def RowsNoneWrongFalsely : Prop := rowsNoneRow.holds Try.pinned (OpenSpec.ofChange rowsNoneWrong)

/-- 'scriniumlaw3.RowsFirst': WHATEVER THE INPUT: true; the input reads as it did. -/
def rowsFirstSpec : ChangeSpec := { name := "rowsFirst", fn := fun _ => fun
  | [d] => { results := [.lit (.bool true)], args := [d] }
  | _ => none }
def rowsFirstRow : OpenClaim := { program := "ytpmkgdpojfnppab", sum := "e93d946a4a61685d56faad8492c9f823ffa0e98f8474aefa1ae7ff28182a43e8", func := "scrinium/scriniumlaw3.RowsFirst", spec := "rowsFirst", unfollowed := true, recurses := true, apart := false }
def RowsFirstSaid : Prop := rowsFirstRow.holds Try.pinned (OpenSpec.ofChange rowsFirstSpec)

/-- ITS FALSE NEIGHBOUR: 'it returns false'. Refute it at one input. -/
def rowsFirstWrong : ChangeSpec := { name := "rowsFirst", fn := fun _ => fun
  | [d] => { results := [.lit (.bool false)], args := [d] }
  | _ => none }
def RowsFirstWrongFalsely : Prop := rowsFirstRow.holds Try.pinned (OpenSpec.ofChange rowsFirstWrong)

/- THE SECOND FORM. 'bulk': how many values and letters a reading holds, each counted each time it is reached (what is shared counts as often as it is met; a slice's spare places count too). A statement '..UptoSaid' is the law's where the arguments, and the package variables that the reading takes, are together of bulk at most 1048576: NARROWER than '..Said'. Prove '..Said' where nothing that the law and all that it calls make is longer than what came in: it says more and counts as full. Else prove '..UptoSaid'. A law counts once. -/
mutual
def uptoBulk {H : Type} : DataW H → Nat
  | .lit (.string bytes) => bytes.length + 1
  | .lit _ => 1
  | .nil => 1
  | .ptr d => uptoBulk d + 1
  | .slice elems spare => uptoBulkAll elems + uptoBulkAll spare + 1
  | .agg parts => uptoBulkAll parts + 1
  | .iface _ d => uptoBulk d + 1
  | .map entries => uptoBulkEntries entries + 1
  | .held _ => 1
def uptoBulkAll {H : Type} : List (DataW H) → Nat
  | [] => 0
  | d :: r => uptoBulk d + uptoBulkAll r
def uptoBulkEntries {H : Type} : List (Lit × DataW H) → Nat
  | [] => 0
  | x :: r => uptoBulkEntry x + uptoBulkEntries r
def uptoBulkEntry {H : Type} : Lit × DataW H → Nat
  | (.string bytes, d) => bytes.length + uptoBulk d + 1
  | (_, d) => uptoBulk d + 1
 end
def uptoSmall : (H : Type) → List (DataW H) → Bool := fun _ ds => decide (uptoBulkAll ds ≤ 1048576)
def OpenSpec.upto (s : _root_.Go.ChangeSpec) : _root_.Go.OpenSpec := { _root_.Go.OpenSpec.ofChange s with cond := some uptoSmall }

/-- 'scriniumlaw3.RowsMany', WHERE WHAT IT READS IS OF BULK AT MOST 1048576: true; the input reads as it did. -/
def rowsManyUptoRow : OpenClaim := { program := "ytpmkgdpojfnppab", sum := "e93d946a4a61685d56faad8492c9f823ffa0e98f8474aefa1ae7ff28182a43e8", func := "scrinium/scriniumlaw3.RowsMany", spec := "rowsMany", unfollowed := true, recurses := true, apart := false, narrowed := true }
def RowsManyUptoSaid : Prop := rowsManyUptoRow.holds Try.pinned (OpenSpec.upto rowsManySpec)

/-- 'scriniumlaw3.RowsLengths', WHERE WHAT IT READS IS OF BULK AT MOST 1048576: true; the input reads as it did. -/
def rowsLengthsUptoRow : OpenClaim := { program := "ytpmkgdpojfnppab", sum := "e93d946a4a61685d56faad8492c9f823ffa0e98f8474aefa1ae7ff28182a43e8", func := "scrinium/scriniumlaw3.RowsLengths", spec := "rowsLengths", unfollowed := true, recurses := true, apart := false, narrowed := true }
def RowsLengthsUptoSaid : Prop := rowsLengthsUptoRow.holds Try.pinned (OpenSpec.upto rowsLengthsSpec)

/-- 'scriniumlaw3.RowsNone', WHERE WHAT IT READS IS OF BULK AT MOST 1048576: true; the input reads as it did. -/
def rowsNoneUptoRow : OpenClaim := { program := "ytpmkgdpojfnppab", sum := "e93d946a4a61685d56faad8492c9f823ffa0e98f8474aefa1ae7ff28182a43e8", func := "scrinium/scriniumlaw3.RowsNone", spec := "rowsNone", unfollowed := true, recurses := true, apart := false, narrowed := true }
def RowsNoneUptoSaid : Prop := rowsNoneUptoRow.holds Try.pinned (OpenSpec.upto rowsNoneSpec)

/-- 'scriniumlaw3.RowsFirst', WHERE WHAT IT READS IS OF BULK AT MOST 1048576: true; the input reads as it did. -/
def rowsFirstUptoRow : OpenClaim := { program := "ytpmkgdpojfnppab", sum := "e93d946a4a61685d56faad8492c9f823ffa0e98f8474aefa1ae7ff28182a43e8", func := "scrinium/scriniumlaw3.RowsFirst", spec := "rowsFirst", unfollowed := true, recurses := true, apart := false, narrowed := true }
def RowsFirstUptoSaid : Prop := rowsFirstUptoRow.holds Try.pinned (OpenSpec.upto rowsFirstSpec)

end Rows
end Go.Proofs.Ytpmkgdpojfnppab
