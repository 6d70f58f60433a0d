/-
  No cell of these rows narrows 'for every input' (looked for: loops, veiled, ifaces, maps, wideKeys, modest, calm, conditions, laid).
  DERIVED. THE GIVEN ROWS OF THIS SEAT. 5 by the template 'for every input the law returns true; each argument reads behind the call as it read before'; 0 by the template 'total and deterministic' (their statements: YtimofcbfkblmkaaTotals.lean).
  GIVEN WITH THE SEED: the statements are not yours to turn. If you find one false, say at which input.
  Laid BY PROGRAM, IN A SANDBOX (cutbox-rows.mjs): the forced cells as the released guide's own fill.sh prints them over the translation 711750762108e7f4… (all of the seat's roots in one cut). By AI agents, Wed Nov 11 2026. No macro, syntax, notation, axiom, sorry.
-/
import Derived.Test.YtimofcbfkblmkaaChecked
import GoSem.Claim
import GoSem.ClaimJoined
import GoSem.ClaimMapViews
import Derived.JoinedTies
import Derived.KernelRfl
namespace Go.Proofs.Ytimofcbfkblmkaa
/- THE CELL 'sum', in the pinned program and in every row, IS THE sha256 OF THE DUMP (.gsa) THAT YtimofcbfkblmkaaProg.lean LOADS. Nothing in Lean hashes anything: it is a label: what it is worth is what the hold of that sum in a sandbox is worth. -/
noncomputable def Try.pinned : Pinned := { name := "ytimofcbfkblmkaa", sum := "711750762108e7f4692eed09872289809e35617cba1f36daf1049f1409f102b4", checked := Try.checked }
namespace Rows
def none {H : Type} : Left H := { results := [], args := [] }

/-- 'scriniumlaw3.RowsTells': WHATEVER THE INPUT: true; the input reads as it did. -/
def rowsTellsSpec : ChangeSpec := { name := "rowsTells", fn := fun _ => fun
  | [d1, d2, d3] => { results := [.lit (.bool true)], args := [d1, d2, d3] }
  | _ => none }
def rowsTellsRow : OpenClaim := { program := "ytimofcbfkblmkaa", sum := "711750762108e7f4692eed09872289809e35617cba1f36daf1049f1409f102b4", func := "scrinium/scriniumlaw3.RowsTells", spec := "rowsTells", unfollowed := true, recurses := true, apart := false }
def RowsTellsSaid : Prop := rowsTellsRow.holds Try.pinned (OpenSpec.ofChange rowsTellsSpec)

/-- ITS FALSE NEIGHBOUR: 'it returns false'. Refute it at one input. -/
def rowsTellsWrong : ChangeSpec := { name := "rowsTells", fn := fun _ => fun
  | [d1, d2, d3] => { results := [.lit (.bool false)], args := [d1, d2, d3] }
  | _ => none }
def RowsTellsWrongFalsely : Prop := rowsTellsRow.holds Try.pinned (OpenSpec.ofChange rowsTellsWrong)

/-- 'scriniumlaw4.BwtBack': WHATEVER THE INPUT: true; the input reads as it did. -/
def bwtBackSpec : ChangeSpec := { name := "bwtBack", fn := fun _ => fun
  | [d] => { results := [.lit (.bool true)], args := [d] }
  | _ => none }
def bwtBackRow : OpenClaim := { program := "ytimofcbfkblmkaa", sum := "711750762108e7f4692eed09872289809e35617cba1f36daf1049f1409f102b4", func := "scrinium/scriniumlaw4.BwtBack", spec := "bwtBack", unfollowed := true, recurses := true, apart := false }
def BwtBackSaid : Prop := bwtBackRow.holds Try.pinned (OpenSpec.ofChange bwtBackSpec)

/-- ITS FALSE NEIGHBOUR: 'it returns false'. Refute it at one input. -/
def bwtBackWrong : ChangeSpec := { name := "bwtBack", fn := fun _ => fun
  | [d] => { results := [.lit (.bool false)], args := [d] }
  | _ => none }
def BwtBackWrongFalsely : Prop := bwtBackRow.holds Try.pinned (OpenSpec.ofChange bwtBackWrong)

/-- 'scriniumlaw4.BwtNext': WHATEVER THE INPUT: true; the input reads as it did. -/
def bwtNextSpec : ChangeSpec := { name := "bwtNext", fn := fun _ => fun
  | [d] => { results := [.lit (.bool true)], args := [d] }
  | _ => none }
def bwtNextRow : OpenClaim := { program := "ytimofcbfkblmkaa", sum := "711750762108e7f4692eed09872289809e35617cba1f36daf1049f1409f102b4", func := "scrinium/scriniumlaw4.BwtNext", spec := "bwtNext", unfollowed := true, recurses := true, apart := false }
def BwtNextSaid : Prop := bwtNextRow.holds Try.pinned (OpenSpec.ofChange bwtNextSpec)

/-- ITS FALSE NEIGHBOUR: 'it returns false'. Refute it at one input. -/
def bwtNextWrong : ChangeSpec := { name := "bwtNext", fn := fun _ => fun
  | [d] => { results := [.lit (.bool false)], args := [d] }
  | _ => none }
def BwtNextWrongFalsely : Prop := bwtNextRow.holds Try.pinned (OpenSpec.ofChange bwtNextWrong)

/-- 'scriniumlaw4.BwtCounts': WHATEVER THE INPUT: true; the input reads as it did. -/
def bwtCountsSpec : ChangeSpec := { name := "bwtCounts", fn := fun _ => fun
  | [d1, d2] => { results := [.lit (.bool true)], args := [d1, d2] }
  | _ => none }
def bwtCountsRow : OpenClaim := { program := "ytimofcbfkblmkaa", sum := "711750762108e7f4692eed09872289809e35617cba1f36daf1049f1409f102b4", func := "scrinium/scriniumlaw4.BwtCounts", spec := "bwtCounts", unfollowed := true, recurses := true, apart := false }
def BwtCountsSaid : Prop := bwtCountsRow.holds Try.pinned (OpenSpec.ofChange bwtCountsSpec)

/-- ITS FALSE NEIGHBOUR: 'it returns false'. Refute it at one input. -/
def bwtCountsWrong : ChangeSpec := { name := "bwtCounts", fn := fun _ => fun
  | [d1, d2] => { results := [.lit (.bool false)], args := [d1, d2] }
  | _ => none }
def BwtCountsWrongFalsely : Prop := bwtCountsRow.holds Try.pinned (OpenSpec.ofChange bwtCountsWrong)

/-- 'scriniumlaw4.BwtRanks': WHATEVER THE INPUT: true; the input reads as it did. -/
def bwtRanksSpec : ChangeSpec := { name := "bwtRanks", fn := fun _ => fun
  | [d1, d2] => { results := [.lit (.bool true)], args := [d1, d2] }
  | _ => none }
def bwtRanksRow : OpenClaim := { program := "ytimofcbfkblmkaa", sum := "711750762108e7f4692eed09872289809e35617cba1f36daf1049f1409f102b4", func := "scrinium/scriniumlaw4.BwtRanks", spec := "bwtRanks", unfollowed := true, recurses := true, apart := false }
def BwtRanksSaid : Prop := bwtRanksRow.holds Try.pinned (OpenSpec.ofChange bwtRanksSpec)

/-- ITS FALSE NEIGHBOUR: 'it returns false'. Refute it at one input. -/
def bwtRanksWrong : ChangeSpec := { name := "bwtRanks", fn := fun _ => fun
  | [d1, d2] => { results := [.lit (.bool false)], args := [d1, d2] }
  | _ => none }
def BwtRanksWrongFalsely : Prop := bwtRanksRow.holds Try.pinned (OpenSpec.ofChange bwtRanksWrong)

/- THE SECOND FORM. 'bulk': how many values and letters a reading holds, each counted each time it is reached (what is shared counts as often as it is met; a slice's spare places count too). A statement '..UptoSaid' is the law's where the arguments, and the package variables that the reading takes, are together of bulk at most 1048576: NARROWER than '..Said'. Prove '..Said' where nothing that the law and all that it calls make is longer than what came in: it says more and counts as full. Else prove '..UptoSaid'. A law counts once. -/
mutual
def uptoBulk {H : Type} : DataW H → Nat
  | .lit (.string bytes) => bytes.length + 1
  | .lit _ => 1
  | .nil => 1
  | .ptr d => uptoBulk d + 1
  | .slice elems spare => uptoBulkAll elems + uptoBulkAll spare + 1
  | .agg parts => uptoBulkAll parts + 1
  | .iface _ d => uptoBulk d + 1
  | .map entries => uptoBulkEntries entries + 1
  | .held _ => 1
def uptoBulkAll {H : Type} : List (DataW H) → Nat
  | [] => 0
  | d :: r => uptoBulk d + uptoBulkAll r
def uptoBulkEntries {H : Type} : List (Lit × DataW H) → Nat
  | [] => 0
  | x :: r => uptoBulkEntry x + uptoBulkEntries r
def uptoBulkEntry {H : Type} : Lit × DataW H → Nat
  | (.string bytes, d) => bytes.length + uptoBulk d + 1
  | (_, d) => uptoBulk d + 1
 end
def uptoSmall : (H : Type) → List (DataW H) → Bool := fun _ ds => decide (uptoBulkAll ds ≤ 1048576)
def OpenSpec.upto (s : _root_.Go.ChangeSpec) : _root_.Go.OpenSpec := { _root_.Go.OpenSpec.ofChange s with cond := some uptoSmall }

/-- 'scriniumlaw3.RowsTells', WHERE WHAT IT READS IS OF BULK AT MOST 1048576: true; the input reads as it did. -/
def rowsTellsUptoRow : OpenClaim := { program := "ytimofcbfkblmkaa", sum := "711750762108e7f4692eed09872289809e35617cba1f36daf1049f1409f102b4", func := "scrinium/scriniumlaw3.RowsTells", spec := "rowsTells", unfollowed := true, recurses := true, apart := false, narrowed := true }
def RowsTellsUptoSaid : Prop := rowsTellsUptoRow.holds Try.pinned (OpenSpec.upto rowsTellsSpec)

/-- 'scriniumlaw4.BwtBack', WHERE WHAT IT READS IS OF BULK AT MOST 1048576: true; the input reads as it did. -/
def bwtBackUptoRow : OpenClaim := { program := "ytimofcbfkblmkaa", sum := "711750762108e7f4692eed09872289809e35617cba1f36daf1049f1409f102b4", func := "scrinium/scriniumlaw4.BwtBack", spec := "bwtBack", unfollowed := true, recurses := true, apart := false, narrowed := true }
def BwtBackUptoSaid : Prop := bwtBackUptoRow.holds Try.pinned (OpenSpec.upto bwtBackSpec)

/-- 'scriniumlaw4.BwtNext', WHERE WHAT IT READS IS OF BULK AT MOST 1048576: true; the input reads as it did. -/
def bwtNextUptoRow : OpenClaim := { program := "ytimofcbfkblmkaa", sum := "711750762108e7f4692eed09872289809e35617cba1f36daf1049f1409f102b4", func := "scrinium/scriniumlaw4.BwtNext", spec := "bwtNext", unfollowed := true, recurses := true, apart := false, narrowed := true }
def BwtNextUptoSaid : Prop := bwtNextUptoRow.holds Try.pinned (OpenSpec.upto bwtNextSpec)

/-- 'scriniumlaw4.BwtCounts', WHERE WHAT IT READS IS OF BULK AT MOST 1048576: true; the input reads as it did. -/
def bwtCountsUptoRow : OpenClaim := { program := "ytimofcbfkblmkaa", sum := "711750762108e7f4692eed09872289809e35617cba1f36daf1049f1409f102b4", func := "scrinium/scriniumlaw4.BwtCounts", spec := "bwtCounts", unfollowed := true, recurses := true, apart := false, narrowed := true }
def BwtCountsUptoSaid : Prop := bwtCountsUptoRow.holds Try.pinned (OpenSpec.upto bwtCountsSpec)

/-- 'scriniumlaw4.BwtRanks', WHERE WHAT IT READS IS OF BULK AT MOST 1048576: true; the input reads as it did. -/
def bwtRanksUptoRow : OpenClaim := { program := "ytimofcbfkblmkaa", sum := "711750762108e7f4692eed09872289809e35617cba1f36daf1049f1409f102b4", func := "scrinium/scriniumlaw4.BwtRanks", spec := "bwtRanks", unfollowed := true, recurses := true, apart := false, narrowed := true }
def BwtRanksUptoSaid : Prop := bwtRanksUptoRow.holds Try.pinned (OpenSpec.upto bwtRanksSpec)

end Rows
end Go.Proofs.Ytimofcbfkblmkaa
