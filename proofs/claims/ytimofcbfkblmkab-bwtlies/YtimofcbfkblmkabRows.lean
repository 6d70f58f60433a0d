/-
  No cell of these rows narrows 'for every input' (looked for: loops, veiled, ifaces, maps, wideKeys, modest, calm, conditions, laid).
  DERIVED. THE GIVEN ROWS OF THIS SEAT. 5 by the template 'for every input the law returns true; each argument reads behind the call as it read before'; 0 by the template 'total and deterministic' (their statements: YtimofcbfkblmkabTotals.lean).
  GIVEN WITH THE SEED: the statements are not yours to turn. If you find one false, say at which input.
  Laid BY PROGRAM, IN A SANDBOX (cutbox-rows.mjs): the forced cells as the released guide's own fill.sh prints them over the translation 2ef47e6d3d587c70… (all of the seat's roots in one cut). By AI agents, Wed Nov 11 2026. No macro, syntax, notation, axiom, sorry.
-/
import Derived.Test.YtimofcbfkblmkabChecked
import GoSem.Claim
import GoSem.ClaimJoined
import GoSem.ClaimMapViews
import Derived.JoinedTies
import Derived.KernelRfl
namespace Go.Proofs.Ytimofcbfkblmkab
/- THE CELL 'sum', in the pinned program and in every row, IS THE sha256 OF THE DUMP (.gsa) THAT YtimofcbfkblmkabProg.lean LOADS. Nothing in Lean hashes anything: it is a label: what it is worth is what the hold of that sum in a sandbox is worth. -/
noncomputable def Try.pinned : Pinned := { name := "ytimofcbfkblmkab", sum := "2ef47e6d3d587c70ce133f04a8cd9267dec265585980540ffde664e6af77fe6c", checked := Try.checked }
namespace Rows
def none {H : Type} : Left H := { results := [], args := [] }

/-- 'scriniumlaw4.BwtNexts': WHATEVER THE INPUT: true; the input reads as it did. -/
def bwtNextsSpec : ChangeSpec := { name := "bwtNexts", fn := fun _ => fun
  | [d] => { results := [.lit (.bool true)], args := [d] }
  | _ => none }
def bwtNextsRow : OpenClaim := { program := "ytimofcbfkblmkab", sum := "2ef47e6d3d587c70ce133f04a8cd9267dec265585980540ffde664e6af77fe6c", func := "scrinium/scriniumlaw4.BwtNexts", spec := "bwtNexts", unfollowed := true, recurses := true, apart := false }
def BwtNextsSaid : Prop := bwtNextsRow.holds Try.pinned (OpenSpec.ofChange bwtNextsSpec)

/-- ITS FALSE NEIGHBOUR: 'it returns false'. Refute it at one input. -/
def bwtNextsWrong : ChangeSpec := { name := "bwtNexts", fn := fun _ => fun
  | [d] => { results := [.lit (.bool false)], args := [d] }
  | _ => none }
def BwtNextsWrongFalsely : Prop := bwtNextsRow.holds Try.pinned (OpenSpec.ofChange bwtNextsWrong)

/-- 'scriniumlaw4.BwtTexts': WHATEVER THE INPUT: true; the input reads as it did. -/
def bwtTextsSpec : ChangeSpec := { name := "bwtTexts", fn := fun _ => fun
  | [d] => { results := [.lit (.bool true)], args := [d] }
  | _ => none }
def bwtTextsRow : OpenClaim := { program := "ytimofcbfkblmkab", sum := "2ef47e6d3d587c70ce133f04a8cd9267dec265585980540ffde664e6af77fe6c", func := "scrinium/scriniumlaw4.BwtTexts", spec := "bwtTexts", unfollowed := true, recurses := true, apart := false }
def BwtTextsSaid : Prop := bwtTextsRow.holds Try.pinned (OpenSpec.ofChange bwtTextsSpec)

/-- ITS FALSE NEIGHBOUR: 'it returns false'. Refute it at one input. -/
def bwtTextsWrong : ChangeSpec := { name := "bwtTexts", fn := fun _ => fun
  | [d] => { results := [.lit (.bool false)], args := [d] }
  | _ => none }
def BwtTextsWrongFalsely : Prop := bwtTextsRow.holds Try.pinned (OpenSpec.ofChange bwtTextsWrong)

/-- 'scriniumlaw4.BwtLies': WHATEVER THE INPUT: true; the input reads as it did. -/
def bwtLiesSpec : ChangeSpec := { name := "bwtLies", fn := fun _ => fun
  | [d1, d2, d3] => { results := [.lit (.bool true)], args := [d1, d2, d3] }
  | _ => none }
def bwtLiesRow : OpenClaim := { program := "ytimofcbfkblmkab", sum := "2ef47e6d3d587c70ce133f04a8cd9267dec265585980540ffde664e6af77fe6c", func := "scrinium/scriniumlaw4.BwtLies", spec := "bwtLies", unfollowed := true, recurses := true, apart := false }
def BwtLiesSaid : Prop := bwtLiesRow.holds Try.pinned (OpenSpec.ofChange bwtLiesSpec)

/-- ITS FALSE NEIGHBOUR: 'it returns false'. Refute it at one input. -/
def bwtLiesWrong : ChangeSpec := { name := "bwtLies", fn := fun _ => fun
  | [d1, d2, d3] => { results := [.lit (.bool false)], args := [d1, d2, d3] }
  | _ => none }
def BwtLiesWrongFalsely : Prop := bwtLiesRow.holds Try.pinned (OpenSpec.ofChange bwtLiesWrong)

/-- 'scriniumlaw4.BwtWrong': WHATEVER THE INPUT: true; the input reads as it did. -/
def bwtWrongSpec : ChangeSpec := { name := "bwtWrong", fn := fun _ => fun
  | [d1, d2, d3, d4] => { results := [.lit (.bool true)], args := [d1, d2, d3, d4] }
  | _ => none }
def bwtWrongRow : OpenClaim := { program := "ytimofcbfkblmkab", sum := "2ef47e6d3d587c70ce133f04a8cd9267dec265585980540ffde664e6af77fe6c", func := "scrinium/scriniumlaw4.BwtWrong", spec := "bwtWrong", unfollowed := true, recurses := true, apart := false }
def BwtWrongSaid : Prop := bwtWrongRow.holds Try.pinned (OpenSpec.ofChange bwtWrongSpec)

/-- ITS FALSE NEIGHBOUR: 'it returns false'. Refute it at one input. -/
def bwtWrongWrong : ChangeSpec := { name := "bwtWrong", fn := fun _ => fun
  | [d1, d2, d3, d4] => { results := [.lit (.bool false)], args := [d1, d2, d3, d4] }
  | _ => none }
def BwtWrongWrongFalsely : Prop := bwtWrongRow.holds Try.pinned (OpenSpec.ofChange bwtWrongWrong)

/-- 'scriniumlaw4.BwtSizes': WHATEVER THE INPUT: true; the input reads as it did. -/
def bwtSizesSpec : ChangeSpec := { name := "bwtSizes", fn := fun _ => fun
  | [d1, d2, d3] => { results := [.lit (.bool true)], args := [d1, d2, d3] }
  | _ => none }
def bwtSizesRow : OpenClaim := { program := "ytimofcbfkblmkab", sum := "2ef47e6d3d587c70ce133f04a8cd9267dec265585980540ffde664e6af77fe6c", func := "scrinium/scriniumlaw4.BwtSizes", spec := "bwtSizes", unfollowed := true, recurses := true, apart := false }
def BwtSizesSaid : Prop := bwtSizesRow.holds Try.pinned (OpenSpec.ofChange bwtSizesSpec)

/-- ITS FALSE NEIGHBOUR: 'it returns false'. Refute it at one input. -/
def bwtSizesWrong : ChangeSpec := { name := "bwtSizes", fn := fun _ => fun
  | [d1, d2, d3] => { results := [.lit (.bool false)], args := [d1, d2, d3] }
  | _ => none }
def BwtSizesWrongFalsely : Prop := bwtSizesRow.holds Try.pinned (OpenSpec.ofChange bwtSizesWrong)

/- THE SECOND FORM. 'bulk': how many values and letters a reading holds, each counted each time it is reached (what is shared counts as often as it is met; a slice's spare places count too). A statement '..UptoSaid' is the law's where the arguments, and the package variables that the reading takes, are together of bulk at most 1048576: NARROWER than '..Said'. Prove '..Said' where nothing that the law and all that it calls make is longer than what came in: it says more and counts as full. Else prove '..UptoSaid'. A law counts once. -/
mutual
def uptoBulk {H : Type} : DataW H → Nat
  | .lit (.string bytes) => bytes.length + 1
  | .lit _ => 1
  | .nil => 1
  | .ptr d => uptoBulk d + 1
  | .slice elems spare => uptoBulkAll elems + uptoBulkAll spare + 1
  | .agg parts => uptoBulkAll parts + 1
  | .iface _ d => uptoBulk d + 1
  | .map entries => uptoBulkEntries entries + 1
  | .held _ => 1
def uptoBulkAll {H : Type} : List (DataW H) → Nat
  | [] => 0
  | d :: r => uptoBulk d + uptoBulkAll r
def uptoBulkEntries {H : Type} : List (Lit × DataW H) → Nat
  | [] => 0
  | x :: r => uptoBulkEntry x + uptoBulkEntries r
def uptoBulkEntry {H : Type} : Lit × DataW H → Nat
  | (.string bytes, d) => bytes.length + uptoBulk d + 1
  | (_, d) => uptoBulk d + 1
 end
def uptoSmall : (H : Type) → List (DataW H) → Bool := fun _ ds => decide (uptoBulkAll ds ≤ 1048576)
def OpenSpec.upto (s : _root_.Go.ChangeSpec) : _root_.Go.OpenSpec := { _root_.Go.OpenSpec.ofChange s with cond := some uptoSmall }

/-- 'scriniumlaw4.BwtNexts', WHERE WHAT IT READS IS OF BULK AT MOST 1048576: true; the input reads as it did. -/
def bwtNextsUptoRow : OpenClaim := { program := "ytimofcbfkblmkab", sum := "2ef47e6d3d587c70ce133f04a8cd9267dec265585980540ffde664e6af77fe6c", func := "scrinium/scriniumlaw4.BwtNexts", spec := "bwtNexts", unfollowed := true, recurses := true, apart := false, narrowed := true }
def BwtNextsUptoSaid : Prop := bwtNextsUptoRow.holds Try.pinned (OpenSpec.upto bwtNextsSpec)

/-- 'scriniumlaw4.BwtTexts', WHERE WHAT IT READS IS OF BULK AT MOST 1048576: true; the input reads as it did. -/
def bwtTextsUptoRow : OpenClaim := { program := "ytimofcbfkblmkab", sum := "2ef47e6d3d587c70ce133f04a8cd9267dec265585980540ffde664e6af77fe6c", func := "scrinium/scriniumlaw4.BwtTexts", spec := "bwtTexts", unfollowed := true, recurses := true, apart := false, narrowed := true }
def BwtTextsUptoSaid : Prop := bwtTextsUptoRow.holds Try.pinned (OpenSpec.upto bwtTextsSpec)

/-- 'scriniumlaw4.BwtLies', WHERE WHAT IT READS IS OF BULK AT MOST 1048576: true; the input reads as it did. -/
def bwtLiesUptoRow : OpenClaim := { program := "ytimofcbfkblmkab", sum := "2ef47e6d3d587c70ce133f04a8cd9267dec265585980540ffde664e6af77fe6c", func := "scrinium/scriniumlaw4.BwtLies", spec := "bwtLies", unfollowed := true, recurses := true, apart := false, narrowed := true }
def BwtLiesUptoSaid : Prop := bwtLiesUptoRow.holds Try.pinned (OpenSpec.upto bwtLiesSpec)

/-- 'scriniumlaw4.BwtWrong', WHERE WHAT IT READS IS OF BULK AT MOST 1048576: true; the input reads as it did. -/
def bwtWrongUptoRow : OpenClaim := { program := "ytimofcbfkblmkab", sum := "2ef47e6d3d587c70ce133f04a8cd9267dec265585980540ffde664e6af77fe6c", func := "scrinium/scriniumlaw4.BwtWrong", spec := "bwtWrong", unfollowed := true, recurses := true, apart := false, narrowed := true }
def BwtWrongUptoSaid : Prop := bwtWrongUptoRow.holds Try.pinned (OpenSpec.upto bwtWrongSpec)

/-- 'scriniumlaw4.BwtSizes', WHERE WHAT IT READS IS OF BULK AT MOST 1048576: true; the input reads as it did. -/
def bwtSizesUptoRow : OpenClaim := { program := "ytimofcbfkblmkab", sum := "2ef47e6d3d587c70ce133f04a8cd9267dec265585980540ffde664e6af77fe6c", func := "scrinium/scriniumlaw4.BwtSizes", spec := "bwtSizes", unfollowed := true, recurses := true, apart := false, narrowed := true }
def BwtSizesUptoSaid : Prop := bwtSizesUptoRow.holds Try.pinned (OpenSpec.upto bwtSizesSpec)

end Rows
end Go.Proofs.Ytimofcbfkblmkab
