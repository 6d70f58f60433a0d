/-
  No cell of these rows narrows 'for every input' (looked for: loops, veiled, ifaces, maps, wideKeys, modest, calm, conditions, laid).
  DERIVED. THE GIVEN ROWS OF THIS SEAT. 5 by the template 'for every input the law returns true; each argument reads behind the call as it read before'; 0 by the template 'total and deterministic' (their statements: YtcheclhiekdjmaaTotals.lean).
  GIVEN WITH THE SEED: the statements are not yours to turn. If you find one false, say at which input.
  Laid BY PROGRAM, IN A SANDBOX (cutbox-rows.mjs): the forced cells as the released guide's own fill.sh prints them over the translation db17c3307e105ea6… (all of the seat's roots in one cut). By AI agents, Wed Nov 11 2026. No macro, syntax, notation, axiom, sorry.
-/
import Derived.Test.YtcheclhiekdjmaaChecked
import GoSem.Claim
import GoSem.ClaimJoined
import GoSem.ClaimMapViews
import Derived.JoinedTies
import Derived.KernelRfl
namespace Go.Proofs.Ytcheclhiekdjmaa
/- THE CELL 'sum', in the pinned program and in every row, IS THE sha256 OF THE DUMP (.gsa) THAT YtcheclhiekdjmaaProg.lean LOADS. Nothing in Lean hashes anything: it is a label: what it is worth is what the hold of that sum in a sandbox is worth. -/
noncomputable def Try.pinned : Pinned := { name := "ytcheclhiekdjmaa", sum := "db17c3307e105ea6ad75ded776f1a5b2ab56219167fe085a5cf99ddccf1d4712", checked := Try.checked }
namespace Rows
def none {H : Type} : Left H := { results := [], args := [] }

/-- 'scriniumlaw5.BackFinds': WHATEVER THE INPUT: true; the input reads as it did. -/
def backFindsSpec : ChangeSpec := { name := "backFinds", fn := fun _ => fun
  | [d1, d2, d3, d4] => { results := [.lit (.bool true)], args := [d1, d2, d3, d4] }
  | _ => none }
def backFindsRow : OpenClaim := { program := "ytcheclhiekdjmaa", sum := "db17c3307e105ea6ad75ded776f1a5b2ab56219167fe085a5cf99ddccf1d4712", func := "scrinium/scriniumlaw5.BackFinds", spec := "backFinds", unfollowed := true, recurses := true, plainKeys := false, apart := false }
def BackFindsSaid : Prop := backFindsRow.holds Try.pinned (OpenSpec.ofChange backFindsSpec)

/-- ITS FALSE NEIGHBOUR: 'it returns false'. Refute it at one input. -/
def backFindsWrong : ChangeSpec := { name := "backFinds", fn := fun _ => fun
  | [d1, d2, d3, d4] => { results := [.lit (.bool false)], args := [d1, d2, d3, d4] }
  | _ => none }
def BackFindsWrongFalsely : Prop := backFindsRow.holds Try.pinned (OpenSpec.ofChange backFindsWrong)

/-- 'scriniumlaw5.BackLonger': WHATEVER THE INPUT: true; the input reads as it did. -/
def backLongerSpec : ChangeSpec := { name := "backLonger", fn := fun _ => fun
  | [d1, d2] => { results := [.lit (.bool true)], args := [d1, d2] }
  | _ => none }
def backLongerRow : OpenClaim := { program := "ytcheclhiekdjmaa", sum := "db17c3307e105ea6ad75ded776f1a5b2ab56219167fe085a5cf99ddccf1d4712", func := "scrinium/scriniumlaw5.BackLonger", spec := "backLonger", unfollowed := true, recurses := true, plainKeys := false, apart := false }
def BackLongerSaid : Prop := backLongerRow.holds Try.pinned (OpenSpec.ofChange backLongerSpec)

/-- ITS FALSE NEIGHBOUR: 'it returns false'. Refute it at one input. -/
def backLongerWrong : ChangeSpec := { name := "backLonger", fn := fun _ => fun
  | [d1, d2] => { results := [.lit (.bool false)], args := [d1, d2] }
  | _ => none }
def BackLongerWrongFalsely : Prop := backLongerRow.holds Try.pinned (OpenSpec.ofChange backLongerWrong)

/-- 'scriniumlaw5.BackWhole': WHATEVER THE INPUT: true; the input reads as it did. -/
def backWholeSpec : ChangeSpec := { name := "backWhole", fn := fun _ => fun
  | [d] => { results := [.lit (.bool true)], args := [d] }
  | _ => none }
def backWholeRow : OpenClaim := { program := "ytcheclhiekdjmaa", sum := "db17c3307e105ea6ad75ded776f1a5b2ab56219167fe085a5cf99ddccf1d4712", func := "scrinium/scriniumlaw5.BackWhole", spec := "backWhole", unfollowed := true, recurses := true, plainKeys := false, apart := false }
def BackWholeSaid : Prop := backWholeRow.holds Try.pinned (OpenSpec.ofChange backWholeSpec)

/-- ITS FALSE NEIGHBOUR: 'it returns false'. Refute it at one input. -/
def backWholeWrong : ChangeSpec := { name := "backWhole", fn := fun _ => fun
  | [d] => { results := [.lit (.bool false)], args := [d] }
  | _ => none }
def BackWholeWrongFalsely : Prop := backWholeRow.holds Try.pinned (OpenSpec.ofChange backWholeWrong)

/-- 'scriniumlaw5.BackSteps': WHATEVER THE INPUT: true; the input reads as it did. -/
def backStepsSpec : ChangeSpec := { name := "backSteps", fn := fun _ => fun
  | [d1, d2] => { results := [.lit (.bool true)], args := [d1, d2] }
  | _ => none }
def backStepsRow : OpenClaim := { program := "ytcheclhiekdjmaa", sum := "db17c3307e105ea6ad75ded776f1a5b2ab56219167fe085a5cf99ddccf1d4712", func := "scrinium/scriniumlaw5.BackSteps", spec := "backSteps", unfollowed := true, recurses := true, plainKeys := false, apart := false }
def BackStepsSaid : Prop := backStepsRow.holds Try.pinned (OpenSpec.ofChange backStepsSpec)

/-- ITS FALSE NEIGHBOUR: 'it returns false'. Refute it at one input. -/
def backStepsWrong : ChangeSpec := { name := "backSteps", fn := fun _ => fun
  | [d1, d2] => { results := [.lit (.bool false)], args := [d1, d2] }
  | _ => none }
def BackStepsWrongFalsely : Prop := backStepsRow.holds Try.pinned (OpenSpec.ofChange backStepsWrong)

/-- 'scriniumlaw5.BackTwice': WHATEVER THE INPUT: true; the input reads as it did. -/
def backTwiceSpec : ChangeSpec := { name := "backTwice", fn := fun _ => fun
  | [d1, d2] => { results := [.lit (.bool true)], args := [d1, d2] }
  | _ => none }
def backTwiceRow : OpenClaim := { program := "ytcheclhiekdjmaa", sum := "db17c3307e105ea6ad75ded776f1a5b2ab56219167fe085a5cf99ddccf1d4712", func := "scrinium/scriniumlaw5.BackTwice", spec := "backTwice", unfollowed := true, recurses := true, plainKeys := false, apart := false }
def BackTwiceSaid : Prop := backTwiceRow.holds Try.pinned (OpenSpec.ofChange backTwiceSpec)

/-- ITS FALSE NEIGHBOUR: 'it returns false'. Refute it at one input. -/
def backTwiceWrong : ChangeSpec := { name := "backTwice", fn := fun _ => fun
  | [d1, d2] => { results := [.lit (.bool false)], args := [d1, d2] }
  | _ => none }
def BackTwiceWrongFalsely : Prop := backTwiceRow.holds Try.pinned (OpenSpec.ofChange backTwiceWrong)

/- THE SECOND FORM. 'bulk': how many values and letters a reading holds, each counted each time it is reached (what is shared counts as often as it is met; a slice's spare places count too). A statement '..UptoSaid' is the law's where the arguments, and the package variables that the reading takes, are together of bulk at most 1048576: NARROWER than '..Said'. Prove '..Said' where nothing that the law and all that it calls make is longer than what came in: it says more and counts as full. Else prove '..UptoSaid'. A law counts once. -/
mutual
def uptoBulk {H : Type} : DataW H → Nat
  | .lit (.string bytes) => bytes.length + 1
  | .lit _ => 1
  | .nil => 1
  | .ptr d => uptoBulk d + 1
  | .slice elems spare => uptoBulkAll elems + uptoBulkAll spare + 1
  | .agg parts => uptoBulkAll parts + 1
  | .iface _ d => uptoBulk d + 1
  | .map entries => uptoBulkEntries entries + 1
  | .held _ => 1
def uptoBulkAll {H : Type} : List (DataW H) → Nat
  | [] => 0
  | d :: r => uptoBulk d + uptoBulkAll r
def uptoBulkEntries {H : Type} : List (Lit × DataW H) → Nat
  | [] => 0
  | x :: r => uptoBulkEntry x + uptoBulkEntries r
def uptoBulkEntry {H : Type} : Lit × DataW H → Nat
  | (.string bytes, d) => bytes.length + uptoBulk d + 1
  | (_, d) => uptoBulk d + 1
 end
def uptoSmall : (H : Type) → List (DataW H) → Bool := fun _ ds => decide (uptoBulkAll ds ≤ 1048576)
def OpenSpec.upto (s : _root_.Go.ChangeSpec) : _root_.Go.OpenSpec := { _root_.Go.OpenSpec.ofChange s with cond := some uptoSmall }

/-- 'scriniumlaw5.BackFinds', WHERE WHAT IT READS IS OF BULK AT MOST 1048576: true; the input reads as it did. -/
def backFindsUptoRow : OpenClaim := { program := "ytcheclhiekdjmaa", sum := "db17c3307e105ea6ad75ded776f1a5b2ab56219167fe085a5cf99ddccf1d4712", func := "scrinium/scriniumlaw5.BackFinds", spec := "backFinds", unfollowed := true, recurses := true, plainKeys := false, apart := false, narrowed := true }
def BackFindsUptoSaid : Prop := backFindsUptoRow.holds Try.pinned (OpenSpec.upto backFindsSpec)

/-- 'scriniumlaw5.BackLonger', WHERE WHAT IT READS IS OF BULK AT MOST 1048576: true; the input reads as it did. -/
def backLongerUptoRow : OpenClaim := { program := "ytcheclhiekdjmaa", sum := "db17c3307e105ea6ad75ded776f1a5b2ab56219167fe085a5cf99ddccf1d4712", func := "scrinium/scriniumlaw5.BackLonger", spec := "backLonger", unfollowed := true, recurses := true, plainKeys := false, apart := false, narrowed := true }
def BackLongerUptoSaid : Prop := backLongerUptoRow.holds Try.pinned (OpenSpec.upto backLongerSpec)

/-- 'scriniumlaw5.BackWhole', WHERE WHAT IT READS IS OF BULK AT MOST 1048576: true; the input reads as it did. -/
def backWholeUptoRow : OpenClaim := { program := "ytcheclhiekdjmaa", sum := "db17c3307e105ea6ad75ded776f1a5b2ab56219167fe085a5cf99ddccf1d4712", func := "scrinium/scriniumlaw5.BackWhole", spec := "backWhole", unfollowed := true, recurses := true, plainKeys := false, apart := false, narrowed := true }
def BackWholeUptoSaid : Prop := backWholeUptoRow.holds Try.pinned (OpenSpec.upto backWholeSpec)

/-- 'scriniumlaw5.BackSteps', WHERE WHAT IT READS IS OF BULK AT MOST 1048576: true; the input reads as it did. -/
def backStepsUptoRow : OpenClaim := { program := "ytcheclhiekdjmaa", sum := "db17c3307e105ea6ad75ded776f1a5b2ab56219167fe085a5cf99ddccf1d4712", func := "scrinium/scriniumlaw5.BackSteps", spec := "backSteps", unfollowed := true, recurses := true, plainKeys := false, apart := false, narrowed := true }
def BackStepsUptoSaid : Prop := backStepsUptoRow.holds Try.pinned (OpenSpec.upto backStepsSpec)

/-- 'scriniumlaw5.BackTwice', WHERE WHAT IT READS IS OF BULK AT MOST 1048576: true; the input reads as it did. -/
def backTwiceUptoRow : OpenClaim := { program := "ytcheclhiekdjmaa", sum := "db17c3307e105ea6ad75ded776f1a5b2ab56219167fe085a5cf99ddccf1d4712", func := "scrinium/scriniumlaw5.BackTwice", spec := "backTwice", unfollowed := true, recurses := true, plainKeys := false, apart := false, narrowed := true }
def BackTwiceUptoSaid : Prop := backTwiceUptoRow.holds Try.pinned (OpenSpec.upto backTwiceSpec)

end Rows
end Go.Proofs.Ytcheclhiekdjmaa
