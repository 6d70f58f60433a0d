/-
  NARROWER THAN 'FOR EVERY INPUT', by the rows' own cells (each row's printed sentence says how): WaveRanks: laid · WaveBack: laid · WaveNodes: laid · WaveShares: laid · WaveNone: laid · WaveMany: laid.
  DERIVED. THE GIVEN ROWS OF THIS SEAT. 6 by the template 'for every input the law returns true; each argument reads behind the call as it read before'; 0 by the template 'total and deterministic' (their statements: YtjbiofjfjljeoaaDoorTotals.lean).
  GIVEN WITH THE SEED: the statements are not yours to turn. If you find one false, say at which input.
  Laid BY PROGRAM, IN A SANDBOX (cutbox-rows.mjs): the forced cells as the released guide's own fill.sh prints them over the translation 8e138a809ed01a87… (all of the seat's roots in one cut). By AI agents, Wed Nov 11 2026. No macro, syntax, notation, axiom, sorry.
-/
import Derived.Test.YtjbiofjfjljeoaaDoorChecked
import GoSem.Claim
import GoSem.ClaimJoined
import GoSem.ClaimMapViews
import Derived.JoinedTies
import Derived.KernelRfl
namespace Go.Proofs.YtjbiofjfjljeoaaDoor
/- THE CELL 'sum', in the pinned program and in every row, IS THE sha256 OF THE DUMP (.gsa) THAT YtjbiofjfjljeoaaDoorProg.lean LOADS. Nothing in Lean hashes anything: it is a label: what it is worth is what the hold of that sum in a sandbox is worth. -/
noncomputable def Tryd.pinned : Pinned := { name := "ytjbiofjfjljeoaadoor", sum := "8e138a809ed01a8770f6a2b5ad1f90199bf863c544e642a182c5401319900f97", checked := Tryd.checked }
namespace Rows
def none {H : Type} : Left H := { results := [], args := [] }

/- WHAT THE LISTED PACKAGE-LEVEL VARIABLES READ AS WHEN THE CALL BEGINS. Each datum BY PROGRAM (the guide's laid-datum.mjs) off the statement by which the dump's own 'gosem.cut.vars' lays the variable. In a bare row this is a premise. The card (YtjbiofjfjljeoaaDoorCards.lean) ties it to the program's text. -/
def laid_math_bits_deBruijn64tab {H : Type} : DataW H := .agg [.lit (.int .u8 0), .lit (.int .u8 1), .lit (.int .u8 56), .lit (.int .u8 2), .lit (.int .u8 57), .lit (.int .u8 49), .lit (.int .u8 28), .lit (.int .u8 3), .lit (.int .u8 61), .lit (.int .u8 58), .lit (.int .u8 42), .lit (.int .u8 50), .lit (.int .u8 38), .lit (.int .u8 29), .lit (.int .u8 17), .lit (.int .u8 4), .lit (.int .u8 62), .lit (.int .u8 47), .lit (.int .u8 59), .lit (.int .u8 36), .lit (.int .u8 45), .lit (.int .u8 43), .lit (.int .u8 51), .lit (.int .u8 22), .lit (.int .u8 53), .lit (.int .u8 39), .lit (.int .u8 33), .lit (.int .u8 30), .lit (.int .u8 24), .lit (.int .u8 18), .lit (.int .u8 12), .lit (.int .u8 5), .lit (.int .u8 63), .lit (.int .u8 55), .lit (.int .u8 48), .lit (.int .u8 27), .lit (.int .u8 60), .lit (.int .u8 41), .lit (.int .u8 37), .lit (.int .u8 16), .lit (.int .u8 46), .lit (.int .u8 35), .lit (.int .u8 44), .lit (.int .u8 21), .lit (.int .u8 52), .lit (.int .u8 32), .lit (.int .u8 23), .lit (.int .u8 11), .lit (.int .u8 54), .lit (.int .u8 26), .lit (.int .u8 40), .lit (.int .u8 15), .lit (.int .u8 34), .lit (.int .u8 20), .lit (.int .u8 31), .lit (.int .u8 10), .lit (.int .u8 25), .lit (.int .u8 14), .lit (.int .u8 19), .lit (.int .u8 9), .lit (.int .u8 13), .lit (.int .u8 8), .lit (.int .u8 7), .lit (.int .u8 6)]

/-- 'scriniumlaw9.WaveRanks': WHATEVER THE INPUT: true; the input reads as it did. -/
def waveRanksSpec : ChangeSpec := { name := "waveRanks", fn := fun _ => fun
  | [d1, d2, d3] => { results := [.lit (.bool true)], args := [d1, d2, d3] }
  | _ => none }
def waveRanksRow : OpenClaim := { program := "ytjbiofjfjljeoaadoor", sum := "8e138a809ed01a8770f6a2b5ad1f90199bf863c544e642a182c5401319900f97", func := "scrinium/scriniumlaw9.WaveRanks", spec := "waveRanks", unfollowed := true, recurses := true, named := ["math/bits.deBruijn64tab"], apart := false, laid := [("math/bits.deBruijn64tab", laid_math_bits_deBruijn64tab)] }
def WaveRanksSaid : Prop := waveRanksRow.holds Tryd.pinned (OpenSpec.ofChange waveRanksSpec)

/-- ITS FALSE NEIGHBOUR: 'it returns false'. Refute it at one input. -/
def waveRanksWrong : ChangeSpec := { name := "waveRanks", fn := fun _ => fun
  | [d1, d2, d3] => { results := [.lit (.bool false)], args := [d1, d2, d3] }
  | _ => none }
def WaveRanksWrongFalsely : Prop := waveRanksRow.holds Tryd.pinned (OpenSpec.ofChange waveRanksWrong)

/-- 'scriniumlaw9.WaveBack': WHATEVER THE INPUT: true; the input reads as it did. -/
def waveBackSpec : ChangeSpec := { name := "waveBack", fn := fun _ => fun
  | [d1, d2, d3] => { results := [.lit (.bool true)], args := [d1, d2, d3] }
  | _ => none }
def waveBackRow : OpenClaim := { program := "ytjbiofjfjljeoaadoor", sum := "8e138a809ed01a8770f6a2b5ad1f90199bf863c544e642a182c5401319900f97", func := "scrinium/scriniumlaw9.WaveBack", spec := "waveBack", unfollowed := true, recurses := true, named := ["math/bits.deBruijn64tab"], apart := false, laid := [("math/bits.deBruijn64tab", laid_math_bits_deBruijn64tab)] }
def WaveBackSaid : Prop := waveBackRow.holds Tryd.pinned (OpenSpec.ofChange waveBackSpec)

/-- ITS FALSE NEIGHBOUR: 'it returns false'. Refute it at one input. -/
def waveBackWrong : ChangeSpec := { name := "waveBack", fn := fun _ => fun
  | [d1, d2, d3] => { results := [.lit (.bool false)], args := [d1, d2, d3] }
  | _ => none }
def WaveBackWrongFalsely : Prop := waveBackRow.holds Tryd.pinned (OpenSpec.ofChange waveBackWrong)

/-- 'scriniumlaw9.WaveNodes': WHATEVER THE INPUT: true; the input reads as it did. -/
def waveNodesSpec : ChangeSpec := { name := "waveNodes", fn := fun _ => fun
  | [d] => { results := [.lit (.bool true)], args := [d] }
  | _ => none }
def waveNodesRow : OpenClaim := { program := "ytjbiofjfjljeoaadoor", sum := "8e138a809ed01a8770f6a2b5ad1f90199bf863c544e642a182c5401319900f97", func := "scrinium/scriniumlaw9.WaveNodes", spec := "waveNodes", unfollowed := true, recurses := true, named := ["math/bits.deBruijn64tab"], apart := false, laid := [("math/bits.deBruijn64tab", laid_math_bits_deBruijn64tab)] }
def WaveNodesSaid : Prop := waveNodesRow.holds Tryd.pinned (OpenSpec.ofChange waveNodesSpec)

/-- ITS FALSE NEIGHBOUR: 'it returns false'. Refute it at one input. -/
def waveNodesWrong : ChangeSpec := { name := "waveNodes", fn := fun _ => fun
  | [d] => { results := [.lit (.bool false)], args := [d] }
  | _ => none }
def WaveNodesWrongFalsely : Prop := waveNodesRow.holds Tryd.pinned (OpenSpec.ofChange waveNodesWrong)

/-- 'scriniumlaw9.WaveShares': WHATEVER THE INPUT: true; the input reads as it did. -/
def waveSharesSpec : ChangeSpec := { name := "waveShares", fn := fun _ => fun
  | [d1, d2, d3] => { results := [.lit (.bool true)], args := [d1, d2, d3] }
  | _ => none }
def waveSharesRow : OpenClaim := { program := "ytjbiofjfjljeoaadoor", sum := "8e138a809ed01a8770f6a2b5ad1f90199bf863c544e642a182c5401319900f97", func := "scrinium/scriniumlaw9.WaveShares", spec := "waveShares", unfollowed := true, recurses := true, named := ["math/bits.deBruijn64tab"], apart := false, laid := [("math/bits.deBruijn64tab", laid_math_bits_deBruijn64tab)] }
def WaveSharesSaid : Prop := waveSharesRow.holds Tryd.pinned (OpenSpec.ofChange waveSharesSpec)

/-- ITS FALSE NEIGHBOUR: 'it returns false'. Refute it at one input. -/
def waveSharesWrong : ChangeSpec := { name := "waveShares", fn := fun _ => fun
  | [d1, d2, d3] => { results := [.lit (.bool false)], args := [d1, d2, d3] }
  | _ => none }
def WaveSharesWrongFalsely : Prop := waveSharesRow.holds Tryd.pinned (OpenSpec.ofChange waveSharesWrong)

/-- 'scriniumlaw9.WaveNone': WHATEVER THE INPUT: true; the input reads as it did. -/
def waveNoneSpec : ChangeSpec := { name := "waveNone", fn := fun _ => fun
  | [d1, d2, d3] => { results := [.lit (.bool true)], args := [d1, d2, d3] }
  | _ => none }
def waveNoneRow : OpenClaim := { program := "ytjbiofjfjljeoaadoor", sum := "8e138a809ed01a8770f6a2b5ad1f90199bf863c544e642a182c5401319900f97", func := "scrinium/scriniumlaw9.WaveNone", spec := "waveNone", unfollowed := true, recurses := true, named := ["math/bits.deBruijn64tab"], apart := false, laid := [("math/bits.deBruijn64tab", laid_math_bits_deBruijn64tab)] }
def WaveNoneSaid : Prop := waveNoneRow.holds Tryd.pinned (OpenSpec.ofChange waveNoneSpec)

/-- ITS FALSE NEIGHBOUR: 'it returns false'. Refute it at one input. -/
def waveNoneWrong : ChangeSpec := { name := "waveNone", fn := fun _ => fun
  | [d1, d2, d3] => { results := [.lit (.bool false)], args := [d1, d2, d3] }
  | _ => none }
def WaveNoneWrongFalsely : Prop := waveNoneRow.holds Tryd.pinned (OpenSpec.ofChange waveNoneWrong)

/-- 'scriniumlaw9.WaveMany': WHATEVER THE INPUT: true; the input reads as it did. -/
def waveManySpec : ChangeSpec := { name := "waveMany", fn := fun _ => fun
  | [d1, d2] => { results := [.lit (.bool true)], args := [d1, d2] }
  | _ => none }
def waveManyRow : OpenClaim := { program := "ytjbiofjfjljeoaadoor", sum := "8e138a809ed01a8770f6a2b5ad1f90199bf863c544e642a182c5401319900f97", func := "scrinium/scriniumlaw9.WaveMany", spec := "waveMany", unfollowed := true, recurses := true, named := ["math/bits.deBruijn64tab"], apart := false, laid := [("math/bits.deBruijn64tab", laid_math_bits_deBruijn64tab)] }
def WaveManySaid : Prop := waveManyRow.holds Tryd.pinned (OpenSpec.ofChange waveManySpec)

/-- ITS FALSE NEIGHBOUR: 'it returns false'. Refute it at one input. -/
def waveManyWrong : ChangeSpec := { name := "waveMany", fn := fun _ => fun
  | [d1, d2] => { results := [.lit (.bool false)], args := [d1, d2] }
  | _ => none }
def WaveManyWrongFalsely : Prop := waveManyRow.holds Tryd.pinned (OpenSpec.ofChange waveManyWrong)

/- THE SECOND FORM. 'bulk': how many values and letters a reading holds, each counted each time it is reached (what is shared counts as often as it is met; a slice's spare places count too). A statement '..UptoSaid' is the law's where the arguments, and the package variables that the reading takes, are together of bulk at most 1048576: NARROWER than '..Said'. Prove '..Said' where nothing that the law and all that it calls make is longer than what came in: it says more and counts as full. Else prove '..UptoSaid'. A law counts once. -/
mutual
def uptoBulk {H : Type} : DataW H → Nat
  | .lit (.string bytes) => bytes.length + 1
  | .lit _ => 1
  | .nil => 1
  | .ptr d => uptoBulk d + 1
  | .slice elems spare => uptoBulkAll elems + uptoBulkAll spare + 1
  | .agg parts => uptoBulkAll parts + 1
  | .iface _ d => uptoBulk d + 1
  | .map entries => uptoBulkEntries entries + 1
  | .held _ => 1
def uptoBulkAll {H : Type} : List (DataW H) → Nat
  | [] => 0
  | d :: r => uptoBulk d + uptoBulkAll r
def uptoBulkEntries {H : Type} : List (Lit × DataW H) → Nat
  | [] => 0
  | x :: r => uptoBulkEntry x + uptoBulkEntries r
def uptoBulkEntry {H : Type} : Lit × DataW H → Nat
  | (.string bytes, d) => bytes.length + uptoBulk d + 1
  | (_, d) => uptoBulk d + 1
 end
def uptoSmall : (H : Type) → List (DataW H) → Bool := fun _ ds => decide (uptoBulkAll ds ≤ 1048576)
def OpenSpec.upto (s : _root_.Go.ChangeSpec) : _root_.Go.OpenSpec := { _root_.Go.OpenSpec.ofChange s with cond := some uptoSmall }

/-- 'scriniumlaw9.WaveRanks', WHERE WHAT IT READS IS OF BULK AT MOST 1048576: true; the input reads as it did. -/
def waveRanksUptoRow : OpenClaim := { program := "ytjbiofjfjljeoaadoor", sum := "8e138a809ed01a8770f6a2b5ad1f90199bf863c544e642a182c5401319900f97", func := "scrinium/scriniumlaw9.WaveRanks", spec := "waveRanks", unfollowed := true, recurses := true, named := ["math/bits.deBruijn64tab"], apart := false, laid := [("math/bits.deBruijn64tab", laid_math_bits_deBruijn64tab)], narrowed := true }
def WaveRanksUptoSaid : Prop := waveRanksUptoRow.holds Tryd.pinned (OpenSpec.upto waveRanksSpec)

/-- 'scriniumlaw9.WaveBack', WHERE WHAT IT READS IS OF BULK AT MOST 1048576: true; the input reads as it did. -/
def waveBackUptoRow : OpenClaim := { program := "ytjbiofjfjljeoaadoor", sum := "8e138a809ed01a8770f6a2b5ad1f90199bf863c544e642a182c5401319900f97", func := "scrinium/scriniumlaw9.WaveBack", spec := "waveBack", unfollowed := true, recurses := true, named := ["math/bits.deBruijn64tab"], apart := false, laid := [("math/bits.deBruijn64tab", laid_math_bits_deBruijn64tab)], narrowed := true }
def WaveBackUptoSaid : Prop := waveBackUptoRow.holds Tryd.pinned (OpenSpec.upto waveBackSpec)

/-- 'scriniumlaw9.WaveNodes', WHERE WHAT IT READS IS OF BULK AT MOST 1048576: true; the input reads as it did. -/
def waveNodesUptoRow : OpenClaim := { program := "ytjbiofjfjljeoaadoor", sum := "8e138a809ed01a8770f6a2b5ad1f90199bf863c544e642a182c5401319900f97", func := "scrinium/scriniumlaw9.WaveNodes", spec := "waveNodes", unfollowed := true, recurses := true, named := ["math/bits.deBruijn64tab"], apart := false, laid := [("math/bits.deBruijn64tab", laid_math_bits_deBruijn64tab)], narrowed := true }
def WaveNodesUptoSaid : Prop := waveNodesUptoRow.holds Tryd.pinned (OpenSpec.upto waveNodesSpec)

/-- 'scriniumlaw9.WaveShares', WHERE WHAT IT READS IS OF BULK AT MOST 1048576: true; the input reads as it did. -/
def waveSharesUptoRow : OpenClaim := { program := "ytjbiofjfjljeoaadoor", sum := "8e138a809ed01a8770f6a2b5ad1f90199bf863c544e642a182c5401319900f97", func := "scrinium/scriniumlaw9.WaveShares", spec := "waveShares", unfollowed := true, recurses := true, named := ["math/bits.deBruijn64tab"], apart := false, laid := [("math/bits.deBruijn64tab", laid_math_bits_deBruijn64tab)], narrowed := true }
def WaveSharesUptoSaid : Prop := waveSharesUptoRow.holds Tryd.pinned (OpenSpec.upto waveSharesSpec)

/-- 'scriniumlaw9.WaveNone', WHERE WHAT IT READS IS OF BULK AT MOST 1048576: true; the input reads as it did. -/
def waveNoneUptoRow : OpenClaim := { program := "ytjbiofjfjljeoaadoor", sum := "8e138a809ed01a8770f6a2b5ad1f90199bf863c544e642a182c5401319900f97", func := "scrinium/scriniumlaw9.WaveNone", spec := "waveNone", unfollowed := true, recurses := true, named := ["math/bits.deBruijn64tab"], apart := false, laid := [("math/bits.deBruijn64tab", laid_math_bits_deBruijn64tab)], narrowed := true }
def WaveNoneUptoSaid : Prop := waveNoneUptoRow.holds Tryd.pinned (OpenSpec.upto waveNoneSpec)

/-- 'scriniumlaw9.WaveMany', WHERE WHAT IT READS IS OF BULK AT MOST 1048576: true; the input reads as it did. -/
def waveManyUptoRow : OpenClaim := { program := "ytjbiofjfjljeoaadoor", sum := "8e138a809ed01a8770f6a2b5ad1f90199bf863c544e642a182c5401319900f97", func := "scrinium/scriniumlaw9.WaveMany", spec := "waveMany", unfollowed := true, recurses := true, named := ["math/bits.deBruijn64tab"], apart := false, laid := [("math/bits.deBruijn64tab", laid_math_bits_deBruijn64tab)], narrowed := true }
def WaveManyUptoSaid : Prop := waveManyUptoRow.holds Tryd.pinned (OpenSpec.upto waveManySpec)

end Rows
end Go.Proofs.YtjbiofjfjljeoaaDoor
