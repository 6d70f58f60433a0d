/-
  NARROWER THAN 'FOR EVERY INPUT', by the rows' own cells (each row's printed sentence says how): BitsBuild: laid · BitsRanks: laid · BitsFront: laid · BitsBack: laid · BitsShares: laid · BitsMany: laid.
  DERIVED. THE GIVEN ROWS OF THIS SEAT. 6 by the template 'for every input the law returns true; each argument reads behind the call as it read before'; 0 by the template 'total and deterministic' (their statements: YtfkfnibeipddaaaDoorTotals.lean).
  GIVEN WITH THE SEED: the statements are not yours to turn. If you find one false, say at which input.
  Laid BY PROGRAM, IN A SANDBOX (cutbox-rows.mjs): the forced cells as the released guide's own fill.sh prints them over the translation 9680f08be38133c7… (all of the seat's roots in one cut). By AI agents, Wed Nov 11 2026. No macro, syntax, notation, axiom, sorry.
-/
import Derived.Test.YtfkfnibeipddaaaDoorChecked
import GoSem.Claim
import GoSem.ClaimJoined
import GoSem.ClaimMapViews
import Derived.JoinedTies
import Derived.KernelRfl
namespace Go.Proofs.YtfkfnibeipddaaaDoor
/- THE CELL 'sum', in the pinned program and in every row, IS THE sha256 OF THE DUMP (.gsa) THAT YtfkfnibeipddaaaDoorProg.lean LOADS. Nothing in Lean hashes anything: it is a label: what it is worth is what the hold of that sum in a sandbox is worth. -/
noncomputable def Tryd.pinned : Pinned := { name := "ytfkfnibeipddaaadoor", sum := "9680f08be38133c7a2f3476c8ba520c903be1068a4921c98b506a5db703b9b1f", checked := Tryd.checked }
namespace Rows
def none {H : Type} : Left H := { results := [], args := [] }

/- WHAT THE LISTED PACKAGE-LEVEL VARIABLES READ AS WHEN THE CALL BEGINS. Each datum BY PROGRAM (the guide's laid-datum.mjs) off the statement by which the dump's own 'gosem.cut.vars' lays the variable. In a bare row this is a premise. The card (YtfkfnibeipddaaaDoorCards.lean) ties it to the program's text. -/
def laid_math_bits_deBruijn64tab {H : Type} : DataW H := .agg [.lit (.int .u8 0), .lit (.int .u8 1), .lit (.int .u8 56), .lit (.int .u8 2), .lit (.int .u8 57), .lit (.int .u8 49), .lit (.int .u8 28), .lit (.int .u8 3), .lit (.int .u8 61), .lit (.int .u8 58), .lit (.int .u8 42), .lit (.int .u8 50), .lit (.int .u8 38), .lit (.int .u8 29), .lit (.int .u8 17), .lit (.int .u8 4), .lit (.int .u8 62), .lit (.int .u8 47), .lit (.int .u8 59), .lit (.int .u8 36), .lit (.int .u8 45), .lit (.int .u8 43), .lit (.int .u8 51), .lit (.int .u8 22), .lit (.int .u8 53), .lit (.int .u8 39), .lit (.int .u8 33), .lit (.int .u8 30), .lit (.int .u8 24), .lit (.int .u8 18), .lit (.int .u8 12), .lit (.int .u8 5), .lit (.int .u8 63), .lit (.int .u8 55), .lit (.int .u8 48), .lit (.int .u8 27), .lit (.int .u8 60), .lit (.int .u8 41), .lit (.int .u8 37), .lit (.int .u8 16), .lit (.int .u8 46), .lit (.int .u8 35), .lit (.int .u8 44), .lit (.int .u8 21), .lit (.int .u8 52), .lit (.int .u8 32), .lit (.int .u8 23), .lit (.int .u8 11), .lit (.int .u8 54), .lit (.int .u8 26), .lit (.int .u8 40), .lit (.int .u8 15), .lit (.int .u8 34), .lit (.int .u8 20), .lit (.int .u8 31), .lit (.int .u8 10), .lit (.int .u8 25), .lit (.int .u8 14), .lit (.int .u8 19), .lit (.int .u8 9), .lit (.int .u8 13), .lit (.int .u8 8), .lit (.int .u8 7), .lit (.int .u8 6)]

/-- 'scriniumlaw8.BitsBuild': WHATEVER THE INPUT: true; the input reads as it did. -/
def bitsBuildSpec : ChangeSpec := { name := "bitsBuild", fn := fun _ => fun
  | [d] => { results := [.lit (.bool true)], args := [d] }
  | _ => none }
def bitsBuildRow : OpenClaim := { program := "ytfkfnibeipddaaadoor", sum := "9680f08be38133c7a2f3476c8ba520c903be1068a4921c98b506a5db703b9b1f", func := "scrinium/scriniumlaw8.BitsBuild", spec := "bitsBuild", unfollowed := true, recurses := true, named := ["math/bits.deBruijn64tab"], apart := false, laid := [("math/bits.deBruijn64tab", laid_math_bits_deBruijn64tab)] }
def BitsBuildSaid : Prop := bitsBuildRow.holds Tryd.pinned (OpenSpec.ofChange bitsBuildSpec)

/-- ITS FALSE NEIGHBOUR: 'it returns false'. Refute it at one input. -/
def bitsBuildWrong : ChangeSpec := { name := "bitsBuild", fn := fun _ => fun
  | [d] => { results := [.lit (.bool false)], args := [d] }
  | _ => none }
def BitsBuildWrongFalsely : Prop := bitsBuildRow.holds Tryd.pinned (OpenSpec.ofChange bitsBuildWrong)

/-- 'scriniumlaw8.BitsRanks': WHATEVER THE INPUT: true; the input reads as it did. -/
def bitsRanksSpec : ChangeSpec := { name := "bitsRanks", fn := fun _ => fun
  | [d1, d2, d3] => { results := [.lit (.bool true)], args := [d1, d2, d3] }
  | _ => none }
def bitsRanksRow : OpenClaim := { program := "ytfkfnibeipddaaadoor", sum := "9680f08be38133c7a2f3476c8ba520c903be1068a4921c98b506a5db703b9b1f", func := "scrinium/scriniumlaw8.BitsRanks", spec := "bitsRanks", unfollowed := true, recurses := true, named := ["math/bits.deBruijn64tab"], apart := false, laid := [("math/bits.deBruijn64tab", laid_math_bits_deBruijn64tab)] }
def BitsRanksSaid : Prop := bitsRanksRow.holds Tryd.pinned (OpenSpec.ofChange bitsRanksSpec)

/-- ITS FALSE NEIGHBOUR: 'it returns false'. Refute it at one input. -/
def bitsRanksWrong : ChangeSpec := { name := "bitsRanks", fn := fun _ => fun
  | [d1, d2, d3] => { results := [.lit (.bool false)], args := [d1, d2, d3] }
  | _ => none }
def BitsRanksWrongFalsely : Prop := bitsRanksRow.holds Tryd.pinned (OpenSpec.ofChange bitsRanksWrong)

/-- 'scriniumlaw8.BitsFront': WHATEVER THE INPUT: true; the input reads as it did. -/
def bitsFrontSpec : ChangeSpec := { name := "bitsFront", fn := fun _ => fun
  | [d1, d2, d3] => { results := [.lit (.bool true)], args := [d1, d2, d3] }
  | _ => none }
def bitsFrontRow : OpenClaim := { program := "ytfkfnibeipddaaadoor", sum := "9680f08be38133c7a2f3476c8ba520c903be1068a4921c98b506a5db703b9b1f", func := "scrinium/scriniumlaw8.BitsFront", spec := "bitsFront", unfollowed := true, recurses := true, named := ["math/bits.deBruijn64tab"], apart := false, laid := [("math/bits.deBruijn64tab", laid_math_bits_deBruijn64tab)] }
def BitsFrontSaid : Prop := bitsFrontRow.holds Tryd.pinned (OpenSpec.ofChange bitsFrontSpec)

/-- ITS FALSE NEIGHBOUR: 'it returns false'. Refute it at one input. -/
def bitsFrontWrong : ChangeSpec := { name := "bitsFront", fn := fun _ => fun
  | [d1, d2, d3] => { results := [.lit (.bool false)], args := [d1, d2, d3] }
  | _ => none }
def BitsFrontWrongFalsely : Prop := bitsFrontRow.holds Tryd.pinned (OpenSpec.ofChange bitsFrontWrong)

/-- 'scriniumlaw8.BitsBack': WHATEVER THE INPUT: true; the input reads as it did. -/
def bitsBackSpec : ChangeSpec := { name := "bitsBack", fn := fun _ => fun
  | [d1, d2, d3] => { results := [.lit (.bool true)], args := [d1, d2, d3] }
  | _ => none }
def bitsBackRow : OpenClaim := { program := "ytfkfnibeipddaaadoor", sum := "9680f08be38133c7a2f3476c8ba520c903be1068a4921c98b506a5db703b9b1f", func := "scrinium/scriniumlaw8.BitsBack", spec := "bitsBack", unfollowed := true, recurses := true, named := ["math/bits.deBruijn64tab"], apart := false, laid := [("math/bits.deBruijn64tab", laid_math_bits_deBruijn64tab)] }
def BitsBackSaid : Prop := bitsBackRow.holds Tryd.pinned (OpenSpec.ofChange bitsBackSpec)

/-- ITS FALSE NEIGHBOUR: 'it returns false'. Refute it at one input. -/
def bitsBackWrong : ChangeSpec := { name := "bitsBack", fn := fun _ => fun
  | [d1, d2, d3] => { results := [.lit (.bool false)], args := [d1, d2, d3] }
  | _ => none }
def BitsBackWrongFalsely : Prop := bitsBackRow.holds Tryd.pinned (OpenSpec.ofChange bitsBackWrong)

/-- 'scriniumlaw8.BitsShares': WHATEVER THE INPUT: true; the input reads as it did. -/
def bitsSharesSpec : ChangeSpec := { name := "bitsShares", fn := fun _ => fun
  | [d1, d2, d3] => { results := [.lit (.bool true)], args := [d1, d2, d3] }
  | _ => none }
def bitsSharesRow : OpenClaim := { program := "ytfkfnibeipddaaadoor", sum := "9680f08be38133c7a2f3476c8ba520c903be1068a4921c98b506a5db703b9b1f", func := "scrinium/scriniumlaw8.BitsShares", spec := "bitsShares", unfollowed := true, recurses := true, named := ["math/bits.deBruijn64tab"], apart := false, laid := [("math/bits.deBruijn64tab", laid_math_bits_deBruijn64tab)] }
def BitsSharesSaid : Prop := bitsSharesRow.holds Tryd.pinned (OpenSpec.ofChange bitsSharesSpec)

/-- ITS FALSE NEIGHBOUR: 'it returns false'. Refute it at one input. -/
def bitsSharesWrong : ChangeSpec := { name := "bitsShares", fn := fun _ => fun
  | [d1, d2, d3] => { results := [.lit (.bool false)], args := [d1, d2, d3] }
  | _ => none }
def BitsSharesWrongFalsely : Prop := bitsSharesRow.holds Tryd.pinned (OpenSpec.ofChange bitsSharesWrong)

/-- 'scriniumlaw8.BitsMany': WHATEVER THE INPUT: true; the input reads as it did. -/
def bitsManySpec : ChangeSpec := { name := "bitsMany", fn := fun _ => fun
  | [d1, d2] => { results := [.lit (.bool true)], args := [d1, d2] }
  | _ => none }
def bitsManyRow : OpenClaim := { program := "ytfkfnibeipddaaadoor", sum := "9680f08be38133c7a2f3476c8ba520c903be1068a4921c98b506a5db703b9b1f", func := "scrinium/scriniumlaw8.BitsMany", spec := "bitsMany", unfollowed := true, recurses := true, named := ["math/bits.deBruijn64tab"], apart := false, laid := [("math/bits.deBruijn64tab", laid_math_bits_deBruijn64tab)] }
def BitsManySaid : Prop := bitsManyRow.holds Tryd.pinned (OpenSpec.ofChange bitsManySpec)

/-- ITS FALSE NEIGHBOUR: 'it returns false'. Refute it at one input. -/
def bitsManyWrong : ChangeSpec := { name := "bitsMany", fn := fun _ => fun
  | [d1, d2] => { results := [.lit (.bool false)], args := [d1, d2] }
  | _ => none }
def BitsManyWrongFalsely : Prop := bitsManyRow.holds Tryd.pinned (OpenSpec.ofChange bitsManyWrong)

/- THE SECOND FORM. 'bulk': how many values and letters a reading holds, each counted each time it is reached (what is shared counts as often as it is met; a slice's spare places count too). A statement '..UptoSaid' is the law's where the arguments, and the package variables that the reading takes, are together of bulk at most 1048576: NARROWER than '..Said'. Prove '..Said' where nothing that the law and all that it calls make is longer than what came in: it says more and counts as full. Else prove '..UptoSaid'. A law counts once. -/
mutual
def uptoBulk {H : Type} : DataW H → Nat
  | .lit (.string bytes) => bytes.length + 1
  | .lit _ => 1
  | .nil => 1
  | .ptr d => uptoBulk d + 1
  | .slice elems spare => uptoBulkAll elems + uptoBulkAll spare + 1
  | .agg parts => uptoBulkAll parts + 1
  | .iface _ d => uptoBulk d + 1
  | .map entries => uptoBulkEntries entries + 1
  | .held _ => 1
def uptoBulkAll {H : Type} : List (DataW H) → Nat
  | [] => 0
  | d :: r => uptoBulk d + uptoBulkAll r
def uptoBulkEntries {H : Type} : List (Lit × DataW H) → Nat
  | [] => 0
  | x :: r => uptoBulkEntry x + uptoBulkEntries r
def uptoBulkEntry {H : Type} : Lit × DataW H → Nat
  | (.string bytes, d) => bytes.length + uptoBulk d + 1
  | (_, d) => uptoBulk d + 1
 end
def uptoSmall : (H : Type) → List (DataW H) → Bool := fun _ ds => decide (uptoBulkAll ds ≤ 1048576)
def OpenSpec.upto (s : _root_.Go.ChangeSpec) : _root_.Go.OpenSpec := { _root_.Go.OpenSpec.ofChange s with cond := some uptoSmall }

/-- 'scriniumlaw8.BitsBuild', WHERE WHAT IT READS IS OF BULK AT MOST 1048576: true; the input reads as it did. -/
def bitsBuildUptoRow : OpenClaim := { program := "ytfkfnibeipddaaadoor", sum := "9680f08be38133c7a2f3476c8ba520c903be1068a4921c98b506a5db703b9b1f", func := "scrinium/scriniumlaw8.BitsBuild", spec := "bitsBuild", unfollowed := true, recurses := true, named := ["math/bits.deBruijn64tab"], apart := false, laid := [("math/bits.deBruijn64tab", laid_math_bits_deBruijn64tab)], narrowed := true }
def BitsBuildUptoSaid : Prop := bitsBuildUptoRow.holds Tryd.pinned (OpenSpec.upto bitsBuildSpec)

/-- 'scriniumlaw8.BitsRanks', WHERE WHAT IT READS IS OF BULK AT MOST 1048576: true; the input reads as it did. -/
def bitsRanksUptoRow : OpenClaim := { program := "ytfkfnibeipddaaadoor", sum := "9680f08be38133c7a2f3476c8ba520c903be1068a4921c98b506a5db703b9b1f", func := "scrinium/scriniumlaw8.BitsRanks", spec := "bitsRanks", unfollowed := true, recurses := true, named := ["math/bits.deBruijn64tab"], apart := false, laid := [("math/bits.deBruijn64tab", laid_math_bits_deBruijn64tab)], narrowed := true }
def BitsRanksUptoSaid : Prop := bitsRanksUptoRow.holds Tryd.pinned (OpenSpec.upto bitsRanksSpec)

/-- 'scriniumlaw8.BitsFront', WHERE WHAT IT READS IS OF BULK AT MOST 1048576: true; the input reads as it did. -/
def bitsFrontUptoRow : OpenClaim := { program := "ytfkfnibeipddaaadoor", sum := "9680f08be38133c7a2f3476c8ba520c903be1068a4921c98b506a5db703b9b1f", func := "scrinium/scriniumlaw8.BitsFront", spec := "bitsFront", unfollowed := true, recurses := true, named := ["math/bits.deBruijn64tab"], apart := false, laid := [("math/bits.deBruijn64tab", laid_math_bits_deBruijn64tab)], narrowed := true }
def BitsFrontUptoSaid : Prop := bitsFrontUptoRow.holds Tryd.pinned (OpenSpec.upto bitsFrontSpec)

/-- 'scriniumlaw8.BitsBack', WHERE WHAT IT READS IS OF BULK AT MOST 1048576: true; the input reads as it did. -/
def bitsBackUptoRow : OpenClaim := { program := "ytfkfnibeipddaaadoor", sum := "9680f08be38133c7a2f3476c8ba520c903be1068a4921c98b506a5db703b9b1f", func := "scrinium/scriniumlaw8.BitsBack", spec := "bitsBack", unfollowed := true, recurses := true, named := ["math/bits.deBruijn64tab"], apart := false, laid := [("math/bits.deBruijn64tab", laid_math_bits_deBruijn64tab)], narrowed := true }
def BitsBackUptoSaid : Prop := bitsBackUptoRow.holds Tryd.pinned (OpenSpec.upto bitsBackSpec)

/-- 'scriniumlaw8.BitsShares', WHERE WHAT IT READS IS OF BULK AT MOST 1048576: true; the input reads as it did. -/
def bitsSharesUptoRow : OpenClaim := { program := "ytfkfnibeipddaaadoor", sum := "9680f08be38133c7a2f3476c8ba520c903be1068a4921c98b506a5db703b9b1f", func := "scrinium/scriniumlaw8.BitsShares", spec := "bitsShares", unfollowed := true, recurses := true, named := ["math/bits.deBruijn64tab"], apart := false, laid := [("math/bits.deBruijn64tab", laid_math_bits_deBruijn64tab)], narrowed := true }
def BitsSharesUptoSaid : Prop := bitsSharesUptoRow.holds Tryd.pinned (OpenSpec.upto bitsSharesSpec)

/-- 'scriniumlaw8.BitsMany', WHERE WHAT IT READS IS OF BULK AT MOST 1048576: true; the input reads as it did. -/
def bitsManyUptoRow : OpenClaim := { program := "ytfkfnibeipddaaadoor", sum := "9680f08be38133c7a2f3476c8ba520c903be1068a4921c98b506a5db703b9b1f", func := "scrinium/scriniumlaw8.BitsMany", spec := "bitsMany", unfollowed := true, recurses := true, named := ["math/bits.deBruijn64tab"], apart := false, laid := [("math/bits.deBruijn64tab", laid_math_bits_deBruijn64tab)], narrowed := true }
def BitsManyUptoSaid : Prop := bitsManyUptoRow.holds Tryd.pinned (OpenSpec.upto bitsManySpec)

end Rows
end Go.Proofs.YtfkfnibeipddaaaDoor
