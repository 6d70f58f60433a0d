/-
  DERIVED. GIVEN WITH THE SEED: THE CARDS: each row of YtbkonijpdiangabDoorRows.lean that lists a variable, with what it lists TIED to the program's text (the seventh form; the later family's looks); each row that meets fmt, with fmt's text TOLD by the authors' own Lean function (tested against real Go, not proved from fmt's source: count such statements apart). THE CARD IS WHAT COUNTS. Prove the row's statement (the work); the ties are given (YtbkonijpdiangabDoorTie.lean); close each card by the builder's one call (the guide's Derived/Test/ToyasCard.lean, 'card_holds'). Laid BY PROGRAM, IN A SANDBOX (cutbox-door.mjs). By AI agents, Wed Nov 11 2026. No macro, syntax, notation, axiom, sorry.
-/
import Derived.Test.YtbkonijpdiangabDoorRows
import GoSem.ClaimSeven
namespace Go.Proofs.YtbkonijpdiangabDoor
namespace Rows

/-- THE TIED CARD OF 'scriniumlaw7.LeafWrong'. -/
def leafWrongCard : Claim7 := { stood := { row := leafWrongRow, standIns := [], harness := (true, "0489de0ac5bf6dd16e57d19251ef4b130e8bf19456f9f620be28053f7265b77b"), looks := false }, kinds := [], alts := [], laidByText := true, laidKinds := [.data], laidTests := true, laidLooks := .later }
def LeafWrongCardSaid : Prop := Claim7.holds Tryd.pinned (.plain (OpenSpec.ofChange leafWrongSpec)) leafWrongCard

/-- THE TIED CARD OF 'scriniumlaw7.LeafAll'. -/
def leafAllCard : Claim7 := { stood := { row := leafAllRow, standIns := [], harness := (true, "0489de0ac5bf6dd16e57d19251ef4b130e8bf19456f9f620be28053f7265b77b"), looks := false }, kinds := [], alts := [], laidByText := true, laidKinds := [.data], laidTests := true, laidLooks := .later }
def LeafAllCardSaid : Prop := Claim7.holds Tryd.pinned (.plain (OpenSpec.ofChange leafAllSpec)) leafAllCard

/-- THE SECOND FORM's CARD OF 'scriniumlaw7.LeafWrong'. -/
def leafWrongUptoCard : Claim7 := { stood := { row := leafWrongUptoRow, standIns := [], harness := (true, "0489de0ac5bf6dd16e57d19251ef4b130e8bf19456f9f620be28053f7265b77b"), looks := false }, kinds := [], alts := [], laidByText := true, laidKinds := [.data], laidTests := true, laidLooks := .later }
def LeafWrongUptoCardSaid : Prop := Claim7.holds Tryd.pinned (.plain (OpenSpec.upto leafWrongSpec)) leafWrongUptoCard

/-- THE SECOND FORM's CARD OF 'scriniumlaw7.LeafAll'. -/
def leafAllUptoCard : Claim7 := { stood := { row := leafAllUptoRow, standIns := [], harness := (true, "0489de0ac5bf6dd16e57d19251ef4b130e8bf19456f9f620be28053f7265b77b"), looks := false }, kinds := [], alts := [], laidByText := true, laidKinds := [.data], laidTests := true, laidLooks := .later }
def LeafAllUptoCardSaid : Prop := Claim7.holds Tryd.pinned (.plain (OpenSpec.upto leafAllSpec)) leafAllUptoCard
end Rows
end Go.Proofs.YtbkonijpdiangabDoor
