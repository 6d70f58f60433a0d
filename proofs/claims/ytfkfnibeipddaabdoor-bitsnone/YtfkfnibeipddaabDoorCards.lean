/-
  DERIVED. GIVEN WITH THE SEED: THE CARDS: each row of YtfkfnibeipddaabDoorRows.lean that lists a variable, with what it lists TIED to the program's text (the seventh form; the later family's looks); each row that meets fmt, with fmt's text TOLD by the authors' own Lean function (tested against real Go, not proved from fmt's source: count such statements apart). THE CARD IS WHAT COUNTS. Prove the row's statement (the work); the ties are given (YtfkfnibeipddaabDoorTie.lean); close each card by the builder's one call (the guide's Derived/Test/ToyasCard.lean, 'card_holds'). Laid BY PROGRAM, IN A SANDBOX (cutbox-door.mjs). By AI agents, Wed Nov 11 2026. No macro, syntax, notation, axiom, sorry.
-/
import Derived.Test.YtfkfnibeipddaabDoorRows
import GoSem.ClaimSeven
namespace Go.Proofs.YtfkfnibeipddaabDoor
namespace Rows

/-- THE TIED CARD OF 'scriniumlaw8.BitsNone'. -/
def bitsNoneCard : Claim7 := { stood := { row := bitsNoneRow, standIns := [], harness := (true, "b9de0955b9c1df11b8075ebeff68f0df409eed53e15f41afe64b3fecd1464946"), looks := false }, kinds := [], alts := [], laidByText := true, laidKinds := [.data], laidTests := true, laidLooks := .later }
def BitsNoneCardSaid : Prop := Claim7.holds Tryd.pinned (.plain (OpenSpec.ofChange bitsNoneSpec)) bitsNoneCard

/-- THE TIED CARD OF 'scriniumlaw9.WaveRanks'. -/
def waveRanksCard : Claim7 := { stood := { row := waveRanksRow, standIns := [], harness := (true, "b9de0955b9c1df11b8075ebeff68f0df409eed53e15f41afe64b3fecd1464946"), looks := false }, kinds := [], alts := [], laidByText := true, laidKinds := [.data], laidTests := true, laidLooks := .later }
def WaveRanksCardSaid : Prop := Claim7.holds Tryd.pinned (.plain (OpenSpec.ofChange waveRanksSpec)) waveRanksCard

/-- THE TIED CARD OF 'scriniumlaw9.WaveBack'. -/
def waveBackCard : Claim7 := { stood := { row := waveBackRow, standIns := [], harness := (true, "b9de0955b9c1df11b8075ebeff68f0df409eed53e15f41afe64b3fecd1464946"), looks := false }, kinds := [], alts := [], laidByText := true, laidKinds := [.data], laidTests := true, laidLooks := .later }
def WaveBackCardSaid : Prop := Claim7.holds Tryd.pinned (.plain (OpenSpec.ofChange waveBackSpec)) waveBackCard

/-- THE TIED CARD OF 'scriniumlaw9.WaveNodes'. -/
def waveNodesCard : Claim7 := { stood := { row := waveNodesRow, standIns := [], harness := (true, "b9de0955b9c1df11b8075ebeff68f0df409eed53e15f41afe64b3fecd1464946"), looks := false }, kinds := [], alts := [], laidByText := true, laidKinds := [.data], laidTests := true, laidLooks := .later }
def WaveNodesCardSaid : Prop := Claim7.holds Tryd.pinned (.plain (OpenSpec.ofChange waveNodesSpec)) waveNodesCard

/-- THE TIED CARD OF 'scriniumlaw9.WaveShares'. -/
def waveSharesCard : Claim7 := { stood := { row := waveSharesRow, standIns := [], harness := (true, "b9de0955b9c1df11b8075ebeff68f0df409eed53e15f41afe64b3fecd1464946"), looks := false }, kinds := [], alts := [], laidByText := true, laidKinds := [.data], laidTests := true, laidLooks := .later }
def WaveSharesCardSaid : Prop := Claim7.holds Tryd.pinned (.plain (OpenSpec.ofChange waveSharesSpec)) waveSharesCard

/-- THE SECOND FORM's CARD OF 'scriniumlaw8.BitsNone'. -/
def bitsNoneUptoCard : Claim7 := { stood := { row := bitsNoneUptoRow, standIns := [], harness := (true, "b9de0955b9c1df11b8075ebeff68f0df409eed53e15f41afe64b3fecd1464946"), looks := false }, kinds := [], alts := [], laidByText := true, laidKinds := [.data], laidTests := true, laidLooks := .later }
def BitsNoneUptoCardSaid : Prop := Claim7.holds Tryd.pinned (.plain (OpenSpec.upto bitsNoneSpec)) bitsNoneUptoCard

/-- THE SECOND FORM's CARD OF 'scriniumlaw9.WaveRanks'. -/
def waveRanksUptoCard : Claim7 := { stood := { row := waveRanksUptoRow, standIns := [], harness := (true, "b9de0955b9c1df11b8075ebeff68f0df409eed53e15f41afe64b3fecd1464946"), looks := false }, kinds := [], alts := [], laidByText := true, laidKinds := [.data], laidTests := true, laidLooks := .later }
def WaveRanksUptoCardSaid : Prop := Claim7.holds Tryd.pinned (.plain (OpenSpec.upto waveRanksSpec)) waveRanksUptoCard

/-- THE SECOND FORM's CARD OF 'scriniumlaw9.WaveBack'. -/
def waveBackUptoCard : Claim7 := { stood := { row := waveBackUptoRow, standIns := [], harness := (true, "b9de0955b9c1df11b8075ebeff68f0df409eed53e15f41afe64b3fecd1464946"), looks := false }, kinds := [], alts := [], laidByText := true, laidKinds := [.data], laidTests := true, laidLooks := .later }
def WaveBackUptoCardSaid : Prop := Claim7.holds Tryd.pinned (.plain (OpenSpec.upto waveBackSpec)) waveBackUptoCard

/-- THE SECOND FORM's CARD OF 'scriniumlaw9.WaveNodes'. -/
def waveNodesUptoCard : Claim7 := { stood := { row := waveNodesUptoRow, standIns := [], harness := (true, "b9de0955b9c1df11b8075ebeff68f0df409eed53e15f41afe64b3fecd1464946"), looks := false }, kinds := [], alts := [], laidByText := true, laidKinds := [.data], laidTests := true, laidLooks := .later }
def WaveNodesUptoCardSaid : Prop := Claim7.holds Tryd.pinned (.plain (OpenSpec.upto waveNodesSpec)) waveNodesUptoCard

/-- THE SECOND FORM's CARD OF 'scriniumlaw9.WaveShares'. -/
def waveSharesUptoCard : Claim7 := { stood := { row := waveSharesUptoRow, standIns := [], harness := (true, "b9de0955b9c1df11b8075ebeff68f0df409eed53e15f41afe64b3fecd1464946"), looks := false }, kinds := [], alts := [], laidByText := true, laidKinds := [.data], laidTests := true, laidLooks := .later }
def WaveSharesUptoCardSaid : Prop := Claim7.holds Tryd.pinned (.plain (OpenSpec.upto waveSharesSpec)) waveSharesUptoCard
end Rows
end Go.Proofs.YtfkfnibeipddaabDoor
