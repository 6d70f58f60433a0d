/-
  DERIVED. GIVEN WITH THE SEED: THE CARDS: each row of YtfkfnibeipddaaaDoorRows.lean that lists a variable, with what it lists TIED to the program's text (the seventh form; the later family's looks); each row that meets fmt, with fmt's text TOLD by the authors' own Lean function (tested against real Go, not proved from fmt's source: count such statements apart). THE CARD IS WHAT COUNTS. Prove the row's statement (the work); the ties are given (YtfkfnibeipddaaaDoorTie.lean); close each card by the builder's one call (the guide's Derived/Test/ToyasCard.lean, 'card_holds'). Laid BY PROGRAM, IN A SANDBOX (cutbox-door.mjs). By AI agents, Wed Nov 11 2026. No macro, syntax, notation, axiom, sorry.
-/
import Derived.Test.YtfkfnibeipddaaaDoorRows
import GoSem.ClaimSeven
namespace Go.Proofs.YtfkfnibeipddaaaDoor
namespace Rows

/-- THE TIED CARD OF 'scriniumlaw8.BitsBuild'. -/
def bitsBuildCard : Claim7 := { stood := { row := bitsBuildRow, standIns := [], harness := (true, "2a5446b0c989ba9ddd07053e87c746ec75093521c9ded47cee1ab81bc1c94138"), looks := false }, kinds := [], alts := [], laidByText := true, laidKinds := [.data], laidTests := true, laidLooks := .later }
def BitsBuildCardSaid : Prop := Claim7.holds Tryd.pinned (.plain (OpenSpec.ofChange bitsBuildSpec)) bitsBuildCard

/-- THE TIED CARD OF 'scriniumlaw8.BitsRanks'. -/
def bitsRanksCard : Claim7 := { stood := { row := bitsRanksRow, standIns := [], harness := (true, "2a5446b0c989ba9ddd07053e87c746ec75093521c9ded47cee1ab81bc1c94138"), looks := false }, kinds := [], alts := [], laidByText := true, laidKinds := [.data], laidTests := true, laidLooks := .later }
def BitsRanksCardSaid : Prop := Claim7.holds Tryd.pinned (.plain (OpenSpec.ofChange bitsRanksSpec)) bitsRanksCard

/-- THE TIED CARD OF 'scriniumlaw8.BitsFront'. -/
def bitsFrontCard : Claim7 := { stood := { row := bitsFrontRow, standIns := [], harness := (true, "2a5446b0c989ba9ddd07053e87c746ec75093521c9ded47cee1ab81bc1c94138"), looks := false }, kinds := [], alts := [], laidByText := true, laidKinds := [.data], laidTests := true, laidLooks := .later }
def BitsFrontCardSaid : Prop := Claim7.holds Tryd.pinned (.plain (OpenSpec.ofChange bitsFrontSpec)) bitsFrontCard

/-- THE TIED CARD OF 'scriniumlaw8.BitsBack'. -/
def bitsBackCard : Claim7 := { stood := { row := bitsBackRow, standIns := [], harness := (true, "2a5446b0c989ba9ddd07053e87c746ec75093521c9ded47cee1ab81bc1c94138"), looks := false }, kinds := [], alts := [], laidByText := true, laidKinds := [.data], laidTests := true, laidLooks := .later }
def BitsBackCardSaid : Prop := Claim7.holds Tryd.pinned (.plain (OpenSpec.ofChange bitsBackSpec)) bitsBackCard

/-- THE TIED CARD OF 'scriniumlaw8.BitsShares'. -/
def bitsSharesCard : Claim7 := { stood := { row := bitsSharesRow, standIns := [], harness := (true, "2a5446b0c989ba9ddd07053e87c746ec75093521c9ded47cee1ab81bc1c94138"), looks := false }, kinds := [], alts := [], laidByText := true, laidKinds := [.data], laidTests := true, laidLooks := .later }
def BitsSharesCardSaid : Prop := Claim7.holds Tryd.pinned (.plain (OpenSpec.ofChange bitsSharesSpec)) bitsSharesCard

/-- THE TIED CARD OF 'scriniumlaw8.BitsMany'. -/
def bitsManyCard : Claim7 := { stood := { row := bitsManyRow, standIns := [], harness := (true, "2a5446b0c989ba9ddd07053e87c746ec75093521c9ded47cee1ab81bc1c94138"), looks := false }, kinds := [], alts := [], laidByText := true, laidKinds := [.data], laidTests := true, laidLooks := .later }
def BitsManyCardSaid : Prop := Claim7.holds Tryd.pinned (.plain (OpenSpec.ofChange bitsManySpec)) bitsManyCard

/-- THE SECOND FORM's CARD OF 'scriniumlaw8.BitsBuild'. -/
def bitsBuildUptoCard : Claim7 := { stood := { row := bitsBuildUptoRow, standIns := [], harness := (true, "2a5446b0c989ba9ddd07053e87c746ec75093521c9ded47cee1ab81bc1c94138"), looks := false }, kinds := [], alts := [], laidByText := true, laidKinds := [.data], laidTests := true, laidLooks := .later }
def BitsBuildUptoCardSaid : Prop := Claim7.holds Tryd.pinned (.plain (OpenSpec.upto bitsBuildSpec)) bitsBuildUptoCard

/-- THE SECOND FORM's CARD OF 'scriniumlaw8.BitsRanks'. -/
def bitsRanksUptoCard : Claim7 := { stood := { row := bitsRanksUptoRow, standIns := [], harness := (true, "2a5446b0c989ba9ddd07053e87c746ec75093521c9ded47cee1ab81bc1c94138"), looks := false }, kinds := [], alts := [], laidByText := true, laidKinds := [.data], laidTests := true, laidLooks := .later }
def BitsRanksUptoCardSaid : Prop := Claim7.holds Tryd.pinned (.plain (OpenSpec.upto bitsRanksSpec)) bitsRanksUptoCard

/-- THE SECOND FORM's CARD OF 'scriniumlaw8.BitsFront'. -/
def bitsFrontUptoCard : Claim7 := { stood := { row := bitsFrontUptoRow, standIns := [], harness := (true, "2a5446b0c989ba9ddd07053e87c746ec75093521c9ded47cee1ab81bc1c94138"), looks := false }, kinds := [], alts := [], laidByText := true, laidKinds := [.data], laidTests := true, laidLooks := .later }
def BitsFrontUptoCardSaid : Prop := Claim7.holds Tryd.pinned (.plain (OpenSpec.upto bitsFrontSpec)) bitsFrontUptoCard

/-- THE SECOND FORM's CARD OF 'scriniumlaw8.BitsBack'. -/
def bitsBackUptoCard : Claim7 := { stood := { row := bitsBackUptoRow, standIns := [], harness := (true, "2a5446b0c989ba9ddd07053e87c746ec75093521c9ded47cee1ab81bc1c94138"), looks := false }, kinds := [], alts := [], laidByText := true, laidKinds := [.data], laidTests := true, laidLooks := .later }
def BitsBackUptoCardSaid : Prop := Claim7.holds Tryd.pinned (.plain (OpenSpec.upto bitsBackSpec)) bitsBackUptoCard

/-- THE SECOND FORM's CARD OF 'scriniumlaw8.BitsShares'. -/
def bitsSharesUptoCard : Claim7 := { stood := { row := bitsSharesUptoRow, standIns := [], harness := (true, "2a5446b0c989ba9ddd07053e87c746ec75093521c9ded47cee1ab81bc1c94138"), looks := false }, kinds := [], alts := [], laidByText := true, laidKinds := [.data], laidTests := true, laidLooks := .later }
def BitsSharesUptoCardSaid : Prop := Claim7.holds Tryd.pinned (.plain (OpenSpec.upto bitsSharesSpec)) bitsSharesUptoCard

/-- THE SECOND FORM's CARD OF 'scriniumlaw8.BitsMany'. -/
def bitsManyUptoCard : Claim7 := { stood := { row := bitsManyUptoRow, standIns := [], harness := (true, "2a5446b0c989ba9ddd07053e87c746ec75093521c9ded47cee1ab81bc1c94138"), looks := false }, kinds := [], alts := [], laidByText := true, laidKinds := [.data], laidTests := true, laidLooks := .later }
def BitsManyUptoCardSaid : Prop := Claim7.holds Tryd.pinned (.plain (OpenSpec.upto bitsManySpec)) bitsManyUptoCard
end Rows
end Go.Proofs.YtfkfnibeipddaaaDoor
