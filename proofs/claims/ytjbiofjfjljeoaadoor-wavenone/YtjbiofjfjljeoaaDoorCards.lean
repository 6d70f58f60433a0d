/-
  DERIVED. GIVEN WITH THE SEED: THE CARDS: each row of YtjbiofjfjljeoaaDoorRows.lean that lists a variable, with what it lists TIED to the program's text (the seventh form; the later family's looks); each row that meets fmt, with fmt's text TOLD by the authors' own Lean function (tested against real Go, not proved from fmt's source: count such statements apart). THE CARD IS WHAT COUNTS. Prove the row's statement (the work); the ties are given (YtjbiofjfjljeoaaDoorTie.lean); close each card by the builder's one call (the guide's Derived/Test/ToyasCard.lean, 'card_holds'). Laid BY PROGRAM, IN A SANDBOX (cutbox-door.mjs). By AI agents, Wed Nov 11 2026. No macro, syntax, notation, axiom, sorry.
-/
import Derived.Test.YtjbiofjfjljeoaaDoorRows
import GoSem.ClaimSeven
namespace Go.Proofs.YtjbiofjfjljeoaaDoor
namespace Rows

/-- THE TIED CARD OF 'scriniumlaw9.WaveRanks'. -/
def waveRanksCard : Claim7 := { stood := { row := waveRanksRow, standIns := [], harness := (true, "7a00035ee68b27d7e5e27639d6ab2bb7e0b839445e097c770286a8d7998771a6"), looks := false }, kinds := [], alts := [], laidByText := true, laidKinds := [.data], laidTests := true, laidLooks := .later }
def WaveRanksCardSaid : Prop := Claim7.holds Tryd.pinned (.plain (OpenSpec.ofChange waveRanksSpec)) waveRanksCard

/-- THE TIED CARD OF 'scriniumlaw9.WaveBack'. -/
def waveBackCard : Claim7 := { stood := { row := waveBackRow, standIns := [], harness := (true, "7a00035ee68b27d7e5e27639d6ab2bb7e0b839445e097c770286a8d7998771a6"), looks := false }, kinds := [], alts := [], laidByText := true, laidKinds := [.data], laidTests := true, laidLooks := .later }
def WaveBackCardSaid : Prop := Claim7.holds Tryd.pinned (.plain (OpenSpec.ofChange waveBackSpec)) waveBackCard

/-- THE TIED CARD OF 'scriniumlaw9.WaveNodes'. -/
def waveNodesCard : Claim7 := { stood := { row := waveNodesRow, standIns := [], harness := (true, "7a00035ee68b27d7e5e27639d6ab2bb7e0b839445e097c770286a8d7998771a6"), looks := false }, kinds := [], alts := [], laidByText := true, laidKinds := [.data], laidTests := true, laidLooks := .later }
def WaveNodesCardSaid : Prop := Claim7.holds Tryd.pinned (.plain (OpenSpec.ofChange waveNodesSpec)) waveNodesCard

/-- THE TIED CARD OF 'scriniumlaw9.WaveShares'. -/
def waveSharesCard : Claim7 := { stood := { row := waveSharesRow, standIns := [], harness := (true, "7a00035ee68b27d7e5e27639d6ab2bb7e0b839445e097c770286a8d7998771a6"), looks := false }, kinds := [], alts := [], laidByText := true, laidKinds := [.data], laidTests := true, laidLooks := .later }
def WaveSharesCardSaid : Prop := Claim7.holds Tryd.pinned (.plain (OpenSpec.ofChange waveSharesSpec)) waveSharesCard

/-- THE TIED CARD OF 'scriniumlaw9.WaveNone'. -/
def waveNoneCard : Claim7 := { stood := { row := waveNoneRow, standIns := [], harness := (true, "7a00035ee68b27d7e5e27639d6ab2bb7e0b839445e097c770286a8d7998771a6"), looks := false }, kinds := [], alts := [], laidByText := true, laidKinds := [.data], laidTests := true, laidLooks := .later }
def WaveNoneCardSaid : Prop := Claim7.holds Tryd.pinned (.plain (OpenSpec.ofChange waveNoneSpec)) waveNoneCard

/-- THE TIED CARD OF 'scriniumlaw9.WaveMany'. -/
def waveManyCard : Claim7 := { stood := { row := waveManyRow, standIns := [], harness := (true, "7a00035ee68b27d7e5e27639d6ab2bb7e0b839445e097c770286a8d7998771a6"), looks := false }, kinds := [], alts := [], laidByText := true, laidKinds := [.data], laidTests := true, laidLooks := .later }
def WaveManyCardSaid : Prop := Claim7.holds Tryd.pinned (.plain (OpenSpec.ofChange waveManySpec)) waveManyCard

/-- THE SECOND FORM's CARD OF 'scriniumlaw9.WaveRanks'. -/
def waveRanksUptoCard : Claim7 := { stood := { row := waveRanksUptoRow, standIns := [], harness := (true, "7a00035ee68b27d7e5e27639d6ab2bb7e0b839445e097c770286a8d7998771a6"), looks := false }, kinds := [], alts := [], laidByText := true, laidKinds := [.data], laidTests := true, laidLooks := .later }
def WaveRanksUptoCardSaid : Prop := Claim7.holds Tryd.pinned (.plain (OpenSpec.upto waveRanksSpec)) waveRanksUptoCard

/-- THE SECOND FORM's CARD OF 'scriniumlaw9.WaveBack'. -/
def waveBackUptoCard : Claim7 := { stood := { row := waveBackUptoRow, standIns := [], harness := (true, "7a00035ee68b27d7e5e27639d6ab2bb7e0b839445e097c770286a8d7998771a6"), looks := false }, kinds := [], alts := [], laidByText := true, laidKinds := [.data], laidTests := true, laidLooks := .later }
def WaveBackUptoCardSaid : Prop := Claim7.holds Tryd.pinned (.plain (OpenSpec.upto waveBackSpec)) waveBackUptoCard

/-- THE SECOND FORM's CARD OF 'scriniumlaw9.WaveNodes'. -/
def waveNodesUptoCard : Claim7 := { stood := { row := waveNodesUptoRow, standIns := [], harness := (true, "7a00035ee68b27d7e5e27639d6ab2bb7e0b839445e097c770286a8d7998771a6"), looks := false }, kinds := [], alts := [], laidByText := true, laidKinds := [.data], laidTests := true, laidLooks := .later }
def WaveNodesUptoCardSaid : Prop := Claim7.holds Tryd.pinned (.plain (OpenSpec.upto waveNodesSpec)) waveNodesUptoCard

/-- THE SECOND FORM's CARD OF 'scriniumlaw9.WaveShares'. -/
def waveSharesUptoCard : Claim7 := { stood := { row := waveSharesUptoRow, standIns := [], harness := (true, "7a00035ee68b27d7e5e27639d6ab2bb7e0b839445e097c770286a8d7998771a6"), looks := false }, kinds := [], alts := [], laidByText := true, laidKinds := [.data], laidTests := true, laidLooks := .later }
def WaveSharesUptoCardSaid : Prop := Claim7.holds Tryd.pinned (.plain (OpenSpec.upto waveSharesSpec)) waveSharesUptoCard

/-- THE SECOND FORM's CARD OF 'scriniumlaw9.WaveNone'. -/
def waveNoneUptoCard : Claim7 := { stood := { row := waveNoneUptoRow, standIns := [], harness := (true, "7a00035ee68b27d7e5e27639d6ab2bb7e0b839445e097c770286a8d7998771a6"), looks := false }, kinds := [], alts := [], laidByText := true, laidKinds := [.data], laidTests := true, laidLooks := .later }
def WaveNoneUptoCardSaid : Prop := Claim7.holds Tryd.pinned (.plain (OpenSpec.upto waveNoneSpec)) waveNoneUptoCard

/-- THE SECOND FORM's CARD OF 'scriniumlaw9.WaveMany'. -/
def waveManyUptoCard : Claim7 := { stood := { row := waveManyUptoRow, standIns := [], harness := (true, "7a00035ee68b27d7e5e27639d6ab2bb7e0b839445e097c770286a8d7998771a6"), looks := false }, kinds := [], alts := [], laidByText := true, laidKinds := [.data], laidTests := true, laidLooks := .later }
def WaveManyUptoCardSaid : Prop := Claim7.holds Tryd.pinned (.plain (OpenSpec.upto waveManySpec)) waveManyUptoCard
end Rows
end Go.Proofs.YtjbiofjfjljeoaaDoor
