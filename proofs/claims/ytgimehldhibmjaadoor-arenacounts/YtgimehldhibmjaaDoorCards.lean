/-
  DERIVED. GIVEN WITH THE SEED: THE CARDS: each row of YtgimehldhibmjaaDoorRows.lean that lists a variable, with what it lists TIED to the program's text (the seventh form; the later family's looks); each row that meets fmt, with fmt's text TOLD by the authors' own Lean function (tested against real Go, not proved from fmt's source: count such statements apart). THE CARD IS WHAT COUNTS. Prove the row's statement (the work); the ties are given (YtgimehldhibmjaaDoorTie.lean); close each card by the builder's one call (the guide's Derived/Test/ToyasCard.lean, 'card_holds'). Laid BY PROGRAM, IN A SANDBOX (cutbox-door.mjs). By AI agents, Wed Nov 11 2026. No macro, syntax, notation, axiom, sorry.
-/
import Derived.Test.YtgimehldhibmjaaDoorRows
import GoSem.ClaimSeven
namespace Go.Proofs.YtgimehldhibmjaaDoor
namespace Rows

/-- THE TIED CARD OF 'scriniumlaw6.ArenaPlays'. -/
def arenaPlaysCard : Claim7 := { stood := { row := arenaPlaysRow, standIns := [], harness := (true, "ef35656153ead65a26ad74bb706945c9e701adf58cb1712025ed43f83b91d90a"), looks := false }, kinds := [], alts := [], laidByText := true, laidKinds := [.data], laidTests := true, laidLooks := .later }
def ArenaPlaysCardSaid : Prop := Claim7.holds Tryd.pinned (.plain (OpenSpec.ofChange arenaPlaysSpec)) arenaPlaysCard

/-- THE TIED CARD OF 'scriniumlaw6.ArenaCounts'. -/
def arenaCountsCard : Claim7 := { stood := { row := arenaCountsRow, standIns := [], harness := (true, "ef35656153ead65a26ad74bb706945c9e701adf58cb1712025ed43f83b91d90a"), looks := false }, kinds := [], alts := [], laidByText := true, laidKinds := [.data], laidTests := true, laidLooks := .later }
def ArenaCountsCardSaid : Prop := Claim7.holds Tryd.pinned (.plain (OpenSpec.ofChange arenaCountsSpec)) arenaCountsCard

/-- THE TIED CARD OF 'scriniumlaw6.ArenaLeast'. -/
def arenaLeastCard : Claim7 := { stood := { row := arenaLeastRow, standIns := [], harness := (true, "ef35656153ead65a26ad74bb706945c9e701adf58cb1712025ed43f83b91d90a"), looks := false }, kinds := [], alts := [], laidByText := true, laidKinds := [.data], laidTests := true, laidLooks := .later }
def ArenaLeastCardSaid : Prop := Claim7.holds Tryd.pinned (.plain (OpenSpec.ofChange arenaLeastSpec)) arenaLeastCard

/-- THE TIED CARD OF 'scriniumlaw6.ArenaChain'. -/
def arenaChainCard : Claim7 := { stood := { row := arenaChainRow, standIns := [], harness := (true, "ef35656153ead65a26ad74bb706945c9e701adf58cb1712025ed43f83b91d90a"), looks := false }, kinds := [], alts := [], laidByText := true, laidKinds := [.data], laidTests := true, laidLooks := .later }
def ArenaChainCardSaid : Prop := Claim7.holds Tryd.pinned (.plain (OpenSpec.ofChange arenaChainSpec)) arenaChainCard

/-- THE TIED CARD OF 'scriniumlaw6.ArenaRefuses'. -/
def arenaRefusesCard : Claim7 := { stood := { row := arenaRefusesRow, standIns := [], harness := (true, "ef35656153ead65a26ad74bb706945c9e701adf58cb1712025ed43f83b91d90a"), looks := false }, kinds := [], alts := [], laidByText := true, laidKinds := [.data], laidTests := true, laidLooks := .later }
def ArenaRefusesCardSaid : Prop := Claim7.holds Tryd.pinned (.plain (OpenSpec.ofChange arenaRefusesSpec)) arenaRefusesCard

/-- THE TIED CARD OF 'scriniumlaw6.ArenaTwice'. -/
def arenaTwiceCard : Claim7 := { stood := { row := arenaTwiceRow, standIns := [], harness := (true, "ef35656153ead65a26ad74bb706945c9e701adf58cb1712025ed43f83b91d90a"), looks := false }, kinds := [], alts := [], laidByText := true, laidKinds := [.data], laidTests := true, laidLooks := .later }
def ArenaTwiceCardSaid : Prop := Claim7.holds Tryd.pinned (.plain (OpenSpec.ofChange arenaTwiceSpec)) arenaTwiceCard

/-- THE SECOND FORM's CARD OF 'scriniumlaw6.ArenaPlays'. -/
def arenaPlaysUptoCard : Claim7 := { stood := { row := arenaPlaysUptoRow, standIns := [], harness := (true, "ef35656153ead65a26ad74bb706945c9e701adf58cb1712025ed43f83b91d90a"), looks := false }, kinds := [], alts := [], laidByText := true, laidKinds := [.data], laidTests := true, laidLooks := .later }
def ArenaPlaysUptoCardSaid : Prop := Claim7.holds Tryd.pinned (.plain (OpenSpec.upto arenaPlaysSpec)) arenaPlaysUptoCard

/-- THE SECOND FORM's CARD OF 'scriniumlaw6.ArenaCounts'. -/
def arenaCountsUptoCard : Claim7 := { stood := { row := arenaCountsUptoRow, standIns := [], harness := (true, "ef35656153ead65a26ad74bb706945c9e701adf58cb1712025ed43f83b91d90a"), looks := false }, kinds := [], alts := [], laidByText := true, laidKinds := [.data], laidTests := true, laidLooks := .later }
def ArenaCountsUptoCardSaid : Prop := Claim7.holds Tryd.pinned (.plain (OpenSpec.upto arenaCountsSpec)) arenaCountsUptoCard

/-- THE SECOND FORM's CARD OF 'scriniumlaw6.ArenaLeast'. -/
def arenaLeastUptoCard : Claim7 := { stood := { row := arenaLeastUptoRow, standIns := [], harness := (true, "ef35656153ead65a26ad74bb706945c9e701adf58cb1712025ed43f83b91d90a"), looks := false }, kinds := [], alts := [], laidByText := true, laidKinds := [.data], laidTests := true, laidLooks := .later }
def ArenaLeastUptoCardSaid : Prop := Claim7.holds Tryd.pinned (.plain (OpenSpec.upto arenaLeastSpec)) arenaLeastUptoCard

/-- THE SECOND FORM's CARD OF 'scriniumlaw6.ArenaChain'. -/
def arenaChainUptoCard : Claim7 := { stood := { row := arenaChainUptoRow, standIns := [], harness := (true, "ef35656153ead65a26ad74bb706945c9e701adf58cb1712025ed43f83b91d90a"), looks := false }, kinds := [], alts := [], laidByText := true, laidKinds := [.data], laidTests := true, laidLooks := .later }
def ArenaChainUptoCardSaid : Prop := Claim7.holds Tryd.pinned (.plain (OpenSpec.upto arenaChainSpec)) arenaChainUptoCard

/-- THE SECOND FORM's CARD OF 'scriniumlaw6.ArenaRefuses'. -/
def arenaRefusesUptoCard : Claim7 := { stood := { row := arenaRefusesUptoRow, standIns := [], harness := (true, "ef35656153ead65a26ad74bb706945c9e701adf58cb1712025ed43f83b91d90a"), looks := false }, kinds := [], alts := [], laidByText := true, laidKinds := [.data], laidTests := true, laidLooks := .later }
def ArenaRefusesUptoCardSaid : Prop := Claim7.holds Tryd.pinned (.plain (OpenSpec.upto arenaRefusesSpec)) arenaRefusesUptoCard

/-- THE SECOND FORM's CARD OF 'scriniumlaw6.ArenaTwice'. -/
def arenaTwiceUptoCard : Claim7 := { stood := { row := arenaTwiceUptoRow, standIns := [], harness := (true, "ef35656153ead65a26ad74bb706945c9e701adf58cb1712025ed43f83b91d90a"), looks := false }, kinds := [], alts := [], laidByText := true, laidKinds := [.data], laidTests := true, laidLooks := .later }
def ArenaTwiceUptoCardSaid : Prop := Claim7.holds Tryd.pinned (.plain (OpenSpec.upto arenaTwiceSpec)) arenaTwiceUptoCard
end Rows
end Go.Proofs.YtgimehldhibmjaaDoor
