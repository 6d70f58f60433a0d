/-
  DERIVED. GIVEN WITH THE SEED: THE CARDS: each row of YtbkonijpdiangaaDoorRows.lean that lists a variable, with what it lists TIED to the program's text (the seventh form; the later family's looks); each row that meets fmt, with fmt's text TOLD by the authors' own Lean function (tested against real Go, not proved from fmt's source: count such statements apart). THE CARD IS WHAT COUNTS. Prove the row's statement (the work); the ties are given (YtbkonijpdiangaaDoorTie.lean); close each card by the builder's one call (the guide's Derived/Test/ToyasCard.lean, 'card_holds'). Laid BY PROGRAM, IN A SANDBOX (cutbox-door.mjs). By AI agents, Wed Nov 11 2026. No macro, syntax, notation, axiom, sorry.
-/
import Derived.Test.YtbkonijpdiangaaDoorRows
import GoSem.ClaimSeven
namespace Go.Proofs.YtbkonijpdiangaaDoor
namespace Rows

/-- THE TIED CARD OF 'scriniumlaw6.ArenaPlays'. -/
def arenaPlaysCard : Claim7 := { stood := { row := arenaPlaysRow, standIns := [], harness := (true, "537fc4a4c16e8584fdc2f2059d200ed36a9ffbea4687aa7226c6e0f444f3f540"), looks := false }, kinds := [], alts := [], laidByText := true, laidKinds := [.data], laidTests := true, laidLooks := .later }
def ArenaPlaysCardSaid : Prop := Claim7.holds Tryd.pinned (.plain (OpenSpec.ofChange arenaPlaysSpec)) arenaPlaysCard

/-- THE TIED CARD OF 'scriniumlaw7.LeafTells'. -/
def leafTellsCard : Claim7 := { stood := { row := leafTellsRow, standIns := [], harness := (true, "537fc4a4c16e8584fdc2f2059d200ed36a9ffbea4687aa7226c6e0f444f3f540"), looks := false }, kinds := [], alts := [], laidByText := true, laidKinds := [.data], laidTests := true, laidLooks := .later }
def LeafTellsCardSaid : Prop := Claim7.holds Tryd.pinned (.plain (OpenSpec.ofChange leafTellsSpec)) leafTellsCard

/-- THE TIED CARD OF 'scriniumlaw7.LeafBack'. -/
def leafBackCard : Claim7 := { stood := { row := leafBackRow, standIns := [], harness := (true, "537fc4a4c16e8584fdc2f2059d200ed36a9ffbea4687aa7226c6e0f444f3f540"), looks := false }, kinds := [], alts := [], laidByText := true, laidKinds := [.data], laidTests := true, laidLooks := .later }
def LeafBackCardSaid : Prop := Claim7.holds Tryd.pinned (.plain (OpenSpec.ofChange leafBackSpec)) leafBackCard

/-- THE TIED CARD OF 'scriniumlaw7.LeafRanks'. -/
def leafRanksCard : Claim7 := { stood := { row := leafRanksRow, standIns := [], harness := (true, "537fc4a4c16e8584fdc2f2059d200ed36a9ffbea4687aa7226c6e0f444f3f540"), looks := false }, kinds := [], alts := [], laidByText := true, laidKinds := [.data], laidTests := true, laidLooks := .later }
def LeafRanksCardSaid : Prop := Claim7.holds Tryd.pinned (.plain (OpenSpec.ofChange leafRanksSpec)) leafRanksCard

/-- THE TIED CARD OF 'scriniumlaw7.LeafBuilds'. -/
def leafBuildsCard : Claim7 := { stood := { row := leafBuildsRow, standIns := [], harness := (true, "537fc4a4c16e8584fdc2f2059d200ed36a9ffbea4687aa7226c6e0f444f3f540"), looks := false }, kinds := [], alts := [], laidByText := true, laidKinds := [.data], laidTests := true, laidLooks := .later }
def LeafBuildsCardSaid : Prop := Claim7.holds Tryd.pinned (.plain (OpenSpec.ofChange leafBuildsSpec)) leafBuildsCard

/-- THE TIED CARD OF 'scriniumlaw7.LeafJoins'. -/
def leafJoinsCard : Claim7 := { stood := { row := leafJoinsRow, standIns := [], harness := (true, "537fc4a4c16e8584fdc2f2059d200ed36a9ffbea4687aa7226c6e0f444f3f540"), looks := false }, kinds := [], alts := [], laidByText := true, laidKinds := [.data], laidTests := true, laidLooks := .later }
def LeafJoinsCardSaid : Prop := Claim7.holds Tryd.pinned (.plain (OpenSpec.ofChange leafJoinsSpec)) leafJoinsCard

/-- THE SECOND FORM's CARD OF 'scriniumlaw6.ArenaPlays'. -/
def arenaPlaysUptoCard : Claim7 := { stood := { row := arenaPlaysUptoRow, standIns := [], harness := (true, "537fc4a4c16e8584fdc2f2059d200ed36a9ffbea4687aa7226c6e0f444f3f540"), looks := false }, kinds := [], alts := [], laidByText := true, laidKinds := [.data], laidTests := true, laidLooks := .later }
def ArenaPlaysUptoCardSaid : Prop := Claim7.holds Tryd.pinned (.plain (OpenSpec.upto arenaPlaysSpec)) arenaPlaysUptoCard

/-- THE SECOND FORM's CARD OF 'scriniumlaw7.LeafTells'. -/
def leafTellsUptoCard : Claim7 := { stood := { row := leafTellsUptoRow, standIns := [], harness := (true, "537fc4a4c16e8584fdc2f2059d200ed36a9ffbea4687aa7226c6e0f444f3f540"), looks := false }, kinds := [], alts := [], laidByText := true, laidKinds := [.data], laidTests := true, laidLooks := .later }
def LeafTellsUptoCardSaid : Prop := Claim7.holds Tryd.pinned (.plain (OpenSpec.upto leafTellsSpec)) leafTellsUptoCard

/-- THE SECOND FORM's CARD OF 'scriniumlaw7.LeafBack'. -/
def leafBackUptoCard : Claim7 := { stood := { row := leafBackUptoRow, standIns := [], harness := (true, "537fc4a4c16e8584fdc2f2059d200ed36a9ffbea4687aa7226c6e0f444f3f540"), looks := false }, kinds := [], alts := [], laidByText := true, laidKinds := [.data], laidTests := true, laidLooks := .later }
def LeafBackUptoCardSaid : Prop := Claim7.holds Tryd.pinned (.plain (OpenSpec.upto leafBackSpec)) leafBackUptoCard

/-- THE SECOND FORM's CARD OF 'scriniumlaw7.LeafRanks'. -/
def leafRanksUptoCard : Claim7 := { stood := { row := leafRanksUptoRow, standIns := [], harness := (true, "537fc4a4c16e8584fdc2f2059d200ed36a9ffbea4687aa7226c6e0f444f3f540"), looks := false }, kinds := [], alts := [], laidByText := true, laidKinds := [.data], laidTests := true, laidLooks := .later }
def LeafRanksUptoCardSaid : Prop := Claim7.holds Tryd.pinned (.plain (OpenSpec.upto leafRanksSpec)) leafRanksUptoCard

/-- THE SECOND FORM's CARD OF 'scriniumlaw7.LeafBuilds'. -/
def leafBuildsUptoCard : Claim7 := { stood := { row := leafBuildsUptoRow, standIns := [], harness := (true, "537fc4a4c16e8584fdc2f2059d200ed36a9ffbea4687aa7226c6e0f444f3f540"), looks := false }, kinds := [], alts := [], laidByText := true, laidKinds := [.data], laidTests := true, laidLooks := .later }
def LeafBuildsUptoCardSaid : Prop := Claim7.holds Tryd.pinned (.plain (OpenSpec.upto leafBuildsSpec)) leafBuildsUptoCard

/-- THE SECOND FORM's CARD OF 'scriniumlaw7.LeafJoins'. -/
def leafJoinsUptoCard : Claim7 := { stood := { row := leafJoinsUptoRow, standIns := [], harness := (true, "537fc4a4c16e8584fdc2f2059d200ed36a9ffbea4687aa7226c6e0f444f3f540"), looks := false }, kinds := [], alts := [], laidByText := true, laidKinds := [.data], laidTests := true, laidLooks := .later }
def LeafJoinsUptoCardSaid : Prop := Claim7.holds Tryd.pinned (.plain (OpenSpec.upto leafJoinsSpec)) leafJoinsUptoCard
end Rows
end Go.Proofs.YtbkonijpdiangaaDoor
