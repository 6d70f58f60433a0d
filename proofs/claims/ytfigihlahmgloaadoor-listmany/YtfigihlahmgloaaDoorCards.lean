/-
  DERIVED. GIVEN WITH THE SEED: THE CARDS: each row of YtfigihlahmgloaaDoorRows.lean that lists a variable, with what it lists TIED to the program's text (the seventh form; the later family's looks); each row that meets fmt, with fmt's text TOLD by the authors' own Lean function (tested against real Go, not proved from fmt's source: count such statements apart). THE CARD IS WHAT COUNTS. Prove the row's statement (the work); the ties are given (YtfigihlahmgloaaDoorTie.lean); close each card by the builder's one call (the guide's Derived/Test/ToyasCard.lean, 'card_holds'). Laid BY PROGRAM, IN A SANDBOX (cutbox-door.mjs). By AI agents, Wed Nov 11 2026. No macro, syntax, notation, axiom, sorry.
-/
import Derived.Test.YtfigihlahmgloaaDoorRows
import GoSem.ClaimSeven
namespace Go.Proofs.YtfigihlahmgloaaDoor
namespace Rows

/-- THE TIED CARD OF 'scriniumlaw10.ListPlays'. -/
def listPlaysCard : Claim7 := { stood := { row := listPlaysRow, standIns := [], harness := (true, "14edad24896c2c51143d4806e2e906fc3aea9d279a5e2c303af630520ac74d2f"), looks := false }, kinds := [], alts := [], laidByText := true, laidKinds := [.data], laidTests := true, laidLooks := .later }
def ListPlaysCardSaid : Prop := Claim7.holds Tryd.pinned (.plain (OpenSpec.ofChange listPlaysSpec)) listPlaysCard

/-- THE TIED CARD OF 'scriniumlaw10.ListBack'. -/
def listBackCard : Claim7 := { stood := { row := listBackRow, standIns := [], harness := (true, "14edad24896c2c51143d4806e2e906fc3aea9d279a5e2c303af630520ac74d2f"), looks := false }, kinds := [], alts := [], laidByText := true, laidKinds := [.data], laidTests := true, laidLooks := .later }
def ListBackCardSaid : Prop := Claim7.holds Tryd.pinned (.plain (OpenSpec.ofChange listBackSpec)) listBackCard

/-- THE TIED CARD OF 'scriniumlaw10.ListFront'. -/
def listFrontCard : Claim7 := { stood := { row := listFrontRow, standIns := [], harness := (true, "14edad24896c2c51143d4806e2e906fc3aea9d279a5e2c303af630520ac74d2f"), looks := false }, kinds := [], alts := [], laidByText := true, laidKinds := [.data], laidTests := true, laidLooks := .later }
def ListFrontCardSaid : Prop := Claim7.holds Tryd.pinned (.plain (OpenSpec.ofChange listFrontSpec)) listFrontCard

/-- THE TIED CARD OF 'scriniumlaw10.ListNone'. -/
def listNoneCard : Claim7 := { stood := { row := listNoneRow, standIns := [], harness := (true, "14edad24896c2c51143d4806e2e906fc3aea9d279a5e2c303af630520ac74d2f"), looks := false }, kinds := [], alts := [], laidByText := true, laidKinds := [.data], laidTests := true, laidLooks := .later }
def ListNoneCardSaid : Prop := Claim7.holds Tryd.pinned (.plain (OpenSpec.ofChange listNoneSpec)) listNoneCard

/-- THE TIED CARD OF 'scriniumlaw10.ListSets'. -/
def listSetsCard : Claim7 := { stood := { row := listSetsRow, standIns := [], harness := (true, "14edad24896c2c51143d4806e2e906fc3aea9d279a5e2c303af630520ac74d2f"), looks := false }, kinds := [], alts := [], laidByText := true, laidKinds := [.data], laidTests := true, laidLooks := .later }
def ListSetsCardSaid : Prop := Claim7.holds Tryd.pinned (.plain (OpenSpec.ofChange listSetsSpec)) listSetsCard

/-- THE TIED CARD OF 'scriniumlaw10.ListMany'. -/
def listManyCard : Claim7 := { stood := { row := listManyRow, standIns := [], harness := (true, "14edad24896c2c51143d4806e2e906fc3aea9d279a5e2c303af630520ac74d2f"), looks := false }, kinds := [], alts := [], laidByText := true, laidKinds := [.data], laidTests := true, laidLooks := .later }
def ListManyCardSaid : Prop := Claim7.holds Tryd.pinned (.plain (OpenSpec.ofChange listManySpec)) listManyCard

/-- THE SECOND FORM's CARD OF 'scriniumlaw10.ListPlays'. -/
def listPlaysUptoCard : Claim7 := { stood := { row := listPlaysUptoRow, standIns := [], harness := (true, "14edad24896c2c51143d4806e2e906fc3aea9d279a5e2c303af630520ac74d2f"), looks := false }, kinds := [], alts := [], laidByText := true, laidKinds := [.data], laidTests := true, laidLooks := .later }
def ListPlaysUptoCardSaid : Prop := Claim7.holds Tryd.pinned (.plain (OpenSpec.upto listPlaysSpec)) listPlaysUptoCard

/-- THE SECOND FORM's CARD OF 'scriniumlaw10.ListBack'. -/
def listBackUptoCard : Claim7 := { stood := { row := listBackUptoRow, standIns := [], harness := (true, "14edad24896c2c51143d4806e2e906fc3aea9d279a5e2c303af630520ac74d2f"), looks := false }, kinds := [], alts := [], laidByText := true, laidKinds := [.data], laidTests := true, laidLooks := .later }
def ListBackUptoCardSaid : Prop := Claim7.holds Tryd.pinned (.plain (OpenSpec.upto listBackSpec)) listBackUptoCard

/-- THE SECOND FORM's CARD OF 'scriniumlaw10.ListFront'. -/
def listFrontUptoCard : Claim7 := { stood := { row := listFrontUptoRow, standIns := [], harness := (true, "14edad24896c2c51143d4806e2e906fc3aea9d279a5e2c303af630520ac74d2f"), looks := false }, kinds := [], alts := [], laidByText := true, laidKinds := [.data], laidTests := true, laidLooks := .later }
def ListFrontUptoCardSaid : Prop := Claim7.holds Tryd.pinned (.plain (OpenSpec.upto listFrontSpec)) listFrontUptoCard

/-- THE SECOND FORM's CARD OF 'scriniumlaw10.ListNone'. -/
def listNoneUptoCard : Claim7 := { stood := { row := listNoneUptoRow, standIns := [], harness := (true, "14edad24896c2c51143d4806e2e906fc3aea9d279a5e2c303af630520ac74d2f"), looks := false }, kinds := [], alts := [], laidByText := true, laidKinds := [.data], laidTests := true, laidLooks := .later }
def ListNoneUptoCardSaid : Prop := Claim7.holds Tryd.pinned (.plain (OpenSpec.upto listNoneSpec)) listNoneUptoCard

/-- THE SECOND FORM's CARD OF 'scriniumlaw10.ListSets'. -/
def listSetsUptoCard : Claim7 := { stood := { row := listSetsUptoRow, standIns := [], harness := (true, "14edad24896c2c51143d4806e2e906fc3aea9d279a5e2c303af630520ac74d2f"), looks := false }, kinds := [], alts := [], laidByText := true, laidKinds := [.data], laidTests := true, laidLooks := .later }
def ListSetsUptoCardSaid : Prop := Claim7.holds Tryd.pinned (.plain (OpenSpec.upto listSetsSpec)) listSetsUptoCard

/-- THE SECOND FORM's CARD OF 'scriniumlaw10.ListMany'. -/
def listManyUptoCard : Claim7 := { stood := { row := listManyUptoRow, standIns := [], harness := (true, "14edad24896c2c51143d4806e2e906fc3aea9d279a5e2c303af630520ac74d2f"), looks := false }, kinds := [], alts := [], laidByText := true, laidKinds := [.data], laidTests := true, laidLooks := .later }
def ListManyUptoCardSaid : Prop := Claim7.holds Tryd.pinned (.plain (OpenSpec.upto listManySpec)) listManyUptoCard
end Rows
end Go.Proofs.YtfigihlahmgloaaDoor
