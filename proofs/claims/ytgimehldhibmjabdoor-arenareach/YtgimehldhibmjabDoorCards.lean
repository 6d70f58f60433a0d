/-
  DERIVED. GIVEN WITH THE SEED: THE CARDS: each row of YtgimehldhibmjabDoorRows.lean that lists a variable, with what it lists TIED to the program's text (the seventh form; the later family's looks); each row that meets fmt, with fmt's text TOLD by the authors' own Lean function (tested against real Go, not proved from fmt's source: count such statements apart). THE CARD IS WHAT COUNTS. Prove the row's statement (the work); the ties are given (YtgimehldhibmjabDoorTie.lean); close each card by the builder's one call (the guide's Derived/Test/ToyasCard.lean, 'card_holds'). Laid BY PROGRAM, IN A SANDBOX (cutbox-door.mjs). By AI agents, Wed Nov 11 2026. No macro, syntax, notation, axiom, sorry.
-/
import Derived.Test.YtgimehldhibmjabDoorRows
import GoSem.ClaimSeven
namespace Go.Proofs.YtgimehldhibmjabDoor
namespace Rows

/-- THE TIED CARD OF 'scriniumlaw6.ArenaReach'. -/
def arenaReachCard : Claim7 := { stood := { row := arenaReachRow, standIns := [], harness := (true, "648762a288a1ca4534814d474ac247d29a383939a754648b8d98a09d1ca8310b"), looks := false }, kinds := [], alts := [], laidByText := true, laidKinds := [.data], laidTests := true, laidLooks := .later }
def ArenaReachCardSaid : Prop := Claim7.holds Tryd.pinned (.plain (OpenSpec.ofChange arenaReachSpec)) arenaReachCard

/-- THE TIED CARD OF 'scriniumlaw6.ArenaMade'. -/
def arenaMadeCard : Claim7 := { stood := { row := arenaMadeRow, standIns := [], harness := (true, "648762a288a1ca4534814d474ac247d29a383939a754648b8d98a09d1ca8310b"), looks := false }, kinds := [], alts := [], laidByText := true, laidKinds := [.data], laidTests := true, laidLooks := .later }
def ArenaMadeCardSaid : Prop := Claim7.holds Tryd.pinned (.plain (OpenSpec.ofChange arenaMadeSpec)) arenaMadeCard

/-- THE SECOND FORM's CARD OF 'scriniumlaw6.ArenaReach'. -/
def arenaReachUptoCard : Claim7 := { stood := { row := arenaReachUptoRow, standIns := [], harness := (true, "648762a288a1ca4534814d474ac247d29a383939a754648b8d98a09d1ca8310b"), looks := false }, kinds := [], alts := [], laidByText := true, laidKinds := [.data], laidTests := true, laidLooks := .later }
def ArenaReachUptoCardSaid : Prop := Claim7.holds Tryd.pinned (.plain (OpenSpec.upto arenaReachSpec)) arenaReachUptoCard

/-- THE SECOND FORM's CARD OF 'scriniumlaw6.ArenaMade'. -/
def arenaMadeUptoCard : Claim7 := { stood := { row := arenaMadeUptoRow, standIns := [], harness := (true, "648762a288a1ca4534814d474ac247d29a383939a754648b8d98a09d1ca8310b"), looks := false }, kinds := [], alts := [], laidByText := true, laidKinds := [.data], laidTests := true, laidLooks := .later }
def ArenaMadeUptoCardSaid : Prop := Claim7.holds Tryd.pinned (.plain (OpenSpec.upto arenaMadeSpec)) arenaMadeUptoCard
end Rows
end Go.Proofs.YtgimehldhibmjabDoor
