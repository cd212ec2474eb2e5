/-
  DERIVED. GIVEN WITH THE SEED: THE CARDS: each row of YtjppomhfillflaaGreatDoorRows.lean that lists a variable, with what it lists TIED to the program's text (the seventh form; the later family's looks); each row that meets fmt, with fmt's text TOLD by the authors' own Lean function (tested against real Go, not proved from fmt's source: count such statements apart). THE CARD IS WHAT COUNTS. Prove the row's statement (the work); the ties are given (YtjppomhfillflaaGreatDoorTie.lean); close each card by the builder's one call (the guide's Derived/Test/ToyasCard.lean, 'card_holds'). Laid BY PROGRAM, IN A SANDBOX (cutbox-door.mjs). By AI agents, Wed Nov 11 2026. No macro, syntax, notation, axiom, sorry.
-/
import Derived.Test.YtjppomhfillflaaGreatDoorRows
import GoSem.ClaimSeven
namespace Go.Proofs.YtjppomhfillflaaGreatDoor
namespace Rows

/-- THE TIED CARD OF 'roadsteadlaw10.StateChanges'. -/
def stateChangesCard : Claim7 := { stood := { row := stateChangesRow, standIns := [], harness := (true, "3058f7ef65c27eaa95a3fb853ded6243de2c2710393b2ee1b002e4baaf733059"), looks := true }, kinds := [], alts := [], laidByText := true, laidKinds := [.data, .data, .data, .sentinel, .sentinel], laidTests := true, laidLooks := .later }
def StateChangesCardSaid : Prop := Claim7.holds Tryz.pinned (.plain (OpenSpec.ofChange stateChangesSpec)) stateChangesCard

/-- THE SECOND FORM's CARD OF 'roadsteadlaw10.StateChanges'. -/
def stateChangesUptoCard : Claim7 := { stood := { row := stateChangesUptoRow, standIns := [], harness := (true, "3058f7ef65c27eaa95a3fb853ded6243de2c2710393b2ee1b002e4baaf733059"), looks := true }, kinds := [], alts := [], laidByText := true, laidKinds := [.data, .data, .data, .sentinel, .sentinel], laidTests := true, laidLooks := .later }
def StateChangesUptoCardSaid : Prop := Claim7.holds Tryz.pinned (.plain (OpenSpec.upto stateChangesSpec)) stateChangesUptoCard
end Rows
end Go.Proofs.YtjppomhfillflaaGreatDoor
