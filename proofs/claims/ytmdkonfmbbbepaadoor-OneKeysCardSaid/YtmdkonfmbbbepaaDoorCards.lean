/-
  DERIVED. GIVEN WITH THE SEED: THE CARDS: each row of YtmdkonfmbbbepaaDoorRows.lean that lists a variable, with what it lists TIED to the program's text (the seventh form; the later family's looks); each row that meets fmt, with fmt's text TOLD by the authors' own Lean function (tested against real Go, not proved from fmt's source: count such statements apart). THE CARD IS WHAT COUNTS. Prove the row's statement (the work); the ties are given (YtmdkonfmbbbepaaDoorTie.lean); close each card by the builder's one call (the guide's Derived/Test/ToyasCard.lean, 'card_holds'). Laid BY PROGRAM, IN A SANDBOX (cutbox-door.mjs). By AI agents, Wed Nov 11 2026. No macro, syntax, notation, axiom, sorry.
-/
import Derived.Test.YtmdkonfmbbbepaaDoorRows
import GoSem.ClaimSeven
namespace Go.Proofs.YtmdkonfmbbbepaaDoor
namespace Rows

/-- THE TIED CARD OF 'roadsteadlaw12.OneBack'. -/
def oneBackCard : Claim7 := { stood := { row := oneBackRow, standIns := [], harness := (true, "4bdcd9e6d58f077c599f50a3c51c5cd718a165d1576785f4a4c793dc998ba197"), looks := true }, kinds := [], alts := [], laidByText := true, laidKinds := [.data, .data, .data, .sentinel, .sentinel], laidTests := true, laidLooks := .later }
def OneBackCardSaid : Prop := Claim7.holds Tryd.pinned (.plain (OpenSpec.ofChange oneBackSpec)) oneBackCard

/-- THE TIED CARD OF 'roadsteadlaw12.OneKeys'. -/
def oneKeysCard : Claim7 := { stood := { row := oneKeysRow, standIns := [], harness := (true, "4bdcd9e6d58f077c599f50a3c51c5cd718a165d1576785f4a4c793dc998ba197"), looks := true }, kinds := [], alts := [], laidByText := true, laidKinds := [.data, .data, .data, .sentinel, .sentinel], laidTests := true, laidLooks := .later }
def OneKeysCardSaid : Prop := Claim7.holds Tryd.pinned (.plain (OpenSpec.ofChange oneKeysSpec)) oneKeysCard

/-- THE TIED CARD OF 'roadsteadlaw12.OneTables'. -/
def oneTablesCard : Claim7 := { stood := { row := oneTablesRow, standIns := [], harness := (true, "4bdcd9e6d58f077c599f50a3c51c5cd718a165d1576785f4a4c793dc998ba197"), looks := true }, kinds := [], alts := [], laidByText := true, laidKinds := [.data, .data, .data, .sentinel, .sentinel], laidTests := true, laidLooks := .later }
def OneTablesCardSaid : Prop := Claim7.holds Tryd.pinned (.plain (OpenSpec.ofChange oneTablesSpec)) oneTablesCard

/-- THE SECOND FORM's CARD OF 'roadsteadlaw12.OneBack'. -/
def oneBackUptoCard : Claim7 := { stood := { row := oneBackUptoRow, standIns := [], harness := (true, "4bdcd9e6d58f077c599f50a3c51c5cd718a165d1576785f4a4c793dc998ba197"), looks := true }, kinds := [], alts := [], laidByText := true, laidKinds := [.data, .data, .data, .sentinel, .sentinel], laidTests := true, laidLooks := .later }
def OneBackUptoCardSaid : Prop := Claim7.holds Tryd.pinned (.plain (OpenSpec.upto oneBackSpec)) oneBackUptoCard

/-- THE SECOND FORM's CARD OF 'roadsteadlaw12.OneKeys'. -/
def oneKeysUptoCard : Claim7 := { stood := { row := oneKeysUptoRow, standIns := [], harness := (true, "4bdcd9e6d58f077c599f50a3c51c5cd718a165d1576785f4a4c793dc998ba197"), looks := true }, kinds := [], alts := [], laidByText := true, laidKinds := [.data, .data, .data, .sentinel, .sentinel], laidTests := true, laidLooks := .later }
def OneKeysUptoCardSaid : Prop := Claim7.holds Tryd.pinned (.plain (OpenSpec.upto oneKeysSpec)) oneKeysUptoCard

/-- THE SECOND FORM's CARD OF 'roadsteadlaw12.OneTables'. -/
def oneTablesUptoCard : Claim7 := { stood := { row := oneTablesUptoRow, standIns := [], harness := (true, "4bdcd9e6d58f077c599f50a3c51c5cd718a165d1576785f4a4c793dc998ba197"), looks := true }, kinds := [], alts := [], laidByText := true, laidKinds := [.data, .data, .data, .sentinel, .sentinel], laidTests := true, laidLooks := .later }
def OneTablesUptoCardSaid : Prop := Claim7.holds Tryd.pinned (.plain (OpenSpec.upto oneTablesSpec)) oneTablesUptoCard
end Rows
end Go.Proofs.YtmdkonfmbbbepaaDoor
