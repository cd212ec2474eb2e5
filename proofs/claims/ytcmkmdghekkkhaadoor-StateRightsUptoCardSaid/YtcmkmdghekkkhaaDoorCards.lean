/-
  DERIVED. GIVEN WITH THE SEED: THE CARDS: each row of YtcmkmdghekkkhaaDoorRows.lean that lists a variable, with what it lists TIED to the program's text (the seventh form; the later family's looks); each row that meets fmt, with fmt's text TOLD by the authors' own Lean function (tested against real Go, not proved from fmt's source: count such statements apart). THE CARD IS WHAT COUNTS. Prove the row's statement (the work); the ties are given (YtcmkmdghekkkhaaDoorTie.lean); close each card by the builder's one call (the guide's Derived/Test/ToyasCard.lean, 'card_holds'). Laid BY PROGRAM, IN A SANDBOX (cutbox-door.mjs). By AI agents, Wed Nov 11 2026. No macro, syntax, notation, axiom, sorry.
-/
import Derived.Test.YtcmkmdghekkkhaaDoorRows
import GoSem.ClaimSeven
namespace Go.Proofs.YtcmkmdghekkkhaaDoor
namespace Rows

/-- THE TIED CARD OF 'roadsteadlaw10.StateRights'. -/
def stateRightsCard : Claim7 := { stood := { row := stateRightsRow, standIns := [], harness := (true, "5322003bbfb2c01f6f9ab104e218df61e32721b589fc47e52027538e6cca1423"), looks := true }, kinds := [], alts := [], laidByText := true, laidKinds := [.data, .data, .data, .sentinel, .sentinel], laidTests := true, laidLooks := .later }
def StateRightsCardSaid : Prop := Claim7.holds Tryd.pinned (.plain (OpenSpec.ofChange stateRightsSpec)) stateRightsCard

/-- THE TIED CARD OF 'roadsteadlaw10.StateBack'. -/
def stateBackCard : Claim7 := { stood := { row := stateBackRow, standIns := [], harness := (true, "5322003bbfb2c01f6f9ab104e218df61e32721b589fc47e52027538e6cca1423"), looks := true }, kinds := [], alts := [], laidByText := true, laidKinds := [.data, .data, .data, .sentinel, .sentinel], laidTests := true, laidLooks := .later }
def StateBackCardSaid : Prop := Claim7.holds Tryd.pinned (.plain (OpenSpec.ofChange stateBackSpec)) stateBackCard

/-- THE TIED CARD OF 'roadsteadlaw10.StateSettles'. -/
def stateSettlesCard : Claim7 := { stood := { row := stateSettlesRow, standIns := [], harness := (true, "5322003bbfb2c01f6f9ab104e218df61e32721b589fc47e52027538e6cca1423"), looks := true }, kinds := [], alts := [], laidByText := true, laidKinds := [.data, .data, .data, .sentinel, .sentinel], laidTests := true, laidLooks := .later }
def StateSettlesCardSaid : Prop := Claim7.holds Tryd.pinned (.plain (OpenSpec.ofChange stateSettlesSpec)) stateSettlesCard

/-- THE TIED CARD OF 'roadsteadlaw10.StateOrder'. -/
def stateOrderCard : Claim7 := { stood := { row := stateOrderRow, standIns := [], harness := (true, "5322003bbfb2c01f6f9ab104e218df61e32721b589fc47e52027538e6cca1423"), looks := true }, kinds := [], alts := [], laidByText := true, laidKinds := [.data, .data, .data, .sentinel, .sentinel], laidTests := true, laidLooks := .later }
def StateOrderCardSaid : Prop := Claim7.holds Tryd.pinned (.plain (OpenSpec.ofChange stateOrderSpec)) stateOrderCard

/-- THE TIED CARD OF 'roadsteadlaw10.StateKeyed'. -/
def stateKeyedCard : Claim7 := { stood := { row := stateKeyedRow, standIns := [], harness := (true, "5322003bbfb2c01f6f9ab104e218df61e32721b589fc47e52027538e6cca1423"), looks := true }, kinds := [], alts := [], laidByText := true, laidKinds := [.data, .data, .data, .sentinel, .sentinel], laidTests := true, laidLooks := .later }
def StateKeyedCardSaid : Prop := Claim7.holds Tryd.pinned (.plain (OpenSpec.ofChange stateKeyedSpec)) stateKeyedCard

/-- THE SECOND FORM's CARD OF 'roadsteadlaw10.StateRights'. -/
def stateRightsUptoCard : Claim7 := { stood := { row := stateRightsUptoRow, standIns := [], harness := (true, "5322003bbfb2c01f6f9ab104e218df61e32721b589fc47e52027538e6cca1423"), looks := true }, kinds := [], alts := [], laidByText := true, laidKinds := [.data, .data, .data, .sentinel, .sentinel], laidTests := true, laidLooks := .later }
def StateRightsUptoCardSaid : Prop := Claim7.holds Tryd.pinned (.plain (OpenSpec.upto stateRightsSpec)) stateRightsUptoCard

/-- THE SECOND FORM's CARD OF 'roadsteadlaw10.StateBack'. -/
def stateBackUptoCard : Claim7 := { stood := { row := stateBackUptoRow, standIns := [], harness := (true, "5322003bbfb2c01f6f9ab104e218df61e32721b589fc47e52027538e6cca1423"), looks := true }, kinds := [], alts := [], laidByText := true, laidKinds := [.data, .data, .data, .sentinel, .sentinel], laidTests := true, laidLooks := .later }
def StateBackUptoCardSaid : Prop := Claim7.holds Tryd.pinned (.plain (OpenSpec.upto stateBackSpec)) stateBackUptoCard

/-- THE SECOND FORM's CARD OF 'roadsteadlaw10.StateSettles'. -/
def stateSettlesUptoCard : Claim7 := { stood := { row := stateSettlesUptoRow, standIns := [], harness := (true, "5322003bbfb2c01f6f9ab104e218df61e32721b589fc47e52027538e6cca1423"), looks := true }, kinds := [], alts := [], laidByText := true, laidKinds := [.data, .data, .data, .sentinel, .sentinel], laidTests := true, laidLooks := .later }
def StateSettlesUptoCardSaid : Prop := Claim7.holds Tryd.pinned (.plain (OpenSpec.upto stateSettlesSpec)) stateSettlesUptoCard

/-- THE SECOND FORM's CARD OF 'roadsteadlaw10.StateOrder'. -/
def stateOrderUptoCard : Claim7 := { stood := { row := stateOrderUptoRow, standIns := [], harness := (true, "5322003bbfb2c01f6f9ab104e218df61e32721b589fc47e52027538e6cca1423"), looks := true }, kinds := [], alts := [], laidByText := true, laidKinds := [.data, .data, .data, .sentinel, .sentinel], laidTests := true, laidLooks := .later }
def StateOrderUptoCardSaid : Prop := Claim7.holds Tryd.pinned (.plain (OpenSpec.upto stateOrderSpec)) stateOrderUptoCard

/-- THE SECOND FORM's CARD OF 'roadsteadlaw10.StateKeyed'. -/
def stateKeyedUptoCard : Claim7 := { stood := { row := stateKeyedUptoRow, standIns := [], harness := (true, "5322003bbfb2c01f6f9ab104e218df61e32721b589fc47e52027538e6cca1423"), looks := true }, kinds := [], alts := [], laidByText := true, laidKinds := [.data, .data, .data, .sentinel, .sentinel], laidTests := true, laidLooks := .later }
def StateKeyedUptoCardSaid : Prop := Claim7.holds Tryd.pinned (.plain (OpenSpec.upto stateKeyedSpec)) stateKeyedUptoCard
end Rows
end Go.Proofs.YtcmkmdghekkkhaaDoor
