/-
  DERIVED. GIVEN WITH THE SEED: THE CARDS: each row of YtgobnjeankjkjaaGreatDoorRows.lean that lists a variable, with what it lists TIED to the program's text (the seventh form; the later family's looks); each row that meets fmt, with fmt's text TOLD by the authors' own Lean function (tested against real Go, not proved from fmt's source: count such statements apart). THE CARD IS WHAT COUNTS. Prove the row's statement (the work); the ties are given (YtgobnjeankjkjaaGreatDoorTie.lean); close each card by the builder's one call (the guide's Derived/Test/ToyasCard.lean, 'card_holds'). Laid BY PROGRAM, IN A SANDBOX (cutbox-door.mjs). By AI agents, Wed Nov 11 2026. No macro, syntax, notation, axiom, sorry.
-/
import Derived.Test.YtgobnjeankjkjaaGreatDoorRows
import GoSem.ClaimSeven
namespace Go.Proofs.YtgobnjeankjkjaaGreatDoor
namespace Rows

/-- THE TIED CARD OF 'plumblaw17.WkbCoords'. -/
def wkbCoordsCard : Claim7 := { stood := { row := wkbCoordsRow, standIns := [], harness := (true, "0e1deaceb81fc5ab1671630540d81810f944d151daa8243a6b5258de3b9e1823"), looks := true }, kinds := [], alts := [], laidByText := true, laidKinds := [.handle], laidTests := true, laidLooks := .later }
def WkbCoordsCardSaid : Prop := Claim7.holds Tryz.pinned (.plain (OpenSpec.ofChange wkbCoordsSpec)) wkbCoordsCard

/-- THE TIED CARD OF 'plumblaw17.WkbCounts'. -/
def wkbCountsCard : Claim7 := { stood := { row := wkbCountsRow, standIns := [], harness := (true, "0e1deaceb81fc5ab1671630540d81810f944d151daa8243a6b5258de3b9e1823"), looks := true }, kinds := [], alts := [], laidByText := true, laidKinds := [.handle], laidTests := true, laidLooks := .later }
def WkbCountsCardSaid : Prop := Claim7.holds Tryz.pinned (.plain (OpenSpec.ofChange wkbCountsSpec)) wkbCountsCard

/-- THE TIED CARD OF 'plumblaw17.WkbOneForm'. -/
def wkbOneFormCard : Claim7 := { stood := { row := wkbOneFormRow, standIns := [], harness := (true, "0e1deaceb81fc5ab1671630540d81810f944d151daa8243a6b5258de3b9e1823"), looks := true }, kinds := [], alts := [], laidByText := true, laidKinds := [.handle], laidTests := true, laidLooks := .later }
def WkbOneFormCardSaid : Prop := Claim7.holds Tryz.pinned (.plain (OpenSpec.ofChange wkbOneFormSpec)) wkbOneFormCard

/-- THE TIED CARD OF 'plumblaw17.WkbBack'. -/
def wkbBackCard : Claim7 := { stood := { row := wkbBackRow, standIns := [], harness := (true, "0e1deaceb81fc5ab1671630540d81810f944d151daa8243a6b5258de3b9e1823"), looks := true }, kinds := [], alts := [], laidByText := true, laidKinds := [.handle], laidTests := true, laidLooks := .later }
def WkbBackCardSaid : Prop := Claim7.holds Tryz.pinned (.plain (OpenSpec.ofChange wkbBackSpec)) wkbBackCard

/-- THE TIED CARD OF 'plumblaw17.WkbLimits'. -/
def wkbLimitsCard : Claim7 := { stood := { row := wkbLimitsRow, standIns := [], harness := (true, "0e1deaceb81fc5ab1671630540d81810f944d151daa8243a6b5258de3b9e1823"), looks := true }, kinds := [], alts := [], laidByText := true, laidKinds := [.handle], laidTests := true, laidLooks := .later }
def WkbLimitsCardSaid : Prop := Claim7.holds Tryz.pinned (.plain (OpenSpec.ofChange wkbLimitsSpec)) wkbLimitsCard

/-- THE SECOND FORM's CARD OF 'plumblaw17.WkbCoords'. -/
def wkbCoordsUptoCard : Claim7 := { stood := { row := wkbCoordsUptoRow, standIns := [], harness := (true, "0e1deaceb81fc5ab1671630540d81810f944d151daa8243a6b5258de3b9e1823"), looks := true }, kinds := [], alts := [], laidByText := true, laidKinds := [.handle], laidTests := true, laidLooks := .later }
def WkbCoordsUptoCardSaid : Prop := Claim7.holds Tryz.pinned (.plain (OpenSpec.upto wkbCoordsSpec)) wkbCoordsUptoCard

/-- THE SECOND FORM's CARD OF 'plumblaw17.WkbCounts'. -/
def wkbCountsUptoCard : Claim7 := { stood := { row := wkbCountsUptoRow, standIns := [], harness := (true, "0e1deaceb81fc5ab1671630540d81810f944d151daa8243a6b5258de3b9e1823"), looks := true }, kinds := [], alts := [], laidByText := true, laidKinds := [.handle], laidTests := true, laidLooks := .later }
def WkbCountsUptoCardSaid : Prop := Claim7.holds Tryz.pinned (.plain (OpenSpec.upto wkbCountsSpec)) wkbCountsUptoCard

/-- THE SECOND FORM's CARD OF 'plumblaw17.WkbOneForm'. -/
def wkbOneFormUptoCard : Claim7 := { stood := { row := wkbOneFormUptoRow, standIns := [], harness := (true, "0e1deaceb81fc5ab1671630540d81810f944d151daa8243a6b5258de3b9e1823"), looks := true }, kinds := [], alts := [], laidByText := true, laidKinds := [.handle], laidTests := true, laidLooks := .later }
def WkbOneFormUptoCardSaid : Prop := Claim7.holds Tryz.pinned (.plain (OpenSpec.upto wkbOneFormSpec)) wkbOneFormUptoCard

/-- THE SECOND FORM's CARD OF 'plumblaw17.WkbBack'. -/
def wkbBackUptoCard : Claim7 := { stood := { row := wkbBackUptoRow, standIns := [], harness := (true, "0e1deaceb81fc5ab1671630540d81810f944d151daa8243a6b5258de3b9e1823"), looks := true }, kinds := [], alts := [], laidByText := true, laidKinds := [.handle], laidTests := true, laidLooks := .later }
def WkbBackUptoCardSaid : Prop := Claim7.holds Tryz.pinned (.plain (OpenSpec.upto wkbBackSpec)) wkbBackUptoCard

/-- THE SECOND FORM's CARD OF 'plumblaw17.WkbLimits'. -/
def wkbLimitsUptoCard : Claim7 := { stood := { row := wkbLimitsUptoRow, standIns := [], harness := (true, "0e1deaceb81fc5ab1671630540d81810f944d151daa8243a6b5258de3b9e1823"), looks := true }, kinds := [], alts := [], laidByText := true, laidKinds := [.handle], laidTests := true, laidLooks := .later }
def WkbLimitsUptoCardSaid : Prop := Claim7.holds Tryz.pinned (.plain (OpenSpec.upto wkbLimitsSpec)) wkbLimitsUptoCard
end Rows
end Go.Proofs.YtgobnjeankjkjaaGreatDoor
