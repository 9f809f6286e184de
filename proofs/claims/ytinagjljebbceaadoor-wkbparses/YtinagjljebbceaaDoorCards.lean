/-
  DERIVED. GIVEN WITH THE SEED: THE CARDS: each row of YtinagjljebbceaaDoorRows.lean that lists a variable, with what it lists TIED to the program's text (the seventh form; the later family's looks); each row that meets fmt, with fmt's text TOLD by the authors' own Lean function (tested against real Go, not proved from fmt's source: count such statements apart). THE CARD IS WHAT COUNTS. Prove the row's statement (the work); the ties are given (YtinagjljebbceaaDoorTie.lean); close each card by the builder's one call (the guide's Derived/Test/ToyasCard.lean, 'card_holds'). Laid BY PROGRAM, IN A SANDBOX (cutbox-door.mjs). By AI agents, Wed Nov 11 2026. No macro, syntax, notation, axiom, sorry.
-/
import Derived.Test.YtinagjljebbceaaDoorRows
import GoSem.ClaimSeven
namespace Go.Proofs.YtinagjljebbceaaDoor
namespace Rows

/-- THE TIED CARD OF 'plumblaw17.WkbPrints'. -/
def wkbPrintsCard : Claim7 := { stood := { row := wkbPrintsRow, standIns := [], harness := (true, "16d9974d3a33586eeea01605bb7cf149df4f5e230e2c29fe91c930817dc7154c"), looks := true }, kinds := [], alts := [], laidByText := true, laidKinds := [.handle], laidTests := true, laidLooks := .later }
def WkbPrintsCardSaid : Prop := Claim7.holds Tryd.pinned (.plain (OpenSpec.ofChange wkbPrintsSpec)) wkbPrintsCard

/-- THE TIED CARD OF 'plumblaw17.WkbParses'. -/
def wkbParsesCard : Claim7 := { stood := { row := wkbParsesRow, standIns := [], harness := (true, "16d9974d3a33586eeea01605bb7cf149df4f5e230e2c29fe91c930817dc7154c"), looks := true }, kinds := [], alts := [], laidByText := true, laidKinds := [.handle], laidTests := true, laidLooks := .later }
def WkbParsesCardSaid : Prop := Claim7.holds Tryd.pinned (.plain (OpenSpec.ofChange wkbParsesSpec)) wkbParsesCard

/-- THE SECOND FORM's CARD OF 'plumblaw17.WkbPrints'. -/
def wkbPrintsUptoCard : Claim7 := { stood := { row := wkbPrintsUptoRow, standIns := [], harness := (true, "16d9974d3a33586eeea01605bb7cf149df4f5e230e2c29fe91c930817dc7154c"), looks := true }, kinds := [], alts := [], laidByText := true, laidKinds := [.handle], laidTests := true, laidLooks := .later }
def WkbPrintsUptoCardSaid : Prop := Claim7.holds Tryd.pinned (.plain (OpenSpec.upto wkbPrintsSpec)) wkbPrintsUptoCard

/-- THE SECOND FORM's CARD OF 'plumblaw17.WkbParses'. -/
def wkbParsesUptoCard : Claim7 := { stood := { row := wkbParsesUptoRow, standIns := [], harness := (true, "16d9974d3a33586eeea01605bb7cf149df4f5e230e2c29fe91c930817dc7154c"), looks := true }, kinds := [], alts := [], laidByText := true, laidKinds := [.handle], laidTests := true, laidLooks := .later }
def WkbParsesUptoCardSaid : Prop := Claim7.holds Tryd.pinned (.plain (OpenSpec.upto wkbParsesSpec)) wkbParsesUptoCard
end Rows
end Go.Proofs.YtinagjljebbceaaDoor
