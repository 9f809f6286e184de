/-
  DERIVED. GIVEN WITH THE SEED: THE CARDS: each row of YtildkknpbpdnnabDoorRows.lean that lists a variable, with what it lists TIED to the program's text (the seventh form; the later family's looks); each row that meets fmt, with fmt's text TOLD by the authors' own Lean function (tested against real Go, not proved from fmt's source: count such statements apart). THE CARD IS WHAT COUNTS. Prove the row's statement (the work); the ties are given (YtildkknpbpdnnabDoorTie.lean); close each card by the builder's one call (the guide's Derived/Test/ToyasCard.lean, 'card_holds'). Laid BY PROGRAM, IN A SANDBOX (cutbox-door.mjs). By AI agents, Wed Nov 11 2026. No macro, syntax, notation, axiom, sorry.
-/
import Derived.Test.YtildkknpbpdnnabDoorRows
import GoSem.ClaimSeven
namespace Go.Proofs.YtildkknpbpdnnabDoor
namespace Rows

/-- THE TIED CARD OF 'plumblaw07.NearModes'. -/
def nearModesCard : Claim7 := { stood := { row := nearModesRow, standIns := [], harness := (true, "3be8765b86fb3883be7736cac7564e7709c58740f54d971ef43de403e27929e9"), looks := true }, kinds := [], alts := [], laidByText := true, laidKinds := [.data], laidTests := true, laidLooks := .later }
def NearModesCardSaid : Prop := Claim7.holds Tryd.pinned (.plain (OpenSpec.ofChange nearModesSpec)) nearModesCard

/-- THE TIED CARD OF 'plumblaw07.NearNearest'. -/
def nearNearestCard : Claim7 := { stood := { row := nearNearestRow, standIns := [], harness := (true, "3be8765b86fb3883be7736cac7564e7709c58740f54d971ef43de403e27929e9"), looks := true }, kinds := [], alts := [], laidByText := true, laidKinds := [.data], laidTests := true, laidLooks := .later }
def NearNearestCardSaid : Prop := Claim7.holds Tryd.pinned (.plain (OpenSpec.ofChange nearNearestSpec)) nearNearestCard

/-- THE SECOND FORM's CARD OF 'plumblaw07.NearModes'. -/
def nearModesUptoCard : Claim7 := { stood := { row := nearModesUptoRow, standIns := [], harness := (true, "3be8765b86fb3883be7736cac7564e7709c58740f54d971ef43de403e27929e9"), looks := true }, kinds := [], alts := [], laidByText := true, laidKinds := [.data], laidTests := true, laidLooks := .later }
def NearModesUptoCardSaid : Prop := Claim7.holds Tryd.pinned (.plain (OpenSpec.upto nearModesSpec)) nearModesUptoCard

/-- THE SECOND FORM's CARD OF 'plumblaw07.NearNearest'. -/
def nearNearestUptoCard : Claim7 := { stood := { row := nearNearestUptoRow, standIns := [], harness := (true, "3be8765b86fb3883be7736cac7564e7709c58740f54d971ef43de403e27929e9"), looks := true }, kinds := [], alts := [], laidByText := true, laidKinds := [.data], laidTests := true, laidLooks := .later }
def NearNearestUptoCardSaid : Prop := Claim7.holds Tryd.pinned (.plain (OpenSpec.upto nearNearestSpec)) nearNearestUptoCard
end Rows
end Go.Proofs.YtildkknpbpdnnabDoor
