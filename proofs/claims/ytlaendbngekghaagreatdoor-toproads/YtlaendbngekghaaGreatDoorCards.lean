/-
  DERIVED. GIVEN WITH THE SEED: THE CARDS: each row of YtlaendbngekghaaGreatDoorRows.lean that lists a variable, with what it lists TIED to the program's text (the seventh form; the later family's looks); each row that meets fmt, with fmt's text TOLD by the authors' own Lean function (tested against real Go, not proved from fmt's source: count such statements apart). THE CARD IS WHAT COUNTS. Prove the row's statement (the work); the ties are given (YtlaendbngekghaaGreatDoorTie.lean); close each card by the builder's one call (the guide's Derived/Test/ToyasCard.lean, 'card_holds'). Laid BY PROGRAM, IN A SANDBOX (cutbox-door.mjs). By AI agents, Wed Nov 11 2026. No macro, syntax, notation, axiom, sorry.
-/
import Derived.Test.YtlaendbngekghaaGreatDoorRows
import GoSem.ClaimSeven
namespace Go.Proofs.YtlaendbngekghaaGreatDoor
namespace Rows

/-- THE TIED CARD OF 'plumbtop.TopRoads'. -/
def topRoadsCard : Claim7 := { stood := { row := topRoadsRow, standIns := [], harness := (true, "0ad8524abf9b1cc0187ec4496df4cca159863ca3d74f04a3018af0ac623077d0"), looks := true }, kinds := [], alts := [], laidByText := true, laidKinds := [.data, .data, .data, .pinned, .pinned], laidTests := true, laidLooks := .later }
def TopRoadsCardSaid : Prop := Claim7.holds Tryz.pinned (.plain (OpenSpec.ofChange topRoadsSpec)) topRoadsCard

/-- THE SECOND FORM's CARD OF 'plumbtop.TopRoads'. -/
def topRoadsUptoCard : Claim7 := { stood := { row := topRoadsUptoRow, standIns := [], harness := (true, "0ad8524abf9b1cc0187ec4496df4cca159863ca3d74f04a3018af0ac623077d0"), looks := true }, kinds := [], alts := [], laidByText := true, laidKinds := [.data, .data, .data, .pinned, .pinned], laidTests := true, laidLooks := .later }
def TopRoadsUptoCardSaid : Prop := Claim7.holds Tryz.pinned (.plain (OpenSpec.upto topRoadsSpec)) topRoadsUptoCard
end Rows
end Go.Proofs.YtlaendbngekghaaGreatDoor
