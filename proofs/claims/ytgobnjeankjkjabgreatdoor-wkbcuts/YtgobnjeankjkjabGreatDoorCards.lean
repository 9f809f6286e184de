/-
  DERIVED. GIVEN WITH THE SEED: THE CARDS: each row of YtgobnjeankjkjabGreatDoorRows.lean that lists a variable, with what it lists TIED to the program's text (the seventh form; the later family's looks); each row that meets fmt, with fmt's text TOLD by the authors' own Lean function (tested against real Go, not proved from fmt's source: count such statements apart). THE CARD IS WHAT COUNTS. Prove the row's statement (the work); the ties are given (YtgobnjeankjkjabGreatDoorTie.lean); close each card by the builder's one call (the guide's Derived/Test/ToyasCard.lean, 'card_holds'). Laid BY PROGRAM, IN A SANDBOX (cutbox-door.mjs). By AI agents, Wed Nov 11 2026. No macro, syntax, notation, axiom, sorry.
-/
import Derived.Test.YtgobnjeankjkjabGreatDoorRows
import GoSem.ClaimSeven
namespace Go.Proofs.YtgobnjeankjkjabGreatDoor
namespace Rows

/-- THE TIED CARD OF 'plumblaw17.WkbCuts'. -/
def wkbCutsCard : Claim7 := { stood := { row := wkbCutsRow, standIns := [], harness := (true, "a96950f4751730e42a313888aedf05ab10a3de0615d8eee28e34b98059da8dc5"), looks := true }, kinds := [], alts := [], laidByText := true, laidKinds := [.handle], laidTests := true, laidLooks := .later }
def WkbCutsCardSaid : Prop := Claim7.holds Tryz.pinned (.plain (OpenSpec.ofChange wkbCutsSpec)) wkbCutsCard

/-- THE TIED CARD OF 'plumblaw17.WkbHurt'. -/
def wkbHurtCard : Claim7 := { stood := { row := wkbHurtRow, standIns := [], harness := (true, "a96950f4751730e42a313888aedf05ab10a3de0615d8eee28e34b98059da8dc5"), looks := true }, kinds := [], alts := [], laidByText := true, laidKinds := [.handle], laidTests := true, laidLooks := .later }
def WkbHurtCardSaid : Prop := Claim7.holds Tryz.pinned (.plain (OpenSpec.ofChange wkbHurtSpec)) wkbHurtCard

/-- THE TIED CARD OF 'plumblaw17.WkbFresh'. -/
def wkbFreshCard : Claim7 := { stood := { row := wkbFreshRow, standIns := [], harness := (true, "a96950f4751730e42a313888aedf05ab10a3de0615d8eee28e34b98059da8dc5"), looks := true }, kinds := [], alts := [], laidByText := true, laidKinds := [.handle], laidTests := true, laidLooks := .later }
def WkbFreshCardSaid : Prop := Claim7.holds Tryz.pinned (.plain (OpenSpec.ofChange wkbFreshSpec)) wkbFreshCard

/-- THE SECOND FORM's CARD OF 'plumblaw17.WkbCuts'. -/
def wkbCutsUptoCard : Claim7 := { stood := { row := wkbCutsUptoRow, standIns := [], harness := (true, "a96950f4751730e42a313888aedf05ab10a3de0615d8eee28e34b98059da8dc5"), looks := true }, kinds := [], alts := [], laidByText := true, laidKinds := [.handle], laidTests := true, laidLooks := .later }
def WkbCutsUptoCardSaid : Prop := Claim7.holds Tryz.pinned (.plain (OpenSpec.upto wkbCutsSpec)) wkbCutsUptoCard

/-- THE SECOND FORM's CARD OF 'plumblaw17.WkbHurt'. -/
def wkbHurtUptoCard : Claim7 := { stood := { row := wkbHurtUptoRow, standIns := [], harness := (true, "a96950f4751730e42a313888aedf05ab10a3de0615d8eee28e34b98059da8dc5"), looks := true }, kinds := [], alts := [], laidByText := true, laidKinds := [.handle], laidTests := true, laidLooks := .later }
def WkbHurtUptoCardSaid : Prop := Claim7.holds Tryz.pinned (.plain (OpenSpec.upto wkbHurtSpec)) wkbHurtUptoCard

/-- THE SECOND FORM's CARD OF 'plumblaw17.WkbFresh'. -/
def wkbFreshUptoCard : Claim7 := { stood := { row := wkbFreshUptoRow, standIns := [], harness := (true, "a96950f4751730e42a313888aedf05ab10a3de0615d8eee28e34b98059da8dc5"), looks := true }, kinds := [], alts := [], laidByText := true, laidKinds := [.handle], laidTests := true, laidLooks := .later }
def WkbFreshUptoCardSaid : Prop := Claim7.holds Tryz.pinned (.plain (OpenSpec.upto wkbFreshSpec)) wkbFreshUptoCard
end Rows
end Go.Proofs.YtgobnjeankjkjabGreatDoor
