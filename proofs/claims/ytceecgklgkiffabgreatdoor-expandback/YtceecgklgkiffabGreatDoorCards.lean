/-
  DERIVED. GIVEN WITH THE SEED: THE CARDS: each row of YtceecgklgkiffabGreatDoorRows.lean that lists a variable, with what it lists TIED to the program's text (the seventh form; the later family's looks); each row that meets fmt, with fmt's text TOLD by the authors' own Lean function (tested against real Go, not proved from fmt's source: count such statements apart). THE CARD IS WHAT COUNTS. Prove the row's statement (the work); the ties are given (YtceecgklgkiffabGreatDoorTie.lean); close each card by the builder's one call (the guide's Derived/Test/ToyasCard.lean, 'card_holds'). Laid BY PROGRAM, IN A SANDBOX (cutbox-door.mjs). By AI agents, Wed Nov 11 2026. No macro, syntax, notation, axiom, sorry.
-/
import Derived.Test.YtceecgklgkiffabGreatDoorRows
import GoSem.ClaimSeven
namespace Go.Proofs.YtceecgklgkiffabGreatDoor
namespace Rows

/-- THE TIED CARD OF 'plumblaw13.ExpandCuts'. -/
def expandCutsCard : Claim7 := { stood := { row := expandCutsRow, standIns := [], harness := (true, "6b6b6ff1e1c6f4b705ccad1e7373ab291895519ddfb41cafa359d27e5eeb3b6f"), looks := true }, kinds := [], alts := [], laidByText := true, laidKinds := [.data, .pinned], laidTests := true, laidLooks := .later }
def ExpandCutsCardSaid : Prop := Claim7.holds Tryz.pinned (.plain (OpenSpec.ofChange expandCutsSpec)) expandCutsCard

/-- THE TIED CARD OF 'plumblaw13.ExpandBack'. -/
def expandBackCard : Claim7 := { stood := { row := expandBackRow, standIns := [], harness := (true, "6b6b6ff1e1c6f4b705ccad1e7373ab291895519ddfb41cafa359d27e5eeb3b6f"), looks := true }, kinds := [], alts := [], laidByText := true, laidKinds := [.data, .data, .pinned], laidTests := true, laidLooks := .later }
def ExpandBackCardSaid : Prop := Claim7.holds Tryz.pinned (.plain (OpenSpec.ofChange expandBackSpec)) expandBackCard

/-- THE SECOND FORM's CARD OF 'plumblaw13.ExpandCuts'. -/
def expandCutsUptoCard : Claim7 := { stood := { row := expandCutsUptoRow, standIns := [], harness := (true, "6b6b6ff1e1c6f4b705ccad1e7373ab291895519ddfb41cafa359d27e5eeb3b6f"), looks := true }, kinds := [], alts := [], laidByText := true, laidKinds := [.data, .pinned], laidTests := true, laidLooks := .later }
def ExpandCutsUptoCardSaid : Prop := Claim7.holds Tryz.pinned (.plain (OpenSpec.upto expandCutsSpec)) expandCutsUptoCard

/-- THE SECOND FORM's CARD OF 'plumblaw13.ExpandBack'. -/
def expandBackUptoCard : Claim7 := { stood := { row := expandBackUptoRow, standIns := [], harness := (true, "6b6b6ff1e1c6f4b705ccad1e7373ab291895519ddfb41cafa359d27e5eeb3b6f"), looks := true }, kinds := [], alts := [], laidByText := true, laidKinds := [.data, .data, .pinned], laidTests := true, laidLooks := .later }
def ExpandBackUptoCardSaid : Prop := Claim7.holds Tryz.pinned (.plain (OpenSpec.upto expandBackSpec)) expandBackUptoCard
end Rows
end Go.Proofs.YtceecgklgkiffabGreatDoor
