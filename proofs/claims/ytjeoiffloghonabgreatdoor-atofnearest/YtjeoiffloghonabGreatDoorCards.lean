/-
  DERIVED. GIVEN WITH THE SEED: THE CARDS: each row of YtjeoiffloghonabGreatDoorRows.lean that lists a variable, with what it lists TIED to the program's text (the seventh form; the later family's looks); each row that meets fmt, with fmt's text TOLD by the authors' own Lean function (tested against real Go, not proved from fmt's source: count such statements apart). THE CARD IS WHAT COUNTS. Prove the row's statement (the work); the ties are given (YtjeoiffloghonabGreatDoorTie.lean); close each card by the builder's one call (the guide's Derived/Test/ToyasCard.lean, 'card_holds'). Laid BY PROGRAM, IN A SANDBOX (cutbox-door.mjs). By AI agents, Wed Nov 11 2026. No macro, syntax, notation, axiom, sorry.
-/
import Derived.Test.YtjeoiffloghonabGreatDoorRows
import GoSem.ClaimSeven
namespace Go.Proofs.YtjeoiffloghonabGreatDoor
namespace Rows

/-- THE TIED CARD OF 'plumblaw11.AtofNearest'. -/
def atofNearestCard : Claim7 := { stood := { row := atofNearestRow, standIns := [], harness := (true, "8bc9c72e0bb04fbf88d4ef9c7f18d512a4337bd61cffb0827b386d86943fb855"), looks := true }, kinds := [], alts := [], laidByText := true, laidKinds := [.data, .data, .data, .pinned, .pinned], laidTests := true, laidLooks := .later }
def AtofNearestCardSaid : Prop := Claim7.holds Tryz.pinned (.plain (OpenSpec.ofChange atofNearestSpec)) atofNearestCard

/-- THE TIED CARD OF 'plumblaw11.AtofTies'. -/
def atofTiesCard : Claim7 := { stood := { row := atofTiesRow, standIns := [], harness := (true, "8bc9c72e0bb04fbf88d4ef9c7f18d512a4337bd61cffb0827b386d86943fb855"), looks := true }, kinds := [], alts := [], laidByText := true, laidKinds := [.data, .handle, .data, .data, .pinned, .pinned], laidTests := true, laidLooks := .later }
def AtofTiesCardSaid : Prop := Claim7.holds Tryz.pinned (.plain (OpenSpec.ofChange atofTiesSpec)) atofTiesCard

/-- THE TIED CARD OF 'plumblaw11.AtofTexts'. -/
def atofTextsCard : Claim7 := { stood := { row := atofTextsRow, standIns := [], harness := (true, "8bc9c72e0bb04fbf88d4ef9c7f18d512a4337bd61cffb0827b386d86943fb855"), looks := true }, kinds := [], alts := [], laidByText := true, laidKinds := [.data, .handle, .data, .data, .pinned, .pinned], laidTests := true, laidLooks := .later }
def AtofTextsCardSaid : Prop := Claim7.holds Tryz.pinned (.plain (OpenSpec.ofChange atofTextsSpec)) atofTextsCard

/-- THE SECOND FORM's CARD OF 'plumblaw11.AtofNearest'. -/
def atofNearestUptoCard : Claim7 := { stood := { row := atofNearestUptoRow, standIns := [], harness := (true, "8bc9c72e0bb04fbf88d4ef9c7f18d512a4337bd61cffb0827b386d86943fb855"), looks := true }, kinds := [], alts := [], laidByText := true, laidKinds := [.data, .data, .data, .pinned, .pinned], laidTests := true, laidLooks := .later }
def AtofNearestUptoCardSaid : Prop := Claim7.holds Tryz.pinned (.plain (OpenSpec.upto atofNearestSpec)) atofNearestUptoCard

/-- THE SECOND FORM's CARD OF 'plumblaw11.AtofTies'. -/
def atofTiesUptoCard : Claim7 := { stood := { row := atofTiesUptoRow, standIns := [], harness := (true, "8bc9c72e0bb04fbf88d4ef9c7f18d512a4337bd61cffb0827b386d86943fb855"), looks := true }, kinds := [], alts := [], laidByText := true, laidKinds := [.data, .handle, .data, .data, .pinned, .pinned], laidTests := true, laidLooks := .later }
def AtofTiesUptoCardSaid : Prop := Claim7.holds Tryz.pinned (.plain (OpenSpec.upto atofTiesSpec)) atofTiesUptoCard

/-- THE SECOND FORM's CARD OF 'plumblaw11.AtofTexts'. -/
def atofTextsUptoCard : Claim7 := { stood := { row := atofTextsUptoRow, standIns := [], harness := (true, "8bc9c72e0bb04fbf88d4ef9c7f18d512a4337bd61cffb0827b386d86943fb855"), looks := true }, kinds := [], alts := [], laidByText := true, laidKinds := [.data, .handle, .data, .data, .pinned, .pinned], laidTests := true, laidLooks := .later }
def AtofTextsUptoCardSaid : Prop := Claim7.holds Tryz.pinned (.plain (OpenSpec.upto atofTextsSpec)) atofTextsUptoCard
end Rows
end Go.Proofs.YtjeoiffloghonabGreatDoor
