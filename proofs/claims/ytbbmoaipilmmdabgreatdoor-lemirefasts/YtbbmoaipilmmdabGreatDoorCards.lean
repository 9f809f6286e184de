/-
  DERIVED. GIVEN WITH THE SEED: THE CARDS: each row of YtbbmoaipilmmdabGreatDoorRows.lean that lists a variable, with what it lists TIED to the program's text (the seventh form; the later family's looks); each row that meets fmt, with fmt's text TOLD by the authors' own Lean function (tested against real Go, not proved from fmt's source: count such statements apart). THE CARD IS WHAT COUNTS. Prove the row's statement (the work); the ties are given (YtbbmoaipilmmdabGreatDoorTie.lean); close each card by the builder's one call (the guide's Derived/Test/ToyasCard.lean, 'card_holds'). Laid BY PROGRAM, IN A SANDBOX (cutbox-door.mjs). By AI agents, Wed Nov 11 2026. No macro, syntax, notation, axiom, sorry.
-/
import Derived.Test.YtbbmoaipilmmdabGreatDoorRows
import GoSem.ClaimSeven
namespace Go.Proofs.YtbbmoaipilmmdabGreatDoor
namespace Rows

/-- THE TIED CARD OF 'plumblaw10.LemireFasts'. -/
def lemireFastsCard : Claim7 := { stood := { row := lemireFastsRow, standIns := [], harness := (true, "cc4ed9e8da680449661bf93c5fef9268f735be45562325ad556e6a6cdb03ab5b"), looks := false }, kinds := [], alts := [], laidByText := true, laidKinds := [.data, .data, .pinned], laidTests := true, laidLooks := .later }
def LemireFastsCardSaid : Prop := Claim7.holds Tryz.pinned (.plain (OpenSpec.ofChange lemireFastsSpec)) lemireFastsCard

/-- THE SECOND FORM's CARD OF 'plumblaw10.LemireFasts'. -/
def lemireFastsUptoCard : Claim7 := { stood := { row := lemireFastsUptoRow, standIns := [], harness := (true, "cc4ed9e8da680449661bf93c5fef9268f735be45562325ad556e6a6cdb03ab5b"), looks := false }, kinds := [], alts := [], laidByText := true, laidKinds := [.data, .data, .pinned], laidTests := true, laidLooks := .later }
def LemireFastsUptoCardSaid : Prop := Claim7.holds Tryz.pinned (.plain (OpenSpec.upto lemireFastsSpec)) lemireFastsUptoCard
end Rows
end Go.Proofs.YtbbmoaipilmmdabGreatDoor
