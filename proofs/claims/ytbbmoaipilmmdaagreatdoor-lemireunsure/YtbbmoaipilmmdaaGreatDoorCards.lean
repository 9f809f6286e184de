/-
  DERIVED. GIVEN WITH THE SEED: THE CARDS: each row of YtbbmoaipilmmdaaGreatDoorRows.lean that lists a variable, with what it lists TIED to the program's text (the seventh form; the later family's looks); each row that meets fmt, with fmt's text TOLD by the authors' own Lean function (tested against real Go, not proved from fmt's source: count such statements apart). THE CARD IS WHAT COUNTS. Prove the row's statement (the work); the ties are given (YtbbmoaipilmmdaaGreatDoorTie.lean); close each card by the builder's one call (the guide's Derived/Test/ToyasCard.lean, 'card_holds'). Laid BY PROGRAM, IN A SANDBOX (cutbox-door.mjs). By AI agents, Wed Nov 11 2026. No macro, syntax, notation, axiom, sorry.
-/
import Derived.Test.YtbbmoaipilmmdaaGreatDoorRows
import GoSem.ClaimSeven
namespace Go.Proofs.YtbbmoaipilmmdaaGreatDoor
namespace Rows

/-- THE TIED CARD OF 'plumblaw10.LemireUnsure'. -/
def lemireUnsureCard : Claim7 := { stood := { row := lemireUnsureRow, standIns := [], harness := (true, "1619b30e1157f1f5d7007a06cb43a248c7945cd05bec49b78a80ad99d70adde2"), looks := true }, kinds := [], alts := [], laidByText := true, laidKinds := [.data, .data, .data, .pinned], laidTests := true, laidLooks := .later }
def LemireUnsureCardSaid : Prop := Claim7.holds Tryz.pinned (.plain (OpenSpec.ofChange lemireUnsureSpec)) lemireUnsureCard

/-- THE TIED CARD OF 'plumblaw10.LemireTrue'. -/
def lemireTrueCard : Claim7 := { stood := { row := lemireTrueRow, standIns := [], harness := (true, "1619b30e1157f1f5d7007a06cb43a248c7945cd05bec49b78a80ad99d70adde2"), looks := true }, kinds := [], alts := [], laidByText := true, laidKinds := [.data, .data, .data, .pinned], laidTests := true, laidLooks := .later }
def LemireTrueCardSaid : Prop := Claim7.holds Tryz.pinned (.plain (OpenSpec.ofChange lemireTrueSpec)) lemireTrueCard

/-- THE TIED CARD OF 'plumblaw10.LemireBounds'. -/
def lemireBoundsCard : Claim7 := { stood := { row := lemireBoundsRow, standIns := [], harness := (true, "1619b30e1157f1f5d7007a06cb43a248c7945cd05bec49b78a80ad99d70adde2"), looks := true }, kinds := [], alts := [], laidByText := true, laidKinds := [.data, .handle, .data, .pinned], laidTests := true, laidLooks := .later }
def LemireBoundsCardSaid : Prop := Claim7.holds Tryz.pinned (.plain (OpenSpec.ofChange lemireBoundsSpec)) lemireBoundsCard

/-- THE SECOND FORM's CARD OF 'plumblaw10.LemireUnsure'. -/
def lemireUnsureUptoCard : Claim7 := { stood := { row := lemireUnsureUptoRow, standIns := [], harness := (true, "1619b30e1157f1f5d7007a06cb43a248c7945cd05bec49b78a80ad99d70adde2"), looks := true }, kinds := [], alts := [], laidByText := true, laidKinds := [.data, .data, .data, .pinned], laidTests := true, laidLooks := .later }
def LemireUnsureUptoCardSaid : Prop := Claim7.holds Tryz.pinned (.plain (OpenSpec.upto lemireUnsureSpec)) lemireUnsureUptoCard

/-- THE SECOND FORM's CARD OF 'plumblaw10.LemireTrue'. -/
def lemireTrueUptoCard : Claim7 := { stood := { row := lemireTrueUptoRow, standIns := [], harness := (true, "1619b30e1157f1f5d7007a06cb43a248c7945cd05bec49b78a80ad99d70adde2"), looks := true }, kinds := [], alts := [], laidByText := true, laidKinds := [.data, .data, .data, .pinned], laidTests := true, laidLooks := .later }
def LemireTrueUptoCardSaid : Prop := Claim7.holds Tryz.pinned (.plain (OpenSpec.upto lemireTrueSpec)) lemireTrueUptoCard

/-- THE SECOND FORM's CARD OF 'plumblaw10.LemireBounds'. -/
def lemireBoundsUptoCard : Claim7 := { stood := { row := lemireBoundsUptoRow, standIns := [], harness := (true, "1619b30e1157f1f5d7007a06cb43a248c7945cd05bec49b78a80ad99d70adde2"), looks := true }, kinds := [], alts := [], laidByText := true, laidKinds := [.data, .handle, .data, .pinned], laidTests := true, laidLooks := .later }
def LemireBoundsUptoCardSaid : Prop := Claim7.holds Tryz.pinned (.plain (OpenSpec.upto lemireBoundsSpec)) lemireBoundsUptoCard
end Rows
end Go.Proofs.YtbbmoaipilmmdaaGreatDoor
