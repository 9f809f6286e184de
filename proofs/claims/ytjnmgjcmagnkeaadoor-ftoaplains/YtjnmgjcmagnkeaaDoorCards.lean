/-
  DERIVED. GIVEN WITH THE SEED: THE CARDS: each row of YtjnmgjcmagnkeaaDoorRows.lean that lists a variable, with what it lists TIED to the program's text (the seventh form; the later family's looks); each row that meets fmt, with fmt's text TOLD by the authors' own Lean function (tested against real Go, not proved from fmt's source: count such statements apart). THE CARD IS WHAT COUNTS. Prove the row's statement (the work); the ties are given (YtjnmgjcmagnkeaaDoorTie.lean); close each card by the builder's one call (the guide's Derived/Test/ToyasCard.lean, 'card_holds'). Laid BY PROGRAM, IN A SANDBOX (cutbox-door.mjs). By AI agents, Wed Nov 11 2026. No macro, syntax, notation, axiom, sorry.
-/
import Derived.Test.YtjnmgjcmagnkeaaDoorRows
import GoSem.ClaimSeven
namespace Go.Proofs.YtjnmgjcmagnkeaaDoor
namespace Rows

/-- THE TIED CARD OF 'plumblaw14.FtoaPlains'. -/
def ftoaPlainsCard : Claim7 := { stood := { row := ftoaPlainsRow, standIns := [], harness := (true, "e806d7ed4f769f676b4e0454b6b9c1d7105fe97181b25990edf52153845c5ab2"), looks := false }, kinds := [], alts := [], laidByText := true, laidKinds := [.data, .data, .pinned], laidTests := true, laidLooks := .later }
def FtoaPlainsCardSaid : Prop := Claim7.holds Tryd.pinned (.plain (OpenSpec.ofChange ftoaPlainsSpec)) ftoaPlainsCard

/-- THE SECOND FORM's CARD OF 'plumblaw14.FtoaPlains'. -/
def ftoaPlainsUptoCard : Claim7 := { stood := { row := ftoaPlainsUptoRow, standIns := [], harness := (true, "e806d7ed4f769f676b4e0454b6b9c1d7105fe97181b25990edf52153845c5ab2"), looks := false }, kinds := [], alts := [], laidByText := true, laidKinds := [.data, .data, .pinned], laidTests := true, laidLooks := .later }
def FtoaPlainsUptoCardSaid : Prop := Claim7.holds Tryd.pinned (.plain (OpenSpec.upto ftoaPlainsSpec)) ftoaPlainsUptoCard
end Rows
end Go.Proofs.YtjnmgjcmagnkeaaDoor
