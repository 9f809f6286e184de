/-
  DERIVED. GIVEN WITH THE SEED: THE CARDS: each row of YtiicphkpmdidaaaDoorRows.lean that lists a variable, with what it lists TIED to the program's text (the seventh form; the later family's looks); each row that meets fmt, with fmt's text TOLD by the authors' own Lean function (tested against real Go, not proved from fmt's source: count such statements apart). THE CARD IS WHAT COUNTS. Prove the row's statement (the work); the ties are given (YtiicphkpmdidaaaDoorTie.lean); close each card by the builder's one call (the guide's Derived/Test/ToyasCard.lean, 'card_holds'). Laid BY PROGRAM, IN A SANDBOX (cutbox-door.mjs). By AI agents, Wed Nov 11 2026. No macro, syntax, notation, axiom, sorry.
-/
import Derived.Test.YtiicphkpmdidaaaDoorRows
import GoSem.ClaimSeven
namespace Go.Proofs.YtiicphkpmdidaaaDoor
namespace Rows

/-- THE TIED CARD OF 'plumblaw09.LexExps'. -/
def lexExpsCard : Claim7 := { stood := { row := lexExpsRow, standIns := [], harness := (true, "cadb50abe04edc8955964ee178ca6eade56db388d119d9abe1cba68d620dbe1b"), looks := false }, kinds := [], alts := [], laidByText := true, laidKinds := [.data, .data, .data, .data, .pinned, .pinned], laidTests := true, laidLooks := .later }
def LexExpsCardSaid : Prop := Claim7.holds Tryd.pinned (.plain (OpenSpec.ofChange lexExpsSpec)) lexExpsCard

/-- THE TIED CARD OF 'plumblaw09.LexRound'. -/
def lexRoundCard : Claim7 := { stood := { row := lexRoundRow, standIns := [], harness := (true, "cadb50abe04edc8955964ee178ca6eade56db388d119d9abe1cba68d620dbe1b"), looks := false }, kinds := [], alts := [], laidByText := true, laidKinds := [.data, .data, .data, .data, .pinned, .pinned], laidTests := true, laidLooks := .later }
def LexRoundCardSaid : Prop := Claim7.holds Tryd.pinned (.plain (OpenSpec.ofChange lexRoundSpec)) lexRoundCard

/-- THE SECOND FORM's CARD OF 'plumblaw09.LexExps'. -/
def lexExpsUptoCard : Claim7 := { stood := { row := lexExpsUptoRow, standIns := [], harness := (true, "cadb50abe04edc8955964ee178ca6eade56db388d119d9abe1cba68d620dbe1b"), looks := false }, kinds := [], alts := [], laidByText := true, laidKinds := [.data, .data, .data, .data, .pinned, .pinned], laidTests := true, laidLooks := .later }
def LexExpsUptoCardSaid : Prop := Claim7.holds Tryd.pinned (.plain (OpenSpec.upto lexExpsSpec)) lexExpsUptoCard

/-- THE SECOND FORM's CARD OF 'plumblaw09.LexRound'. -/
def lexRoundUptoCard : Claim7 := { stood := { row := lexRoundUptoRow, standIns := [], harness := (true, "cadb50abe04edc8955964ee178ca6eade56db388d119d9abe1cba68d620dbe1b"), looks := false }, kinds := [], alts := [], laidByText := true, laidKinds := [.data, .data, .data, .data, .pinned, .pinned], laidTests := true, laidLooks := .later }
def LexRoundUptoCardSaid : Prop := Claim7.holds Tryd.pinned (.plain (OpenSpec.upto lexRoundSpec)) lexRoundUptoCard
end Rows
end Go.Proofs.YtiicphkpmdidaaaDoor
