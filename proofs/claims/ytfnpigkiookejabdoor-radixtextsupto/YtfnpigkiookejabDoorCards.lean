/-
  DERIVED. GIVEN WITH THE SEED: THE CARDS: each row of YtfnpigkiookejabDoorRows.lean that lists a variable, with what it lists TIED to the program's text (the seventh form; the later family's looks); each row that meets fmt, with fmt's text TOLD by the authors' own Lean function (tested against real Go, not proved from fmt's source: count such statements apart). THE CARD IS WHAT COUNTS. Prove the row's statement (the work); the ties are given (YtfnpigkiookejabDoorTie.lean); close each card by the builder's one call (the guide's Derived/Test/ToyasCard.lean, 'card_holds'). Laid BY PROGRAM, IN A SANDBOX (cutbox-door.mjs). By AI agents, Wed Nov 11 2026. No macro, syntax, notation, axiom, sorry.
-/
import Derived.Test.YtfnpigkiookejabDoorRows
import GoSem.ClaimSeven
namespace Go.Proofs.YtfnpigkiookejabDoor
namespace Rows

/-- THE TIED CARD OF 'plumblaw04.RadixTexts'. -/
def radixTextsCard : Claim7 := { stood := { row := radixTextsRow, standIns := [], harness := (true, "91eef109b230c1b6281c9fcbdaddfaa124b8abcbb1e0f438217abc79bdf13a56"), looks := false }, kinds := [], alts := [], laidByText := true, laidKinds := [.data, .pinned], laidTests := true, laidLooks := .later }
def RadixTextsCardSaid : Prop := Claim7.holds Tryd.pinned (.plain (OpenSpec.ofChange radixTextsSpec)) radixTextsCard

/-- THE SECOND FORM's CARD OF 'plumblaw04.RadixTexts'. -/
def radixTextsUptoCard : Claim7 := { stood := { row := radixTextsUptoRow, standIns := [], harness := (true, "91eef109b230c1b6281c9fcbdaddfaa124b8abcbb1e0f438217abc79bdf13a56"), looks := false }, kinds := [], alts := [], laidByText := true, laidKinds := [.data, .pinned], laidTests := true, laidLooks := .later }
def RadixTextsUptoCardSaid : Prop := Claim7.holds Tryd.pinned (.plain (OpenSpec.upto radixTextsSpec)) radixTextsUptoCard
end Rows
end Go.Proofs.YtfnpigkiookejabDoor
