/-
  DERIVED. GIVEN WITH THE SEED: THE CARDS: each row of YtmenhfnakcdnnabDoorRows.lean that lists a variable, with what it lists TIED to the program's text (the seventh form; the later family's looks); each row that meets fmt, with fmt's text TOLD by the authors' own Lean function (tested against real Go, not proved from fmt's source: count such statements apart). THE CARD IS WHAT COUNTS. Prove the row's statement (the work); the ties are given (YtmenhfnakcdnnabDoorTie.lean); close each card by the builder's one call (the guide's Derived/Test/ToyasCard.lean, 'card_holds'). Laid BY PROGRAM, IN A SANDBOX (cutbox-door.mjs). By AI agents, Wed Nov 11 2026. No macro, syntax, notation, axiom, sorry.
-/
import Derived.Test.YtmenhfnakcdnnabDoorRows
import GoSem.ClaimSeven
namespace Go.Proofs.YtmenhfnakcdnnabDoor
namespace Rows

/-- THE TIED CARD OF 'plumblaw04.RadixSums'. -/
def radixSumsCard : Claim7 := { stood := { row := radixSumsRow, standIns := [], harness := (true, "96fedc799f53422ed813b05c726ebb55094e97b2096a07bd4c0d1b5d7b5bb3cd"), looks := false }, kinds := [], alts := [], laidByText := true, laidKinds := [.data, .pinned], laidTests := true, laidLooks := .later }
def RadixSumsCardSaid : Prop := Claim7.holds Tryd.pinned (.plain (OpenSpec.ofChange radixSumsSpec)) radixSumsCard

/-- THE TIED CARD OF 'plumblaw04.RadixFresh'. -/
def radixFreshCard : Claim7 := { stood := { row := radixFreshRow, standIns := [], harness := (true, "96fedc799f53422ed813b05c726ebb55094e97b2096a07bd4c0d1b5d7b5bb3cd"), looks := false }, kinds := [], alts := [], laidByText := true, laidKinds := [.data, .pinned], laidTests := true, laidLooks := .later }
def RadixFreshCardSaid : Prop := Claim7.holds Tryd.pinned (.plain (OpenSpec.ofChange radixFreshSpec)) radixFreshCard

/-- THE TIED CARD OF 'plumblaw04.RadixPowers'. -/
def radixPowersCard : Claim7 := { stood := { row := radixPowersRow, standIns := [], harness := (true, "96fedc799f53422ed813b05c726ebb55094e97b2096a07bd4c0d1b5d7b5bb3cd"), looks := false }, kinds := [], alts := [], laidByText := true, laidKinds := [.data, .pinned], laidTests := true, laidLooks := .later }
def RadixPowersCardSaid : Prop := Claim7.holds Tryd.pinned (.plain (OpenSpec.ofChange radixPowersSpec)) radixPowersCard

/-- THE TIED CARD OF 'plumblaw04.RadixTexts'. -/
def radixTextsCard : Claim7 := { stood := { row := radixTextsRow, standIns := [], harness := (true, "96fedc799f53422ed813b05c726ebb55094e97b2096a07bd4c0d1b5d7b5bb3cd"), looks := false }, kinds := [], alts := [], laidByText := true, laidKinds := [.data, .pinned], laidTests := true, laidLooks := .later }
def RadixTextsCardSaid : Prop := Claim7.holds Tryd.pinned (.plain (OpenSpec.ofChange radixTextsSpec)) radixTextsCard

/-- THE SECOND FORM's CARD OF 'plumblaw04.RadixSums'. -/
def radixSumsUptoCard : Claim7 := { stood := { row := radixSumsUptoRow, standIns := [], harness := (true, "96fedc799f53422ed813b05c726ebb55094e97b2096a07bd4c0d1b5d7b5bb3cd"), looks := false }, kinds := [], alts := [], laidByText := true, laidKinds := [.data, .pinned], laidTests := true, laidLooks := .later }
def RadixSumsUptoCardSaid : Prop := Claim7.holds Tryd.pinned (.plain (OpenSpec.upto radixSumsSpec)) radixSumsUptoCard

/-- THE SECOND FORM's CARD OF 'plumblaw04.RadixFresh'. -/
def radixFreshUptoCard : Claim7 := { stood := { row := radixFreshUptoRow, standIns := [], harness := (true, "96fedc799f53422ed813b05c726ebb55094e97b2096a07bd4c0d1b5d7b5bb3cd"), looks := false }, kinds := [], alts := [], laidByText := true, laidKinds := [.data, .pinned], laidTests := true, laidLooks := .later }
def RadixFreshUptoCardSaid : Prop := Claim7.holds Tryd.pinned (.plain (OpenSpec.upto radixFreshSpec)) radixFreshUptoCard

/-- THE SECOND FORM's CARD OF 'plumblaw04.RadixPowers'. -/
def radixPowersUptoCard : Claim7 := { stood := { row := radixPowersUptoRow, standIns := [], harness := (true, "96fedc799f53422ed813b05c726ebb55094e97b2096a07bd4c0d1b5d7b5bb3cd"), looks := false }, kinds := [], alts := [], laidByText := true, laidKinds := [.data, .pinned], laidTests := true, laidLooks := .later }
def RadixPowersUptoCardSaid : Prop := Claim7.holds Tryd.pinned (.plain (OpenSpec.upto radixPowersSpec)) radixPowersUptoCard

/-- THE SECOND FORM's CARD OF 'plumblaw04.RadixTexts'. -/
def radixTextsUptoCard : Claim7 := { stood := { row := radixTextsUptoRow, standIns := [], harness := (true, "96fedc799f53422ed813b05c726ebb55094e97b2096a07bd4c0d1b5d7b5bb3cd"), looks := false }, kinds := [], alts := [], laidByText := true, laidKinds := [.data, .pinned], laidTests := true, laidLooks := .later }
def RadixTextsUptoCardSaid : Prop := Claim7.holds Tryd.pinned (.plain (OpenSpec.upto radixTextsSpec)) radixTextsUptoCard
end Rows
end Go.Proofs.YtmenhfnakcdnnabDoor
