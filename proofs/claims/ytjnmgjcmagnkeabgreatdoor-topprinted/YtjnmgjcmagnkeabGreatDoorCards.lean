/-
  DERIVED. GIVEN WITH THE SEED: THE CARDS: each row of YtjnmgjcmagnkeabGreatDoorRows.lean that lists a variable, with what it lists TIED to the program's text (the seventh form; the later family's looks); each row that meets fmt, with fmt's text TOLD by the authors' own Lean function (tested against real Go, not proved from fmt's source: count such statements apart). THE CARD IS WHAT COUNTS. Prove the row's statement (the work); the ties are given (YtjnmgjcmagnkeabGreatDoorTie.lean); close each card by the builder's one call (the guide's Derived/Test/ToyasCard.lean, 'card_holds'). Laid BY PROGRAM, IN A SANDBOX (cutbox-door.mjs). By AI agents, Wed Nov 11 2026. No macro, syntax, notation, axiom, sorry.
-/
import Derived.Test.YtjnmgjcmagnkeabGreatDoorRows
import GoSem.ClaimSeven
namespace Go.Proofs.YtjnmgjcmagnkeabGreatDoor
namespace Rows

/-- THE TIED CARD OF 'plumblaw14.FtoaShort'. -/
def ftoaShortCard : Claim7 := { stood := { row := ftoaShortRow, standIns := [], harness := (true, "9350ebd21867f67d7bf1f290c51cf3bc161065b523ddd57baa2618afb801a709"), looks := true }, kinds := [], alts := [], laidByText := true, laidKinds := [.data, .data, .data, .data, .handle, .data, .pinned, .pinned], laidTests := true, laidLooks := .later }
def FtoaShortCardSaid : Prop := Claim7.holds Tryz.pinned (.plain (OpenSpec.ofChange ftoaShortSpec)) ftoaShortCard

/-- THE TIED CARD OF 'plumblaw14.FtoaBack'. -/
def ftoaBackCard : Claim7 := { stood := { row := ftoaBackRow, standIns := [], harness := (true, "9350ebd21867f67d7bf1f290c51cf3bc161065b523ddd57baa2618afb801a709"), looks := true }, kinds := [], alts := [], laidByText := true, laidKinds := [.data, .data, .data, .data, .data, .data, .data, .pinned, .pinned], laidTests := true, laidLooks := .later }
def FtoaBackCardSaid : Prop := Claim7.holds Tryz.pinned (.plain (OpenSpec.ofChange ftoaBackSpec)) ftoaBackCard

/-- THE TIED CARD OF 'plumblaw14.FtoaLined'. -/
def ftoaLinedCard : Claim7 := { stood := { row := ftoaLinedRow, standIns := [], harness := (true, "9350ebd21867f67d7bf1f290c51cf3bc161065b523ddd57baa2618afb801a709"), looks := true }, kinds := [], alts := [], laidByText := true, laidKinds := [.data, .data, .data, .data, .handle, .data, .data, .data, .pinned, .pinned], laidTests := true, laidLooks := .later }
def FtoaLinedCardSaid : Prop := Claim7.holds Tryz.pinned (.plain (OpenSpec.ofChange ftoaLinedSpec)) ftoaLinedCard

/-- THE TIED CARD OF 'plumbtop.TopShortest'. -/
def topShortestCard : Claim7 := { stood := { row := topShortestRow, standIns := [], harness := (true, "9350ebd21867f67d7bf1f290c51cf3bc161065b523ddd57baa2618afb801a709"), looks := true }, kinds := [], alts := [], laidByText := true, laidKinds := [.data, .data, .data, .pinned, .pinned], laidTests := true, laidLooks := .later }
def TopShortestCardSaid : Prop := Claim7.holds Tryz.pinned (.plain (OpenSpec.ofChange topShortestSpec)) topShortestCard

/-- THE TIED CARD OF 'plumbtop.TopPrinted'. -/
def topPrintedCard : Claim7 := { stood := { row := topPrintedRow, standIns := [], harness := (true, "9350ebd21867f67d7bf1f290c51cf3bc161065b523ddd57baa2618afb801a709"), looks := true }, kinds := [], alts := [], laidByText := true, laidKinds := [.data, .data, .data, .data, .data, .data, .data, .pinned, .pinned], laidTests := true, laidLooks := .later }
def TopPrintedCardSaid : Prop := Claim7.holds Tryz.pinned (.plain (OpenSpec.ofChange topPrintedSpec)) topPrintedCard

/-- THE TIED CARD OF 'plumbtop.TopTwoWays'. -/
def topTwoWaysCard : Claim7 := { stood := { row := topTwoWaysRow, standIns := [], harness := (true, "9350ebd21867f67d7bf1f290c51cf3bc161065b523ddd57baa2618afb801a709"), looks := true }, kinds := [], alts := [], laidByText := true, laidKinds := [.data, .data, .data, .pinned, .pinned], laidTests := true, laidLooks := .later }
def TopTwoWaysCardSaid : Prop := Claim7.holds Tryz.pinned (.plain (OpenSpec.ofChange topTwoWaysSpec)) topTwoWaysCard

/-- THE SECOND FORM's CARD OF 'plumblaw14.FtoaShort'. -/
def ftoaShortUptoCard : Claim7 := { stood := { row := ftoaShortUptoRow, standIns := [], harness := (true, "9350ebd21867f67d7bf1f290c51cf3bc161065b523ddd57baa2618afb801a709"), looks := true }, kinds := [], alts := [], laidByText := true, laidKinds := [.data, .data, .data, .data, .handle, .data, .pinned, .pinned], laidTests := true, laidLooks := .later }
def FtoaShortUptoCardSaid : Prop := Claim7.holds Tryz.pinned (.plain (OpenSpec.upto ftoaShortSpec)) ftoaShortUptoCard

/-- THE SECOND FORM's CARD OF 'plumblaw14.FtoaBack'. -/
def ftoaBackUptoCard : Claim7 := { stood := { row := ftoaBackUptoRow, standIns := [], harness := (true, "9350ebd21867f67d7bf1f290c51cf3bc161065b523ddd57baa2618afb801a709"), looks := true }, kinds := [], alts := [], laidByText := true, laidKinds := [.data, .data, .data, .data, .data, .data, .data, .pinned, .pinned], laidTests := true, laidLooks := .later }
def FtoaBackUptoCardSaid : Prop := Claim7.holds Tryz.pinned (.plain (OpenSpec.upto ftoaBackSpec)) ftoaBackUptoCard

/-- THE SECOND FORM's CARD OF 'plumblaw14.FtoaLined'. -/
def ftoaLinedUptoCard : Claim7 := { stood := { row := ftoaLinedUptoRow, standIns := [], harness := (true, "9350ebd21867f67d7bf1f290c51cf3bc161065b523ddd57baa2618afb801a709"), looks := true }, kinds := [], alts := [], laidByText := true, laidKinds := [.data, .data, .data, .data, .handle, .data, .data, .data, .pinned, .pinned], laidTests := true, laidLooks := .later }
def FtoaLinedUptoCardSaid : Prop := Claim7.holds Tryz.pinned (.plain (OpenSpec.upto ftoaLinedSpec)) ftoaLinedUptoCard

/-- THE SECOND FORM's CARD OF 'plumbtop.TopShortest'. -/
def topShortestUptoCard : Claim7 := { stood := { row := topShortestUptoRow, standIns := [], harness := (true, "9350ebd21867f67d7bf1f290c51cf3bc161065b523ddd57baa2618afb801a709"), looks := true }, kinds := [], alts := [], laidByText := true, laidKinds := [.data, .data, .data, .pinned, .pinned], laidTests := true, laidLooks := .later }
def TopShortestUptoCardSaid : Prop := Claim7.holds Tryz.pinned (.plain (OpenSpec.upto topShortestSpec)) topShortestUptoCard

/-- THE SECOND FORM's CARD OF 'plumbtop.TopPrinted'. -/
def topPrintedUptoCard : Claim7 := { stood := { row := topPrintedUptoRow, standIns := [], harness := (true, "9350ebd21867f67d7bf1f290c51cf3bc161065b523ddd57baa2618afb801a709"), looks := true }, kinds := [], alts := [], laidByText := true, laidKinds := [.data, .data, .data, .data, .data, .data, .data, .pinned, .pinned], laidTests := true, laidLooks := .later }
def TopPrintedUptoCardSaid : Prop := Claim7.holds Tryz.pinned (.plain (OpenSpec.upto topPrintedSpec)) topPrintedUptoCard

/-- THE SECOND FORM's CARD OF 'plumbtop.TopTwoWays'. -/
def topTwoWaysUptoCard : Claim7 := { stood := { row := topTwoWaysUptoRow, standIns := [], harness := (true, "9350ebd21867f67d7bf1f290c51cf3bc161065b523ddd57baa2618afb801a709"), looks := true }, kinds := [], alts := [], laidByText := true, laidKinds := [.data, .data, .data, .pinned, .pinned], laidTests := true, laidLooks := .later }
def TopTwoWaysUptoCardSaid : Prop := Claim7.holds Tryz.pinned (.plain (OpenSpec.upto topTwoWaysSpec)) topTwoWaysUptoCard
end Rows
end Go.Proofs.YtjnmgjcmagnkeabGreatDoor
