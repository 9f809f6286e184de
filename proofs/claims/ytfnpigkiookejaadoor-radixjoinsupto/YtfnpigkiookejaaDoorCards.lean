/-
  DERIVED. GIVEN WITH THE SEED: THE CARDS: each row of YtfnpigkiookejaaDoorRows.lean that lists a variable, with what it lists TIED to the program's text (the seventh form; the later family's looks); each row that meets fmt, with fmt's text TOLD by the authors' own Lean function (tested against real Go, not proved from fmt's source: count such statements apart). THE CARD IS WHAT COUNTS. Prove the row's statement (the work); the ties are given (YtfnpigkiookejaaDoorTie.lean); close each card by the builder's one call (the guide's Derived/Test/ToyasCard.lean, 'card_holds'). Laid BY PROGRAM, IN A SANDBOX (cutbox-door.mjs). By AI agents, Wed Nov 11 2026. No macro, syntax, notation, axiom, sorry.
-/
import Derived.Test.YtfnpigkiookejaaDoorRows
import GoSem.ClaimSeven
namespace Go.Proofs.YtfnpigkiookejaaDoor
namespace Rows

/-- THE TIED CARD OF 'plumblaw04.RadixBack'. -/
def radixBackCard : Claim7 := { stood := { row := radixBackRow, standIns := [], harness := (true, "dc7aff316bf06050f7ba6b92c17c95e7c8931f752658081537b9f4bf9695fdae"), looks := false }, kinds := [], alts := [], laidByText := true, laidKinds := [.data, .pinned], laidTests := true, laidLooks := .later }
def RadixBackCardSaid : Prop := Claim7.holds Tryd.pinned (.plain (OpenSpec.ofChange radixBackSpec)) radixBackCard

/-- THE TIED CARD OF 'plumblaw04.RadixJoins'. -/
def radixJoinsCard : Claim7 := { stood := { row := radixJoinsRow, standIns := [], harness := (true, "dc7aff316bf06050f7ba6b92c17c95e7c8931f752658081537b9f4bf9695fdae"), looks := false }, kinds := [], alts := [], laidByText := true, laidKinds := [.data, .pinned], laidTests := true, laidLooks := .later }
def RadixJoinsCardSaid : Prop := Claim7.holds Tryd.pinned (.plain (OpenSpec.ofChange radixJoinsSpec)) radixJoinsCard

/-- THE TIED CARD OF 'plumblaw04.RadixSums'. -/
def radixSumsCard : Claim7 := { stood := { row := radixSumsRow, standIns := [], harness := (true, "dc7aff316bf06050f7ba6b92c17c95e7c8931f752658081537b9f4bf9695fdae"), looks := false }, kinds := [], alts := [], laidByText := true, laidKinds := [.data, .pinned], laidTests := true, laidLooks := .later }
def RadixSumsCardSaid : Prop := Claim7.holds Tryd.pinned (.plain (OpenSpec.ofChange radixSumsSpec)) radixSumsCard

/-- THE TIED CARD OF 'plumblaw04.RadixFresh'. -/
def radixFreshCard : Claim7 := { stood := { row := radixFreshRow, standIns := [], harness := (true, "dc7aff316bf06050f7ba6b92c17c95e7c8931f752658081537b9f4bf9695fdae"), looks := false }, kinds := [], alts := [], laidByText := true, laidKinds := [.data, .pinned], laidTests := true, laidLooks := .later }
def RadixFreshCardSaid : Prop := Claim7.holds Tryd.pinned (.plain (OpenSpec.ofChange radixFreshSpec)) radixFreshCard

/-- THE TIED CARD OF 'plumblaw04.RadixPowers'. -/
def radixPowersCard : Claim7 := { stood := { row := radixPowersRow, standIns := [], harness := (true, "dc7aff316bf06050f7ba6b92c17c95e7c8931f752658081537b9f4bf9695fdae"), looks := false }, kinds := [], alts := [], laidByText := true, laidKinds := [.data, .pinned], laidTests := true, laidLooks := .later }
def RadixPowersCardSaid : Prop := Claim7.holds Tryd.pinned (.plain (OpenSpec.ofChange radixPowersSpec)) radixPowersCard

/-- THE SECOND FORM's CARD OF 'plumblaw04.RadixBack'. -/
def radixBackUptoCard : Claim7 := { stood := { row := radixBackUptoRow, standIns := [], harness := (true, "dc7aff316bf06050f7ba6b92c17c95e7c8931f752658081537b9f4bf9695fdae"), looks := false }, kinds := [], alts := [], laidByText := true, laidKinds := [.data, .pinned], laidTests := true, laidLooks := .later }
def RadixBackUptoCardSaid : Prop := Claim7.holds Tryd.pinned (.plain (OpenSpec.upto radixBackSpec)) radixBackUptoCard

/-- THE SECOND FORM's CARD OF 'plumblaw04.RadixJoins'. -/
def radixJoinsUptoCard : Claim7 := { stood := { row := radixJoinsUptoRow, standIns := [], harness := (true, "dc7aff316bf06050f7ba6b92c17c95e7c8931f752658081537b9f4bf9695fdae"), looks := false }, kinds := [], alts := [], laidByText := true, laidKinds := [.data, .pinned], laidTests := true, laidLooks := .later }
def RadixJoinsUptoCardSaid : Prop := Claim7.holds Tryd.pinned (.plain (OpenSpec.upto radixJoinsSpec)) radixJoinsUptoCard

/-- THE SECOND FORM's CARD OF 'plumblaw04.RadixSums'. -/
def radixSumsUptoCard : Claim7 := { stood := { row := radixSumsUptoRow, standIns := [], harness := (true, "dc7aff316bf06050f7ba6b92c17c95e7c8931f752658081537b9f4bf9695fdae"), looks := false }, kinds := [], alts := [], laidByText := true, laidKinds := [.data, .pinned], laidTests := true, laidLooks := .later }
def RadixSumsUptoCardSaid : Prop := Claim7.holds Tryd.pinned (.plain (OpenSpec.upto radixSumsSpec)) radixSumsUptoCard

/-- THE SECOND FORM's CARD OF 'plumblaw04.RadixFresh'. -/
def radixFreshUptoCard : Claim7 := { stood := { row := radixFreshUptoRow, standIns := [], harness := (true, "dc7aff316bf06050f7ba6b92c17c95e7c8931f752658081537b9f4bf9695fdae"), looks := false }, kinds := [], alts := [], laidByText := true, laidKinds := [.data, .pinned], laidTests := true, laidLooks := .later }
def RadixFreshUptoCardSaid : Prop := Claim7.holds Tryd.pinned (.plain (OpenSpec.upto radixFreshSpec)) radixFreshUptoCard

/-- THE SECOND FORM's CARD OF 'plumblaw04.RadixPowers'. -/
def radixPowersUptoCard : Claim7 := { stood := { row := radixPowersUptoRow, standIns := [], harness := (true, "dc7aff316bf06050f7ba6b92c17c95e7c8931f752658081537b9f4bf9695fdae"), looks := false }, kinds := [], alts := [], laidByText := true, laidKinds := [.data, .pinned], laidTests := true, laidLooks := .later }
def RadixPowersUptoCardSaid : Prop := Claim7.holds Tryd.pinned (.plain (OpenSpec.upto radixPowersSpec)) radixPowersUptoCard
end Rows
end Go.Proofs.YtfnpigkiookejaaDoor
