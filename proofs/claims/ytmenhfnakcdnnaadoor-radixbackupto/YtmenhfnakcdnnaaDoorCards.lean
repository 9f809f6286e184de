/-
  DERIVED. GIVEN WITH THE SEED: THE CARDS: each row of YtmenhfnakcdnnaaDoorRows.lean that lists a variable, with what it lists TIED to the program's text (the seventh form; the later family's looks); each row that meets fmt, with fmt's text TOLD by the authors' own Lean function (tested against real Go, not proved from fmt's source: count such statements apart). THE CARD IS WHAT COUNTS. Prove the row's statement (the work); the ties are given (YtmenhfnakcdnnaaDoorTie.lean); close each card by the builder's one call (the guide's Derived/Test/ToyasCard.lean, 'card_holds'). Laid BY PROGRAM, IN A SANDBOX (cutbox-door.mjs). By AI agents, Wed Nov 11 2026. No macro, syntax, notation, axiom, sorry.
-/
import Derived.Test.YtmenhfnakcdnnaaDoorRows
import GoSem.ClaimSeven
namespace Go.Proofs.YtmenhfnakcdnnaaDoor
namespace Rows

/-- THE TIED CARD OF 'plumblaw04.RadixBack'. -/
def radixBackCard : Claim7 := { stood := { row := radixBackRow, standIns := [], harness := (true, "76a46928cf93f94ba0e497997a21671235d590cd57a912ccd31139de0140e635"), looks := false }, kinds := [], alts := [], laidByText := true, laidKinds := [.data, .pinned], laidTests := true, laidLooks := .later }
def RadixBackCardSaid : Prop := Claim7.holds Tryd.pinned (.plain (OpenSpec.ofChange radixBackSpec)) radixBackCard

/-- THE TIED CARD OF 'plumblaw04.RadixJoins'. -/
def radixJoinsCard : Claim7 := { stood := { row := radixJoinsRow, standIns := [], harness := (true, "76a46928cf93f94ba0e497997a21671235d590cd57a912ccd31139de0140e635"), looks := false }, kinds := [], alts := [], laidByText := true, laidKinds := [.data, .pinned], laidTests := true, laidLooks := .later }
def RadixJoinsCardSaid : Prop := Claim7.holds Tryd.pinned (.plain (OpenSpec.ofChange radixJoinsSpec)) radixJoinsCard

/-- THE SECOND FORM's CARD OF 'plumblaw04.RadixBack'. -/
def radixBackUptoCard : Claim7 := { stood := { row := radixBackUptoRow, standIns := [], harness := (true, "76a46928cf93f94ba0e497997a21671235d590cd57a912ccd31139de0140e635"), looks := false }, kinds := [], alts := [], laidByText := true, laidKinds := [.data, .pinned], laidTests := true, laidLooks := .later }
def RadixBackUptoCardSaid : Prop := Claim7.holds Tryd.pinned (.plain (OpenSpec.upto radixBackSpec)) radixBackUptoCard

/-- THE SECOND FORM's CARD OF 'plumblaw04.RadixJoins'. -/
def radixJoinsUptoCard : Claim7 := { stood := { row := radixJoinsUptoRow, standIns := [], harness := (true, "76a46928cf93f94ba0e497997a21671235d590cd57a912ccd31139de0140e635"), looks := false }, kinds := [], alts := [], laidByText := true, laidKinds := [.data, .pinned], laidTests := true, laidLooks := .later }
def RadixJoinsUptoCardSaid : Prop := Claim7.holds Tryd.pinned (.plain (OpenSpec.upto radixJoinsSpec)) radixJoinsUptoCard
end Rows
end Go.Proofs.YtmenhfnakcdnnaaDoor
