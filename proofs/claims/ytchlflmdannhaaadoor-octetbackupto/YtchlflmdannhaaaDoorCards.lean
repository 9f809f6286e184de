/-
  DERIVED. GIVEN WITH THE SEED: THE CARDS: each row of YtchlflmdannhaaaDoorRows.lean that lists a variable, with what it lists TIED to the program's text (the seventh form; the later family's looks); each row that meets fmt, with fmt's text TOLD by the authors' own Lean function (tested against real Go, not proved from fmt's source: count such statements apart). THE CARD IS WHAT COUNTS. Prove the row's statement (the work); the ties are given (YtchlflmdannhaaaDoorTie.lean); close each card by the builder's one call (the guide's Derived/Test/ToyasCard.lean, 'card_holds'). Laid BY PROGRAM, IN A SANDBOX (cutbox-door.mjs). By AI agents, Wed Nov 11 2026. No macro, syntax, notation, axiom, sorry.
-/
import Derived.Test.YtchlflmdannhaaaDoorRows
import GoSem.ClaimSeven
namespace Go.Proofs.YtchlflmdannhaaaDoor
namespace Rows

/-- THE TIED CARD OF 'plumblaw16.OctetDigits'. -/
def octetDigitsCard : Claim7 := { stood := { row := octetDigitsRow, standIns := [], harness := (true, "f915ac1e6f76c0d9fd6606d1a3b715c7c8e019ff3fc6ba316d0bf17783698dca"), looks := true }, kinds := [], alts := [], laidByText := true, laidKinds := [.handle], laidTests := true, laidLooks := .later }
def OctetDigitsCardSaid : Prop := Claim7.holds Tryd.pinned (.plain (OpenSpec.ofChange octetDigitsSpec)) octetDigitsCard

/-- THE TIED CARD OF 'plumblaw16.OctetHex'. -/
def octetHexCard : Claim7 := { stood := { row := octetHexRow, standIns := [], harness := (true, "f915ac1e6f76c0d9fd6606d1a3b715c7c8e019ff3fc6ba316d0bf17783698dca"), looks := true }, kinds := [], alts := [], laidByText := true, laidKinds := [.handle], laidTests := true, laidLooks := .later }
def OctetHexCardSaid : Prop := Claim7.holds Tryd.pinned (.plain (OpenSpec.ofChange octetHexSpec)) octetHexCard

/-- THE TIED CARD OF 'plumblaw16.OctetShort'. -/
def octetShortCard : Claim7 := { stood := { row := octetShortRow, standIns := [], harness := (true, "f915ac1e6f76c0d9fd6606d1a3b715c7c8e019ff3fc6ba316d0bf17783698dca"), looks := true }, kinds := [], alts := [], laidByText := true, laidKinds := [.handle], laidTests := true, laidLooks := .later }
def OctetShortCardSaid : Prop := Claim7.holds Tryd.pinned (.plain (OpenSpec.ofChange octetShortSpec)) octetShortCard

/-- THE TIED CARD OF 'plumblaw16.OctetBack'. -/
def octetBackCard : Claim7 := { stood := { row := octetBackRow, standIns := [], harness := (true, "f915ac1e6f76c0d9fd6606d1a3b715c7c8e019ff3fc6ba316d0bf17783698dca"), looks := true }, kinds := [], alts := [], laidByText := true, laidKinds := [.handle], laidTests := true, laidLooks := .later }
def OctetBackCardSaid : Prop := Claim7.holds Tryd.pinned (.plain (OpenSpec.ofChange octetBackSpec)) octetBackCard

/-- THE SECOND FORM's CARD OF 'plumblaw16.OctetDigits'. -/
def octetDigitsUptoCard : Claim7 := { stood := { row := octetDigitsUptoRow, standIns := [], harness := (true, "f915ac1e6f76c0d9fd6606d1a3b715c7c8e019ff3fc6ba316d0bf17783698dca"), looks := true }, kinds := [], alts := [], laidByText := true, laidKinds := [.handle], laidTests := true, laidLooks := .later }
def OctetDigitsUptoCardSaid : Prop := Claim7.holds Tryd.pinned (.plain (OpenSpec.upto octetDigitsSpec)) octetDigitsUptoCard

/-- THE SECOND FORM's CARD OF 'plumblaw16.OctetHex'. -/
def octetHexUptoCard : Claim7 := { stood := { row := octetHexUptoRow, standIns := [], harness := (true, "f915ac1e6f76c0d9fd6606d1a3b715c7c8e019ff3fc6ba316d0bf17783698dca"), looks := true }, kinds := [], alts := [], laidByText := true, laidKinds := [.handle], laidTests := true, laidLooks := .later }
def OctetHexUptoCardSaid : Prop := Claim7.holds Tryd.pinned (.plain (OpenSpec.upto octetHexSpec)) octetHexUptoCard

/-- THE SECOND FORM's CARD OF 'plumblaw16.OctetShort'. -/
def octetShortUptoCard : Claim7 := { stood := { row := octetShortUptoRow, standIns := [], harness := (true, "f915ac1e6f76c0d9fd6606d1a3b715c7c8e019ff3fc6ba316d0bf17783698dca"), looks := true }, kinds := [], alts := [], laidByText := true, laidKinds := [.handle], laidTests := true, laidLooks := .later }
def OctetShortUptoCardSaid : Prop := Claim7.holds Tryd.pinned (.plain (OpenSpec.upto octetShortSpec)) octetShortUptoCard

/-- THE SECOND FORM's CARD OF 'plumblaw16.OctetBack'. -/
def octetBackUptoCard : Claim7 := { stood := { row := octetBackUptoRow, standIns := [], harness := (true, "f915ac1e6f76c0d9fd6606d1a3b715c7c8e019ff3fc6ba316d0bf17783698dca"), looks := true }, kinds := [], alts := [], laidByText := true, laidKinds := [.handle], laidTests := true, laidLooks := .later }
def OctetBackUptoCardSaid : Prop := Claim7.holds Tryd.pinned (.plain (OpenSpec.upto octetBackSpec)) octetBackUptoCard
end Rows
end Go.Proofs.YtchlflmdannhaaaDoor
