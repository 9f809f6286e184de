/-
  DERIVED. GIVEN WITH THE SEED: THE CARDS: each row of YthibemoincgemaaDoorRows.lean that lists a variable, with what it lists TIED to the program's text (the seventh form; the later family's looks); each row that meets fmt, with fmt's text TOLD by the authors' own Lean function (tested against real Go, not proved from fmt's source: count such statements apart). THE CARD IS WHAT COUNTS. Prove the row's statement (the work); the ties are given (YthibemoincgemaaDoorTie.lean); close each card by the builder's one call (the guide's Derived/Test/ToyasCard.lean, 'card_holds'). Laid BY PROGRAM, IN A SANDBOX (cutbox-door.mjs). By AI agents, Wed Nov 11 2026. No macro, syntax, notation, axiom, sorry.
-/
import Derived.Test.YthibemoincgemaaDoorRows
import GoSem.ClaimSeven
namespace Go.Proofs.YthibemoincgemaaDoor
namespace Rows

/-- THE TIED CARD OF 'plumblaw09.LexLong'. -/
def lexLongCard : Claim7 := { stood := { row := lexLongRow, standIns := [], harness := (true, "40179b87f5cc715d7e2b5d0e03e8e90c86aacda9ab5d68055dd6d8e8ab9cd57d"), looks := false }, kinds := [], alts := [], laidByText := true, laidKinds := [.data, .pinned, .pinned], laidTests := true, laidLooks := .later }
def LexLongCardSaid : Prop := Claim7.holds Tryd.pinned (.plain (OpenSpec.ofChange lexLongSpec)) lexLongCard

/-- THE TIED CARD OF 'plumblaw09.LexExps'. -/
def lexExpsCard : Claim7 := { stood := { row := lexExpsRow, standIns := [], harness := (true, "40179b87f5cc715d7e2b5d0e03e8e90c86aacda9ab5d68055dd6d8e8ab9cd57d"), looks := false }, kinds := [], alts := [], laidByText := true, laidKinds := [.data, .data, .data, .data, .pinned, .pinned], laidTests := true, laidLooks := .later }
def LexExpsCardSaid : Prop := Claim7.holds Tryd.pinned (.plain (OpenSpec.ofChange lexExpsSpec)) lexExpsCard

/-- THE TIED CARD OF 'plumblaw09.LexWritten'. -/
def lexWrittenCard : Claim7 := { stood := { row := lexWrittenRow, standIns := [], harness := (true, "40179b87f5cc715d7e2b5d0e03e8e90c86aacda9ab5d68055dd6d8e8ab9cd57d"), looks := false }, kinds := [], alts := [], laidByText := true, laidKinds := [.data, .pinned, .pinned], laidTests := true, laidLooks := .later }
def LexWrittenCardSaid : Prop := Claim7.holds Tryd.pinned (.plain (OpenSpec.ofChange lexWrittenSpec)) lexWrittenCard

/-- THE TIED CARD OF 'plumblaw09.LexRound'. -/
def lexRoundCard : Claim7 := { stood := { row := lexRoundRow, standIns := [], harness := (true, "40179b87f5cc715d7e2b5d0e03e8e90c86aacda9ab5d68055dd6d8e8ab9cd57d"), looks := false }, kinds := [], alts := [], laidByText := true, laidKinds := [.data, .data, .data, .data, .pinned, .pinned], laidTests := true, laidLooks := .later }
def LexRoundCardSaid : Prop := Claim7.holds Tryd.pinned (.plain (OpenSpec.ofChange lexRoundSpec)) lexRoundCard

/-- THE SECOND FORM's CARD OF 'plumblaw09.LexLong'. -/
def lexLongUptoCard : Claim7 := { stood := { row := lexLongUptoRow, standIns := [], harness := (true, "40179b87f5cc715d7e2b5d0e03e8e90c86aacda9ab5d68055dd6d8e8ab9cd57d"), looks := false }, kinds := [], alts := [], laidByText := true, laidKinds := [.data, .pinned, .pinned], laidTests := true, laidLooks := .later }
def LexLongUptoCardSaid : Prop := Claim7.holds Tryd.pinned (.plain (OpenSpec.upto lexLongSpec)) lexLongUptoCard

/-- THE SECOND FORM's CARD OF 'plumblaw09.LexExps'. -/
def lexExpsUptoCard : Claim7 := { stood := { row := lexExpsUptoRow, standIns := [], harness := (true, "40179b87f5cc715d7e2b5d0e03e8e90c86aacda9ab5d68055dd6d8e8ab9cd57d"), looks := false }, kinds := [], alts := [], laidByText := true, laidKinds := [.data, .data, .data, .data, .pinned, .pinned], laidTests := true, laidLooks := .later }
def LexExpsUptoCardSaid : Prop := Claim7.holds Tryd.pinned (.plain (OpenSpec.upto lexExpsSpec)) lexExpsUptoCard

/-- THE SECOND FORM's CARD OF 'plumblaw09.LexWritten'. -/
def lexWrittenUptoCard : Claim7 := { stood := { row := lexWrittenUptoRow, standIns := [], harness := (true, "40179b87f5cc715d7e2b5d0e03e8e90c86aacda9ab5d68055dd6d8e8ab9cd57d"), looks := false }, kinds := [], alts := [], laidByText := true, laidKinds := [.data, .pinned, .pinned], laidTests := true, laidLooks := .later }
def LexWrittenUptoCardSaid : Prop := Claim7.holds Tryd.pinned (.plain (OpenSpec.upto lexWrittenSpec)) lexWrittenUptoCard

/-- THE SECOND FORM's CARD OF 'plumblaw09.LexRound'. -/
def lexRoundUptoCard : Claim7 := { stood := { row := lexRoundUptoRow, standIns := [], harness := (true, "40179b87f5cc715d7e2b5d0e03e8e90c86aacda9ab5d68055dd6d8e8ab9cd57d"), looks := false }, kinds := [], alts := [], laidByText := true, laidKinds := [.data, .data, .data, .data, .pinned, .pinned], laidTests := true, laidLooks := .later }
def LexRoundUptoCardSaid : Prop := Claim7.holds Tryd.pinned (.plain (OpenSpec.upto lexRoundSpec)) lexRoundUptoCard
end Rows
end Go.Proofs.YthibemoincgemaaDoor
