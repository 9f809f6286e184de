/-
  DERIVED. GIVEN WITH THE SEED: THE CARDS: each row of YtalglldkjbinbaaGreatDoorRows.lean that lists a variable, with what it lists TIED to the program's text (the seventh form; the later family's looks); each row that meets fmt, with fmt's text TOLD by the authors' own Lean function (tested against real Go, not proved from fmt's source: count such statements apart). THE CARD IS WHAT COUNTS. Prove the row's statement (the work); the ties are given (YtalglldkjbinbaaGreatDoorTie.lean); close each card by the builder's one call (the guide's Derived/Test/ToyasCard.lean, 'card_holds'). Laid BY PROGRAM, IN A SANDBOX (cutbox-door.mjs). By AI agents, Wed Nov 11 2026. No macro, syntax, notation, axiom, sorry.
-/
import Derived.Test.YtalglldkjbinbaaGreatDoorRows
import GoSem.ClaimSeven
namespace Go.Proofs.YtalglldkjbinbaaGreatDoor
namespace Rows

/-- THE TIED CARD OF 'plumblaw12.RyuShort'. -/
def ryuShortCard : Claim7 := { stood := { row := ryuShortRow, standIns := [], harness := (true, "260daed9d11235786bbd7eda69e0c865eec59558e57d0ea4b8a9719dd2e3a59d"), looks := true }, kinds := [], alts := [], laidByText := true, laidKinds := [.data], laidTests := true, laidLooks := .later }
def RyuShortCardSaid : Prop := Claim7.holds Tryz.pinned (.plain (OpenSpec.ofChange ryuShortSpec)) ryuShortCard

/-- THE TIED CARD OF 'plumblaw12.RyuReads'. -/
def ryuReadsCard : Claim7 := { stood := { row := ryuReadsRow, standIns := [], harness := (true, "260daed9d11235786bbd7eda69e0c865eec59558e57d0ea4b8a9719dd2e3a59d"), looks := true }, kinds := [], alts := [], laidByText := true, laidKinds := [.data], laidTests := true, laidLooks := .later }
def RyuReadsCardSaid : Prop := Claim7.holds Tryz.pinned (.plain (OpenSpec.ofChange ryuReadsSpec)) ryuReadsCard

/-- THE TIED CARD OF 'plumblaw12.RyuEnds'. -/
def ryuEndsCard : Claim7 := { stood := { row := ryuEndsRow, standIns := [], harness := (true, "260daed9d11235786bbd7eda69e0c865eec59558e57d0ea4b8a9719dd2e3a59d"), looks := true }, kinds := [], alts := [], laidByText := true, laidKinds := [.data], laidTests := true, laidLooks := .later }
def RyuEndsCardSaid : Prop := Claim7.holds Tryz.pinned (.plain (OpenSpec.ofChange ryuEndsSpec)) ryuEndsCard

/-- THE SECOND FORM's CARD OF 'plumblaw12.RyuShort'. -/
def ryuShortUptoCard : Claim7 := { stood := { row := ryuShortUptoRow, standIns := [], harness := (true, "260daed9d11235786bbd7eda69e0c865eec59558e57d0ea4b8a9719dd2e3a59d"), looks := true }, kinds := [], alts := [], laidByText := true, laidKinds := [.data], laidTests := true, laidLooks := .later }
def RyuShortUptoCardSaid : Prop := Claim7.holds Tryz.pinned (.plain (OpenSpec.upto ryuShortSpec)) ryuShortUptoCard

/-- THE SECOND FORM's CARD OF 'plumblaw12.RyuReads'. -/
def ryuReadsUptoCard : Claim7 := { stood := { row := ryuReadsUptoRow, standIns := [], harness := (true, "260daed9d11235786bbd7eda69e0c865eec59558e57d0ea4b8a9719dd2e3a59d"), looks := true }, kinds := [], alts := [], laidByText := true, laidKinds := [.data], laidTests := true, laidLooks := .later }
def RyuReadsUptoCardSaid : Prop := Claim7.holds Tryz.pinned (.plain (OpenSpec.upto ryuReadsSpec)) ryuReadsUptoCard

/-- THE SECOND FORM's CARD OF 'plumblaw12.RyuEnds'. -/
def ryuEndsUptoCard : Claim7 := { stood := { row := ryuEndsUptoRow, standIns := [], harness := (true, "260daed9d11235786bbd7eda69e0c865eec59558e57d0ea4b8a9719dd2e3a59d"), looks := true }, kinds := [], alts := [], laidByText := true, laidKinds := [.data], laidTests := true, laidLooks := .later }
def RyuEndsUptoCardSaid : Prop := Claim7.holds Tryz.pinned (.plain (OpenSpec.upto ryuEndsSpec)) ryuEndsUptoCard
end Rows
end Go.Proofs.YtalglldkjbinbaaGreatDoor
