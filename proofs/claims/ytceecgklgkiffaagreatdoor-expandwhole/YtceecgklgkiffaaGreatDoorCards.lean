/-
  DERIVED. GIVEN WITH THE SEED: THE CARDS: each row of YtceecgklgkiffaaGreatDoorRows.lean that lists a variable, with what it lists TIED to the program's text (the seventh form; the later family's looks); each row that meets fmt, with fmt's text TOLD by the authors' own Lean function (tested against real Go, not proved from fmt's source: count such statements apart). THE CARD IS WHAT COUNTS. Prove the row's statement (the work); the ties are given (YtceecgklgkiffaaGreatDoorTie.lean); close each card by the builder's one call (the guide's Derived/Test/ToyasCard.lean, 'card_holds'). Laid BY PROGRAM, IN A SANDBOX (cutbox-door.mjs). By AI agents, Wed Nov 11 2026. No macro, syntax, notation, axiom, sorry.
-/
import Derived.Test.YtceecgklgkiffaaGreatDoorRows
import GoSem.ClaimSeven
namespace Go.Proofs.YtceecgklgkiffaaGreatDoor
namespace Rows

/-- THE TIED CARD OF 'plumblaw13.ExpandRises'. -/
def expandRisesCard : Claim7 := { stood := { row := expandRisesRow, standIns := [], harness := (true, "e267ac8cfcad23e132b1fdb72671f6fa0fec871a2a1853ba4e8a5ba4c6d515bd"), looks := true }, kinds := [], alts := [], laidByText := true, laidKinds := [.data, .pinned], laidTests := true, laidLooks := .later }
def ExpandRisesCardSaid : Prop := Claim7.holds Tryz.pinned (.plain (OpenSpec.ofChange expandRisesSpec)) expandRisesCard

/-- THE TIED CARD OF 'plumblaw13.ExpandFixes'. -/
def expandFixesCard : Claim7 := { stood := { row := expandFixesRow, standIns := [], harness := (true, "e267ac8cfcad23e132b1fdb72671f6fa0fec871a2a1853ba4e8a5ba4c6d515bd"), looks := true }, kinds := [], alts := [], laidByText := true, laidKinds := [.data, .pinned], laidTests := true, laidLooks := .later }
def ExpandFixesCardSaid : Prop := Claim7.holds Tryz.pinned (.plain (OpenSpec.ofChange expandFixesSpec)) expandFixesCard

/-- THE TIED CARD OF 'plumblaw13.ExpandPrecises'. -/
def expandPrecisesCard : Claim7 := { stood := { row := expandPrecisesRow, standIns := [], harness := (true, "e267ac8cfcad23e132b1fdb72671f6fa0fec871a2a1853ba4e8a5ba4c6d515bd"), looks := true }, kinds := [], alts := [], laidByText := true, laidKinds := [.data, .pinned], laidTests := true, laidLooks := .later }
def ExpandPrecisesCardSaid : Prop := Claim7.holds Tryz.pinned (.plain (OpenSpec.ofChange expandPrecisesSpec)) expandPrecisesCard

/-- THE TIED CARD OF 'plumblaw13.ExpandRyu'. -/
def expandRyuCard : Claim7 := { stood := { row := expandRyuRow, standIns := [], harness := (true, "e267ac8cfcad23e132b1fdb72671f6fa0fec871a2a1853ba4e8a5ba4c6d515bd"), looks := true }, kinds := [], alts := [], laidByText := true, laidKinds := [.data, .pinned], laidTests := true, laidLooks := .later }
def ExpandRyuCardSaid : Prop := Claim7.holds Tryz.pinned (.plain (OpenSpec.ofChange expandRyuSpec)) expandRyuCard

/-- THE TIED CARD OF 'plumblaw13.ExpandWhole'. -/
def expandWholeCard : Claim7 := { stood := { row := expandWholeRow, standIns := [], harness := (true, "e267ac8cfcad23e132b1fdb72671f6fa0fec871a2a1853ba4e8a5ba4c6d515bd"), looks := true }, kinds := [], alts := [], laidByText := true, laidKinds := [.data, .pinned], laidTests := true, laidLooks := .later }
def ExpandWholeCardSaid : Prop := Claim7.holds Tryz.pinned (.plain (OpenSpec.ofChange expandWholeSpec)) expandWholeCard

/-- THE TIED CARD OF 'plumblaw13.ExpandHalf'. -/
def expandHalfCard : Claim7 := { stood := { row := expandHalfRow, standIns := [], harness := (true, "e267ac8cfcad23e132b1fdb72671f6fa0fec871a2a1853ba4e8a5ba4c6d515bd"), looks := true }, kinds := [], alts := [], laidByText := true, laidKinds := [.data, .pinned], laidTests := true, laidLooks := .later }
def ExpandHalfCardSaid : Prop := Claim7.holds Tryz.pinned (.plain (OpenSpec.ofChange expandHalfSpec)) expandHalfCard

/-- THE SECOND FORM's CARD OF 'plumblaw13.ExpandRises'. -/
def expandRisesUptoCard : Claim7 := { stood := { row := expandRisesUptoRow, standIns := [], harness := (true, "e267ac8cfcad23e132b1fdb72671f6fa0fec871a2a1853ba4e8a5ba4c6d515bd"), looks := true }, kinds := [], alts := [], laidByText := true, laidKinds := [.data, .pinned], laidTests := true, laidLooks := .later }
def ExpandRisesUptoCardSaid : Prop := Claim7.holds Tryz.pinned (.plain (OpenSpec.upto expandRisesSpec)) expandRisesUptoCard

/-- THE SECOND FORM's CARD OF 'plumblaw13.ExpandFixes'. -/
def expandFixesUptoCard : Claim7 := { stood := { row := expandFixesUptoRow, standIns := [], harness := (true, "e267ac8cfcad23e132b1fdb72671f6fa0fec871a2a1853ba4e8a5ba4c6d515bd"), looks := true }, kinds := [], alts := [], laidByText := true, laidKinds := [.data, .pinned], laidTests := true, laidLooks := .later }
def ExpandFixesUptoCardSaid : Prop := Claim7.holds Tryz.pinned (.plain (OpenSpec.upto expandFixesSpec)) expandFixesUptoCard

/-- THE SECOND FORM's CARD OF 'plumblaw13.ExpandPrecises'. -/
def expandPrecisesUptoCard : Claim7 := { stood := { row := expandPrecisesUptoRow, standIns := [], harness := (true, "e267ac8cfcad23e132b1fdb72671f6fa0fec871a2a1853ba4e8a5ba4c6d515bd"), looks := true }, kinds := [], alts := [], laidByText := true, laidKinds := [.data, .pinned], laidTests := true, laidLooks := .later }
def ExpandPrecisesUptoCardSaid : Prop := Claim7.holds Tryz.pinned (.plain (OpenSpec.upto expandPrecisesSpec)) expandPrecisesUptoCard

/-- THE SECOND FORM's CARD OF 'plumblaw13.ExpandRyu'. -/
def expandRyuUptoCard : Claim7 := { stood := { row := expandRyuUptoRow, standIns := [], harness := (true, "e267ac8cfcad23e132b1fdb72671f6fa0fec871a2a1853ba4e8a5ba4c6d515bd"), looks := true }, kinds := [], alts := [], laidByText := true, laidKinds := [.data, .pinned], laidTests := true, laidLooks := .later }
def ExpandRyuUptoCardSaid : Prop := Claim7.holds Tryz.pinned (.plain (OpenSpec.upto expandRyuSpec)) expandRyuUptoCard

/-- THE SECOND FORM's CARD OF 'plumblaw13.ExpandWhole'. -/
def expandWholeUptoCard : Claim7 := { stood := { row := expandWholeUptoRow, standIns := [], harness := (true, "e267ac8cfcad23e132b1fdb72671f6fa0fec871a2a1853ba4e8a5ba4c6d515bd"), looks := true }, kinds := [], alts := [], laidByText := true, laidKinds := [.data, .pinned], laidTests := true, laidLooks := .later }
def ExpandWholeUptoCardSaid : Prop := Claim7.holds Tryz.pinned (.plain (OpenSpec.upto expandWholeSpec)) expandWholeUptoCard

/-- THE SECOND FORM's CARD OF 'plumblaw13.ExpandHalf'. -/
def expandHalfUptoCard : Claim7 := { stood := { row := expandHalfUptoRow, standIns := [], harness := (true, "e267ac8cfcad23e132b1fdb72671f6fa0fec871a2a1853ba4e8a5ba4c6d515bd"), looks := true }, kinds := [], alts := [], laidByText := true, laidKinds := [.data, .pinned], laidTests := true, laidLooks := .later }
def ExpandHalfUptoCardSaid : Prop := Claim7.holds Tryz.pinned (.plain (OpenSpec.upto expandHalfSpec)) expandHalfUptoCard
end Rows
end Go.Proofs.YtceecgklgkiffaaGreatDoor
