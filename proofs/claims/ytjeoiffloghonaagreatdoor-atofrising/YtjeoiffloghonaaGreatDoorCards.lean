/-
  DERIVED. GIVEN WITH THE SEED: THE CARDS: each row of YtjeoiffloghonaaGreatDoorRows.lean that lists a variable, with what it lists TIED to the program's text (the seventh form; the later family's looks); each row that meets fmt, with fmt's text TOLD by the authors' own Lean function (tested against real Go, not proved from fmt's source: count such statements apart). THE CARD IS WHAT COUNTS. Prove the row's statement (the work); the ties are given (YtjeoiffloghonaaGreatDoorTie.lean); close each card by the builder's one call (the guide's Derived/Test/ToyasCard.lean, 'card_holds'). Laid BY PROGRAM, IN A SANDBOX (cutbox-door.mjs). By AI agents, Wed Nov 11 2026. No macro, syntax, notation, axiom, sorry.
-/
import Derived.Test.YtjeoiffloghonaaGreatDoorRows
import GoSem.ClaimSeven
namespace Go.Proofs.YtjeoiffloghonaaGreatDoor
namespace Rows

/-- THE TIED CARD OF 'plumblaw11.AtofBits'. -/
def atofBitsCard : Claim7 := { stood := { row := atofBitsRow, standIns := [], harness := (true, "8a6900c15ce6e9d00de35645bfff5abd22098e0b2285c30c2c19c5a2a245296c"), looks := true }, kinds := [], alts := [], laidByText := true, laidKinds := [.data, .data, .data, .pinned], laidTests := true, laidLooks := .later }
def AtofBitsCardSaid : Prop := Claim7.holds Tryz.pinned (.plain (OpenSpec.ofChange atofBitsSpec)) atofBitsCard

/-- THE TIED CARD OF 'plumblaw11.AtofFar'. -/
def atofFarCard : Claim7 := { stood := { row := atofFarRow, standIns := [], harness := (true, "8a6900c15ce6e9d00de35645bfff5abd22098e0b2285c30c2c19c5a2a245296c"), looks := true }, kinds := [], alts := [], laidByText := true, laidKinds := [.data, .data, .data, .pinned, .pinned], laidTests := true, laidLooks := .later }
def AtofFarCardSaid : Prop := Claim7.holds Tryz.pinned (.plain (OpenSpec.ofChange atofFarSpec)) atofFarCard

/-- THE TIED CARD OF 'plumblaw11.AtofRoads'. -/
def atofRoadsCard : Claim7 := { stood := { row := atofRoadsRow, standIns := [], harness := (true, "8a6900c15ce6e9d00de35645bfff5abd22098e0b2285c30c2c19c5a2a245296c"), looks := true }, kinds := [], alts := [], laidByText := true, laidKinds := [.data, .data, .data, .pinned, .pinned], laidTests := true, laidLooks := .later }
def AtofRoadsCardSaid : Prop := Claim7.holds Tryz.pinned (.plain (OpenSpec.ofChange atofRoadsSpec)) atofRoadsCard

/-- THE TIED CARD OF 'plumblaw11.AtofSame'. -/
def atofSameCard : Claim7 := { stood := { row := atofSameRow, standIns := [], harness := (true, "8a6900c15ce6e9d00de35645bfff5abd22098e0b2285c30c2c19c5a2a245296c"), looks := true }, kinds := [], alts := [], laidByText := true, laidKinds := [.data, .data, .data, .data, .data, .data, .pinned, .pinned], laidTests := true, laidLooks := .later }
def AtofSameCardSaid : Prop := Claim7.holds Tryz.pinned (.plain (OpenSpec.ofChange atofSameSpec)) atofSameCard

/-- THE TIED CARD OF 'plumblaw11.AtofLists'. -/
def atofListsCard : Claim7 := { stood := { row := atofListsRow, standIns := [], harness := (true, "8a6900c15ce6e9d00de35645bfff5abd22098e0b2285c30c2c19c5a2a245296c"), looks := true }, kinds := [], alts := [], laidByText := true, laidKinds := [.data, .data, .data, .data, .handle, .data, .data, .pinned, .pinned], laidTests := true, laidLooks := .later }
def AtofListsCardSaid : Prop := Claim7.holds Tryz.pinned (.plain (OpenSpec.ofChange atofListsSpec)) atofListsCard

/-- THE TIED CARD OF 'plumblaw11.AtofRising'. -/
def atofRisingCard : Claim7 := { stood := { row := atofRisingRow, standIns := [], harness := (true, "8a6900c15ce6e9d00de35645bfff5abd22098e0b2285c30c2c19c5a2a245296c"), looks := true }, kinds := [], alts := [], laidByText := true, laidKinds := [.data, .data, .data, .pinned, .pinned], laidTests := true, laidLooks := .later }
def AtofRisingCardSaid : Prop := Claim7.holds Tryz.pinned (.plain (OpenSpec.ofChange atofRisingSpec)) atofRisingCard

/-- THE SECOND FORM's CARD OF 'plumblaw11.AtofBits'. -/
def atofBitsUptoCard : Claim7 := { stood := { row := atofBitsUptoRow, standIns := [], harness := (true, "8a6900c15ce6e9d00de35645bfff5abd22098e0b2285c30c2c19c5a2a245296c"), looks := true }, kinds := [], alts := [], laidByText := true, laidKinds := [.data, .data, .data, .pinned], laidTests := true, laidLooks := .later }
def AtofBitsUptoCardSaid : Prop := Claim7.holds Tryz.pinned (.plain (OpenSpec.upto atofBitsSpec)) atofBitsUptoCard

/-- THE SECOND FORM's CARD OF 'plumblaw11.AtofFar'. -/
def atofFarUptoCard : Claim7 := { stood := { row := atofFarUptoRow, standIns := [], harness := (true, "8a6900c15ce6e9d00de35645bfff5abd22098e0b2285c30c2c19c5a2a245296c"), looks := true }, kinds := [], alts := [], laidByText := true, laidKinds := [.data, .data, .data, .pinned, .pinned], laidTests := true, laidLooks := .later }
def AtofFarUptoCardSaid : Prop := Claim7.holds Tryz.pinned (.plain (OpenSpec.upto atofFarSpec)) atofFarUptoCard

/-- THE SECOND FORM's CARD OF 'plumblaw11.AtofRoads'. -/
def atofRoadsUptoCard : Claim7 := { stood := { row := atofRoadsUptoRow, standIns := [], harness := (true, "8a6900c15ce6e9d00de35645bfff5abd22098e0b2285c30c2c19c5a2a245296c"), looks := true }, kinds := [], alts := [], laidByText := true, laidKinds := [.data, .data, .data, .pinned, .pinned], laidTests := true, laidLooks := .later }
def AtofRoadsUptoCardSaid : Prop := Claim7.holds Tryz.pinned (.plain (OpenSpec.upto atofRoadsSpec)) atofRoadsUptoCard

/-- THE SECOND FORM's CARD OF 'plumblaw11.AtofSame'. -/
def atofSameUptoCard : Claim7 := { stood := { row := atofSameUptoRow, standIns := [], harness := (true, "8a6900c15ce6e9d00de35645bfff5abd22098e0b2285c30c2c19c5a2a245296c"), looks := true }, kinds := [], alts := [], laidByText := true, laidKinds := [.data, .data, .data, .data, .data, .data, .pinned, .pinned], laidTests := true, laidLooks := .later }
def AtofSameUptoCardSaid : Prop := Claim7.holds Tryz.pinned (.plain (OpenSpec.upto atofSameSpec)) atofSameUptoCard

/-- THE SECOND FORM's CARD OF 'plumblaw11.AtofLists'. -/
def atofListsUptoCard : Claim7 := { stood := { row := atofListsUptoRow, standIns := [], harness := (true, "8a6900c15ce6e9d00de35645bfff5abd22098e0b2285c30c2c19c5a2a245296c"), looks := true }, kinds := [], alts := [], laidByText := true, laidKinds := [.data, .data, .data, .data, .handle, .data, .data, .pinned, .pinned], laidTests := true, laidLooks := .later }
def AtofListsUptoCardSaid : Prop := Claim7.holds Tryz.pinned (.plain (OpenSpec.upto atofListsSpec)) atofListsUptoCard

/-- THE SECOND FORM's CARD OF 'plumblaw11.AtofRising'. -/
def atofRisingUptoCard : Claim7 := { stood := { row := atofRisingUptoRow, standIns := [], harness := (true, "8a6900c15ce6e9d00de35645bfff5abd22098e0b2285c30c2c19c5a2a245296c"), looks := true }, kinds := [], alts := [], laidByText := true, laidKinds := [.data, .data, .data, .pinned, .pinned], laidTests := true, laidLooks := .later }
def AtofRisingUptoCardSaid : Prop := Claim7.holds Tryz.pinned (.plain (OpenSpec.upto atofRisingSpec)) atofRisingUptoCard
end Rows
end Go.Proofs.YtjeoiffloghonaaGreatDoor
