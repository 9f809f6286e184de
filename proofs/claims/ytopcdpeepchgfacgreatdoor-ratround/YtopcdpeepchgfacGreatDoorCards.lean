/-
  DERIVED. GIVEN WITH THE SEED: THE CARDS: each row of YtopcdpeepchgfacGreatDoorRows.lean that lists a variable, with what it lists TIED to the program's text (the seventh form; the later family's looks); each row that meets fmt, with fmt's text TOLD by the authors' own Lean function (tested against real Go, not proved from fmt's source: count such statements apart). THE CARD IS WHAT COUNTS. Prove the row's statement (the work); the ties are given (YtopcdpeepchgfacGreatDoorTie.lean); close each card by the builder's one call (the guide's Derived/Test/ToyasCard.lean, 'card_holds'). Laid BY PROGRAM, IN A SANDBOX (cutbox-door.mjs). By AI agents, Wed Nov 11 2026. No macro, syntax, notation, axiom, sorry.
-/
import Derived.Test.YtopcdpeepchgfacGreatDoorRows
import GoSem.ClaimSeven
namespace Go.Proofs.YtopcdpeepchgfacGreatDoor
namespace Rows

/-- THE TIED CARD OF 'plumblaw05.RatRound'. -/
def ratRoundCard : Claim7 := { stood := { row := ratRoundRow, standIns := [], harness := (true, "d5c1807193c1dbde4b09e4d5f50f3f94c8d6698981cd7d78ba8ac37de17007df"), looks := true }, kinds := [], alts := [], laidByText := true, laidKinds := [.data, .handle, .pinned], laidTests := true, laidLooks := .later }
def RatRoundCardSaid : Prop := Claim7.holds Tryz.pinned (.plain (OpenSpec.ofChange ratRoundSpec)) ratRoundCard

/-- THE TIED CARD OF 'plumblaw05.RatFresh'. -/
def ratFreshCard : Claim7 := { stood := { row := ratFreshRow, standIns := [], harness := (true, "d5c1807193c1dbde4b09e4d5f50f3f94c8d6698981cd7d78ba8ac37de17007df"), looks := true }, kinds := [], alts := [], laidByText := true, laidKinds := [.data, .handle, .pinned], laidTests := true, laidLooks := .later }
def RatFreshCardSaid : Prop := Claim7.holds Tryz.pinned (.plain (OpenSpec.ofChange ratFreshSpec)) ratFreshCard

/-- THE TIED CARD OF 'plumblaw05.RatNews'. -/
def ratNewsCard : Claim7 := { stood := { row := ratNewsRow, standIns := [], harness := (true, "d5c1807193c1dbde4b09e4d5f50f3f94c8d6698981cd7d78ba8ac37de17007df"), looks := true }, kinds := [], alts := [], laidByText := true, laidKinds := [.data, .handle, .pinned], laidTests := true, laidLooks := .later }
def RatNewsCardSaid : Prop := Claim7.holds Tryz.pinned (.plain (OpenSpec.ofChange ratNewsSpec)) ratNewsCard

/-- THE SECOND FORM's CARD OF 'plumblaw05.RatRound'. -/
def ratRoundUptoCard : Claim7 := { stood := { row := ratRoundUptoRow, standIns := [], harness := (true, "d5c1807193c1dbde4b09e4d5f50f3f94c8d6698981cd7d78ba8ac37de17007df"), looks := true }, kinds := [], alts := [], laidByText := true, laidKinds := [.data, .handle, .pinned], laidTests := true, laidLooks := .later }
def RatRoundUptoCardSaid : Prop := Claim7.holds Tryz.pinned (.plain (OpenSpec.upto ratRoundSpec)) ratRoundUptoCard

/-- THE SECOND FORM's CARD OF 'plumblaw05.RatFresh'. -/
def ratFreshUptoCard : Claim7 := { stood := { row := ratFreshUptoRow, standIns := [], harness := (true, "d5c1807193c1dbde4b09e4d5f50f3f94c8d6698981cd7d78ba8ac37de17007df"), looks := true }, kinds := [], alts := [], laidByText := true, laidKinds := [.data, .handle, .pinned], laidTests := true, laidLooks := .later }
def RatFreshUptoCardSaid : Prop := Claim7.holds Tryz.pinned (.plain (OpenSpec.upto ratFreshSpec)) ratFreshUptoCard

/-- THE SECOND FORM's CARD OF 'plumblaw05.RatNews'. -/
def ratNewsUptoCard : Claim7 := { stood := { row := ratNewsUptoRow, standIns := [], harness := (true, "d5c1807193c1dbde4b09e4d5f50f3f94c8d6698981cd7d78ba8ac37de17007df"), looks := true }, kinds := [], alts := [], laidByText := true, laidKinds := [.data, .handle, .pinned], laidTests := true, laidLooks := .later }
def RatNewsUptoCardSaid : Prop := Claim7.holds Tryz.pinned (.plain (OpenSpec.upto ratNewsSpec)) ratNewsUptoCard
end Rows
end Go.Proofs.YtopcdpeepchgfacGreatDoor
