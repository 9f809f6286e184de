/-
  DERIVED. GIVEN WITH THE SEED: THE CARDS: each row of YtfgpjplfplbcdaaGreatDoorRows.lean that lists a variable, with what it lists TIED to the program's text (the seventh form; the later family's looks); each row that meets fmt, with fmt's text TOLD by the authors' own Lean function (tested against real Go, not proved from fmt's source: count such statements apart). THE CARD IS WHAT COUNTS. Prove the row's statement (the work); the ties are given (YtfgpjplfplbcdaaGreatDoorTie.lean); close each card by the builder's one call (the guide's Derived/Test/ToyasCard.lean, 'card_holds'). Laid BY PROGRAM, IN A SANDBOX (cutbox-door.mjs). By AI agents, Wed Nov 11 2026. No macro, syntax, notation, axiom, sorry.
-/
import Derived.Test.YtfgpjplfplbcdaaGreatDoorRows
import GoSem.ClaimSeven
namespace Go.Proofs.YtfgpjplfplbcdaaGreatDoor
namespace Rows

/-- THE TIED CARD OF 'plumblaw18.TokenFresh'. -/
def tokenFreshCard : Claim7 := { stood := { row := tokenFreshRow, standIns := [], harness := (true, "b95a74eadc2a2c9bac23162b517875e42603e65af761d17bfad17a9e538dd166"), looks := true }, kinds := [], alts := [], laidByText := true, laidKinds := [.data, .data, .data, .data, .handle, .pinned, .pinned], laidTests := true, laidLooks := .later }
def TokenFreshCardSaid : Prop := Claim7.holds Tryz.pinned (.plain (OpenSpec.ofChange tokenFreshSpec)) tokenFreshCard

/-- THE TIED CARD OF 'plumblaw18.TokenTights'. -/
def tokenTightsCard : Claim7 := { stood := { row := tokenTightsRow, standIns := [], harness := (true, "b95a74eadc2a2c9bac23162b517875e42603e65af761d17bfad17a9e538dd166"), looks := true }, kinds := [], alts := [], laidByText := true, laidKinds := [.data, .data, .data, .data, .pinned, .pinned], laidTests := true, laidLooks := .later }
def TokenTightsCardSaid : Prop := Claim7.holds Tryz.pinned (.plain (OpenSpec.ofChange tokenTightsSpec)) tokenTightsCard

/-- THE TIED CARD OF 'plumblaw18.TokenBack'. -/
def tokenBackCard : Claim7 := { stood := { row := tokenBackRow, standIns := [], harness := (true, "b95a74eadc2a2c9bac23162b517875e42603e65af761d17bfad17a9e538dd166"), looks := true }, kinds := [], alts := [], laidByText := true, laidKinds := [.data, .data, .data, .data, .pinned, .pinned], laidTests := true, laidLooks := .later }
def TokenBackCardSaid : Prop := Claim7.holds Tryz.pinned (.plain (OpenSpec.ofChange tokenBackSpec)) tokenBackCard

/-- THE TIED CARD OF 'plumblaw18.TokenBlanks'. -/
def tokenBlanksCard : Claim7 := { stood := { row := tokenBlanksRow, standIns := [], harness := (true, "b95a74eadc2a2c9bac23162b517875e42603e65af761d17bfad17a9e538dd166"), looks := true }, kinds := [], alts := [], laidByText := true, laidKinds := [.data, .data, .data, .data, .pinned, .pinned], laidTests := true, laidLooks := .later }
def TokenBlanksCardSaid : Prop := Claim7.holds Tryz.pinned (.plain (OpenSpec.ofChange tokenBlanksSpec)) tokenBlanksCard

/-- THE SECOND FORM's CARD OF 'plumblaw18.TokenFresh'. -/
def tokenFreshUptoCard : Claim7 := { stood := { row := tokenFreshUptoRow, standIns := [], harness := (true, "b95a74eadc2a2c9bac23162b517875e42603e65af761d17bfad17a9e538dd166"), looks := true }, kinds := [], alts := [], laidByText := true, laidKinds := [.data, .data, .data, .data, .handle, .pinned, .pinned], laidTests := true, laidLooks := .later }
def TokenFreshUptoCardSaid : Prop := Claim7.holds Tryz.pinned (.plain (OpenSpec.upto tokenFreshSpec)) tokenFreshUptoCard

/-- THE SECOND FORM's CARD OF 'plumblaw18.TokenTights'. -/
def tokenTightsUptoCard : Claim7 := { stood := { row := tokenTightsUptoRow, standIns := [], harness := (true, "b95a74eadc2a2c9bac23162b517875e42603e65af761d17bfad17a9e538dd166"), looks := true }, kinds := [], alts := [], laidByText := true, laidKinds := [.data, .data, .data, .data, .pinned, .pinned], laidTests := true, laidLooks := .later }
def TokenTightsUptoCardSaid : Prop := Claim7.holds Tryz.pinned (.plain (OpenSpec.upto tokenTightsSpec)) tokenTightsUptoCard

/-- THE SECOND FORM's CARD OF 'plumblaw18.TokenBack'. -/
def tokenBackUptoCard : Claim7 := { stood := { row := tokenBackUptoRow, standIns := [], harness := (true, "b95a74eadc2a2c9bac23162b517875e42603e65af761d17bfad17a9e538dd166"), looks := true }, kinds := [], alts := [], laidByText := true, laidKinds := [.data, .data, .data, .data, .pinned, .pinned], laidTests := true, laidLooks := .later }
def TokenBackUptoCardSaid : Prop := Claim7.holds Tryz.pinned (.plain (OpenSpec.upto tokenBackSpec)) tokenBackUptoCard

/-- THE SECOND FORM's CARD OF 'plumblaw18.TokenBlanks'. -/
def tokenBlanksUptoCard : Claim7 := { stood := { row := tokenBlanksUptoRow, standIns := [], harness := (true, "b95a74eadc2a2c9bac23162b517875e42603e65af761d17bfad17a9e538dd166"), looks := true }, kinds := [], alts := [], laidByText := true, laidKinds := [.data, .data, .data, .data, .pinned, .pinned], laidTests := true, laidLooks := .later }
def TokenBlanksUptoCardSaid : Prop := Claim7.holds Tryz.pinned (.plain (OpenSpec.upto tokenBlanksSpec)) tokenBlanksUptoCard
end Rows
end Go.Proofs.YtfgpjplfplbcdaaGreatDoor
