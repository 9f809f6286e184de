/-
  DERIVED. GIVEN WITH THE SEED: THE CARDS: each row of YtildkknpbpdnnabGreatDoorRows.lean that lists a variable, with what it lists TIED to the program's text (the seventh form; the later family's looks); each row that meets fmt, with fmt's text TOLD by the authors' own Lean function (tested against real Go, not proved from fmt's source: count such statements apart). THE CARD IS WHAT COUNTS. Prove the row's statement (the work); the ties are given (YtildkknpbpdnnabGreatDoorTie.lean); close each card by the builder's one call (the guide's Derived/Test/ToyasCard.lean, 'card_holds'). Laid BY PROGRAM, IN A SANDBOX (cutbox-door.mjs). By AI agents, Wed Nov 11 2026. No macro, syntax, notation, axiom, sorry.
-/
import Derived.Test.YtildkknpbpdnnabGreatDoorRows
import GoSem.ClaimSeven
namespace Go.Proofs.YtildkknpbpdnnabGreatDoor
namespace Rows

/-- THE TIED CARD OF 'plumblaw07.NearBack'. -/
def nearBackCard : Claim7 := { stood := { row := nearBackRow, standIns := [], harness := (true, "c3811178f6f0a7e5647c552bbf8a8fe8a231386ebd6ec18f664a50658d0b0435"), looks := true }, kinds := [], alts := [], laidByText := true, laidKinds := [.data], laidTests := true, laidLooks := .later }
def NearBackCardSaid : Prop := Claim7.holds Tryz.pinned (.plain (OpenSpec.ofChange nearBackSpec)) nearBackCard

/-- THE TIED CARD OF 'plumblaw07.NearMiddles'. -/
def nearMiddlesCard : Claim7 := { stood := { row := nearMiddlesRow, standIns := [], harness := (true, "c3811178f6f0a7e5647c552bbf8a8fe8a231386ebd6ec18f664a50658d0b0435"), looks := true }, kinds := [], alts := [], laidByText := true, laidKinds := [.data], laidTests := true, laidLooks := .later }
def NearMiddlesCardSaid : Prop := Claim7.holds Tryz.pinned (.plain (OpenSpec.ofChange nearMiddlesSpec)) nearMiddlesCard

/-- THE TIED CARD OF 'plumblaw07.NearRats'. -/
def nearRatsCard : Claim7 := { stood := { row := nearRatsRow, standIns := [], harness := (true, "c3811178f6f0a7e5647c552bbf8a8fe8a231386ebd6ec18f664a50658d0b0435"), looks := true }, kinds := [], alts := [], laidByText := true, laidKinds := [.data], laidTests := true, laidLooks := .later }
def NearRatsCardSaid : Prop := Claim7.holds Tryz.pinned (.plain (OpenSpec.ofChange nearRatsSpec)) nearRatsCard

/-- THE SECOND FORM's CARD OF 'plumblaw07.NearBack'. -/
def nearBackUptoCard : Claim7 := { stood := { row := nearBackUptoRow, standIns := [], harness := (true, "c3811178f6f0a7e5647c552bbf8a8fe8a231386ebd6ec18f664a50658d0b0435"), looks := true }, kinds := [], alts := [], laidByText := true, laidKinds := [.data], laidTests := true, laidLooks := .later }
def NearBackUptoCardSaid : Prop := Claim7.holds Tryz.pinned (.plain (OpenSpec.upto nearBackSpec)) nearBackUptoCard

/-- THE SECOND FORM's CARD OF 'plumblaw07.NearMiddles'. -/
def nearMiddlesUptoCard : Claim7 := { stood := { row := nearMiddlesUptoRow, standIns := [], harness := (true, "c3811178f6f0a7e5647c552bbf8a8fe8a231386ebd6ec18f664a50658d0b0435"), looks := true }, kinds := [], alts := [], laidByText := true, laidKinds := [.data], laidTests := true, laidLooks := .later }
def NearMiddlesUptoCardSaid : Prop := Claim7.holds Tryz.pinned (.plain (OpenSpec.upto nearMiddlesSpec)) nearMiddlesUptoCard

/-- THE SECOND FORM's CARD OF 'plumblaw07.NearRats'. -/
def nearRatsUptoCard : Claim7 := { stood := { row := nearRatsUptoRow, standIns := [], harness := (true, "c3811178f6f0a7e5647c552bbf8a8fe8a231386ebd6ec18f664a50658d0b0435"), looks := true }, kinds := [], alts := [], laidByText := true, laidKinds := [.data], laidTests := true, laidLooks := .later }
def NearRatsUptoCardSaid : Prop := Claim7.holds Tryz.pinned (.plain (OpenSpec.upto nearRatsSpec)) nearRatsUptoCard
end Rows
end Go.Proofs.YtildkknpbpdnnabGreatDoor
