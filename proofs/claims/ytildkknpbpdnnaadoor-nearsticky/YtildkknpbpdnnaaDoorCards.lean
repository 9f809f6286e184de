/-
  DERIVED. GIVEN WITH THE SEED: THE CARDS: each row of YtildkknpbpdnnaaDoorRows.lean that lists a variable, with what it lists TIED to the program's text (the seventh form; the later family's looks); each row that meets fmt, with fmt's text TOLD by the authors' own Lean function (tested against real Go, not proved from fmt's source: count such statements apart). THE CARD IS WHAT COUNTS. Prove the row's statement (the work); the ties are given (YtildkknpbpdnnaaDoorTie.lean); close each card by the builder's one call (the guide's Derived/Test/ToyasCard.lean, 'card_holds'). Laid BY PROGRAM, IN A SANDBOX (cutbox-door.mjs). By AI agents, Wed Nov 11 2026. No macro, syntax, notation, axiom, sorry.
-/
import Derived.Test.YtildkknpbpdnnaaDoorRows
import GoSem.ClaimSeven
namespace Go.Proofs.YtildkknpbpdnnaaDoor
namespace Rows

/-- THE TIED CARD OF 'plumblaw07.NearScaleds'. -/
def nearScaledsCard : Claim7 := { stood := { row := nearScaledsRow, standIns := [], harness := (true, "151007993ebec890dd8bdb934c306c59d6be3e1afa49b57511f8df88e9a91c8d"), looks := true }, kinds := [], alts := [], laidByText := true, laidKinds := [.data], laidTests := true, laidLooks := .later }
def NearScaledsCardSaid : Prop := Claim7.holds Tryd.pinned (.plain (OpenSpec.ofChange nearScaledsSpec)) nearScaledsCard

/-- THE TIED CARD OF 'plumblaw07.NearSticky'. -/
def nearStickyCard : Claim7 := { stood := { row := nearStickyRow, standIns := [], harness := (true, "151007993ebec890dd8bdb934c306c59d6be3e1afa49b57511f8df88e9a91c8d"), looks := true }, kinds := [], alts := [], laidByText := true, laidKinds := [.data], laidTests := true, laidLooks := .later }
def NearStickyCardSaid : Prop := Claim7.holds Tryd.pinned (.plain (OpenSpec.ofChange nearStickySpec)) nearStickyCard

/-- THE TIED CARD OF 'plumblaw07.NearScale'. -/
def nearScaleCard : Claim7 := { stood := { row := nearScaleRow, standIns := [], harness := (true, "151007993ebec890dd8bdb934c306c59d6be3e1afa49b57511f8df88e9a91c8d"), looks := true }, kinds := [], alts := [], laidByText := true, laidKinds := [.data], laidTests := true, laidLooks := .later }
def NearScaleCardSaid : Prop := Claim7.holds Tryd.pinned (.plain (OpenSpec.ofChange nearScaleSpec)) nearScaleCard

/-- THE TIED CARD OF 'plumblaw07.NearQuotients'. -/
def nearQuotientsCard : Claim7 := { stood := { row := nearQuotientsRow, standIns := [], harness := (true, "151007993ebec890dd8bdb934c306c59d6be3e1afa49b57511f8df88e9a91c8d"), looks := true }, kinds := [], alts := [], laidByText := true, laidKinds := [.data], laidTests := true, laidLooks := .later }
def NearQuotientsCardSaid : Prop := Claim7.holds Tryd.pinned (.plain (OpenSpec.ofChange nearQuotientsSpec)) nearQuotientsCard

/-- THE TIED CARD OF 'plumblaw07.NearMonotone'. -/
def nearMonotoneCard : Claim7 := { stood := { row := nearMonotoneRow, standIns := [], harness := (true, "151007993ebec890dd8bdb934c306c59d6be3e1afa49b57511f8df88e9a91c8d"), looks := true }, kinds := [], alts := [], laidByText := true, laidKinds := [.data], laidTests := true, laidLooks := .later }
def NearMonotoneCardSaid : Prop := Claim7.holds Tryd.pinned (.plain (OpenSpec.ofChange nearMonotoneSpec)) nearMonotoneCard

/-- THE SECOND FORM's CARD OF 'plumblaw07.NearScaleds'. -/
def nearScaledsUptoCard : Claim7 := { stood := { row := nearScaledsUptoRow, standIns := [], harness := (true, "151007993ebec890dd8bdb934c306c59d6be3e1afa49b57511f8df88e9a91c8d"), looks := true }, kinds := [], alts := [], laidByText := true, laidKinds := [.data], laidTests := true, laidLooks := .later }
def NearScaledsUptoCardSaid : Prop := Claim7.holds Tryd.pinned (.plain (OpenSpec.upto nearScaledsSpec)) nearScaledsUptoCard

/-- THE SECOND FORM's CARD OF 'plumblaw07.NearSticky'. -/
def nearStickyUptoCard : Claim7 := { stood := { row := nearStickyUptoRow, standIns := [], harness := (true, "151007993ebec890dd8bdb934c306c59d6be3e1afa49b57511f8df88e9a91c8d"), looks := true }, kinds := [], alts := [], laidByText := true, laidKinds := [.data], laidTests := true, laidLooks := .later }
def NearStickyUptoCardSaid : Prop := Claim7.holds Tryd.pinned (.plain (OpenSpec.upto nearStickySpec)) nearStickyUptoCard

/-- THE SECOND FORM's CARD OF 'plumblaw07.NearScale'. -/
def nearScaleUptoCard : Claim7 := { stood := { row := nearScaleUptoRow, standIns := [], harness := (true, "151007993ebec890dd8bdb934c306c59d6be3e1afa49b57511f8df88e9a91c8d"), looks := true }, kinds := [], alts := [], laidByText := true, laidKinds := [.data], laidTests := true, laidLooks := .later }
def NearScaleUptoCardSaid : Prop := Claim7.holds Tryd.pinned (.plain (OpenSpec.upto nearScaleSpec)) nearScaleUptoCard

/-- THE SECOND FORM's CARD OF 'plumblaw07.NearQuotients'. -/
def nearQuotientsUptoCard : Claim7 := { stood := { row := nearQuotientsUptoRow, standIns := [], harness := (true, "151007993ebec890dd8bdb934c306c59d6be3e1afa49b57511f8df88e9a91c8d"), looks := true }, kinds := [], alts := [], laidByText := true, laidKinds := [.data], laidTests := true, laidLooks := .later }
def NearQuotientsUptoCardSaid : Prop := Claim7.holds Tryd.pinned (.plain (OpenSpec.upto nearQuotientsSpec)) nearQuotientsUptoCard

/-- THE SECOND FORM's CARD OF 'plumblaw07.NearMonotone'. -/
def nearMonotoneUptoCard : Claim7 := { stood := { row := nearMonotoneUptoRow, standIns := [], harness := (true, "151007993ebec890dd8bdb934c306c59d6be3e1afa49b57511f8df88e9a91c8d"), looks := true }, kinds := [], alts := [], laidByText := true, laidKinds := [.data], laidTests := true, laidLooks := .later }
def NearMonotoneUptoCardSaid : Prop := Claim7.holds Tryd.pinned (.plain (OpenSpec.upto nearMonotoneSpec)) nearMonotoneUptoCard
end Rows
end Go.Proofs.YtildkknpbpdnnaaDoor
