/-
  DERIVED. GIVEN WITH THE SEED: THE CARDS: each row of YtbbmoaipilmmdaaDoorRows.lean that lists a variable, with what it lists TIED to the program's text (the seventh form; the later family's looks); each row that meets fmt, with fmt's text TOLD by the authors' own Lean function (tested against real Go, not proved from fmt's source: count such statements apart). THE CARD IS WHAT COUNTS. Prove the row's statement (the work); the ties are given (YtbbmoaipilmmdaaDoorTie.lean); close each card by the builder's one call (the guide's Derived/Test/ToyasCard.lean, 'card_holds'). Laid BY PROGRAM, IN A SANDBOX (cutbox-door.mjs). By AI agents, Wed Nov 11 2026. No macro, syntax, notation, axiom, sorry.
-/
import Derived.Test.YtbbmoaipilmmdaaDoorRows
import GoSem.ClaimSeven
namespace Go.Proofs.YtbbmoaipilmmdaaDoor
namespace Rows

/-- THE TIED CARD OF 'plumblaw10.LemireTens'. -/
def lemireTensCard : Claim7 := { stood := { row := lemireTensRow, standIns := [], harness := (true, "7056fca921c3400575ce1dfbb7773b2c005bb6251a208ce5a1cdf64e9e26036a"), looks := false }, kinds := [], alts := [], laidByText := true, laidKinds := [.data, .data, .pinned], laidTests := true, laidLooks := .later }
def LemireTensCardSaid : Prop := Claim7.holds Tryd.pinned (.plain (OpenSpec.ofChange lemireTensSpec)) lemireTensCard

/-- THE TIED CARD OF 'plumblaw10.LemireCuts'. -/
def lemireCutsCard : Claim7 := { stood := { row := lemireCutsRow, standIns := [], harness := (true, "7056fca921c3400575ce1dfbb7773b2c005bb6251a208ce5a1cdf64e9e26036a"), looks := false }, kinds := [], alts := [], laidByText := true, laidKinds := [.data, .data, .pinned], laidTests := true, laidLooks := .later }
def LemireCutsCardSaid : Prop := Claim7.holds Tryd.pinned (.plain (OpenSpec.ofChange lemireCutsSpec)) lemireCutsCard

/-- THE TIED CARD OF 'plumblaw10.LemireRises'. -/
def lemireRisesCard : Claim7 := { stood := { row := lemireRisesRow, standIns := [], harness := (true, "7056fca921c3400575ce1dfbb7773b2c005bb6251a208ce5a1cdf64e9e26036a"), looks := false }, kinds := [], alts := [], laidByText := true, laidKinds := [.data, .data, .pinned], laidTests := true, laidLooks := .later }
def LemireRisesCardSaid : Prop := Claim7.holds Tryd.pinned (.plain (OpenSpec.ofChange lemireRisesSpec)) lemireRisesCard

/-- THE SECOND FORM's CARD OF 'plumblaw10.LemireTens'. -/
def lemireTensUptoCard : Claim7 := { stood := { row := lemireTensUptoRow, standIns := [], harness := (true, "7056fca921c3400575ce1dfbb7773b2c005bb6251a208ce5a1cdf64e9e26036a"), looks := false }, kinds := [], alts := [], laidByText := true, laidKinds := [.data, .data, .pinned], laidTests := true, laidLooks := .later }
def LemireTensUptoCardSaid : Prop := Claim7.holds Tryd.pinned (.plain (OpenSpec.upto lemireTensSpec)) lemireTensUptoCard

/-- THE SECOND FORM's CARD OF 'plumblaw10.LemireCuts'. -/
def lemireCutsUptoCard : Claim7 := { stood := { row := lemireCutsUptoRow, standIns := [], harness := (true, "7056fca921c3400575ce1dfbb7773b2c005bb6251a208ce5a1cdf64e9e26036a"), looks := false }, kinds := [], alts := [], laidByText := true, laidKinds := [.data, .data, .pinned], laidTests := true, laidLooks := .later }
def LemireCutsUptoCardSaid : Prop := Claim7.holds Tryd.pinned (.plain (OpenSpec.upto lemireCutsSpec)) lemireCutsUptoCard

/-- THE SECOND FORM's CARD OF 'plumblaw10.LemireRises'. -/
def lemireRisesUptoCard : Claim7 := { stood := { row := lemireRisesUptoRow, standIns := [], harness := (true, "7056fca921c3400575ce1dfbb7773b2c005bb6251a208ce5a1cdf64e9e26036a"), looks := false }, kinds := [], alts := [], laidByText := true, laidKinds := [.data, .data, .pinned], laidTests := true, laidLooks := .later }
def LemireRisesUptoCardSaid : Prop := Claim7.holds Tryd.pinned (.plain (OpenSpec.upto lemireRisesSpec)) lemireRisesUptoCard
end Rows
end Go.Proofs.YtbbmoaipilmmdaaDoor
