/-
  No cell of these rows narrows 'for every input' (looked for: loops, veiled, ifaces, maps, wideKeys, modest, calm, conditions, laid).
  DERIVED. THE GIVEN ROWS OF THIS SEAT. 6 by the template 'for every input the law returns true; each argument reads behind the call as it read before'; 0 by the template 'total and deterministic' (their statements: YtopcdpeepchgfaaTotals.lean).
  GIVEN WITH THE SEED: the statements are not yours to turn. If you find one false, say at which input.
  Laid BY PROGRAM, IN A SANDBOX (cutbox-rows.mjs): the forced cells as the released guide's own fill.sh prints them over the translation bbec8f91f609ad89… (all of the seat's roots in one cut). By AI agents, Wed Nov 11 2026. No macro, syntax, notation, axiom, sorry.
-/
import Derived.Test.YtopcdpeepchgfaaChecked
import GoSem.Claim
import GoSem.ClaimJoined
import GoSem.ClaimMapViews
import Derived.JoinedTies
import Derived.KernelRfl
namespace Go.Proofs.Ytopcdpeepchgfaa
/- THE CELL 'sum', in the pinned program and in every row, IS THE sha256 OF THE DUMP (.gsa) THAT YtopcdpeepchgfaaProg.lean LOADS. Nothing in Lean hashes anything: it is a label: what it is worth is what the hold of that sum in a sandbox is worth. -/
noncomputable def Try.pinned : Pinned := { name := "ytopcdpeepchgfaa", sum := "bbec8f91f609ad890d5b4013cd6c91b2d6a4c0364f739116531c38e847ef6fb5", checked := Try.checked }
namespace Rows
def none {H : Type} : Left H := { results := [], args := [] }

/-- 'plumblaw03.QuotPows': WHATEVER THE INPUT: true; the input reads as it did. -/
def quotPowsSpec : ChangeSpec := { name := "quotPows", fn := fun _ => fun
  | [d1, d2] => { results := [.lit (.bool true)], args := [d1, d2] }
  | _ => none }
def quotPowsRow : OpenClaim := { program := "ytopcdpeepchgfaa", sum := "bbec8f91f609ad890d5b4013cd6c91b2d6a4c0364f739116531c38e847ef6fb5", func := "plumb/plumblaw03.QuotPows", spec := "quotPows", apart := false }
def QuotPowsSaid : Prop := quotPowsRow.holds Try.pinned (OpenSpec.ofChange quotPowsSpec)

/-- ITS FALSE NEIGHBOUR: 'it returns false'. Refute it at one input. -/
def quotPowsWrong : ChangeSpec := { name := "quotPows", fn := fun _ => fun
  | [d1, d2] => { results := [.lit (.bool false)], args := [d1, d2] }
  | _ => none }
def QuotPowsWrongFalsely : Prop := quotPowsRow.holds Try.pinned (OpenSpec.ofChange quotPowsWrong)

/-- 'plumblaw03.QuotDivs': WHATEVER THE INPUT: true; the input reads as it did. -/
def quotDivsSpec : ChangeSpec := { name := "quotDivs", fn := fun _ => fun
  | [d1, d2, d3] => { results := [.lit (.bool true)], args := [d1, d2, d3] }
  | _ => none }
def quotDivsRow : OpenClaim := { program := "ytopcdpeepchgfaa", sum := "bbec8f91f609ad890d5b4013cd6c91b2d6a4c0364f739116531c38e847ef6fb5", func := "plumb/plumblaw03.QuotDivs", spec := "quotDivs", apart := false }
def QuotDivsSaid : Prop := quotDivsRow.holds Try.pinned (OpenSpec.ofChange quotDivsSpec)

/-- ITS FALSE NEIGHBOUR: 'it returns false'. Refute it at one input. -/
def quotDivsWrong : ChangeSpec := { name := "quotDivs", fn := fun _ => fun
  | [d1, d2, d3] => { results := [.lit (.bool false)], args := [d1, d2, d3] }
  | _ => none }
def QuotDivsWrongFalsely : Prop := quotDivsRow.holds Try.pinned (OpenSpec.ofChange quotDivsWrong)

/-- 'plumblaw03.QuotBack': WHATEVER THE INPUT: true; the input reads as it did. -/
def quotBackSpec : ChangeSpec := { name := "quotBack", fn := fun _ => fun
  | [d1, d2, d3] => { results := [.lit (.bool true)], args := [d1, d2, d3] }
  | _ => none }
def quotBackRow : OpenClaim := { program := "ytopcdpeepchgfaa", sum := "bbec8f91f609ad890d5b4013cd6c91b2d6a4c0364f739116531c38e847ef6fb5", func := "plumb/plumblaw03.QuotBack", spec := "quotBack", recurses := true, apart := false }
def QuotBackSaid : Prop := quotBackRow.holds Try.pinned (OpenSpec.ofChange quotBackSpec)

/-- ITS FALSE NEIGHBOUR: 'it returns false'. Refute it at one input. -/
def quotBackWrong : ChangeSpec := { name := "quotBack", fn := fun _ => fun
  | [d1, d2, d3] => { results := [.lit (.bool false)], args := [d1, d2, d3] }
  | _ => none }
def QuotBackWrongFalsely : Prop := quotBackRow.holds Try.pinned (OpenSpec.ofChange quotBackWrong)

/-- 'plumblaw03.QuotPowers': WHATEVER THE INPUT: true; the input reads as it did. -/
def quotPowersSpec : ChangeSpec := { name := "quotPowers", fn := fun _ => fun
  | [d1, d2, d3] => { results := [.lit (.bool true)], args := [d1, d2, d3] }
  | _ => none }
def quotPowersRow : OpenClaim := { program := "ytopcdpeepchgfaa", sum := "bbec8f91f609ad890d5b4013cd6c91b2d6a4c0364f739116531c38e847ef6fb5", func := "plumb/plumblaw03.QuotPowers", spec := "quotPowers", recurses := true, apart := false }
def QuotPowersSaid : Prop := quotPowersRow.holds Try.pinned (OpenSpec.ofChange quotPowersSpec)

/-- ITS FALSE NEIGHBOUR: 'it returns false'. Refute it at one input. -/
def quotPowersWrong : ChangeSpec := { name := "quotPowers", fn := fun _ => fun
  | [d1, d2, d3] => { results := [.lit (.bool false)], args := [d1, d2, d3] }
  | _ => none }
def QuotPowersWrongFalsely : Prop := quotPowersRow.holds Try.pinned (OpenSpec.ofChange quotPowersWrong)

/-- 'plumblaw03.QuotFresh': WHATEVER THE INPUT: true; the input reads as it did. -/
def quotFreshSpec : ChangeSpec := { name := "quotFresh", fn := fun _ => fun
  | [d1, d2] => { results := [.lit (.bool true)], args := [d1, d2] }
  | _ => none }
def quotFreshRow : OpenClaim := { program := "ytopcdpeepchgfaa", sum := "bbec8f91f609ad890d5b4013cd6c91b2d6a4c0364f739116531c38e847ef6fb5", func := "plumb/plumblaw03.QuotFresh", spec := "quotFresh", recurses := true, apart := false }
def QuotFreshSaid : Prop := quotFreshRow.holds Try.pinned (OpenSpec.ofChange quotFreshSpec)

/-- ITS FALSE NEIGHBOUR: 'it returns false'. Refute it at one input. -/
def quotFreshWrong : ChangeSpec := { name := "quotFresh", fn := fun _ => fun
  | [d1, d2] => { results := [.lit (.bool false)], args := [d1, d2] }
  | _ => none }
def QuotFreshWrongFalsely : Prop := quotFreshRow.holds Try.pinned (OpenSpec.ofChange quotFreshWrong)

/-- 'plumblaw03.QuotDivides': WHATEVER THE INPUT: true; the input reads as it did. -/
def quotDividesSpec : ChangeSpec := { name := "quotDivides", fn := fun _ => fun
  | [d1, d2] => { results := [.lit (.bool true)], args := [d1, d2] }
  | _ => none }
def quotDividesRow : OpenClaim := { program := "ytopcdpeepchgfaa", sum := "bbec8f91f609ad890d5b4013cd6c91b2d6a4c0364f739116531c38e847ef6fb5", func := "plumb/plumblaw03.QuotDivides", spec := "quotDivides", recurses := true, apart := false }
def QuotDividesSaid : Prop := quotDividesRow.holds Try.pinned (OpenSpec.ofChange quotDividesSpec)

/-- ITS FALSE NEIGHBOUR: 'it returns false'. Refute it at one input. -/
def quotDividesWrong : ChangeSpec := { name := "quotDivides", fn := fun _ => fun
  | [d1, d2] => { results := [.lit (.bool false)], args := [d1, d2] }
  | _ => none }
def QuotDividesWrongFalsely : Prop := quotDividesRow.holds Try.pinned (OpenSpec.ofChange quotDividesWrong)

/- THE SECOND FORM. 'bulk': how many values and letters a reading holds, each counted each time it is reached (what is shared counts as often as it is met; a slice's spare places count too). A statement '..UptoSaid' is the law's where the arguments, and the package variables that the reading takes, are together of bulk at most 1048576: NARROWER than '..Said'. Prove '..Said' where nothing that the law and all that it calls make is longer than what came in: it says more and counts as full. Else prove '..UptoSaid'. A law counts once. -/
mutual
def uptoBulk {H : Type} : DataW H → Nat
  | .lit (.string bytes) => bytes.length + 1
  | .lit _ => 1
  | .nil => 1
  | .ptr d => uptoBulk d + 1
  | .slice elems spare => uptoBulkAll elems + uptoBulkAll spare + 1
  | .agg parts => uptoBulkAll parts + 1
  | .iface _ d => uptoBulk d + 1
  | .map entries => uptoBulkEntries entries + 1
  | .held _ => 1
def uptoBulkAll {H : Type} : List (DataW H) → Nat
  | [] => 0
  | d :: r => uptoBulk d + uptoBulkAll r
def uptoBulkEntries {H : Type} : List (Lit × DataW H) → Nat
  | [] => 0
  | x :: r => uptoBulkEntry x + uptoBulkEntries r
def uptoBulkEntry {H : Type} : Lit × DataW H → Nat
  | (.string bytes, d) => bytes.length + uptoBulk d + 1
  | (_, d) => uptoBulk d + 1
 end
def uptoSmall : (H : Type) → List (DataW H) → Bool := fun _ ds => decide (uptoBulkAll ds ≤ 1048576)
def OpenSpec.upto (s : _root_.Go.ChangeSpec) : _root_.Go.OpenSpec := { _root_.Go.OpenSpec.ofChange s with cond := some uptoSmall }

/-- 'plumblaw03.QuotPows', WHERE WHAT IT READS IS OF BULK AT MOST 1048576: true; the input reads as it did. -/
def quotPowsUptoRow : OpenClaim := { program := "ytopcdpeepchgfaa", sum := "bbec8f91f609ad890d5b4013cd6c91b2d6a4c0364f739116531c38e847ef6fb5", func := "plumb/plumblaw03.QuotPows", spec := "quotPows", apart := false, narrowed := true }
def QuotPowsUptoSaid : Prop := quotPowsUptoRow.holds Try.pinned (OpenSpec.upto quotPowsSpec)

/-- 'plumblaw03.QuotDivs', WHERE WHAT IT READS IS OF BULK AT MOST 1048576: true; the input reads as it did. -/
def quotDivsUptoRow : OpenClaim := { program := "ytopcdpeepchgfaa", sum := "bbec8f91f609ad890d5b4013cd6c91b2d6a4c0364f739116531c38e847ef6fb5", func := "plumb/plumblaw03.QuotDivs", spec := "quotDivs", apart := false, narrowed := true }
def QuotDivsUptoSaid : Prop := quotDivsUptoRow.holds Try.pinned (OpenSpec.upto quotDivsSpec)

/-- 'plumblaw03.QuotBack', WHERE WHAT IT READS IS OF BULK AT MOST 1048576: true; the input reads as it did. -/
def quotBackUptoRow : OpenClaim := { program := "ytopcdpeepchgfaa", sum := "bbec8f91f609ad890d5b4013cd6c91b2d6a4c0364f739116531c38e847ef6fb5", func := "plumb/plumblaw03.QuotBack", spec := "quotBack", recurses := true, apart := false, narrowed := true }
def QuotBackUptoSaid : Prop := quotBackUptoRow.holds Try.pinned (OpenSpec.upto quotBackSpec)

/-- 'plumblaw03.QuotPowers', WHERE WHAT IT READS IS OF BULK AT MOST 1048576: true; the input reads as it did. -/
def quotPowersUptoRow : OpenClaim := { program := "ytopcdpeepchgfaa", sum := "bbec8f91f609ad890d5b4013cd6c91b2d6a4c0364f739116531c38e847ef6fb5", func := "plumb/plumblaw03.QuotPowers", spec := "quotPowers", recurses := true, apart := false, narrowed := true }
def QuotPowersUptoSaid : Prop := quotPowersUptoRow.holds Try.pinned (OpenSpec.upto quotPowersSpec)

/-- 'plumblaw03.QuotFresh', WHERE WHAT IT READS IS OF BULK AT MOST 1048576: true; the input reads as it did. -/
def quotFreshUptoRow : OpenClaim := { program := "ytopcdpeepchgfaa", sum := "bbec8f91f609ad890d5b4013cd6c91b2d6a4c0364f739116531c38e847ef6fb5", func := "plumb/plumblaw03.QuotFresh", spec := "quotFresh", recurses := true, apart := false, narrowed := true }
def QuotFreshUptoSaid : Prop := quotFreshUptoRow.holds Try.pinned (OpenSpec.upto quotFreshSpec)

/-- 'plumblaw03.QuotDivides', WHERE WHAT IT READS IS OF BULK AT MOST 1048576: true; the input reads as it did. -/
def quotDividesUptoRow : OpenClaim := { program := "ytopcdpeepchgfaa", sum := "bbec8f91f609ad890d5b4013cd6c91b2d6a4c0364f739116531c38e847ef6fb5", func := "plumb/plumblaw03.QuotDivides", spec := "quotDivides", recurses := true, apart := false, narrowed := true }
def QuotDividesUptoSaid : Prop := quotDividesUptoRow.holds Try.pinned (OpenSpec.upto quotDividesSpec)

end Rows
end Go.Proofs.Ytopcdpeepchgfaa
