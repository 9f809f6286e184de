/-
  No cell of these rows narrows 'for every input' (looked for: loops, veiled, ifaces, maps, wideKeys, modest, calm, conditions, laid).
  DERIVED. THE GIVEN ROWS OF THIS SEAT. 4 by the template 'for every input the law returns true; each argument reads behind the call as it read before'; 0 by the template 'total and deterministic' (their statements: YtmenhfnakcdnnaaTotals.lean).
  GIVEN WITH THE SEED: the statements are not yours to turn. If you find one false, say at which input.
  Laid BY PROGRAM, IN A SANDBOX (cutbox-rows.mjs): the forced cells as the released guide's own fill.sh prints them over the translation 9d7cf918ba373079… (all of the seat's roots in one cut). By AI agents, Wed Nov 11 2026. No macro, syntax, notation, axiom, sorry.
-/
import Derived.Test.YtmenhfnakcdnnaaChecked
import GoSem.Claim
import GoSem.ClaimJoined
import GoSem.ClaimMapViews
import Derived.JoinedTies
import Derived.KernelRfl
namespace Go.Proofs.Ytmenhfnakcdnnaa
/- THE CELL 'sum', in the pinned program and in every row, IS THE sha256 OF THE DUMP (.gsa) THAT YtmenhfnakcdnnaaProg.lean LOADS. Nothing in Lean hashes anything: it is a label: what it is worth is what the hold of that sum in a sandbox is worth. -/
noncomputable def Try.pinned : Pinned := { name := "ytmenhfnakcdnnaa", sum := "9d7cf918ba37307981c41225ce4b05eb6ca33e2c8505c1b57f5211e77771fa1d", checked := Try.checked }
namespace Rows
def none {H : Type} : Left H := { results := [], args := [] }

/-- 'plumblaw03.QuotPows': WHATEVER THE INPUT: true; the input reads as it did. -/
def quotPowsSpec : ChangeSpec := { name := "quotPows", fn := fun _ => fun
  | [d1, d2] => { results := [.lit (.bool true)], args := [d1, d2] }
  | _ => none }
def quotPowsRow : OpenClaim := { program := "ytmenhfnakcdnnaa", sum := "9d7cf918ba37307981c41225ce4b05eb6ca33e2c8505c1b57f5211e77771fa1d", func := "plumb/plumblaw03.QuotPows", spec := "quotPows", apart := false }
def QuotPowsSaid : Prop := quotPowsRow.holds Try.pinned (OpenSpec.ofChange quotPowsSpec)

/-- ITS FALSE NEIGHBOUR: 'it returns false'. Refute it at one input. -/
def quotPowsWrong : ChangeSpec := { name := "quotPows", fn := fun _ => fun
  | [d1, d2] => { results := [.lit (.bool false)], args := [d1, d2] }
  | _ => none }
def QuotPowsWrongFalsely : Prop := quotPowsRow.holds Try.pinned (OpenSpec.ofChange quotPowsWrong)

/-- 'plumblaw03.QuotDivs': WHATEVER THE INPUT: true; the input reads as it did. -/
def quotDivsSpec : ChangeSpec := { name := "quotDivs", fn := fun _ => fun
  | [d1, d2, d3] => { results := [.lit (.bool true)], args := [d1, d2, d3] }
  | _ => none }
def quotDivsRow : OpenClaim := { program := "ytmenhfnakcdnnaa", sum := "9d7cf918ba37307981c41225ce4b05eb6ca33e2c8505c1b57f5211e77771fa1d", func := "plumb/plumblaw03.QuotDivs", spec := "quotDivs", apart := false }
def QuotDivsSaid : Prop := quotDivsRow.holds Try.pinned (OpenSpec.ofChange quotDivsSpec)

/-- ITS FALSE NEIGHBOUR: 'it returns false'. Refute it at one input. -/
def quotDivsWrong : ChangeSpec := { name := "quotDivs", fn := fun _ => fun
  | [d1, d2, d3] => { results := [.lit (.bool false)], args := [d1, d2, d3] }
  | _ => none }
def QuotDivsWrongFalsely : Prop := quotDivsRow.holds Try.pinned (OpenSpec.ofChange quotDivsWrong)

/-- 'plumblaw03.QuotFresh': WHATEVER THE INPUT: true; the input reads as it did. -/
def quotFreshSpec : ChangeSpec := { name := "quotFresh", fn := fun _ => fun
  | [d1, d2] => { results := [.lit (.bool true)], args := [d1, d2] }
  | _ => none }
def quotFreshRow : OpenClaim := { program := "ytmenhfnakcdnnaa", sum := "9d7cf918ba37307981c41225ce4b05eb6ca33e2c8505c1b57f5211e77771fa1d", func := "plumb/plumblaw03.QuotFresh", spec := "quotFresh", recurses := true, apart := false }
def QuotFreshSaid : Prop := quotFreshRow.holds Try.pinned (OpenSpec.ofChange quotFreshSpec)

/-- ITS FALSE NEIGHBOUR: 'it returns false'. Refute it at one input. -/
def quotFreshWrong : ChangeSpec := { name := "quotFresh", fn := fun _ => fun
  | [d1, d2] => { results := [.lit (.bool false)], args := [d1, d2] }
  | _ => none }
def QuotFreshWrongFalsely : Prop := quotFreshRow.holds Try.pinned (OpenSpec.ofChange quotFreshWrong)

/-- 'plumblaw03.QuotGcds': WHATEVER THE INPUT: true; the input reads as it did. -/
def quotGcdsSpec : ChangeSpec := { name := "quotGcds", fn := fun _ => fun
  | [d1, d2] => { results := [.lit (.bool true)], args := [d1, d2] }
  | _ => none }
def quotGcdsRow : OpenClaim := { program := "ytmenhfnakcdnnaa", sum := "9d7cf918ba37307981c41225ce4b05eb6ca33e2c8505c1b57f5211e77771fa1d", func := "plumb/plumblaw03.QuotGcds", spec := "quotGcds", recurses := true, apart := false }
def QuotGcdsSaid : Prop := quotGcdsRow.holds Try.pinned (OpenSpec.ofChange quotGcdsSpec)

/-- ITS FALSE NEIGHBOUR: 'it returns false'. Refute it at one input. -/
def quotGcdsWrong : ChangeSpec := { name := "quotGcds", fn := fun _ => fun
  | [d1, d2] => { results := [.lit (.bool false)], args := [d1, d2] }
  | _ => none }
def QuotGcdsWrongFalsely : Prop := quotGcdsRow.holds Try.pinned (OpenSpec.ofChange quotGcdsWrong)

/- THE SECOND FORM. 'bulk': how many values and letters a reading holds, each counted each time it is reached (what is shared counts as often as it is met; a slice's spare places count too). A statement '..UptoSaid' is the law's where the arguments, and the package variables that the reading takes, are together of bulk at most 1048576: NARROWER than '..Said'. Prove '..Said' where nothing that the law and all that it calls make is longer than what came in: it says more and counts as full. Else prove '..UptoSaid'. A law counts once. -/
mutual
def uptoBulk {H : Type} : DataW H → Nat
  | .lit (.string bytes) => bytes.length + 1
  | .lit _ => 1
  | .nil => 1
  | .ptr d => uptoBulk d + 1
  | .slice elems spare => uptoBulkAll elems + uptoBulkAll spare + 1
  | .agg parts => uptoBulkAll parts + 1
  | .iface _ d => uptoBulk d + 1
  | .map entries => uptoBulkEntries entries + 1
  | .held _ => 1
def uptoBulkAll {H : Type} : List (DataW H) → Nat
  | [] => 0
  | d :: r => uptoBulk d + uptoBulkAll r
def uptoBulkEntries {H : Type} : List (Lit × DataW H) → Nat
  | [] => 0
  | x :: r => uptoBulkEntry x + uptoBulkEntries r
def uptoBulkEntry {H : Type} : Lit × DataW H → Nat
  | (.string bytes, d) => bytes.length + uptoBulk d + 1
  | (_, d) => uptoBulk d + 1
 end
def uptoSmall : (H : Type) → List (DataW H) → Bool := fun _ ds => decide (uptoBulkAll ds ≤ 1048576)
def OpenSpec.upto (s : _root_.Go.ChangeSpec) : _root_.Go.OpenSpec := { _root_.Go.OpenSpec.ofChange s with cond := some uptoSmall }

/-- 'plumblaw03.QuotPows', WHERE WHAT IT READS IS OF BULK AT MOST 1048576: true; the input reads as it did. -/
def quotPowsUptoRow : OpenClaim := { program := "ytmenhfnakcdnnaa", sum := "9d7cf918ba37307981c41225ce4b05eb6ca33e2c8505c1b57f5211e77771fa1d", func := "plumb/plumblaw03.QuotPows", spec := "quotPows", apart := false, narrowed := true }
def QuotPowsUptoSaid : Prop := quotPowsUptoRow.holds Try.pinned (OpenSpec.upto quotPowsSpec)

/-- 'plumblaw03.QuotDivs', WHERE WHAT IT READS IS OF BULK AT MOST 1048576: true; the input reads as it did. -/
def quotDivsUptoRow : OpenClaim := { program := "ytmenhfnakcdnnaa", sum := "9d7cf918ba37307981c41225ce4b05eb6ca33e2c8505c1b57f5211e77771fa1d", func := "plumb/plumblaw03.QuotDivs", spec := "quotDivs", apart := false, narrowed := true }
def QuotDivsUptoSaid : Prop := quotDivsUptoRow.holds Try.pinned (OpenSpec.upto quotDivsSpec)

/-- 'plumblaw03.QuotFresh', WHERE WHAT IT READS IS OF BULK AT MOST 1048576: true; the input reads as it did. -/
def quotFreshUptoRow : OpenClaim := { program := "ytmenhfnakcdnnaa", sum := "9d7cf918ba37307981c41225ce4b05eb6ca33e2c8505c1b57f5211e77771fa1d", func := "plumb/plumblaw03.QuotFresh", spec := "quotFresh", recurses := true, apart := false, narrowed := true }
def QuotFreshUptoSaid : Prop := quotFreshUptoRow.holds Try.pinned (OpenSpec.upto quotFreshSpec)

/-- 'plumblaw03.QuotGcds', WHERE WHAT IT READS IS OF BULK AT MOST 1048576: true; the input reads as it did. -/
def quotGcdsUptoRow : OpenClaim := { program := "ytmenhfnakcdnnaa", sum := "9d7cf918ba37307981c41225ce4b05eb6ca33e2c8505c1b57f5211e77771fa1d", func := "plumb/plumblaw03.QuotGcds", spec := "quotGcds", recurses := true, apart := false, narrowed := true }
def QuotGcdsUptoSaid : Prop := quotGcdsUptoRow.holds Try.pinned (OpenSpec.upto quotGcdsSpec)

end Rows
end Go.Proofs.Ytmenhfnakcdnnaa
