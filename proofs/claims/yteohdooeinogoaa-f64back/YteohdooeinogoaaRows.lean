/-
  No cell of these rows narrows 'for every input' (looked for: loops, veiled, ifaces, maps, wideKeys, modest, calm, conditions, laid).
  DERIVED. THE GIVEN ROWS OF THIS SEAT. 3 by the template 'for every input the law returns true; each argument reads behind the call as it read before'; 0 by the template 'total and deterministic' (their statements: YteohdooeinogoaaTotals.lean).
  GIVEN WITH THE SEED: the statements are not yours to turn. If you find one false, say at which input.
  Laid BY PROGRAM, IN A SANDBOX (cutbox-rows.mjs): the forced cells as the released guide's own fill.sh prints them over the translation 27c5c7fca28f8db2… (all of the seat's roots in one cut). By AI agents, Wed Nov 11 2026. No macro, syntax, notation, axiom, sorry.
-/
import Derived.Test.YteohdooeinogoaaChecked
import GoSem.Claim
import GoSem.ClaimJoined
import GoSem.ClaimMapViews
import Derived.JoinedTies
import Derived.KernelRfl
namespace Go.Proofs.Yteohdooeinogoaa
/- THE CELL 'sum', in the pinned program and in every row, IS THE sha256 OF THE DUMP (.gsa) THAT YteohdooeinogoaaProg.lean LOADS. Nothing in Lean hashes anything: it is a label: what it is worth is what the hold of that sum in a sandbox is worth. -/
noncomputable def Try.pinned : Pinned := { name := "yteohdooeinogoaa", sum := "27c5c7fca28f8db277526af9568237b1c968dfe9a2f6b31f148bef5ea867ec41", checked := Try.checked }
namespace Rows
def none {H : Type} : Left H := { results := [], args := [] }

/-- 'plumblaw03.QuotFresh': WHATEVER THE INPUT: true; the input reads as it did. -/
def quotFreshSpec : ChangeSpec := { name := "quotFresh", fn := fun _ => fun
  | [d1, d2] => { results := [.lit (.bool true)], args := [d1, d2] }
  | _ => none }
def quotFreshRow : OpenClaim := { program := "yteohdooeinogoaa", sum := "27c5c7fca28f8db277526af9568237b1c968dfe9a2f6b31f148bef5ea867ec41", func := "plumb/plumblaw03.QuotFresh", spec := "quotFresh", recurses := true, apart := false }
def QuotFreshSaid : Prop := quotFreshRow.holds Try.pinned (OpenSpec.ofChange quotFreshSpec)

/-- ITS FALSE NEIGHBOUR: 'it returns false'. Refute it at one input. -/
def quotFreshWrong : ChangeSpec := { name := "quotFresh", fn := fun _ => fun
  | [d1, d2] => { results := [.lit (.bool false)], args := [d1, d2] }
  | _ => none }
def QuotFreshWrongFalsely : Prop := quotFreshRow.holds Try.pinned (OpenSpec.ofChange quotFreshWrong)

/-- 'plumblaw06.F64Joins': WHATEVER THE INPUT: true; the input reads as it did. -/
def f64JoinsSpec : ChangeSpec := { name := "f64Joins", fn := fun _ => fun
  | [d1, d2, d3] => { results := [.lit (.bool true)], args := [d1, d2, d3] }
  | _ => none }
def f64JoinsRow : OpenClaim := { program := "yteohdooeinogoaa", sum := "27c5c7fca28f8db277526af9568237b1c968dfe9a2f6b31f148bef5ea867ec41", func := "plumb/plumblaw06.F64Joins", spec := "f64Joins", apart := false }
def F64JoinsSaid : Prop := f64JoinsRow.holds Try.pinned (OpenSpec.ofChange f64JoinsSpec)

/-- ITS FALSE NEIGHBOUR: 'it returns false'. Refute it at one input. -/
def f64JoinsWrong : ChangeSpec := { name := "f64Joins", fn := fun _ => fun
  | [d1, d2, d3] => { results := [.lit (.bool false)], args := [d1, d2, d3] }
  | _ => none }
def F64JoinsWrongFalsely : Prop := f64JoinsRow.holds Try.pinned (OpenSpec.ofChange f64JoinsWrong)

/-- 'plumblaw06.F64Back': WHATEVER THE INPUT: true; the input reads as it did. -/
def f64BackSpec : ChangeSpec := { name := "f64Back", fn := fun _ => fun
  | [d1, d2] => { results := [.lit (.bool true)], args := [d1, d2] }
  | _ => none }
def f64BackRow : OpenClaim := { program := "yteohdooeinogoaa", sum := "27c5c7fca28f8db277526af9568237b1c968dfe9a2f6b31f148bef5ea867ec41", func := "plumb/plumblaw06.F64Back", spec := "f64Back", apart := false }
def F64BackSaid : Prop := f64BackRow.holds Try.pinned (OpenSpec.ofChange f64BackSpec)

/-- ITS FALSE NEIGHBOUR: 'it returns false'. Refute it at one input. -/
def f64BackWrong : ChangeSpec := { name := "f64Back", fn := fun _ => fun
  | [d1, d2] => { results := [.lit (.bool false)], args := [d1, d2] }
  | _ => none }
def F64BackWrongFalsely : Prop := f64BackRow.holds Try.pinned (OpenSpec.ofChange f64BackWrong)

/- THE SECOND FORM. 'bulk': how many values and letters a reading holds, each counted each time it is reached (what is shared counts as often as it is met; a slice's spare places count too). A statement '..UptoSaid' is the law's where the arguments, and the package variables that the reading takes, are together of bulk at most 1048576: NARROWER than '..Said'. Prove '..Said' where nothing that the law and all that it calls make is longer than what came in: it says more and counts as full. Else prove '..UptoSaid'. A law counts once. -/
mutual
def uptoBulk {H : Type} : DataW H → Nat
  | .lit (.string bytes) => bytes.length + 1
  | .lit _ => 1
  | .nil => 1
  | .ptr d => uptoBulk d + 1
  | .slice elems spare => uptoBulkAll elems + uptoBulkAll spare + 1
  | .agg parts => uptoBulkAll parts + 1
  | .iface _ d => uptoBulk d + 1
  | .map entries => uptoBulkEntries entries + 1
  | .held _ => 1
def uptoBulkAll {H : Type} : List (DataW H) → Nat
  | [] => 0
  | d :: r => uptoBulk d + uptoBulkAll r
def uptoBulkEntries {H : Type} : List (Lit × DataW H) → Nat
  | [] => 0
  | x :: r => uptoBulkEntry x + uptoBulkEntries r
def uptoBulkEntry {H : Type} : Lit × DataW H → Nat
  | (.string bytes, d) => bytes.length + uptoBulk d + 1
  | (_, d) => uptoBulk d + 1
 end
def uptoSmall : (H : Type) → List (DataW H) → Bool := fun _ ds => decide (uptoBulkAll ds ≤ 1048576)
def OpenSpec.upto (s : _root_.Go.ChangeSpec) : _root_.Go.OpenSpec := { _root_.Go.OpenSpec.ofChange s with cond := some uptoSmall }

/-- 'plumblaw03.QuotFresh', WHERE WHAT IT READS IS OF BULK AT MOST 1048576: true; the input reads as it did. -/
def quotFreshUptoRow : OpenClaim := { program := "yteohdooeinogoaa", sum := "27c5c7fca28f8db277526af9568237b1c968dfe9a2f6b31f148bef5ea867ec41", func := "plumb/plumblaw03.QuotFresh", spec := "quotFresh", recurses := true, apart := false, narrowed := true }
def QuotFreshUptoSaid : Prop := quotFreshUptoRow.holds Try.pinned (OpenSpec.upto quotFreshSpec)

/-- 'plumblaw06.F64Joins', WHERE WHAT IT READS IS OF BULK AT MOST 1048576: true; the input reads as it did. -/
def f64JoinsUptoRow : OpenClaim := { program := "yteohdooeinogoaa", sum := "27c5c7fca28f8db277526af9568237b1c968dfe9a2f6b31f148bef5ea867ec41", func := "plumb/plumblaw06.F64Joins", spec := "f64Joins", apart := false, narrowed := true }
def F64JoinsUptoSaid : Prop := f64JoinsUptoRow.holds Try.pinned (OpenSpec.upto f64JoinsSpec)

/-- 'plumblaw06.F64Back', WHERE WHAT IT READS IS OF BULK AT MOST 1048576: true; the input reads as it did. -/
def f64BackUptoRow : OpenClaim := { program := "yteohdooeinogoaa", sum := "27c5c7fca28f8db277526af9568237b1c968dfe9a2f6b31f148bef5ea867ec41", func := "plumb/plumblaw06.F64Back", spec := "f64Back", apart := false, narrowed := true }
def F64BackUptoSaid : Prop := f64BackUptoRow.holds Try.pinned (OpenSpec.upto f64BackSpec)

end Rows
end Go.Proofs.Yteohdooeinogoaa
