/-
  No cell of these rows narrows 'for every input' (looked for: loops, veiled, ifaces, maps, wideKeys, modest, calm, conditions, laid).
  DERIVED. THE GIVEN ROWS OF THIS SEAT. 6 by the template 'for every input the law returns true; each argument reads behind the call as it read before'; 0 by the template 'total and deterministic' (their statements: YtopcdpeepchgfabTotals.lean).
  GIVEN WITH THE SEED: the statements are not yours to turn. If you find one false, say at which input.
  Laid BY PROGRAM, IN A SANDBOX (cutbox-rows.mjs): the forced cells as the released guide's own fill.sh prints them over the translation aab8d59185d8dda7… (all of the seat's roots in one cut). By AI agents, Wed Nov 11 2026. No macro, syntax, notation, axiom, sorry.
-/
import Derived.Test.YtopcdpeepchgfabChecked
import GoSem.Claim
import GoSem.ClaimJoined
import GoSem.ClaimMapViews
import Derived.JoinedTies
import Derived.KernelRfl
namespace Go.Proofs.Ytopcdpeepchgfab
/- THE CELL 'sum', in the pinned program and in every row, IS THE sha256 OF THE DUMP (.gsa) THAT YtopcdpeepchgfabProg.lean LOADS. Nothing in Lean hashes anything: it is a label: what it is worth is what the hold of that sum in a sandbox is worth. -/
noncomputable def Try.pinned : Pinned := { name := "ytopcdpeepchgfab", sum := "aab8d59185d8dda73269ab4929ed29724798da47ce4e75417bcd41e74efdee92", checked := Try.checked }
namespace Rows
def none {H : Type} : Left H := { results := [], args := [] }

/-- 'plumblaw03.QuotSquares': WHATEVER THE INPUT: true; the input reads as it did. -/
def quotSquaresSpec : ChangeSpec := { name := "quotSquares", fn := fun _ => fun
  | [d] => { results := [.lit (.bool true)], args := [d] }
  | _ => none }
def quotSquaresRow : OpenClaim := { program := "ytopcdpeepchgfab", sum := "aab8d59185d8dda73269ab4929ed29724798da47ce4e75417bcd41e74efdee92", func := "plumb/plumblaw03.QuotSquares", spec := "quotSquares", recurses := true, apart := false }
def QuotSquaresSaid : Prop := quotSquaresRow.holds Try.pinned (OpenSpec.ofChange quotSquaresSpec)

/-- ITS FALSE NEIGHBOUR: 'it returns false'. Refute it at one input. -/
def quotSquaresWrong : ChangeSpec := { name := "quotSquares", fn := fun _ => fun
  | [d] => { results := [.lit (.bool false)], args := [d] }
  | _ => none }
def QuotSquaresWrongFalsely : Prop := quotSquaresRow.holds Try.pinned (OpenSpec.ofChange quotSquaresWrong)

/-- 'plumblaw03.QuotCommon': WHATEVER THE INPUT: true; the input reads as it did. -/
def quotCommonSpec : ChangeSpec := { name := "quotCommon", fn := fun _ => fun
  | [d1, d2, d3] => { results := [.lit (.bool true)], args := [d1, d2, d3] }
  | _ => none }
def quotCommonRow : OpenClaim := { program := "ytopcdpeepchgfab", sum := "aab8d59185d8dda73269ab4929ed29724798da47ce4e75417bcd41e74efdee92", func := "plumb/plumblaw03.QuotCommon", spec := "quotCommon", recurses := true, apart := false }
def QuotCommonSaid : Prop := quotCommonRow.holds Try.pinned (OpenSpec.ofChange quotCommonSpec)

/-- ITS FALSE NEIGHBOUR: 'it returns false'. Refute it at one input. -/
def quotCommonWrong : ChangeSpec := { name := "quotCommon", fn := fun _ => fun
  | [d1, d2, d3] => { results := [.lit (.bool false)], args := [d1, d2, d3] }
  | _ => none }
def QuotCommonWrongFalsely : Prop := quotCommonRow.holds Try.pinned (OpenSpec.ofChange quotCommonWrong)

/-- 'plumblaw03.QuotGcds': WHATEVER THE INPUT: true; the input reads as it did. -/
def quotGcdsSpec : ChangeSpec := { name := "quotGcds", fn := fun _ => fun
  | [d1, d2] => { results := [.lit (.bool true)], args := [d1, d2] }
  | _ => none }
def quotGcdsRow : OpenClaim := { program := "ytopcdpeepchgfab", sum := "aab8d59185d8dda73269ab4929ed29724798da47ce4e75417bcd41e74efdee92", func := "plumb/plumblaw03.QuotGcds", spec := "quotGcds", recurses := true, apart := false }
def QuotGcdsSaid : Prop := quotGcdsRow.holds Try.pinned (OpenSpec.ofChange quotGcdsSpec)

/-- ITS FALSE NEIGHBOUR: 'it returns false'. Refute it at one input. -/
def quotGcdsWrong : ChangeSpec := { name := "quotGcds", fn := fun _ => fun
  | [d1, d2] => { results := [.lit (.bool false)], args := [d1, d2] }
  | _ => none }
def QuotGcdsWrongFalsely : Prop := quotGcdsRow.holds Try.pinned (OpenSpec.ofChange quotGcdsWrong)

/-- 'plumblaw05.RatLowest': WHATEVER THE INPUT: true; the input reads as it did. -/
def ratLowestSpec : ChangeSpec := { name := "ratLowest", fn := fun _ => fun
  | [d1, d2, d3] => { results := [.lit (.bool true)], args := [d1, d2, d3] }
  | _ => none }
def ratLowestRow : OpenClaim := { program := "ytopcdpeepchgfab", sum := "aab8d59185d8dda73269ab4929ed29724798da47ce4e75417bcd41e74efdee92", func := "plumb/plumblaw05.RatLowest", spec := "ratLowest", unfollowed := true, recurses := true, apart := false }
def RatLowestSaid : Prop := ratLowestRow.holds Try.pinned (OpenSpec.ofChange ratLowestSpec)

/-- ITS FALSE NEIGHBOUR: 'it returns false'. Refute it at one input. -/
def ratLowestWrong : ChangeSpec := { name := "ratLowest", fn := fun _ => fun
  | [d1, d2, d3] => { results := [.lit (.bool false)], args := [d1, d2, d3] }
  | _ => none }
def RatLowestWrongFalsely : Prop := ratLowestRow.holds Try.pinned (OpenSpec.ofChange ratLowestWrong)

/-- 'plumblaw05.RatHuge': WHATEVER THE INPUT: true; the input reads as it did. -/
def ratHugeSpec : ChangeSpec := { name := "ratHuge", fn := fun _ => fun
  | [d1, d2] => { results := [.lit (.bool true)], args := [d1, d2] }
  | _ => none }
def ratHugeRow : OpenClaim := { program := "ytopcdpeepchgfab", sum := "aab8d59185d8dda73269ab4929ed29724798da47ce4e75417bcd41e74efdee92", func := "plumb/plumblaw05.RatHuge", spec := "ratHuge", unfollowed := true, recurses := true, apart := false }
def RatHugeSaid : Prop := ratHugeRow.holds Try.pinned (OpenSpec.ofChange ratHugeSpec)

/-- ITS FALSE NEIGHBOUR: 'it returns false'. Refute it at one input. -/
def ratHugeWrong : ChangeSpec := { name := "ratHuge", fn := fun _ => fun
  | [d1, d2] => { results := [.lit (.bool false)], args := [d1, d2] }
  | _ => none }
def RatHugeWrongFalsely : Prop := ratHugeRow.holds Try.pinned (OpenSpec.ofChange ratHugeWrong)

/-- 'plumblaw05.RatFloor': WHATEVER THE INPUT: true; the input reads as it did. -/
def ratFloorSpec : ChangeSpec := { name := "ratFloor", fn := fun _ => fun
  | [d] => { results := [.lit (.bool true)], args := [d] }
  | _ => none }
def ratFloorRow : OpenClaim := { program := "ytopcdpeepchgfab", sum := "aab8d59185d8dda73269ab4929ed29724798da47ce4e75417bcd41e74efdee92", func := "plumb/plumblaw05.RatFloor", spec := "ratFloor", unfollowed := true, recurses := true, apart := false }
def RatFloorSaid : Prop := ratFloorRow.holds Try.pinned (OpenSpec.ofChange ratFloorSpec)

/-- ITS FALSE NEIGHBOUR: 'it returns false'. Refute it at one input. -/
def ratFloorWrong : ChangeSpec := { name := "ratFloor", fn := fun _ => fun
  | [d] => { results := [.lit (.bool false)], args := [d] }
  | _ => none }
def RatFloorWrongFalsely : Prop := ratFloorRow.holds Try.pinned (OpenSpec.ofChange ratFloorWrong)

/- THE SECOND FORM. 'bulk': how many values and letters a reading holds, each counted each time it is reached (what is shared counts as often as it is met; a slice's spare places count too). A statement '..UptoSaid' is the law's where the arguments, and the package variables that the reading takes, are together of bulk at most 1048576: NARROWER than '..Said'. Prove '..Said' where nothing that the law and all that it calls make is longer than what came in: it says more and counts as full. Else prove '..UptoSaid'. A law counts once. -/
mutual
def uptoBulk {H : Type} : DataW H → Nat
  | .lit (.string bytes) => bytes.length + 1
  | .lit _ => 1
  | .nil => 1
  | .ptr d => uptoBulk d + 1
  | .slice elems spare => uptoBulkAll elems + uptoBulkAll spare + 1
  | .agg parts => uptoBulkAll parts + 1
  | .iface _ d => uptoBulk d + 1
  | .map entries => uptoBulkEntries entries + 1
  | .held _ => 1
def uptoBulkAll {H : Type} : List (DataW H) → Nat
  | [] => 0
  | d :: r => uptoBulk d + uptoBulkAll r
def uptoBulkEntries {H : Type} : List (Lit × DataW H) → Nat
  | [] => 0
  | x :: r => uptoBulkEntry x + uptoBulkEntries r
def uptoBulkEntry {H : Type} : Lit × DataW H → Nat
  | (.string bytes, d) => bytes.length + uptoBulk d + 1
  | (_, d) => uptoBulk d + 1
 end
def uptoSmall : (H : Type) → List (DataW H) → Bool := fun _ ds => decide (uptoBulkAll ds ≤ 1048576)
def OpenSpec.upto (s : _root_.Go.ChangeSpec) : _root_.Go.OpenSpec := { _root_.Go.OpenSpec.ofChange s with cond := some uptoSmall }

/-- 'plumblaw03.QuotSquares', WHERE WHAT IT READS IS OF BULK AT MOST 1048576: true; the input reads as it did. -/
def quotSquaresUptoRow : OpenClaim := { program := "ytopcdpeepchgfab", sum := "aab8d59185d8dda73269ab4929ed29724798da47ce4e75417bcd41e74efdee92", func := "plumb/plumblaw03.QuotSquares", spec := "quotSquares", recurses := true, apart := false, narrowed := true }
def QuotSquaresUptoSaid : Prop := quotSquaresUptoRow.holds Try.pinned (OpenSpec.upto quotSquaresSpec)

/-- 'plumblaw03.QuotCommon', WHERE WHAT IT READS IS OF BULK AT MOST 1048576: true; the input reads as it did. -/
def quotCommonUptoRow : OpenClaim := { program := "ytopcdpeepchgfab", sum := "aab8d59185d8dda73269ab4929ed29724798da47ce4e75417bcd41e74efdee92", func := "plumb/plumblaw03.QuotCommon", spec := "quotCommon", recurses := true, apart := false, narrowed := true }
def QuotCommonUptoSaid : Prop := quotCommonUptoRow.holds Try.pinned (OpenSpec.upto quotCommonSpec)

/-- 'plumblaw03.QuotGcds', WHERE WHAT IT READS IS OF BULK AT MOST 1048576: true; the input reads as it did. -/
def quotGcdsUptoRow : OpenClaim := { program := "ytopcdpeepchgfab", sum := "aab8d59185d8dda73269ab4929ed29724798da47ce4e75417bcd41e74efdee92", func := "plumb/plumblaw03.QuotGcds", spec := "quotGcds", recurses := true, apart := false, narrowed := true }
def QuotGcdsUptoSaid : Prop := quotGcdsUptoRow.holds Try.pinned (OpenSpec.upto quotGcdsSpec)

/-- 'plumblaw05.RatLowest', WHERE WHAT IT READS IS OF BULK AT MOST 1048576: true; the input reads as it did. -/
def ratLowestUptoRow : OpenClaim := { program := "ytopcdpeepchgfab", sum := "aab8d59185d8dda73269ab4929ed29724798da47ce4e75417bcd41e74efdee92", func := "plumb/plumblaw05.RatLowest", spec := "ratLowest", unfollowed := true, recurses := true, apart := false, narrowed := true }
def RatLowestUptoSaid : Prop := ratLowestUptoRow.holds Try.pinned (OpenSpec.upto ratLowestSpec)

/-- 'plumblaw05.RatHuge', WHERE WHAT IT READS IS OF BULK AT MOST 1048576: true; the input reads as it did. -/
def ratHugeUptoRow : OpenClaim := { program := "ytopcdpeepchgfab", sum := "aab8d59185d8dda73269ab4929ed29724798da47ce4e75417bcd41e74efdee92", func := "plumb/plumblaw05.RatHuge", spec := "ratHuge", unfollowed := true, recurses := true, apart := false, narrowed := true }
def RatHugeUptoSaid : Prop := ratHugeUptoRow.holds Try.pinned (OpenSpec.upto ratHugeSpec)

/-- 'plumblaw05.RatFloor', WHERE WHAT IT READS IS OF BULK AT MOST 1048576: true; the input reads as it did. -/
def ratFloorUptoRow : OpenClaim := { program := "ytopcdpeepchgfab", sum := "aab8d59185d8dda73269ab4929ed29724798da47ce4e75417bcd41e74efdee92", func := "plumb/plumblaw05.RatFloor", spec := "ratFloor", unfollowed := true, recurses := true, apart := false, narrowed := true }
def RatFloorUptoSaid : Prop := ratFloorUptoRow.holds Try.pinned (OpenSpec.upto ratFloorSpec)

end Rows
end Go.Proofs.Ytopcdpeepchgfab
