/-
  No cell of these rows narrows 'for every input' (looked for: loops, veiled, ifaces, maps, wideKeys, modest, calm, conditions, laid).
  DERIVED. THE GIVEN ROWS OF THIS SEAT. 6 by the template 'for every input the law returns true; each argument reads behind the call as it read before'; 0 by the template 'total and deterministic' (their statements: YtailnlpooalenaaTotals.lean).
  GIVEN WITH THE SEED: the statements are not yours to turn. If you find one false, say at which input.
  Laid BY PROGRAM, IN A SANDBOX (cutbox-rows.mjs): the forced cells as the released guide's own fill.sh prints them over the translation 4e9d0223043e1225… (all of the seat's roots in one cut). By AI agents, Wed Nov 11 2026. No macro, syntax, notation, axiom, sorry.
-/
import Derived.Test.YtailnlpooalenaaChecked
import GoSem.Claim
import GoSem.ClaimJoined
import GoSem.ClaimMapViews
import Derived.JoinedTies
import Derived.KernelRfl
namespace Go.Proofs.Ytailnlpooalenaa
/- THE CELL 'sum', in the pinned program and in every row, IS THE sha256 OF THE DUMP (.gsa) THAT YtailnlpooalenaaProg.lean LOADS. Nothing in Lean hashes anything: it is a label: what it is worth is what the hold of that sum in a sandbox is worth. -/
noncomputable def Try.pinned : Pinned := { name := "ytailnlpooalenaa", sum := "4e9d0223043e1225ea23b4f39d38906f908218f011fe9a76747a0687b5ef84e1", checked := Try.checked }
namespace Rows
def none {H : Type} : Left H := { results := [], args := [] }

/-- 'plumblaw08.PowerRises': WHATEVER THE INPUT: true; the input reads as it did. -/
def powerRisesSpec : ChangeSpec := { name := "powerRises", fn := fun _ => fun
  | [d] => { results := [.lit (.bool true)], args := [d] }
  | _ => none }
def powerRisesRow : OpenClaim := { program := "ytailnlpooalenaa", sum := "4e9d0223043e1225ea23b4f39d38906f908218f011fe9a76747a0687b5ef84e1", func := "plumb/plumblaw08.PowerRises", spec := "powerRises", unfollowed := true, recurses := true, apart := false }
def PowerRisesSaid : Prop := powerRisesRow.holds Try.pinned (OpenSpec.ofChange powerRisesSpec)

/-- ITS FALSE NEIGHBOUR: 'it returns false'. Refute it at one input. -/
def powerRisesWrong : ChangeSpec := { name := "powerRises", fn := fun _ => fun
  | [d] => { results := [.lit (.bool false)], args := [d] }
  | _ => none }
def PowerRisesWrongFalsely : Prop := powerRisesRow.holds Try.pinned (OpenSpec.ofChange powerRisesWrong)

/-- 'plumblaw08.PowerProducts': WHATEVER THE INPUT: true; the input reads as it did. -/
def powerProductsSpec : ChangeSpec := { name := "powerProducts", fn := fun _ => fun
  | [d1, d2] => { results := [.lit (.bool true)], args := [d1, d2] }
  | _ => none }
def powerProductsRow : OpenClaim := { program := "ytailnlpooalenaa", sum := "4e9d0223043e1225ea23b4f39d38906f908218f011fe9a76747a0687b5ef84e1", func := "plumb/plumblaw08.PowerProducts", spec := "powerProducts", unfollowed := true, recurses := true, apart := false }
def PowerProductsSaid : Prop := powerProductsRow.holds Try.pinned (OpenSpec.ofChange powerProductsSpec)

/-- ITS FALSE NEIGHBOUR: 'it returns false'. Refute it at one input. -/
def powerProductsWrong : ChangeSpec := { name := "powerProducts", fn := fun _ => fun
  | [d1, d2] => { results := [.lit (.bool false)], args := [d1, d2] }
  | _ => none }
def PowerProductsWrongFalsely : Prop := powerProductsRow.holds Try.pinned (OpenSpec.ofChange powerProductsWrong)

/-- 'plumblaw08.PowerBounds': WHATEVER THE INPUT: true; the input reads as it did. -/
def powerBoundsSpec : ChangeSpec := { name := "powerBounds", fn := fun _ => fun
  | [d] => { results := [.lit (.bool true)], args := [d] }
  | _ => none }
def powerBoundsRow : OpenClaim := { program := "ytailnlpooalenaa", sum := "4e9d0223043e1225ea23b4f39d38906f908218f011fe9a76747a0687b5ef84e1", func := "plumb/plumblaw08.PowerBounds", spec := "powerBounds", unfollowed := true, recurses := true, apart := false }
def PowerBoundsSaid : Prop := powerBoundsRow.holds Try.pinned (OpenSpec.ofChange powerBoundsSpec)

/-- ITS FALSE NEIGHBOUR: 'it returns false'. Refute it at one input. -/
def powerBoundsWrong : ChangeSpec := { name := "powerBounds", fn := fun _ => fun
  | [d] => { results := [.lit (.bool false)], args := [d] }
  | _ => none }
def PowerBoundsWrongFalsely : Prop := powerBoundsRow.holds Try.pinned (OpenSpec.ofChange powerBoundsWrong)

/-- 'plumblaw08.PowerStays': WHATEVER THE INPUT: true; the input reads as it did. -/
def powerStaysSpec : ChangeSpec := { name := "powerStays", fn := fun _ => fun
  | [d1, d2] => { results := [.lit (.bool true)], args := [d1, d2] }
  | _ => none }
def powerStaysRow : OpenClaim := { program := "ytailnlpooalenaa", sum := "4e9d0223043e1225ea23b4f39d38906f908218f011fe9a76747a0687b5ef84e1", func := "plumb/plumblaw08.PowerStays", spec := "powerStays", unfollowed := true, recurses := true, apart := false }
def PowerStaysSaid : Prop := powerStaysRow.holds Try.pinned (OpenSpec.ofChange powerStaysSpec)

/-- ITS FALSE NEIGHBOUR: 'it returns false'. Refute it at one input. -/
def powerStaysWrong : ChangeSpec := { name := "powerStays", fn := fun _ => fun
  | [d1, d2] => { results := [.lit (.bool false)], args := [d1, d2] }
  | _ => none }
def PowerStaysWrongFalsely : Prop := powerStaysRow.holds Try.pinned (OpenSpec.ofChange powerStaysWrong)

/-- 'plumblaw08.PowerTens': WHATEVER THE INPUT: true; the input reads as it did. -/
def powerTensSpec : ChangeSpec := { name := "powerTens", fn := fun _ => fun
  | [d] => { results := [.lit (.bool true)], args := [d] }
  | _ => none }
def powerTensRow : OpenClaim := { program := "ytailnlpooalenaa", sum := "4e9d0223043e1225ea23b4f39d38906f908218f011fe9a76747a0687b5ef84e1", func := "plumb/plumblaw08.PowerTens", spec := "powerTens", unfollowed := true, recurses := true, apart := false }
def PowerTensSaid : Prop := powerTensRow.holds Try.pinned (OpenSpec.ofChange powerTensSpec)

/-- ITS FALSE NEIGHBOUR: 'it returns false'. Refute it at one input. -/
def powerTensWrong : ChangeSpec := { name := "powerTens", fn := fun _ => fun
  | [d] => { results := [.lit (.bool false)], args := [d] }
  | _ => none }
def PowerTensWrongFalsely : Prop := powerTensRow.holds Try.pinned (OpenSpec.ofChange powerTensWrong)

/-- 'plumblaw08.PowerFives': WHATEVER THE INPUT: true; the input reads as it did. -/
def powerFivesSpec : ChangeSpec := { name := "powerFives", fn := fun _ => fun
  | [d] => { results := [.lit (.bool true)], args := [d] }
  | _ => none }
def powerFivesRow : OpenClaim := { program := "ytailnlpooalenaa", sum := "4e9d0223043e1225ea23b4f39d38906f908218f011fe9a76747a0687b5ef84e1", func := "plumb/plumblaw08.PowerFives", spec := "powerFives", unfollowed := true, recurses := true, apart := false }
def PowerFivesSaid : Prop := powerFivesRow.holds Try.pinned (OpenSpec.ofChange powerFivesSpec)

/-- ITS FALSE NEIGHBOUR: 'it returns false'. Refute it at one input. -/
def powerFivesWrong : ChangeSpec := { name := "powerFives", fn := fun _ => fun
  | [d] => { results := [.lit (.bool false)], args := [d] }
  | _ => none }
def PowerFivesWrongFalsely : Prop := powerFivesRow.holds Try.pinned (OpenSpec.ofChange powerFivesWrong)

/- THE SECOND FORM. 'bulk': how many values and letters a reading holds, each counted each time it is reached (what is shared counts as often as it is met; a slice's spare places count too). A statement '..UptoSaid' is the law's where the arguments, and the package variables that the reading takes, are together of bulk at most 1048576: NARROWER than '..Said'. Prove '..Said' where nothing that the law and all that it calls make is longer than what came in: it says more and counts as full. Else prove '..UptoSaid'. A law counts once. -/
mutual
def uptoBulk {H : Type} : DataW H → Nat
  | .lit (.string bytes) => bytes.length + 1
  | .lit _ => 1
  | .nil => 1
  | .ptr d => uptoBulk d + 1
  | .slice elems spare => uptoBulkAll elems + uptoBulkAll spare + 1
  | .agg parts => uptoBulkAll parts + 1
  | .iface _ d => uptoBulk d + 1
  | .map entries => uptoBulkEntries entries + 1
  | .held _ => 1
def uptoBulkAll {H : Type} : List (DataW H) → Nat
  | [] => 0
  | d :: r => uptoBulk d + uptoBulkAll r
def uptoBulkEntries {H : Type} : List (Lit × DataW H) → Nat
  | [] => 0
  | x :: r => uptoBulkEntry x + uptoBulkEntries r
def uptoBulkEntry {H : Type} : Lit × DataW H → Nat
  | (.string bytes, d) => bytes.length + uptoBulk d + 1
  | (_, d) => uptoBulk d + 1
 end
def uptoSmall : (H : Type) → List (DataW H) → Bool := fun _ ds => decide (uptoBulkAll ds ≤ 1048576)
def OpenSpec.upto (s : _root_.Go.ChangeSpec) : _root_.Go.OpenSpec := { _root_.Go.OpenSpec.ofChange s with cond := some uptoSmall }

/-- 'plumblaw08.PowerRises', WHERE WHAT IT READS IS OF BULK AT MOST 1048576: true; the input reads as it did. -/
def powerRisesUptoRow : OpenClaim := { program := "ytailnlpooalenaa", sum := "4e9d0223043e1225ea23b4f39d38906f908218f011fe9a76747a0687b5ef84e1", func := "plumb/plumblaw08.PowerRises", spec := "powerRises", unfollowed := true, recurses := true, apart := false, narrowed := true }
def PowerRisesUptoSaid : Prop := powerRisesUptoRow.holds Try.pinned (OpenSpec.upto powerRisesSpec)

/-- 'plumblaw08.PowerProducts', WHERE WHAT IT READS IS OF BULK AT MOST 1048576: true; the input reads as it did. -/
def powerProductsUptoRow : OpenClaim := { program := "ytailnlpooalenaa", sum := "4e9d0223043e1225ea23b4f39d38906f908218f011fe9a76747a0687b5ef84e1", func := "plumb/plumblaw08.PowerProducts", spec := "powerProducts", unfollowed := true, recurses := true, apart := false, narrowed := true }
def PowerProductsUptoSaid : Prop := powerProductsUptoRow.holds Try.pinned (OpenSpec.upto powerProductsSpec)

/-- 'plumblaw08.PowerBounds', WHERE WHAT IT READS IS OF BULK AT MOST 1048576: true; the input reads as it did. -/
def powerBoundsUptoRow : OpenClaim := { program := "ytailnlpooalenaa", sum := "4e9d0223043e1225ea23b4f39d38906f908218f011fe9a76747a0687b5ef84e1", func := "plumb/plumblaw08.PowerBounds", spec := "powerBounds", unfollowed := true, recurses := true, apart := false, narrowed := true }
def PowerBoundsUptoSaid : Prop := powerBoundsUptoRow.holds Try.pinned (OpenSpec.upto powerBoundsSpec)

/-- 'plumblaw08.PowerStays', WHERE WHAT IT READS IS OF BULK AT MOST 1048576: true; the input reads as it did. -/
def powerStaysUptoRow : OpenClaim := { program := "ytailnlpooalenaa", sum := "4e9d0223043e1225ea23b4f39d38906f908218f011fe9a76747a0687b5ef84e1", func := "plumb/plumblaw08.PowerStays", spec := "powerStays", unfollowed := true, recurses := true, apart := false, narrowed := true }
def PowerStaysUptoSaid : Prop := powerStaysUptoRow.holds Try.pinned (OpenSpec.upto powerStaysSpec)

/-- 'plumblaw08.PowerTens', WHERE WHAT IT READS IS OF BULK AT MOST 1048576: true; the input reads as it did. -/
def powerTensUptoRow : OpenClaim := { program := "ytailnlpooalenaa", sum := "4e9d0223043e1225ea23b4f39d38906f908218f011fe9a76747a0687b5ef84e1", func := "plumb/plumblaw08.PowerTens", spec := "powerTens", unfollowed := true, recurses := true, apart := false, narrowed := true }
def PowerTensUptoSaid : Prop := powerTensUptoRow.holds Try.pinned (OpenSpec.upto powerTensSpec)

/-- 'plumblaw08.PowerFives', WHERE WHAT IT READS IS OF BULK AT MOST 1048576: true; the input reads as it did. -/
def powerFivesUptoRow : OpenClaim := { program := "ytailnlpooalenaa", sum := "4e9d0223043e1225ea23b4f39d38906f908218f011fe9a76747a0687b5ef84e1", func := "plumb/plumblaw08.PowerFives", spec := "powerFives", unfollowed := true, recurses := true, apart := false, narrowed := true }
def PowerFivesUptoSaid : Prop := powerFivesUptoRow.holds Try.pinned (OpenSpec.upto powerFivesSpec)

end Rows
end Go.Proofs.Ytailnlpooalenaa
