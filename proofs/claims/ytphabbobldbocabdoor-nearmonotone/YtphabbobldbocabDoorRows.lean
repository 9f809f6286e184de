/-
  NARROWER THAN 'FOR EVERY INPUT', by the rows' own cells (each row's printed sentence says how): NearMonotone: laid · NearModes: laid · NearNearest: laid.
  DERIVED. THE GIVEN ROWS OF THIS SEAT. 3 by the template 'for every input the law returns true; each argument reads behind the call as it read before'; 0 by the template 'total and deterministic' (their statements: YtphabbobldbocabDoorTotals.lean).
  GIVEN WITH THE SEED: the statements are not yours to turn. If you find one false, say at which input.
  Laid BY PROGRAM, IN A SANDBOX (cutbox-rows.mjs): the forced cells as the released guide's own fill.sh prints them over the translation 8bda6e66d25e5f2b… (all of the seat's roots in one cut). By AI agents, Wed Nov 11 2026. No macro, syntax, notation, axiom, sorry.
-/
import Derived.Test.YtphabbobldbocabDoorChecked
import GoSem.Claim
import GoSem.ClaimJoined
import GoSem.ClaimMapViews
import Derived.JoinedTies
import Derived.KernelRfl
namespace Go.Proofs.YtphabbobldbocabDoor
/- THE CELL 'sum', in the pinned program and in every row, IS THE sha256 OF THE DUMP (.gsa) THAT YtphabbobldbocabDoorProg.lean LOADS. Nothing in Lean hashes anything: it is a label: what it is worth is what the hold of that sum in a sandbox is worth. -/
noncomputable def Tryd.pinned : Pinned := { name := "ytphabbobldbocabdoor", sum := "8bda6e66d25e5f2b4c17cceb35fd94504ac7d382f360e2677e7c8a5b17f75393", checked := Tryd.checked }
namespace Rows
def none {H : Type} : Left H := { results := [], args := [] }

/- WHAT THE LISTED PACKAGE-LEVEL VARIABLES READ AS WHEN THE CALL BEGINS. Each datum BY PROGRAM (the guide's laid-datum.mjs) off the statement by which the dump's own 'gosem.cut.vars' lays the variable. In a bare row this is a premise. The card (YtphabbobldbocabDoorCards.lean) ties it to the program's text. -/
def laid_plumb_near_stayAtGreatest {H : Type} : DataW H := .agg [.agg [.lit (.bool false), .lit (.bool false)], .agg [.lit (.bool true), .lit (.bool true)], .agg [.lit (.bool false), .lit (.bool false)], .agg [.lit (.bool false), .lit (.bool true)], .agg [.lit (.bool true), .lit (.bool false)]]

/-- 'plumblaw07.NearMonotone': WHATEVER THE INPUT: true; the input reads as it did. -/
def nearMonotoneSpec : ChangeSpec := { name := "nearMonotone", fn := fun _ => fun
  | [d1, d2] => { results := [.lit (.bool true)], args := [d1, d2] }
  | _ => none }
def nearMonotoneRow : OpenClaim := { program := "ytphabbobldbocabdoor", sum := "8bda6e66d25e5f2b4c17cceb35fd94504ac7d382f360e2677e7c8a5b17f75393", func := "plumb/plumblaw07.NearMonotone", spec := "nearMonotone", unfollowed := true, recurses := true, named := ["plumb/near.stayAtGreatest"], apart := false, laid := [("plumb/near.stayAtGreatest", laid_plumb_near_stayAtGreatest)] }
def NearMonotoneSaid : Prop := nearMonotoneRow.holds Tryd.pinned (OpenSpec.ofChange nearMonotoneSpec)

/-- ITS FALSE NEIGHBOUR: 'it returns false'. Refute it at one input. -/
def nearMonotoneWrong : ChangeSpec := { name := "nearMonotone", fn := fun _ => fun
  | [d1, d2] => { results := [.lit (.bool false)], args := [d1, d2] }
  | _ => none }
def NearMonotoneWrongFalsely : Prop := nearMonotoneRow.holds Tryd.pinned (OpenSpec.ofChange nearMonotoneWrong)

/-- 'plumblaw07.NearModes': WHATEVER THE INPUT: true; the input reads as it did. -/
def nearModesSpec : ChangeSpec := { name := "nearModes", fn := fun _ => fun
  | [d] => { results := [.lit (.bool true)], args := [d] }
  | _ => none }
def nearModesRow : OpenClaim := { program := "ytphabbobldbocabdoor", sum := "8bda6e66d25e5f2b4c17cceb35fd94504ac7d382f360e2677e7c8a5b17f75393", func := "plumb/plumblaw07.NearModes", spec := "nearModes", unfollowed := true, recurses := true, named := ["plumb/near.stayAtGreatest"], apart := false, laid := [("plumb/near.stayAtGreatest", laid_plumb_near_stayAtGreatest)] }
def NearModesSaid : Prop := nearModesRow.holds Tryd.pinned (OpenSpec.ofChange nearModesSpec)

/-- ITS FALSE NEIGHBOUR: 'it returns false'. Refute it at one input. -/
def nearModesWrong : ChangeSpec := { name := "nearModes", fn := fun _ => fun
  | [d] => { results := [.lit (.bool false)], args := [d] }
  | _ => none }
def NearModesWrongFalsely : Prop := nearModesRow.holds Tryd.pinned (OpenSpec.ofChange nearModesWrong)

/-- 'plumblaw07.NearNearest': WHATEVER THE INPUT: true; the input reads as it did. -/
def nearNearestSpec : ChangeSpec := { name := "nearNearest", fn := fun _ => fun
  | [d] => { results := [.lit (.bool true)], args := [d] }
  | _ => none }
def nearNearestRow : OpenClaim := { program := "ytphabbobldbocabdoor", sum := "8bda6e66d25e5f2b4c17cceb35fd94504ac7d382f360e2677e7c8a5b17f75393", func := "plumb/plumblaw07.NearNearest", spec := "nearNearest", unfollowed := true, recurses := true, named := ["plumb/near.stayAtGreatest"], apart := false, laid := [("plumb/near.stayAtGreatest", laid_plumb_near_stayAtGreatest)] }
def NearNearestSaid : Prop := nearNearestRow.holds Tryd.pinned (OpenSpec.ofChange nearNearestSpec)

/-- ITS FALSE NEIGHBOUR: 'it returns false'. Refute it at one input. -/
def nearNearestWrong : ChangeSpec := { name := "nearNearest", fn := fun _ => fun
  | [d] => { results := [.lit (.bool false)], args := [d] }
  | _ => none }
def NearNearestWrongFalsely : Prop := nearNearestRow.holds Tryd.pinned (OpenSpec.ofChange nearNearestWrong)

/- THE SECOND FORM. 'bulk': how many values and letters a reading holds, each counted each time it is reached (what is shared counts as often as it is met; a slice's spare places count too). A statement '..UptoSaid' is the law's where the arguments, and the package variables that the reading takes, are together of bulk at most 1048576: NARROWER than '..Said'. Prove '..Said' where nothing that the law and all that it calls make is longer than what came in: it says more and counts as full. Else prove '..UptoSaid'. A law counts once. -/
mutual
def uptoBulk {H : Type} : DataW H → Nat
  | .lit (.string bytes) => bytes.length + 1
  | .lit _ => 1
  | .nil => 1
  | .ptr d => uptoBulk d + 1
  | .slice elems spare => uptoBulkAll elems + uptoBulkAll spare + 1
  | .agg parts => uptoBulkAll parts + 1
  | .iface _ d => uptoBulk d + 1
  | .map entries => uptoBulkEntries entries + 1
  | .held _ => 1
def uptoBulkAll {H : Type} : List (DataW H) → Nat
  | [] => 0
  | d :: r => uptoBulk d + uptoBulkAll r
def uptoBulkEntries {H : Type} : List (Lit × DataW H) → Nat
  | [] => 0
  | x :: r => uptoBulkEntry x + uptoBulkEntries r
def uptoBulkEntry {H : Type} : Lit × DataW H → Nat
  | (.string bytes, d) => bytes.length + uptoBulk d + 1
  | (_, d) => uptoBulk d + 1
 end
def uptoSmall : (H : Type) → List (DataW H) → Bool := fun _ ds => decide (uptoBulkAll ds ≤ 1048576)
def OpenSpec.upto (s : _root_.Go.ChangeSpec) : _root_.Go.OpenSpec := { _root_.Go.OpenSpec.ofChange s with cond := some uptoSmall }

/-- 'plumblaw07.NearMonotone', WHERE WHAT IT READS IS OF BULK AT MOST 1048576: true; the input reads as it did. -/
def nearMonotoneUptoRow : OpenClaim := { program := "ytphabbobldbocabdoor", sum := "8bda6e66d25e5f2b4c17cceb35fd94504ac7d382f360e2677e7c8a5b17f75393", func := "plumb/plumblaw07.NearMonotone", spec := "nearMonotone", unfollowed := true, recurses := true, named := ["plumb/near.stayAtGreatest"], apart := false, laid := [("plumb/near.stayAtGreatest", laid_plumb_near_stayAtGreatest)], narrowed := true }
def NearMonotoneUptoSaid : Prop := nearMonotoneUptoRow.holds Tryd.pinned (OpenSpec.upto nearMonotoneSpec)

/-- 'plumblaw07.NearModes', WHERE WHAT IT READS IS OF BULK AT MOST 1048576: true; the input reads as it did. -/
def nearModesUptoRow : OpenClaim := { program := "ytphabbobldbocabdoor", sum := "8bda6e66d25e5f2b4c17cceb35fd94504ac7d382f360e2677e7c8a5b17f75393", func := "plumb/plumblaw07.NearModes", spec := "nearModes", unfollowed := true, recurses := true, named := ["plumb/near.stayAtGreatest"], apart := false, laid := [("plumb/near.stayAtGreatest", laid_plumb_near_stayAtGreatest)], narrowed := true }
def NearModesUptoSaid : Prop := nearModesUptoRow.holds Tryd.pinned (OpenSpec.upto nearModesSpec)

/-- 'plumblaw07.NearNearest', WHERE WHAT IT READS IS OF BULK AT MOST 1048576: true; the input reads as it did. -/
def nearNearestUptoRow : OpenClaim := { program := "ytphabbobldbocabdoor", sum := "8bda6e66d25e5f2b4c17cceb35fd94504ac7d382f360e2677e7c8a5b17f75393", func := "plumb/plumblaw07.NearNearest", spec := "nearNearest", unfollowed := true, recurses := true, named := ["plumb/near.stayAtGreatest"], apart := false, laid := [("plumb/near.stayAtGreatest", laid_plumb_near_stayAtGreatest)], narrowed := true }
def NearNearestUptoSaid : Prop := nearNearestUptoRow.holds Tryd.pinned (OpenSpec.upto nearNearestSpec)

end Rows
end Go.Proofs.YtphabbobldbocabDoor
