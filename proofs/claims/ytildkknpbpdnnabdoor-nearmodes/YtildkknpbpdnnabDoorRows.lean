/-
  NARROWER THAN 'FOR EVERY INPUT', by the rows' own cells (each row's printed sentence says how): NearModes: laid · NearNearest: laid.
  DERIVED. THE GIVEN ROWS OF THIS SEAT. 2 by the template 'for every input the law returns true; each argument reads behind the call as it read before'; 0 by the template 'total and deterministic' (their statements: YtildkknpbpdnnabDoorTotals.lean).
  GIVEN WITH THE SEED: the statements are not yours to turn. If you find one false, say at which input.
  Laid BY PROGRAM, IN A SANDBOX (cutbox-rows.mjs): the forced cells as the released guide's own fill.sh prints them over the translation 2ccd01dd849f07c0… (all of the seat's roots in one cut). By AI agents, Wed Nov 11 2026. No macro, syntax, notation, axiom, sorry.
-/
import Derived.Test.YtildkknpbpdnnabDoorChecked
import GoSem.Claim
import GoSem.ClaimJoined
import GoSem.ClaimMapViews
import Derived.JoinedTies
import Derived.KernelRfl
namespace Go.Proofs.YtildkknpbpdnnabDoor
/- THE CELL 'sum', in the pinned program and in every row, IS THE sha256 OF THE DUMP (.gsa) THAT YtildkknpbpdnnabDoorProg.lean LOADS. Nothing in Lean hashes anything: it is a label: what it is worth is what the hold of that sum in a sandbox is worth. -/
noncomputable def Tryd.pinned : Pinned := { name := "ytildkknpbpdnnabdoor", sum := "2ccd01dd849f07c06f953e44c7df1b85e130f9a9e7a6465e9816c2d7397f691c", checked := Tryd.checked }
namespace Rows
def none {H : Type} : Left H := { results := [], args := [] }

/- WHAT THE LISTED PACKAGE-LEVEL VARIABLES READ AS WHEN THE CALL BEGINS. Each datum BY PROGRAM (the guide's laid-datum.mjs) off the statement by which the dump's own 'gosem.cut.vars' lays the variable. In a bare row this is a premise. The card (YtildkknpbpdnnabDoorCards.lean) ties it to the program's text. -/
def laid_plumb_near_stayAtGreatest {H : Type} : DataW H := .agg [.agg [.lit (.bool false), .lit (.bool false)], .agg [.lit (.bool true), .lit (.bool true)], .agg [.lit (.bool false), .lit (.bool false)], .agg [.lit (.bool false), .lit (.bool true)], .agg [.lit (.bool true), .lit (.bool false)]]

/-- 'plumblaw07.NearModes': WHATEVER THE INPUT: true; the input reads as it did. -/
def nearModesSpec : ChangeSpec := { name := "nearModes", fn := fun _ => fun
  | [d] => { results := [.lit (.bool true)], args := [d] }
  | _ => none }
def nearModesRow : OpenClaim := { program := "ytildkknpbpdnnabdoor", sum := "2ccd01dd849f07c06f953e44c7df1b85e130f9a9e7a6465e9816c2d7397f691c", func := "plumb/plumblaw07.NearModes", spec := "nearModes", unfollowed := true, recurses := true, named := ["plumb/near.stayAtGreatest"], apart := false, laid := [("plumb/near.stayAtGreatest", laid_plumb_near_stayAtGreatest)] }
def NearModesSaid : Prop := nearModesRow.holds Tryd.pinned (OpenSpec.ofChange nearModesSpec)

/-- ITS FALSE NEIGHBOUR: 'it returns false'. Refute it at one input. -/
def nearModesWrong : ChangeSpec := { name := "nearModes", fn := fun _ => fun
  | [d] => { results := [.lit (.bool false)], args := [d] }
  | _ => none }
def NearModesWrongFalsely : Prop := nearModesRow.holds Tryd.pinned (OpenSpec.ofChange nearModesWrong)

/-- 'plumblaw07.NearNearest': WHATEVER THE INPUT: true; the input reads as it did. -/
def nearNearestSpec : ChangeSpec := { name := "nearNearest", fn := fun _ => fun
  | [d] => { results := [.lit (.bool true)], args := [d] }
  | _ => none }
def nearNearestRow : OpenClaim := { program := "ytildkknpbpdnnabdoor", sum := "2ccd01dd849f07c06f953e44c7df1b85e130f9a9e7a6465e9816c2d7397f691c", func := "plumb/plumblaw07.NearNearest", spec := "nearNearest", unfollowed := true, recurses := true, named := ["plumb/near.stayAtGreatest"], apart := false, laid := [("plumb/near.stayAtGreatest", laid_plumb_near_stayAtGreatest)] }
def NearNearestSaid : Prop := nearNearestRow.holds Tryd.pinned (OpenSpec.ofChange nearNearestSpec)

/-- ITS FALSE NEIGHBOUR: 'it returns false'. Refute it at one input. -/
def nearNearestWrong : ChangeSpec := { name := "nearNearest", fn := fun _ => fun
  | [d] => { results := [.lit (.bool false)], args := [d] }
  | _ => none }
def NearNearestWrongFalsely : Prop := nearNearestRow.holds Tryd.pinned (OpenSpec.ofChange nearNearestWrong)

/- THE SECOND FORM. 'bulk': how many values and letters a reading holds, each counted each time it is reached (what is shared counts as often as it is met; a slice's spare places count too). A statement '..UptoSaid' is the law's where the arguments, and the package variables that the reading takes, are together of bulk at most 1048576: NARROWER than '..Said'. Prove '..Said' where nothing that the law and all that it calls make is longer than what came in: it says more and counts as full. Else prove '..UptoSaid'. A law counts once. -/
mutual
def uptoBulk {H : Type} : DataW H → Nat
  | .lit (.string bytes) => bytes.length + 1
  | .lit _ => 1
  | .nil => 1
  | .ptr d => uptoBulk d + 1
  | .slice elems spare => uptoBulkAll elems + uptoBulkAll spare + 1
  | .agg parts => uptoBulkAll parts + 1
  | .iface _ d => uptoBulk d + 1
  | .map entries => uptoBulkEntries entries + 1
  | .held _ => 1
def uptoBulkAll {H : Type} : List (DataW H) → Nat
  | [] => 0
  | d :: r => uptoBulk d + uptoBulkAll r
def uptoBulkEntries {H : Type} : List (Lit × DataW H) → Nat
  | [] => 0
  | x :: r => uptoBulkEntry x + uptoBulkEntries r
def uptoBulkEntry {H : Type} : Lit × DataW H → Nat
  | (.string bytes, d) => bytes.length + uptoBulk d + 1
  | (_, d) => uptoBulk d + 1
 end
def uptoSmall : (H : Type) → List (DataW H) → Bool := fun _ ds => decide (uptoBulkAll ds ≤ 1048576)
def OpenSpec.upto (s : _root_.Go.ChangeSpec) : _root_.Go.OpenSpec := { _root_.Go.OpenSpec.ofChange s with cond := some uptoSmall }

/-- 'plumblaw07.NearModes', WHERE WHAT IT READS IS OF BULK AT MOST 1048576: true; the input reads as it did. -/
def nearModesUptoRow : OpenClaim := { program := "ytildkknpbpdnnabdoor", sum := "2ccd01dd849f07c06f953e44c7df1b85e130f9a9e7a6465e9816c2d7397f691c", func := "plumb/plumblaw07.NearModes", spec := "nearModes", unfollowed := true, recurses := true, named := ["plumb/near.stayAtGreatest"], apart := false, laid := [("plumb/near.stayAtGreatest", laid_plumb_near_stayAtGreatest)], narrowed := true }
def NearModesUptoSaid : Prop := nearModesUptoRow.holds Tryd.pinned (OpenSpec.upto nearModesSpec)

/-- 'plumblaw07.NearNearest', WHERE WHAT IT READS IS OF BULK AT MOST 1048576: true; the input reads as it did. -/
def nearNearestUptoRow : OpenClaim := { program := "ytildkknpbpdnnabdoor", sum := "2ccd01dd849f07c06f953e44c7df1b85e130f9a9e7a6465e9816c2d7397f691c", func := "plumb/plumblaw07.NearNearest", spec := "nearNearest", unfollowed := true, recurses := true, named := ["plumb/near.stayAtGreatest"], apart := false, laid := [("plumb/near.stayAtGreatest", laid_plumb_near_stayAtGreatest)], narrowed := true }
def NearNearestUptoSaid : Prop := nearNearestUptoRow.holds Tryd.pinned (OpenSpec.upto nearNearestSpec)

end Rows
end Go.Proofs.YtildkknpbpdnnabDoor
