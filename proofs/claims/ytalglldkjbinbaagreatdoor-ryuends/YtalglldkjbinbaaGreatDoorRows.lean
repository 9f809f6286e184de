/-
  NARROWER THAN 'FOR EVERY INPUT', by the rows' own cells (each row's printed sentence says how): RyuShort: laid · RyuReads: laid · RyuEnds: laid.
  DERIVED. THE GIVEN ROWS OF THIS SEAT. 3 by the template 'for every input the law returns true; each argument reads behind the call as it read before'; 0 by the template 'total and deterministic' (their statements: YtalglldkjbinbaaGreatDoorTotals.lean).
  GIVEN WITH THE SEED: the statements are not yours to turn. If you find one false, say at which input.
  Laid BY PROGRAM, IN A SANDBOX (cutbox-rows.mjs): the forced cells as the released guide's own fill.sh prints them over the translation 00a372389d2bd2fa… (all of the seat's roots in one cut). By AI agents, Wed Nov 11 2026. No macro, syntax, notation, axiom, sorry.
-/
import Derived.Test.YtalglldkjbinbaaGreatDoorChecked
import GoSem.Claim
import GoSem.ClaimJoined
import GoSem.ClaimMapViews
import Derived.JoinedTies
import Derived.KernelRfl
namespace Go.Proofs.YtalglldkjbinbaaGreatDoor
/- THE CELL 'sum', in the pinned program and in every row, IS THE sha256 OF THE DUMP (.gsa) THAT YtalglldkjbinbaaGreatDoorProg.lean LOADS. Nothing in Lean hashes anything: it is a label: what it is worth is what the hold of that sum in a sandbox is worth. -/
noncomputable def Tryz.pinned : Pinned := { name := "ytalglldkjbinbaagreatdoor", sum := "00a372389d2bd2fa99414a4e2f341fcf16f11f281a9f7efba821b501505d33b4", checked := Tryz.checked }
namespace Rows
def none {H : Type} : Left H := { results := [], args := [] }

/- WHAT THE LISTED PACKAGE-LEVEL VARIABLES READ AS WHEN THE CALL BEGINS. Each datum BY PROGRAM (the guide's laid-datum.mjs) off the statement by which the dump's own 'gosem.cut.vars' lays the variable. In a bare row this is a premise. The card (YtalglldkjbinbaaGreatDoorCards.lean) ties it to the program's text. -/
def laid_plumb_near_stayAtGreatest {H : Type} : DataW H := .agg [.agg [.lit (.bool false), .lit (.bool false)], .agg [.lit (.bool true), .lit (.bool true)], .agg [.lit (.bool false), .lit (.bool false)], .agg [.lit (.bool false), .lit (.bool true)], .agg [.lit (.bool true), .lit (.bool false)]]

/-- 'plumblaw12.RyuShort': WHATEVER THE INPUT: true; the input reads as it did. -/
def ryuShortSpec : ChangeSpec := { name := "ryuShort", fn := fun _ => fun
  | [d1, d2] => { results := [.lit (.bool true)], args := [d1, d2] }
  | _ => none }
def ryuShortRow : OpenClaim := { program := "ytalglldkjbinbaagreatdoor", sum := "00a372389d2bd2fa99414a4e2f341fcf16f11f281a9f7efba821b501505d33b4", func := "plumb/plumblaw12.RyuShort", spec := "ryuShort", unfollowed := true, recurses := true, named := ["plumb/near.stayAtGreatest"], apart := false, laid := [("plumb/near.stayAtGreatest", laid_plumb_near_stayAtGreatest)] }
def RyuShortSaid : Prop := ryuShortRow.holds Tryz.pinned (OpenSpec.ofChange ryuShortSpec)

/-- ITS FALSE NEIGHBOUR: 'it returns false'. Refute it at one input. -/
def ryuShortWrong : ChangeSpec := { name := "ryuShort", fn := fun _ => fun
  | [d1, d2] => { results := [.lit (.bool false)], args := [d1, d2] }
  | _ => none }
def RyuShortWrongFalsely : Prop := ryuShortRow.holds Tryz.pinned (OpenSpec.ofChange ryuShortWrong)

/-- 'plumblaw12.RyuReads': WHATEVER THE INPUT: true; the input reads as it did. -/
def ryuReadsSpec : ChangeSpec := { name := "ryuReads", fn := fun _ => fun
  | [d] => { results := [.lit (.bool true)], args := [d] }
  | _ => none }
def ryuReadsRow : OpenClaim := { program := "ytalglldkjbinbaagreatdoor", sum := "00a372389d2bd2fa99414a4e2f341fcf16f11f281a9f7efba821b501505d33b4", func := "plumb/plumblaw12.RyuReads", spec := "ryuReads", unfollowed := true, recurses := true, named := ["plumb/near.stayAtGreatest"], apart := false, laid := [("plumb/near.stayAtGreatest", laid_plumb_near_stayAtGreatest)] }
def RyuReadsSaid : Prop := ryuReadsRow.holds Tryz.pinned (OpenSpec.ofChange ryuReadsSpec)

/-- ITS FALSE NEIGHBOUR: 'it returns false'. Refute it at one input. -/
def ryuReadsWrong : ChangeSpec := { name := "ryuReads", fn := fun _ => fun
  | [d] => { results := [.lit (.bool false)], args := [d] }
  | _ => none }
def RyuReadsWrongFalsely : Prop := ryuReadsRow.holds Tryz.pinned (OpenSpec.ofChange ryuReadsWrong)

/-- 'plumblaw12.RyuEnds': WHATEVER THE INPUT: true; the input reads as it did. -/
def ryuEndsSpec : ChangeSpec := { name := "ryuEnds", fn := fun _ => fun
  | [d] => { results := [.lit (.bool true)], args := [d] }
  | _ => none }
def ryuEndsRow : OpenClaim := { program := "ytalglldkjbinbaagreatdoor", sum := "00a372389d2bd2fa99414a4e2f341fcf16f11f281a9f7efba821b501505d33b4", func := "plumb/plumblaw12.RyuEnds", spec := "ryuEnds", unfollowed := true, recurses := true, named := ["plumb/near.stayAtGreatest"], apart := false, laid := [("plumb/near.stayAtGreatest", laid_plumb_near_stayAtGreatest)] }
def RyuEndsSaid : Prop := ryuEndsRow.holds Tryz.pinned (OpenSpec.ofChange ryuEndsSpec)

/-- ITS FALSE NEIGHBOUR: 'it returns false'. Refute it at one input. -/
def ryuEndsWrong : ChangeSpec := { name := "ryuEnds", fn := fun _ => fun
  | [d] => { results := [.lit (.bool false)], args := [d] }
  | _ => none }
def RyuEndsWrongFalsely : Prop := ryuEndsRow.holds Tryz.pinned (OpenSpec.ofChange ryuEndsWrong)

/- THE SECOND FORM. 'bulk': how many values and letters a reading holds, each counted each time it is reached (what is shared counts as often as it is met; a slice's spare places count too). A statement '..UptoSaid' is the law's where the arguments, and the package variables that the reading takes, are together of bulk at most 1048576: NARROWER than '..Said'. Prove '..Said' where nothing that the law and all that it calls make is longer than what came in: it says more and counts as full. Else prove '..UptoSaid'. A law counts once. -/
mutual
def uptoBulk {H : Type} : DataW H → Nat
  | .lit (.string bytes) => bytes.length + 1
  | .lit _ => 1
  | .nil => 1
  | .ptr d => uptoBulk d + 1
  | .slice elems spare => uptoBulkAll elems + uptoBulkAll spare + 1
  | .agg parts => uptoBulkAll parts + 1
  | .iface _ d => uptoBulk d + 1
  | .map entries => uptoBulkEntries entries + 1
  | .held _ => 1
def uptoBulkAll {H : Type} : List (DataW H) → Nat
  | [] => 0
  | d :: r => uptoBulk d + uptoBulkAll r
def uptoBulkEntries {H : Type} : List (Lit × DataW H) → Nat
  | [] => 0
  | x :: r => uptoBulkEntry x + uptoBulkEntries r
def uptoBulkEntry {H : Type} : Lit × DataW H → Nat
  | (.string bytes, d) => bytes.length + uptoBulk d + 1
  | (_, d) => uptoBulk d + 1
 end
def uptoSmall : (H : Type) → List (DataW H) → Bool := fun _ ds => decide (uptoBulkAll ds ≤ 1048576)
def OpenSpec.upto (s : _root_.Go.ChangeSpec) : _root_.Go.OpenSpec := { _root_.Go.OpenSpec.ofChange s with cond := some uptoSmall }

/-- 'plumblaw12.RyuShort', WHERE WHAT IT READS IS OF BULK AT MOST 1048576: true; the input reads as it did. -/
def ryuShortUptoRow : OpenClaim := { program := "ytalglldkjbinbaagreatdoor", sum := "00a372389d2bd2fa99414a4e2f341fcf16f11f281a9f7efba821b501505d33b4", func := "plumb/plumblaw12.RyuShort", spec := "ryuShort", unfollowed := true, recurses := true, named := ["plumb/near.stayAtGreatest"], apart := false, laid := [("plumb/near.stayAtGreatest", laid_plumb_near_stayAtGreatest)], narrowed := true }
def RyuShortUptoSaid : Prop := ryuShortUptoRow.holds Tryz.pinned (OpenSpec.upto ryuShortSpec)

/-- 'plumblaw12.RyuReads', WHERE WHAT IT READS IS OF BULK AT MOST 1048576: true; the input reads as it did. -/
def ryuReadsUptoRow : OpenClaim := { program := "ytalglldkjbinbaagreatdoor", sum := "00a372389d2bd2fa99414a4e2f341fcf16f11f281a9f7efba821b501505d33b4", func := "plumb/plumblaw12.RyuReads", spec := "ryuReads", unfollowed := true, recurses := true, named := ["plumb/near.stayAtGreatest"], apart := false, laid := [("plumb/near.stayAtGreatest", laid_plumb_near_stayAtGreatest)], narrowed := true }
def RyuReadsUptoSaid : Prop := ryuReadsUptoRow.holds Tryz.pinned (OpenSpec.upto ryuReadsSpec)

/-- 'plumblaw12.RyuEnds', WHERE WHAT IT READS IS OF BULK AT MOST 1048576: true; the input reads as it did. -/
def ryuEndsUptoRow : OpenClaim := { program := "ytalglldkjbinbaagreatdoor", sum := "00a372389d2bd2fa99414a4e2f341fcf16f11f281a9f7efba821b501505d33b4", func := "plumb/plumblaw12.RyuEnds", spec := "ryuEnds", unfollowed := true, recurses := true, named := ["plumb/near.stayAtGreatest"], apart := false, laid := [("plumb/near.stayAtGreatest", laid_plumb_near_stayAtGreatest)], narrowed := true }
def RyuEndsUptoSaid : Prop := ryuEndsUptoRow.holds Tryz.pinned (OpenSpec.upto ryuEndsSpec)

end Rows
end Go.Proofs.YtalglldkjbinbaaGreatDoor
