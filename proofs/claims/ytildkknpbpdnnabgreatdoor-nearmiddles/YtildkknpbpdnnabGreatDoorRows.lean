/-
  NARROWER THAN 'FOR EVERY INPUT', by the rows' own cells (each row's printed sentence says how): NearBack: laid · NearMiddles: laid · NearRats: laid.
  DERIVED. THE GIVEN ROWS OF THIS SEAT. 3 by the template 'for every input the law returns true; each argument reads behind the call as it read before'; 0 by the template 'total and deterministic' (their statements: YtildkknpbpdnnabGreatDoorTotals.lean).
  GIVEN WITH THE SEED: the statements are not yours to turn. If you find one false, say at which input.
  Laid BY PROGRAM, IN A SANDBOX (cutbox-rows.mjs): the forced cells as the released guide's own fill.sh prints them over the translation 6636360318b5d38f… (all of the seat's roots in one cut). By AI agents, Wed Nov 11 2026. No macro, syntax, notation, axiom, sorry.
-/
import Derived.Test.YtildkknpbpdnnabGreatDoorChecked
import GoSem.Claim
import GoSem.ClaimJoined
import GoSem.ClaimMapViews
import Derived.JoinedTies
import Derived.KernelRfl
namespace Go.Proofs.YtildkknpbpdnnabGreatDoor
/- THE CELL 'sum', in the pinned program and in every row, IS THE sha256 OF THE DUMP (.gsa) THAT YtildkknpbpdnnabGreatDoorProg.lean LOADS. Nothing in Lean hashes anything: it is a label: what it is worth is what the hold of that sum in a sandbox is worth. -/
noncomputable def Tryz.pinned : Pinned := { name := "ytildkknpbpdnnabgreatdoor", sum := "6636360318b5d38ffe8dd0b32ada26486227fc636b9c2b5776bf55f25422d057", checked := Tryz.checked }
namespace Rows
def none {H : Type} : Left H := { results := [], args := [] }

/- WHAT THE LISTED PACKAGE-LEVEL VARIABLES READ AS WHEN THE CALL BEGINS. Each datum BY PROGRAM (the guide's laid-datum.mjs) off the statement by which the dump's own 'gosem.cut.vars' lays the variable. In a bare row this is a premise. The card (YtildkknpbpdnnabGreatDoorCards.lean) ties it to the program's text. -/
def laid_plumb_near_stayAtGreatest {H : Type} : DataW H := .agg [.agg [.lit (.bool false), .lit (.bool false)], .agg [.lit (.bool true), .lit (.bool true)], .agg [.lit (.bool false), .lit (.bool false)], .agg [.lit (.bool false), .lit (.bool true)], .agg [.lit (.bool true), .lit (.bool false)]]

/-- 'plumblaw07.NearBack': WHATEVER THE INPUT: true; the input reads as it did. -/
def nearBackSpec : ChangeSpec := { name := "nearBack", fn := fun _ => fun
  | [d] => { results := [.lit (.bool true)], args := [d] }
  | _ => none }
def nearBackRow : OpenClaim := { program := "ytildkknpbpdnnabgreatdoor", sum := "6636360318b5d38ffe8dd0b32ada26486227fc636b9c2b5776bf55f25422d057", func := "plumb/plumblaw07.NearBack", spec := "nearBack", unfollowed := true, recurses := true, named := ["plumb/near.stayAtGreatest"], apart := false, laid := [("plumb/near.stayAtGreatest", laid_plumb_near_stayAtGreatest)] }
def NearBackSaid : Prop := nearBackRow.holds Tryz.pinned (OpenSpec.ofChange nearBackSpec)

/-- ITS FALSE NEIGHBOUR: 'it returns false'. Refute it at one input. -/
def nearBackWrong : ChangeSpec := { name := "nearBack", fn := fun _ => fun
  | [d] => { results := [.lit (.bool false)], args := [d] }
  | _ => none }
def NearBackWrongFalsely : Prop := nearBackRow.holds Tryz.pinned (OpenSpec.ofChange nearBackWrong)

/-- 'plumblaw07.NearMiddles': WHATEVER THE INPUT: true; the input reads as it did. -/
def nearMiddlesSpec : ChangeSpec := { name := "nearMiddles", fn := fun _ => fun
  | [d] => { results := [.lit (.bool true)], args := [d] }
  | _ => none }
def nearMiddlesRow : OpenClaim := { program := "ytildkknpbpdnnabgreatdoor", sum := "6636360318b5d38ffe8dd0b32ada26486227fc636b9c2b5776bf55f25422d057", func := "plumb/plumblaw07.NearMiddles", spec := "nearMiddles", unfollowed := true, recurses := true, named := ["plumb/near.stayAtGreatest"], apart := false, laid := [("plumb/near.stayAtGreatest", laid_plumb_near_stayAtGreatest)] }
def NearMiddlesSaid : Prop := nearMiddlesRow.holds Tryz.pinned (OpenSpec.ofChange nearMiddlesSpec)

/-- ITS FALSE NEIGHBOUR: 'it returns false'. Refute it at one input. -/
def nearMiddlesWrong : ChangeSpec := { name := "nearMiddles", fn := fun _ => fun
  | [d] => { results := [.lit (.bool false)], args := [d] }
  | _ => none }
def NearMiddlesWrongFalsely : Prop := nearMiddlesRow.holds Tryz.pinned (OpenSpec.ofChange nearMiddlesWrong)

/-- 'plumblaw07.NearRats': WHATEVER THE INPUT: true; the input reads as it did. -/
def nearRatsSpec : ChangeSpec := { name := "nearRats", fn := fun _ => fun
  | [d1, d2, d3] => { results := [.lit (.bool true)], args := [d1, d2, d3] }
  | _ => none }
def nearRatsRow : OpenClaim := { program := "ytildkknpbpdnnabgreatdoor", sum := "6636360318b5d38ffe8dd0b32ada26486227fc636b9c2b5776bf55f25422d057", func := "plumb/plumblaw07.NearRats", spec := "nearRats", unfollowed := true, recurses := true, named := ["plumb/near.stayAtGreatest"], apart := false, laid := [("plumb/near.stayAtGreatest", laid_plumb_near_stayAtGreatest)] }
def NearRatsSaid : Prop := nearRatsRow.holds Tryz.pinned (OpenSpec.ofChange nearRatsSpec)

/-- ITS FALSE NEIGHBOUR: 'it returns false'. Refute it at one input. -/
def nearRatsWrong : ChangeSpec := { name := "nearRats", fn := fun _ => fun
  | [d1, d2, d3] => { results := [.lit (.bool false)], args := [d1, d2, d3] }
  | _ => none }
def NearRatsWrongFalsely : Prop := nearRatsRow.holds Tryz.pinned (OpenSpec.ofChange nearRatsWrong)

/- THE SECOND FORM. 'bulk': how many values and letters a reading holds, each counted each time it is reached (what is shared counts as often as it is met; a slice's spare places count too). A statement '..UptoSaid' is the law's where the arguments, and the package variables that the reading takes, are together of bulk at most 1048576: NARROWER than '..Said'. Prove '..Said' where nothing that the law and all that it calls make is longer than what came in: it says more and counts as full. Else prove '..UptoSaid'. A law counts once. -/
mutual
def uptoBulk {H : Type} : DataW H → Nat
  | .lit (.string bytes) => bytes.length + 1
  | .lit _ => 1
  | .nil => 1
  | .ptr d => uptoBulk d + 1
  | .slice elems spare => uptoBulkAll elems + uptoBulkAll spare + 1
  | .agg parts => uptoBulkAll parts + 1
  | .iface _ d => uptoBulk d + 1
  | .map entries => uptoBulkEntries entries + 1
  | .held _ => 1
def uptoBulkAll {H : Type} : List (DataW H) → Nat
  | [] => 0
  | d :: r => uptoBulk d + uptoBulkAll r
def uptoBulkEntries {H : Type} : List (Lit × DataW H) → Nat
  | [] => 0
  | x :: r => uptoBulkEntry x + uptoBulkEntries r
def uptoBulkEntry {H : Type} : Lit × DataW H → Nat
  | (.string bytes, d) => bytes.length + uptoBulk d + 1
  | (_, d) => uptoBulk d + 1
 end
def uptoSmall : (H : Type) → List (DataW H) → Bool := fun _ ds => decide (uptoBulkAll ds ≤ 1048576)
def OpenSpec.upto (s : _root_.Go.ChangeSpec) : _root_.Go.OpenSpec := { _root_.Go.OpenSpec.ofChange s with cond := some uptoSmall }

/-- 'plumblaw07.NearBack', WHERE WHAT IT READS IS OF BULK AT MOST 1048576: true; the input reads as it did. -/
def nearBackUptoRow : OpenClaim := { program := "ytildkknpbpdnnabgreatdoor", sum := "6636360318b5d38ffe8dd0b32ada26486227fc636b9c2b5776bf55f25422d057", func := "plumb/plumblaw07.NearBack", spec := "nearBack", unfollowed := true, recurses := true, named := ["plumb/near.stayAtGreatest"], apart := false, laid := [("plumb/near.stayAtGreatest", laid_plumb_near_stayAtGreatest)], narrowed := true }
def NearBackUptoSaid : Prop := nearBackUptoRow.holds Tryz.pinned (OpenSpec.upto nearBackSpec)

/-- 'plumblaw07.NearMiddles', WHERE WHAT IT READS IS OF BULK AT MOST 1048576: true; the input reads as it did. -/
def nearMiddlesUptoRow : OpenClaim := { program := "ytildkknpbpdnnabgreatdoor", sum := "6636360318b5d38ffe8dd0b32ada26486227fc636b9c2b5776bf55f25422d057", func := "plumb/plumblaw07.NearMiddles", spec := "nearMiddles", unfollowed := true, recurses := true, named := ["plumb/near.stayAtGreatest"], apart := false, laid := [("plumb/near.stayAtGreatest", laid_plumb_near_stayAtGreatest)], narrowed := true }
def NearMiddlesUptoSaid : Prop := nearMiddlesUptoRow.holds Tryz.pinned (OpenSpec.upto nearMiddlesSpec)

/-- 'plumblaw07.NearRats', WHERE WHAT IT READS IS OF BULK AT MOST 1048576: true; the input reads as it did. -/
def nearRatsUptoRow : OpenClaim := { program := "ytildkknpbpdnnabgreatdoor", sum := "6636360318b5d38ffe8dd0b32ada26486227fc636b9c2b5776bf55f25422d057", func := "plumb/plumblaw07.NearRats", spec := "nearRats", unfollowed := true, recurses := true, named := ["plumb/near.stayAtGreatest"], apart := false, laid := [("plumb/near.stayAtGreatest", laid_plumb_near_stayAtGreatest)], narrowed := true }
def NearRatsUptoSaid : Prop := nearRatsUptoRow.holds Tryz.pinned (OpenSpec.upto nearRatsSpec)

end Rows
end Go.Proofs.YtildkknpbpdnnabGreatDoor
