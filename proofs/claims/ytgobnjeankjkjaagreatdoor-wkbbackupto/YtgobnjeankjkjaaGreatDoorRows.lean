/-
  NARROWER THAN 'FOR EVERY INPUT', by the rows' own cells (each row's printed sentence says how): WkbCoords: laid · WkbCounts: laid · WkbOneForm: laid · WkbBack: laid · WkbLimits: laid.
  DERIVED. THE GIVEN ROWS OF THIS SEAT. 5 by the template 'for every input the law returns true; each argument reads behind the call as it read before'; 0 by the template 'total and deterministic' (their statements: YtgobnjeankjkjaaGreatDoorTotals.lean).
  GIVEN WITH THE SEED: the statements are not yours to turn. If you find one false, say at which input.
  Laid BY PROGRAM, IN A SANDBOX (cutbox-rows.mjs): the forced cells as the released guide's own fill.sh prints them over the translation 45b2bffe07abe07f… (all of the seat's roots in one cut). By AI agents, Wed Nov 11 2026. No macro, syntax, notation, axiom, sorry.
-/
import Derived.Test.YtgobnjeankjkjaaGreatDoorChecked
import GoSem.Claim
import GoSem.ClaimJoined
import GoSem.ClaimMapViews
import Derived.JoinedTies
import Derived.KernelRfl
namespace Go.Proofs.YtgobnjeankjkjaaGreatDoor
/- THE CELL 'sum', in the pinned program and in every row, IS THE sha256 OF THE DUMP (.gsa) THAT YtgobnjeankjkjaaGreatDoorProg.lean LOADS. Nothing in Lean hashes anything: it is a label: what it is worth is what the hold of that sum in a sandbox is worth. -/
noncomputable def Tryz.pinned : Pinned := { name := "ytgobnjeankjkjaagreatdoor", sum := "45b2bffe07abe07fb061407b97c68225d56d52e2c21408bb12c2c9ab118b78a0", checked := Tryz.checked }
namespace Rows
def none {H : Type} : Left H := { results := [], args := [] }

/- WHAT THE LISTED PACKAGE-LEVEL VARIABLES READ AS WHEN THE CALL BEGINS. Each datum BY PROGRAM (the guide's laid-datum.mjs) off the statement by which the dump's own 'gosem.cut.vars' lays the variable. In a bare row this is a premise. The card (YtgobnjeankjkjaaGreatDoorCards.lean) ties it to the program's text. -/
def laid_errors_errorType {H : Type} : DataW H := .iface "internal/reflectlite.rtype" (.agg [.ptr (.lit (.string [101, 114, 114, 111, 114]))])

/-- 'plumblaw17.WkbCoords': WHATEVER THE INPUT: true; the input reads as it did. -/
def wkbCoordsSpec : ChangeSpec := { name := "wkbCoords", fn := fun _ => fun
  | [d1, d2, d3] => { results := [.lit (.bool true)], args := [d1, d2, d3] }
  | _ => none }
def wkbCoordsRow : OpenClaim := { program := "ytgobnjeankjkjaagreatdoor", sum := "45b2bffe07abe07fb061407b97c68225d56d52e2c21408bb12c2c9ab118b78a0", func := "plumb/plumblaw17.WkbCoords", spec := "wkbCoords", inPlace := ["internal/reflectlite.ValueOf", "(internal/reflectlite.Value).Type", "(internal/reflectlite.Value).IsNil", "internal/reflectlite.TypeOf", "(internal/reflectlite.Value).Elem", "(internal/reflectlite.Value).Set"], unfollowed := true, recurses := true, named := ["errors.errorType"], apart := false, laid := [("errors.errorType", laid_errors_errorType)] }
def WkbCoordsSaid : Prop := wkbCoordsRow.holds Tryz.pinned (OpenSpec.ofChange wkbCoordsSpec)

/-- ITS FALSE NEIGHBOUR: 'it returns false'. Refute it at one input. -/
def wkbCoordsWrong : ChangeSpec := { name := "wkbCoords", fn := fun _ => fun
  | [d1, d2, d3] => { results := [.lit (.bool false)], args := [d1, d2, d3] }
  | _ => none }
def WkbCoordsWrongFalsely : Prop := wkbCoordsRow.holds Tryz.pinned (OpenSpec.ofChange wkbCoordsWrong)

/-- 'plumblaw17.WkbCounts': WHATEVER THE INPUT: true; the input reads as it did. -/
def wkbCountsSpec : ChangeSpec := { name := "wkbCounts", fn := fun _ => fun
  | [d1, d2, d3] => { results := [.lit (.bool true)], args := [d1, d2, d3] }
  | _ => none }
def wkbCountsRow : OpenClaim := { program := "ytgobnjeankjkjaagreatdoor", sum := "45b2bffe07abe07fb061407b97c68225d56d52e2c21408bb12c2c9ab118b78a0", func := "plumb/plumblaw17.WkbCounts", spec := "wkbCounts", inPlace := ["internal/reflectlite.ValueOf", "(internal/reflectlite.Value).Type", "(internal/reflectlite.Value).IsNil", "internal/reflectlite.TypeOf", "(internal/reflectlite.Value).Elem", "(internal/reflectlite.Value).Set"], unfollowed := true, recurses := true, named := ["errors.errorType"], apart := false, laid := [("errors.errorType", laid_errors_errorType)] }
def WkbCountsSaid : Prop := wkbCountsRow.holds Tryz.pinned (OpenSpec.ofChange wkbCountsSpec)

/-- ITS FALSE NEIGHBOUR: 'it returns false'. Refute it at one input. -/
def wkbCountsWrong : ChangeSpec := { name := "wkbCounts", fn := fun _ => fun
  | [d1, d2, d3] => { results := [.lit (.bool false)], args := [d1, d2, d3] }
  | _ => none }
def WkbCountsWrongFalsely : Prop := wkbCountsRow.holds Tryz.pinned (OpenSpec.ofChange wkbCountsWrong)

/-- 'plumblaw17.WkbOneForm': WHATEVER THE INPUT: true; the input reads as it did. -/
def wkbOneFormSpec : ChangeSpec := { name := "wkbOneForm", fn := fun _ => fun
  | [d1, d2] => { results := [.lit (.bool true)], args := [d1, d2] }
  | _ => none }
def wkbOneFormRow : OpenClaim := { program := "ytgobnjeankjkjaagreatdoor", sum := "45b2bffe07abe07fb061407b97c68225d56d52e2c21408bb12c2c9ab118b78a0", func := "plumb/plumblaw17.WkbOneForm", spec := "wkbOneForm", inPlace := ["internal/reflectlite.ValueOf", "(internal/reflectlite.Value).Type", "(internal/reflectlite.Value).IsNil", "internal/reflectlite.TypeOf", "(internal/reflectlite.Value).Elem", "(internal/reflectlite.Value).Set"], unfollowed := true, recurses := true, named := ["errors.errorType"], apart := false, laid := [("errors.errorType", laid_errors_errorType)] }
def WkbOneFormSaid : Prop := wkbOneFormRow.holds Tryz.pinned (OpenSpec.ofChange wkbOneFormSpec)

/-- ITS FALSE NEIGHBOUR: 'it returns false'. Refute it at one input. -/
def wkbOneFormWrong : ChangeSpec := { name := "wkbOneForm", fn := fun _ => fun
  | [d1, d2] => { results := [.lit (.bool false)], args := [d1, d2] }
  | _ => none }
def WkbOneFormWrongFalsely : Prop := wkbOneFormRow.holds Tryz.pinned (OpenSpec.ofChange wkbOneFormWrong)

/-- 'plumblaw17.WkbBack': WHATEVER THE INPUT: true; the input reads as it did. -/
def wkbBackSpec : ChangeSpec := { name := "wkbBack", fn := fun _ => fun
  | [d1, d2] => { results := [.lit (.bool true)], args := [d1, d2] }
  | _ => none }
def wkbBackRow : OpenClaim := { program := "ytgobnjeankjkjaagreatdoor", sum := "45b2bffe07abe07fb061407b97c68225d56d52e2c21408bb12c2c9ab118b78a0", func := "plumb/plumblaw17.WkbBack", spec := "wkbBack", inPlace := ["internal/reflectlite.ValueOf", "(internal/reflectlite.Value).Type", "(internal/reflectlite.Value).IsNil", "internal/reflectlite.TypeOf", "(internal/reflectlite.Value).Elem", "(internal/reflectlite.Value).Set"], unfollowed := true, recurses := true, named := ["errors.errorType"], apart := false, laid := [("errors.errorType", laid_errors_errorType)] }
def WkbBackSaid : Prop := wkbBackRow.holds Tryz.pinned (OpenSpec.ofChange wkbBackSpec)

/-- ITS FALSE NEIGHBOUR: 'it returns false'. Refute it at one input. -/
def wkbBackWrong : ChangeSpec := { name := "wkbBack", fn := fun _ => fun
  | [d1, d2] => { results := [.lit (.bool false)], args := [d1, d2] }
  | _ => none }
def WkbBackWrongFalsely : Prop := wkbBackRow.holds Tryz.pinned (OpenSpec.ofChange wkbBackWrong)

/-- 'plumblaw17.WkbLimits': WHATEVER THE INPUT: true; the input reads as it did. -/
def wkbLimitsSpec : ChangeSpec := { name := "wkbLimits", fn := fun _ => fun
  | [d1, d2] => { results := [.lit (.bool true)], args := [d1, d2] }
  | _ => none }
def wkbLimitsRow : OpenClaim := { program := "ytgobnjeankjkjaagreatdoor", sum := "45b2bffe07abe07fb061407b97c68225d56d52e2c21408bb12c2c9ab118b78a0", func := "plumb/plumblaw17.WkbLimits", spec := "wkbLimits", inPlace := ["internal/reflectlite.ValueOf", "(internal/reflectlite.Value).Type", "(internal/reflectlite.Value).IsNil", "internal/reflectlite.TypeOf", "(internal/reflectlite.Value).Elem", "(internal/reflectlite.Value).Set"], unfollowed := true, recurses := true, named := ["errors.errorType"], apart := false, laid := [("errors.errorType", laid_errors_errorType)] }
def WkbLimitsSaid : Prop := wkbLimitsRow.holds Tryz.pinned (OpenSpec.ofChange wkbLimitsSpec)

/-- ITS FALSE NEIGHBOUR: 'it returns false'. Refute it at one input. -/
def wkbLimitsWrong : ChangeSpec := { name := "wkbLimits", fn := fun _ => fun
  | [d1, d2] => { results := [.lit (.bool false)], args := [d1, d2] }
  | _ => none }
def WkbLimitsWrongFalsely : Prop := wkbLimitsRow.holds Tryz.pinned (OpenSpec.ofChange wkbLimitsWrong)

/- THE SECOND FORM. 'bulk': how many values and letters a reading holds, each counted each time it is reached (what is shared counts as often as it is met; a slice's spare places count too). A statement '..UptoSaid' is the law's where the arguments, and the package variables that the reading takes, are together of bulk at most 1048576: NARROWER than '..Said'. Prove '..Said' where nothing that the law and all that it calls make is longer than what came in: it says more and counts as full. Else prove '..UptoSaid'. A law counts once. -/
mutual
def uptoBulk {H : Type} : DataW H → Nat
  | .lit (.string bytes) => bytes.length + 1
  | .lit _ => 1
  | .nil => 1
  | .ptr d => uptoBulk d + 1
  | .slice elems spare => uptoBulkAll elems + uptoBulkAll spare + 1
  | .agg parts => uptoBulkAll parts + 1
  | .iface _ d => uptoBulk d + 1
  | .map entries => uptoBulkEntries entries + 1
  | .held _ => 1
def uptoBulkAll {H : Type} : List (DataW H) → Nat
  | [] => 0
  | d :: r => uptoBulk d + uptoBulkAll r
def uptoBulkEntries {H : Type} : List (Lit × DataW H) → Nat
  | [] => 0
  | x :: r => uptoBulkEntry x + uptoBulkEntries r
def uptoBulkEntry {H : Type} : Lit × DataW H → Nat
  | (.string bytes, d) => bytes.length + uptoBulk d + 1
  | (_, d) => uptoBulk d + 1
 end
def uptoSmall : (H : Type) → List (DataW H) → Bool := fun _ ds => decide (uptoBulkAll ds ≤ 1048576)
def OpenSpec.upto (s : _root_.Go.ChangeSpec) : _root_.Go.OpenSpec := { _root_.Go.OpenSpec.ofChange s with cond := some uptoSmall }

/-- 'plumblaw17.WkbCoords', WHERE WHAT IT READS IS OF BULK AT MOST 1048576: true; the input reads as it did. -/
def wkbCoordsUptoRow : OpenClaim := { program := "ytgobnjeankjkjaagreatdoor", sum := "45b2bffe07abe07fb061407b97c68225d56d52e2c21408bb12c2c9ab118b78a0", func := "plumb/plumblaw17.WkbCoords", spec := "wkbCoords", inPlace := ["internal/reflectlite.ValueOf", "(internal/reflectlite.Value).Type", "(internal/reflectlite.Value).IsNil", "internal/reflectlite.TypeOf", "(internal/reflectlite.Value).Elem", "(internal/reflectlite.Value).Set"], unfollowed := true, recurses := true, named := ["errors.errorType"], apart := false, laid := [("errors.errorType", laid_errors_errorType)], narrowed := true }
def WkbCoordsUptoSaid : Prop := wkbCoordsUptoRow.holds Tryz.pinned (OpenSpec.upto wkbCoordsSpec)

/-- 'plumblaw17.WkbCounts', WHERE WHAT IT READS IS OF BULK AT MOST 1048576: true; the input reads as it did. -/
def wkbCountsUptoRow : OpenClaim := { program := "ytgobnjeankjkjaagreatdoor", sum := "45b2bffe07abe07fb061407b97c68225d56d52e2c21408bb12c2c9ab118b78a0", func := "plumb/plumblaw17.WkbCounts", spec := "wkbCounts", inPlace := ["internal/reflectlite.ValueOf", "(internal/reflectlite.Value).Type", "(internal/reflectlite.Value).IsNil", "internal/reflectlite.TypeOf", "(internal/reflectlite.Value).Elem", "(internal/reflectlite.Value).Set"], unfollowed := true, recurses := true, named := ["errors.errorType"], apart := false, laid := [("errors.errorType", laid_errors_errorType)], narrowed := true }
def WkbCountsUptoSaid : Prop := wkbCountsUptoRow.holds Tryz.pinned (OpenSpec.upto wkbCountsSpec)

/-- 'plumblaw17.WkbOneForm', WHERE WHAT IT READS IS OF BULK AT MOST 1048576: true; the input reads as it did. -/
def wkbOneFormUptoRow : OpenClaim := { program := "ytgobnjeankjkjaagreatdoor", sum := "45b2bffe07abe07fb061407b97c68225d56d52e2c21408bb12c2c9ab118b78a0", func := "plumb/plumblaw17.WkbOneForm", spec := "wkbOneForm", inPlace := ["internal/reflectlite.ValueOf", "(internal/reflectlite.Value).Type", "(internal/reflectlite.Value).IsNil", "internal/reflectlite.TypeOf", "(internal/reflectlite.Value).Elem", "(internal/reflectlite.Value).Set"], unfollowed := true, recurses := true, named := ["errors.errorType"], apart := false, laid := [("errors.errorType", laid_errors_errorType)], narrowed := true }
def WkbOneFormUptoSaid : Prop := wkbOneFormUptoRow.holds Tryz.pinned (OpenSpec.upto wkbOneFormSpec)

/-- 'plumblaw17.WkbBack', WHERE WHAT IT READS IS OF BULK AT MOST 1048576: true; the input reads as it did. -/
def wkbBackUptoRow : OpenClaim := { program := "ytgobnjeankjkjaagreatdoor", sum := "45b2bffe07abe07fb061407b97c68225d56d52e2c21408bb12c2c9ab118b78a0", func := "plumb/plumblaw17.WkbBack", spec := "wkbBack", inPlace := ["internal/reflectlite.ValueOf", "(internal/reflectlite.Value).Type", "(internal/reflectlite.Value).IsNil", "internal/reflectlite.TypeOf", "(internal/reflectlite.Value).Elem", "(internal/reflectlite.Value).Set"], unfollowed := true, recurses := true, named := ["errors.errorType"], apart := false, laid := [("errors.errorType", laid_errors_errorType)], narrowed := true }
def WkbBackUptoSaid : Prop := wkbBackUptoRow.holds Tryz.pinned (OpenSpec.upto wkbBackSpec)

/-- 'plumblaw17.WkbLimits', WHERE WHAT IT READS IS OF BULK AT MOST 1048576: true; the input reads as it did. -/
def wkbLimitsUptoRow : OpenClaim := { program := "ytgobnjeankjkjaagreatdoor", sum := "45b2bffe07abe07fb061407b97c68225d56d52e2c21408bb12c2c9ab118b78a0", func := "plumb/plumblaw17.WkbLimits", spec := "wkbLimits", inPlace := ["internal/reflectlite.ValueOf", "(internal/reflectlite.Value).Type", "(internal/reflectlite.Value).IsNil", "internal/reflectlite.TypeOf", "(internal/reflectlite.Value).Elem", "(internal/reflectlite.Value).Set"], unfollowed := true, recurses := true, named := ["errors.errorType"], apart := false, laid := [("errors.errorType", laid_errors_errorType)], narrowed := true }
def WkbLimitsUptoSaid : Prop := wkbLimitsUptoRow.holds Tryz.pinned (OpenSpec.upto wkbLimitsSpec)

end Rows
end Go.Proofs.YtgobnjeankjkjaaGreatDoor
