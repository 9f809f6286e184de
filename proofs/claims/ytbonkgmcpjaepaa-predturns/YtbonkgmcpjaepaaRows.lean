/-
  No cell of these rows narrows 'for every input' (looked for: loops, veiled, ifaces, maps, wideKeys, modest, calm, conditions, laid).
  DERIVED. THE GIVEN ROWS OF THIS SEAT. 3 by the template 'for every input the law returns true; each argument reads behind the call as it read before'; 0 by the template 'total and deterministic' (their statements: YtbonkgmcpjaepaaTotals.lean).
  GIVEN WITH THE SEED: the statements are not yours to turn. If you find one false, say at which input.
  Laid BY PROGRAM, IN A SANDBOX (cutbox-rows.mjs): the forced cells as the released guide's own fill.sh prints them over the translation ef4453b58ee9f64e… (all of the seat's roots in one cut). By AI agents, Wed Nov 11 2026. No macro, syntax, notation, axiom, sorry.
-/
import Derived.Test.YtbonkgmcpjaepaaChecked
import GoSem.Claim
import GoSem.ClaimJoined
import GoSem.ClaimMapViews
import Derived.JoinedTies
import Derived.KernelRfl
namespace Go.Proofs.Ytbonkgmcpjaepaa
/- THE CELL 'sum', in the pinned program and in every row, IS THE sha256 OF THE DUMP (.gsa) THAT YtbonkgmcpjaepaaProg.lean LOADS. Nothing in Lean hashes anything: it is a label: what it is worth is what the hold of that sum in a sandbox is worth. -/
noncomputable def Try.pinned : Pinned := { name := "ytbonkgmcpjaepaa", sum := "ef4453b58ee9f64e33fc11a80f90b69126edd39eb8627ec69b7637e7921bf9e9", checked := Try.checked }
namespace Rows
def none {H : Type} : Left H := { results := [], args := [] }

/-- 'plumblaw22.PredTurns': WHATEVER THE INPUT: true; the input reads as it did. -/
def predTurnsSpec : ChangeSpec := { name := "predTurns", fn := fun _ => fun
  | [d] => { results := [.lit (.bool true)], args := [d] }
  | _ => none }
def predTurnsRow : OpenClaim := { program := "ytbonkgmcpjaepaa", sum := "ef4453b58ee9f64e33fc11a80f90b69126edd39eb8627ec69b7637e7921bf9e9", func := "plumb/plumblaw22.PredTurns", spec := "predTurns", unfollowed := true, recurses := true, apart := false }
def PredTurnsSaid : Prop := predTurnsRow.holds Try.pinned (OpenSpec.ofChange predTurnsSpec)

/-- ITS FALSE NEIGHBOUR: 'it returns false'. Refute it at one input. -/
def predTurnsWrong : ChangeSpec := { name := "predTurns", fn := fun _ => fun
  | [d] => { results := [.lit (.bool false)], args := [d] }
  | _ => none }
def PredTurnsWrongFalsely : Prop := predTurnsRow.holds Try.pinned (OpenSpec.ofChange predTurnsWrong)

/-- 'plumblaw22.PredSteps': WHATEVER THE INPUT: true; the input reads as it did. -/
def predStepsSpec : ChangeSpec := { name := "predSteps", fn := fun _ => fun
  | [d] => { results := [.lit (.bool true)], args := [d] }
  | _ => none }
def predStepsRow : OpenClaim := { program := "ytbonkgmcpjaepaa", sum := "ef4453b58ee9f64e33fc11a80f90b69126edd39eb8627ec69b7637e7921bf9e9", func := "plumb/plumblaw22.PredSteps", spec := "predSteps", unfollowed := true, recurses := true, apart := false }
def PredStepsSaid : Prop := predStepsRow.holds Try.pinned (OpenSpec.ofChange predStepsSpec)

/-- ITS FALSE NEIGHBOUR: 'it returns false'. Refute it at one input. -/
def predStepsWrong : ChangeSpec := { name := "predSteps", fn := fun _ => fun
  | [d] => { results := [.lit (.bool false)], args := [d] }
  | _ => none }
def PredStepsWrongFalsely : Prop := predStepsRow.holds Try.pinned (OpenSpec.ofChange predStepsWrong)

/-- 'plumblaw22.PredOrders': WHATEVER THE INPUT: true; the input reads as it did. -/
def predOrdersSpec : ChangeSpec := { name := "predOrders", fn := fun _ => fun
  | [d] => { results := [.lit (.bool true)], args := [d] }
  | _ => none }
def predOrdersRow : OpenClaim := { program := "ytbonkgmcpjaepaa", sum := "ef4453b58ee9f64e33fc11a80f90b69126edd39eb8627ec69b7637e7921bf9e9", func := "plumb/plumblaw22.PredOrders", spec := "predOrders", unfollowed := true, recurses := true, apart := false }
def PredOrdersSaid : Prop := predOrdersRow.holds Try.pinned (OpenSpec.ofChange predOrdersSpec)

/-- ITS FALSE NEIGHBOUR: 'it returns false'. Refute it at one input. -/
def predOrdersWrong : ChangeSpec := { name := "predOrders", fn := fun _ => fun
  | [d] => { results := [.lit (.bool false)], args := [d] }
  | _ => none }
def PredOrdersWrongFalsely : Prop := predOrdersRow.holds Try.pinned (OpenSpec.ofChange predOrdersWrong)

/- THE SECOND FORM. 'bulk': how many values and letters a reading holds, each counted each time it is reached (what is shared counts as often as it is met; a slice's spare places count too). A statement '..UptoSaid' is the law's where the arguments, and the package variables that the reading takes, are together of bulk at most 1048576: NARROWER than '..Said'. Prove '..Said' where nothing that the law and all that it calls make is longer than what came in: it says more and counts as full. Else prove '..UptoSaid'. A law counts once. -/
mutual
def uptoBulk {H : Type} : DataW H → Nat
  | .lit (.string bytes) => bytes.length + 1
  | .lit _ => 1
  | .nil => 1
  | .ptr d => uptoBulk d + 1
  | .slice elems spare => uptoBulkAll elems + uptoBulkAll spare + 1
  | .agg parts => uptoBulkAll parts + 1
  | .iface _ d => uptoBulk d + 1
  | .map entries => uptoBulkEntries entries + 1
  | .held _ => 1
def uptoBulkAll {H : Type} : List (DataW H) → Nat
  | [] => 0
  | d :: r => uptoBulk d + uptoBulkAll r
def uptoBulkEntries {H : Type} : List (Lit × DataW H) → Nat
  | [] => 0
  | x :: r => uptoBulkEntry x + uptoBulkEntries r
def uptoBulkEntry {H : Type} : Lit × DataW H → Nat
  | (.string bytes, d) => bytes.length + uptoBulk d + 1
  | (_, d) => uptoBulk d + 1
 end
def uptoSmall : (H : Type) → List (DataW H) → Bool := fun _ ds => decide (uptoBulkAll ds ≤ 1048576)
def OpenSpec.upto (s : _root_.Go.ChangeSpec) : _root_.Go.OpenSpec := { _root_.Go.OpenSpec.ofChange s with cond := some uptoSmall }

/-- 'plumblaw22.PredTurns', WHERE WHAT IT READS IS OF BULK AT MOST 1048576: true; the input reads as it did. -/
def predTurnsUptoRow : OpenClaim := { program := "ytbonkgmcpjaepaa", sum := "ef4453b58ee9f64e33fc11a80f90b69126edd39eb8627ec69b7637e7921bf9e9", func := "plumb/plumblaw22.PredTurns", spec := "predTurns", unfollowed := true, recurses := true, apart := false, narrowed := true }
def PredTurnsUptoSaid : Prop := predTurnsUptoRow.holds Try.pinned (OpenSpec.upto predTurnsSpec)

/-- 'plumblaw22.PredSteps', WHERE WHAT IT READS IS OF BULK AT MOST 1048576: true; the input reads as it did. -/
def predStepsUptoRow : OpenClaim := { program := "ytbonkgmcpjaepaa", sum := "ef4453b58ee9f64e33fc11a80f90b69126edd39eb8627ec69b7637e7921bf9e9", func := "plumb/plumblaw22.PredSteps", spec := "predSteps", unfollowed := true, recurses := true, apart := false, narrowed := true }
def PredStepsUptoSaid : Prop := predStepsUptoRow.holds Try.pinned (OpenSpec.upto predStepsSpec)

/-- 'plumblaw22.PredOrders', WHERE WHAT IT READS IS OF BULK AT MOST 1048576: true; the input reads as it did. -/
def predOrdersUptoRow : OpenClaim := { program := "ytbonkgmcpjaepaa", sum := "ef4453b58ee9f64e33fc11a80f90b69126edd39eb8627ec69b7637e7921bf9e9", func := "plumb/plumblaw22.PredOrders", spec := "predOrders", unfollowed := true, recurses := true, apart := false, narrowed := true }
def PredOrdersUptoSaid : Prop := predOrdersUptoRow.holds Try.pinned (OpenSpec.upto predOrdersSpec)

end Rows
end Go.Proofs.Ytbonkgmcpjaepaa
