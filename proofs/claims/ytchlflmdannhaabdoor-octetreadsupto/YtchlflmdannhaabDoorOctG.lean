/- Layer 16: the law's sameErr; OctetHex. -/
import Derived.Test.YtchlflmdannhaabDoorOctF
import Derived.Test.YtchlflmdannhaabDoorByArg
namespace Go.Proofs.YtchlflmdannhaabDoor
open Go.ChangeShapes Go.WideShapes Go.ChangeAt Go.RowKit
open Ep Oc
set_option linter.unusedVariables false
set_option maxHeartbeats 1600000 in
theorem sameErr_nil (p : Int) (w : World) :
    Calls Tryd.prog 11 #[.nilIface, .int .i64 0, .int .i64 p] w fun e w' => e = .returned (.bool true) ∧ w' = w := by
  go_enter Tryd.func11, Tryd.ntmps11
  go_wp2
  go_ret
  exact ⟨rfl, rfl⟩
set_option maxHeartbeats 1600000 in
set_option maxRecDepth 100000 in
theorem sameErr_yes {w : World} {g : Nat} {p c : Int} (hF : FaultAt w g p c) (hE : ErrVar w) (hc : c ≠ 0) :
    Calls Tryd.prog 11 #[.iface 41 (.pointer (some ⟨g, 0, none⟩)), .int .i64 c, .int .i64 p] w fun e w' => e = .returned (.bool true) ∧ Below w.heap.size w w' := by
  have t0 : (c == 0) = false := by simpa using hc
  have t1 : (c == c) = true := by simp
  have t2 : (p == p) = true := by simp
  have hC := codeFault_any hF hE
  have hP := fun (w' : World) (hb : Below w.heap.size w w') => placeFault_any (hF.later hb) (hE.later hb)
  clear hF hE hc
  go_enter Tryd.func11, Tryd.ntmps11
  go_wp2_with fail
  refine hC.mono ?_
  rintro e w1 ⟨rfl, hb1⟩
  have hP1 := hP w1 hb1
  clear hC hP
  go_wp2_with fail
  refine hP1.mono ?_
  rintro e w2 ⟨rfl, hb2⟩
  have hb := hb1.trans (hb2.mono hb1.size)
  clear hP1 hb2 hb1
  go_wp2
  go_ret
  exact ⟨rfl, hb⟩
end Go.Proofs.YtchlflmdannhaabDoor
