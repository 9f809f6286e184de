/- plumblaw12: num, fixed, finite. -/
import Derived.Test.YtalglldkjbinbaaGreatDoorRyuD
namespace Go.Proofs.YtalglldkjbinbaaGreatDoor
open Go.ChangeShapes Go.WideShapes Go.ChangeAt Go.RowKit
open Na Ar Ry
set_option linter.unusedVariables false
namespace Ry
theorem fxD : shD 4591870180066957722 = 1 := by kernel_rfl
theorem fxE : shE 4591870180066957722 = -1 := by kernel_rfl
theorem fyD : shD 1 = 5 := by kernel_rfl
theorem fyE : shE 1 = -324 := by kernel_rfl
end Ry
theorem num12_same (e : Int) (w : World) : Calls Tryz.prog 9 #[.int .i64 e] w fun r w' => r = .returned (.int .i64 e) ∧ w' = w := by
  go_enter Tryz.func9, Tryz.ntmps9
  go_wp2
  go_ret
  exact ⟨rfl, rfl⟩
set_option maxHeartbeats 1600000 in
set_option maxRecDepth 100000 in
theorem fixed12_any (w : World) : Calls Tryz.prog 6 #[] w fun r w' => r = .returned (.bool true) ∧ Below w.heap.size w w' := by
  have h1 := fun w => rshort_fin (b := 4591870180066957722) (by unfold U; omega) (by decide) (by decide) w
  have h2 := fun w => rshort_fin (b := 1) (by unfold U; omega) (by decide) (by decide) w
  have h3 := fun w => rshort_inf (b := 9218868437227405312) (by unfold U; omega) (by decide) w
  have e1 : mg 4591870180066957722 = 4591870180066957722 := by decide
  have e2 : mg 1 = 1 := by decide
  rw [e1, fxD, fxE] at h1
  rw [e2, fyD, fyE] at h2
  clear e1 e2
  go_enter Tryz.func6, Tryz.ntmps6
  go_wp2_with fail
  refine (h1 _).mono ?_
  rintro r w1 ⟨rfl, hb1⟩
  go_wp2_with fail
  refine (h2 _).mono ?_
  rintro r w2 ⟨rfl, hb2⟩
  have B2 := hb1.trans (hb2.mono hb1.size)
  clear hb1 hb2 h1 h2
  go_wp2_with fail
  refine (h3 _).mono ?_
  rintro r w3 ⟨rfl, hb3⟩
  have B3 := B2.trans (hb3.mono B2.size)
  clear hb3 B2 h3
  go_wp2_with (go_at_call 9; refine (num12_same _ _).mono ?_; rintro r wz ⟨rfl, hwz⟩; rw [hwz])
  go_ret
  exact ⟨rfl, B3⟩
end Go.Proofs.YtalglldkjbinbaaGreatDoor
