/- plumblaw22: fixed (written by genpdq.py). -/
import Derived.Test.YtbonkgmcpjaepaaGreatPdK
import Derived.Test.YtbonkgmcpjaepaaGreatPdJ
namespace Go.Proofs.YtbonkgmcpjaepaaGreat
open Go.ChangeShapes Go.WideShapes Go.ChangeAt Go.RowKit
open Na Ar
set_option linter.unusedVariables false
set_option maxRecDepth 100000 in
theorem fix_i : sgnR (inR (valR 0) (valR 0) (valR 4607182418800017408) (valR 0) (valR 0) (valR 4607182418800017408) (valR 4602678819172646912) (valR 4602678819172646912)) = 1 := by decide +kernel
theorem fixed22_any (w : World) : Calls Tryz.prog 17 #[] w fun e w' => e = .returned (.bool true) ∧ Below w.heap.size w w' := by
  refine fixed22_of (fun w => ?_) w
  have h := InCircle22_fin (w := w) (a := (0, 0)) (b := (4607182418800017408, 0)) (c := (0, 4607182418800017408)) (d := (4602678819172646912, 4602678819172646912)) (u2_of (by unfold U; omega) (by unfold U; omega)) (u2_of (by unfold U; omega) (by unfold U; omega)) (u2_of (by unfold U; omega) (by unfold U; omega)) (u2_of (by unfold U; omega) (by unfold U; omega)) (by unfold fin2 ef; omega) (by unfold fin2 ef; omega) (by unfold fin2 ef; omega) (by unfold fin2 ef; omega)
  rw [fix_i] at h
  exact h
end Go.Proofs.YtbonkgmcpjaepaaGreat
