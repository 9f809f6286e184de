/- plumblaw22: PredTurns of any points. -/
import Derived.Test.YtbonkgmcpjaepaaPdO
import Derived.Test.YtbonkgmcpjaepaaPdQa
namespace Go.Proofs.Ytbonkgmcpjaepaa
open Go.ChangeShapes Go.WideShapes Go.ChangeAt Go.RowKit
open Na Ar
set_option linter.unusedVariables false
theorem turns_walk {x0 x1 x2 x3 x4 x5 x6 x7 : Int} (u0 : U x0) (u1 : U x1) (u2 : U x2) (u3 : U x3) (u4 : U x4) (u5 : U x5) (u6 : U x6) (u7 : U x7) {w : World} :
    Calls Try.prog 3 #[.agg #[.int .u64 x0, .int .u64 x1, .int .u64 x2, .int .u64 x3, .int .u64 x4, .int .u64 x5, .int .u64 x6, .int .u64 x7]] w fun e w' => e = .returned (.bool true) ∧ Below w.heap.size w w' := by
  have ua := u2_of u0 u1
  have ub := u2_of u2 u3
  have uc := u2_of u4 u5
  have ud := u2_of u6 u7
  by_cases h : fin2 (x0, x1) ∧ fin2 (x2, x3) ∧ fin2 (x4, x5)
  · by_cases fd : fin2 (x6, x7)
    · exact turns_all ua ub uc ud h.1 h.2.1 h.2.2 fd fixed22_any w
    · exact turns_three ua ub uc ud h.1 h.2.1 h.2.2 fd fixed22_any w
  · exact turns_none ua ub uc ud h fixed22_any w
end Go.Proofs.Ytbonkgmcpjaepaa
