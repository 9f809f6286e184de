/- plumbref02.Mul: the walk. -/
import Derived.Test.YtbdljmboilapeaaRefNatMul
namespace Go.Proofs.Ytbdljmboilapeaa
open Go.ChangeShapes Go.WideShapes Go.ChangeAt Go.RowKit
open Na
set_option linter.unusedVariables false

namespace Na
theorem digs_nil {A : Int} (h : 0 ≤ A) : (digs A).length = 0 ↔ A = 0 := by
  rw [List.length_eq_zero_iff]
  unfold digs
  rw [dig_nil (by omega)]
  omega
theorem res_zero {N : Int} (h : N = 0) : resL N = [] ∧ resE N = 0 := by
  subst h
  have : words 0 = [] := dig_zero _
  unfold resL resE
  rw [this]
  exact ⟨rfl, rfl⟩
theorem res_huge {N : Int} (h : 4096 < (words N).length) : resL N = [] ∧ resE N = 21 := by
  unfold resL resE
  rw [if_neg (by omega), if_neg (by omega)]
  exact ⟨rfl, rfl⟩
end Na

end Go.Proofs.Ytbdljmboilapeaa
