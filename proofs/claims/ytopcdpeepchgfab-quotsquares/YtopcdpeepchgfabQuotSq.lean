/- roots of squares. -/
import Derived.Test.YtopcdpeepchgfabQuotLive
namespace Go.Proofs.Ytopcdpeepchgfab
open Na Ar
set_option linter.unusedVariables false
namespace Na
theorem root_le {A S : Int} (h : IsRoot A S) (hA : 0 ≤ A) : S ≤ A := by
  obtain ⟨r1, r2, _⟩ := h
  by_cases g : S = 0
  · omega
  · have : S * 1 ≤ S * S := Int.mul_le_mul_of_nonneg_left (by omega) r1
    omega
theorem sq_next {A : Int} (h : 0 ≤ A) : A * A < (A + 1) * (A + 1) := by
  have : (A + 1) * (A + 1) = A * A + 2 * A + 1 := by grind
  omega
theorem root_ge {A V : Int} (hA : 0 ≤ A) (h : IsRoot (A * A + 1) V) : ¬ ordN V A < 0 := by
  intro hlt
  have hVA : V < A := by
    unfold ordN at hlt
    by_cases g : V < A
    · exact g
    · rw [if_neg g] at hlt
      split at hlt <;> omega
  obtain ⟨h1, h2, h3⟩ := h
  have := Int.mul_le_mul (show V + 1 ≤ A by omega) (show V + 1 ≤ A by omega) (by omega) hA
  omega
theorem root_one {A V : Int} (hA : 0 < A) (h : IsRoot (A * A + 1) V) : V = A := by
  refine h.unique ⟨by omega, by omega, ?_⟩
  have : (A + 1) * (A + 1) = A * A + 2 * A + 1 := by grind
  omega
end Na
end Go.Proofs.Ytopcdpeepchgfab
