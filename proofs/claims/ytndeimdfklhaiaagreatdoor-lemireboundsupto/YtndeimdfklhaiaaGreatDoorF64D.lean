/- plumblaw06: alive. -/
import Derived.Test.YtndeimdfklhaiaaGreatDoorF64R
namespace Go.Proofs.YtndeimdfklhaiaaGreatDoor
open Go.ChangeShapes Go.WideShapes Go.ChangeAt Go.RowKit
open Ar
set_option linter.unusedVariables false

theorem join_three {b e : Int} (h : JoinIs true 3 (-1) b e) : b = 13832806255468478464 ∧ e = 0 := by
  refine joinIs_uniq h (Or.inr ⟨by decide, Or.inl ⟨6755399441055744, -52, ⟨Or.inl ⟨by decide, ?_⟩, by decide, by decide, by decide, by decide⟩, by decide, ?_, rfl⟩⟩)
  · have : e2 (-1 - -52) = 2251799813685248 := rfl
    rw [this]; rfl
  · rfl
theorem al1 : spS 4607182418800017408 = false := by decide
theorem al2 : spM 4607182418800017408 = 4503599627370496 := by decide
theorem al3 : spX 4607182418800017408 = -52 := by decide
theorem al4 : fiE 4607182418800017408 = 0 := by decide
theorem al5 : nxW 4607182418800017408 = 4607182418800017409 := by decide
theorem al6 : nxE 4607182418800017408 = 0 := by decide
theorem U_al : U 4607182418800017408 := by unfold U; omega
theorem U_3 : U 3 := by unfold U; omega
end Go.Proofs.YtndeimdfklhaiaaGreatDoor
