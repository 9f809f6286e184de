/- plumblaw06: alive. -/
import Derived.Test.YteohdooeinogoabF64R
namespace Go.Proofs.Yteohdooeinogoab
open Go.ChangeShapes Go.WideShapes Go.ChangeAt Go.RowKit
open Ar
set_option linter.unusedVariables false

theorem join_three {b e : Int} (h : JoinIs true 3 (-1) b e) : b = 13832806255468478464 ∧ e = 0 := by
  refine joinIs_uniq h (Or.inr ⟨by decide, Or.inl ⟨6755399441055744, -52, ⟨Or.inl ⟨by decide, ?_⟩, by decide, by decide, by decide, by decide⟩, by decide, ?_, rfl⟩⟩)
  · have : e2 (-1 - -52) = 2251799813685248 := rfl
    rw [this]; rfl
  · rfl
theorem al1 : spS 4607182418800017408 = false := by decide
theorem al2 : spM 4607182418800017408 = 4503599627370496 := by decide
theorem al3 : spX 4607182418800017408 = -52 := by decide
theorem al4 : fiE 4607182418800017408 = 0 := by decide
theorem al5 : nxW 4607182418800017408 = 4607182418800017409 := by decide
theorem al6 : nxE 4607182418800017408 = 0 := by decide
theorem U_al : U 4607182418800017408 := by unfold U; omega
theorem U_3 : U 3 := by unfold U; omega
theorem f6alive_any (w : World) : Calls Try.prog 10 #[] w fun e w' => e = .returned (.bool true) ∧ Gr w w' := by
  have hS := fun w => f6Split_any U_al w
  have hN := fun w => f6Next_any U_al w
  rw [al1, al2, al3, al4] at hS
  rw [al5, al6] at hN
  have hJ : ∀ w : World, Calls Try.prog 20 #[.bool true, .int .u64 3, .int .i64 (-1)] w fun e w' => e = .returned (.tuple #[.int .u64 13832806255468478464, .int .i64 0]) ∧ Gr w w' := fun w => (f6Join_any true (-1) U_3 w).mono (by
    rintro e w' ⟨b, c, rfl, hg, h⟩
    obtain ⟨rfl, rfl⟩ := join_three h
    exact ⟨rfl, hg⟩)
  go_enter Try.func10, Try.ntmps10
  go_wp2_with (first | (go_at_call 16; refine (hS _).mono ?_; rintro e w' ⟨rfl, rfl⟩) | (go_at_call 9; refine (hN _).mono ?_; rintro e w' ⟨rfl, rfl⟩) | (go_at_call 20; refine (hJ _).mono ?_; rintro e w' ⟨rfl, hg⟩))
  go_ret
  exact ⟨rfl, hg⟩
end Go.Proofs.Yteohdooeinogoab
