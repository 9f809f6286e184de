/- package lemire: Small, Fast. -/
import Derived.Test.YtalglldkjbinbaaGreatDoorLemB
import Derived.Test.YtalglldkjbinbaaGreatDoorPowC
namespace Go.Proofs.YtalglldkjbinbaaGreatDoor
open Go.ChangeShapes Go.WideShapes Go.ChangeAt Go.RowKit
open Na Ar
set_option linter.unusedVariables false
/-- the table of the exact powers of ten -/
def TenVar (w : World) : Prop := ∀ k, k < 23 → w.cell? ⟨0, k, none⟩ = some (.int .u64 (tenP k))
theorem TenVar.lt {w : World} (h : TenVar w) : 0 < w.heap.size := by
  have := h 0 (by omega)
  unfold World.cell? at this
  apply Decidable.byContradiction
  intro hc
  rw [Array.getElem?_eq_none (by show w.heap.size ≤ 0; omega)] at this
  cases this
theorem TenVar.later {w w' : World} (h : TenVar w) (hb : Below w.heap.size w w') : TenVar w' := fun k hk => by
  rw [hb.cell (p := ⟨0, k, none⟩) h.lt]
  exact h k hk
namespace Ar
theorem round_none {B : Int} {neg : Bool} (hB : 0 < B) : RoundIs 0 B false false 0 0 0 := by
  refine ⟨0, ⟨by omega, by decide, by rw [num_zero']; omega, Or.inr ?_⟩, Or.inl ⟨Or.inl ?_, rfl, rfl⟩⟩
  · rw [show (0 : Int) + 1 = 1 by rfl, num_one']; omega
  · unfold agn
    rw [num_zero', Int.zero_mul, if_neg (by omega), if_pos rfl]; rfl
end Ar
namespace Ar
/-- what Fast answers -/
def FastIs (m e b E : Int) : Prop :=
  ((m = 0 ∨ e < -348) ∧ b = 0 ∧ E = 0) ∨ (m ≠ 0 ∧ 347 < e ∧ b = 0 ∧ E = 70) ∨
  (m ≠ 0 ∧ inT e ∧ ∃ b1 E1 b2 E2, RoundIs (scA (pV e * m) (pX e + e)) (scB 1 (pX e + e)) false false 0 b1 E1 ∧ RoundIs (scA (abV e * m) (pX e + e)) (scB 1 (pX e + e)) false false 0 b2 E2 ∧
    ((b1 = b2 ∧ E1 = E2 ∧ b = b1 ∧ E = E1) ∨ (¬ (b1 = b2 ∧ E1 = E2) ∧ b = 0 ∧ E = 100)))
end Ar
end Go.Proofs.YtalglldkjbinbaaGreatDoor
