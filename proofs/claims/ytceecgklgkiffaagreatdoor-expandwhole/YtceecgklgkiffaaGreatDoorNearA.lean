/- package near: the table, the five modes. -/
import Derived.Test.YtceecgklgkiffaaGreatDoorBaseK
import Derived.Test.YtceecgklgkiffaaGreatDoorBaseB
import Derived.Laws.EntriesVeiled
namespace Go.Proofs.YtceecgklgkiffaaGreatDoor
open Go.ChangeShapes Go.WideShapes Go.ChangeAt Go.RowKit
open Na Ar
set_option linter.unusedVariables false
/-- which numbers beyond the greatest stay there: the table's cells -/
def GrVar (w : World) : Prop :=
  (w.cell? ⟨0, 0, none⟩ = some (.bool false) ∧ w.cell? ⟨0, 1, none⟩ = some (.bool false)) ∧ (w.cell? ⟨0, 2, none⟩ = some (.bool true) ∧ w.cell? ⟨0, 3, none⟩ = some (.bool true)) ∧
  (w.cell? ⟨0, 4, none⟩ = some (.bool false) ∧ w.cell? ⟨0, 5, none⟩ = some (.bool false)) ∧ (w.cell? ⟨0, 6, none⟩ = some (.bool false) ∧ w.cell? ⟨0, 7, none⟩ = some (.bool true)) ∧
  w.cell? ⟨0, 8, none⟩ = some (.bool true) ∧ w.cell? ⟨0, 9, none⟩ = some (.bool false)
theorem cell_lt7 {w : World} {a : Addr} {v : Value} (h : w.cell? a = some v) : a.block < w.heap.size := by
  unfold World.cell? at h
  apply Decidable.byContradiction
  intro hc
  rw [Array.getElem?_eq_none (by omega)] at h
  cases h
theorem GrVar.lt {w : World} (h : GrVar w) : 0 < w.heap.size := cell_lt7 h.1.1
theorem GrVar.later {w w' : World} (h : GrVar w) (hb : Below w.heap.size w w') : GrVar w' := by
  have hl := h.lt
  have hc : ∀ i, w'.cell? ⟨0, i, none⟩ = w.cell? ⟨0, i, none⟩ := fun i => hb.cell (p := ⟨0, i, none⟩) hl
  unfold GrVar at *
  simp only [hc]
  exact h
theorem way_alloc (w : World) (x y : Value) (t : TypeId) : Below w.heap.size w (w.alloc (.cells #[x, y] t)) := alloc_below _
end Go.Proofs.YtceecgklgkiffaaGreatDoor
