/- package near: Scaled. -/
import Derived.Test.YtceecgklgkiffaaGreatDoorNearScl
import Derived.KernelRfl
namespace Go.Proofs.YtceecgklgkiffaaGreatDoor
open Go.ChangeShapes Go.WideShapes Go.ChangeAt Go.RowKit
open Na Ar
set_option linter.unusedVariables false
/-- the way of a mode, in its variable -/
def Wy (w : World) (g : Nat) (S : Bool) (f : Nat) : Prop := w.heap[g]? = some (.cells #[.bool S, .func (.func f) #[] #[]] 0)
theorem Wy.lt {w : World} {g f : Nat} {S : Bool} (h : Wy w g S f) : g < w.heap.size := by
  unfold Wy at h
  apply Decidable.byContradiction
  intro hc
  rw [Array.getElem?_eq_none (by omega)] at h
  cases h
theorem Wy.later {w w' : World} {g f : Nat} {S : Bool} (h : Wy w g S f) (hb : Below w.heap.size w w') : Wy w' g S f := by
  unfold Wy
  rw [hb.block g h.lt]; exact h
theorem Wy.cells {w : World} {g f : Nat} {S : Bool} (h : Wy w g S f) : w.cell? ⟨g, 0, none⟩ = some (.bool S) ∧ w.cell? ⟨g, 1, none⟩ = some (.func (.func f) #[] #[]) := by
  unfold Wy at h
  unfold World.cell?
  simp [h]
theorem wy_new (w : World) (S : Bool) (f : Nat) : Wy (w.alloc (.cells #[.bool S, .func (.func f) #[] #[]] 0)) w.heap.size S f := heap_alloc_new _ _
end Go.Proofs.YtceecgklgkiffaaGreatDoor
