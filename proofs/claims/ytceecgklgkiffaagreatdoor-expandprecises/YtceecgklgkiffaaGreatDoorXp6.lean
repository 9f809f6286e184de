import Derived.Laws.EntriesVeiled
import Derived.KernelRfl
import Derived.Below
import Derived.BigQuiet
import Derived.ChangeOld
import Derived.Deep.DeepCutAuto
import Derived.Deep.QuietTactic
import Derived.Deep.RegionWith
import Derived.Laws.BitsAllLaws
import Derived.Laws.CopyRow
import Derived.Laws.IdiomCopy
import Derived.Laws.IdiomRangeMap
import Derived.OpenShut
import Derived.OwnWalk
import Derived.ProofKit
import Derived.ShutString
import Derived.WalkKit
import Derived.WalkLawsBesides
import Derived.WalkSpells
import Derived.Test.YtceecgklgkiffaaGreatDoorXp3
import Derived.Test.YtceecgklgkiffaaGreatDoorXp4
/- package near: the table, the five modes. -/
namespace Go.Proofs.YtceecgklgkiffaaGreatDoor
open Go.ChangeShapes Go.WideShapes Go.ChangeAt Go.RowKit
open Na Ar
set_option linter.unusedVariables false
/-- which numbers beyond the greatest stay there: the table's cells -/
def GrVar (w : World) : Prop :=
  (w.cell? ⟨0, 0, none⟩ = some (.bool false) ∧ w.cell? ⟨0, 1, none⟩ = some (.bool false)) ∧ (w.cell? ⟨0, 2, none⟩ = some (.bool true) ∧ w.cell? ⟨0, 3, none⟩ = some (.bool true)) ∧
  (w.cell? ⟨0, 4, none⟩ = some (.bool false) ∧ w.cell? ⟨0, 5, none⟩ = some (.bool false)) ∧ (w.cell? ⟨0, 6, none⟩ = some (.bool false) ∧ w.cell? ⟨0, 7, none⟩ = some (.bool true)) ∧
  w.cell? ⟨0, 8, none⟩ = some (.bool true) ∧ w.cell? ⟨0, 9, none⟩ = some (.bool false)
theorem cell_lt7 {w : World} {a : Addr} {v : Value} (h : w.cell? a = some v) : a.block < w.heap.size := by
  unfold World.cell? at h
  apply Decidable.byContradiction
  intro hc
  rw [Array.getElem?_eq_none (by omega)] at h
  cases h
theorem GrVar.lt {w : World} (h : GrVar w) : 0 < w.heap.size := cell_lt7 h.1.1
theorem GrVar.later {w w' : World} (h : GrVar w) (hb : Below w.heap.size w w') : GrVar w' := by
  have hl := h.lt
  have hc : ∀ i, w'.cell? ⟨0, i, none⟩ = w.cell? ⟨0, i, none⟩ := fun i => hb.cell (p := ⟨0, i, none⟩) hl
  unfold GrVar at *
  simp only [hc]
  exact h
end Go.Proofs.YtceecgklgkiffaaGreatDoor

/- package near: Scaled. -/
namespace Go.Proofs.YtceecgklgkiffaaGreatDoor
open Go.ChangeShapes Go.WideShapes Go.ChangeAt Go.RowKit
open Na Ar
set_option linter.unusedVariables false
/-- the way of a mode, in its variable -/
def Wy (w : World) (g : Nat) (S : Bool) (f : Nat) : Prop := w.heap[g]? = some (.cells #[.bool S, .func (.func f) #[] #[]] 0)
theorem Wy.lt {w : World} {g f : Nat} {S : Bool} (h : Wy w g S f) : g < w.heap.size := by
  unfold Wy at h
  apply Decidable.byContradiction
  intro hc
  rw [Array.getElem?_eq_none (by omega)] at h
  cases h
theorem Wy.later {w w' : World} {g f : Nat} {S : Bool} (h : Wy w g S f) (hb : Below w.heap.size w w') : Wy w' g S f := by
  unfold Wy
  rw [hb.block g h.lt]; exact h
theorem Wy.cells {w : World} {g f : Nat} {S : Bool} (h : Wy w g S f) : w.cell? ⟨g, 0, none⟩ = some (.bool S) ∧ w.cell? ⟨g, 1, none⟩ = some (.func (.func f) #[] #[]) := by
  unfold Wy at h
  unfold World.cell?
  simp [h]
end Go.Proofs.YtceecgklgkiffaaGreatDoor

