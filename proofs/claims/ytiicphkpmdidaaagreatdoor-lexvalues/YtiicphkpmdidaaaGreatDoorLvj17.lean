import Derived.Deep.QuietTactic
import Derived.BigQuiet
import Derived.Laws.EntriesVeiled
import Derived.Below
import Derived.ChangeOld
import Derived.Deep.DeepCutAuto
import Derived.Deep.RegionWith
import Derived.KernelRfl
import Derived.Laws.BitsAllLaws
import Derived.Laws.CopyRow
import Derived.Laws.IdiomCopy
import Derived.Laws.IdiomRangeMap
import Derived.Laws.IdiomStrings
import Derived.Laws.RangeAny
import Derived.Laws.Strings3
import Derived.Lib.OthersKept
import Derived.Lib.Strings
import Derived.Lib.TrimByte
import Derived.Lib.Walk
import Derived.OpenShut
import Derived.OwnWalk
import Derived.ProofKit
import Derived.Scope
import Derived.ShutString
import Derived.WalkKit
import Derived.WalkLawsBesides
import Derived.WalkMore
import Derived.WalkSpells
import Derived.Test.YtiicphkpmdidaaaGreatDoorLvj3
import Derived.Test.YtiicphkpmdidaaaGreatDoorLvj4
import Derived.Test.YtiicphkpmdidaaaGreatDoorLvj5
import Derived.Test.YtiicphkpmdidaaaGreatDoorLvj6
import Derived.Test.YtiicphkpmdidaaaGreatDoorLvj16
/- package power: a power of the table. -/
namespace Go.Proofs.YtiicphkpmdidaaaGreatDoor
open Go.ChangeShapes Go.WideShapes Go.ChangeAt Go.RowKit
open Na Ar
set_option linter.unusedVariables false
/-- a struct of four cells, one of two, each in its block -/
def F4 (w : World) (g : Nat) (t : TypeId) (x y z u : Value) : Prop := w.heap[g]? = some (.cells #[x, y, z, u] t (0, 0))
def F2 (w : World) (g : Nat) (t : TypeId) (x y : Value) : Prop := w.heap[g]? = some (.cells #[x, y] t (0, 0))
theorem set_block8 {w : World} {g i : Nat} {c : Array Value} {t : TypeId} {f : Nat × Nat} {v : Value} (h : w.heap[g]? = some (.cells c t f)) : (w.setCell ⟨g, i, none⟩ v).heap[g]? = some (.cells (c.setIfInBounds i v) t f) := by
  simp [World.setCell, Array.getElem?_modify, h]
section
variable {w w' : World} {g : Nat} {t : TypeId} {x y z u : Value}
theorem F4.lt (h : F4 w g t x y z u) : g < w.heap.size := by
  by_cases hlt : g < w.heap.size
  · exact hlt
  · unfold F4 at h; simp [Array.getElem?_eq_none (Nat.le_of_not_lt hlt)] at h
theorem F2.lt (h : F2 w g t x y) : g < w.heap.size := by
  by_cases hlt : g < w.heap.size
  · exact hlt
  · unfold F2 at h; simp [Array.getElem?_eq_none (Nat.le_of_not_lt hlt)] at h
theorem F4.later (h : F4 w g t x y z u) (hb : Below w.heap.size w w') : F4 w' g t x y z u := by
  have := h.lt
  unfold F4
  rw [hb.block g this]; exact h
theorem F2.later (h : F2 w g t x y) (hb : Below w.heap.size w w') : F2 w' g t x y := by
  have := h.lt
  unfold F2
  rw [hb.block g this]; exact h
theorem F4.cells (h : F4 w g t x y z u) : w.cell? ⟨g, 0, none⟩ = some x ∧ w.cell? ⟨g, 1, none⟩ = some y ∧ w.cell? ⟨g, 2, none⟩ = some z ∧ w.cell? ⟨g, 3, none⟩ = some u := by
  unfold F4 at h
  simp [World.cell?, h]
theorem F2.cells (h : F2 w g t x y) : w.cell? ⟨g, 0, none⟩ = some x ∧ w.cell? ⟨g, 1, none⟩ = some y := by
  unfold F2 at h
  simp [World.cell?, h]
theorem F4.frozen (h : F4 w g t x y z u) : w.frozen? ⟨g, 0, none⟩ = false ∧ w.frozen? ⟨g, 1, none⟩ = false ∧ w.frozen? ⟨g, 2, none⟩ = false ∧ w.frozen? ⟨g, 3, none⟩ = false := by
  unfold F4 at h
  simp [World.frozen?, h]
theorem F2.frozen (h : F2 w g t x y) : w.frozen? ⟨g, 0, none⟩ = false ∧ w.frozen? ⟨g, 1, none⟩ = false := by
  unfold F2 at h
  simp [World.frozen?, h]
theorem F4.set (h : F4 w g t x y z u) (x' y' z' u' : Value) : F4 ((((w.setCell ⟨g, 0, none⟩ x').setCell ⟨g, 1, none⟩ y').setCell ⟨g, 2, none⟩ z').setCell ⟨g, 3, none⟩ u') g t x' y' z' u' :=
  set_block8 (set_block8 (set_block8 (set_block8 h)))
theorem F2.set (h : F2 w g t x y) (x' y' : Value) : F2 ((w.setCell ⟨g, 0, none⟩ x').setCell ⟨g, 1, none⟩ y') g t x' y' := set_block8 (set_block8 h)
end
end Go.Proofs.YtiicphkpmdidaaaGreatDoor

/- package lemire: Small, Fast. -/
namespace Go.Proofs.YtiicphkpmdidaaaGreatDoor
open Go.ChangeShapes Go.WideShapes Go.ChangeAt Go.RowKit
open Na Ar
set_option linter.unusedVariables false
/-- the table of the exact powers of ten -/
def TenVar (w : World) : Prop := ∀ k, k < 23 → w.cell? ⟨0, k, none⟩ = some (.int .u64 (tenP k))
theorem TenVar.lt {w : World} (h : TenVar w) : 0 < w.heap.size := by
  have := h 0 (by omega)
  unfold World.cell? at this
  apply Decidable.byContradiction
  intro hc
  rw [Array.getElem?_eq_none (by omega)] at this
  cases this
theorem TenVar.later {w w' : World} (h : TenVar w) (hb : Below w.heap.size w w') : TenVar w' := fun k hk => by
  rw [hb.cell (p := ⟨0, k, none⟩) h.lt]
  exact h k hk
namespace Ar
end Ar
namespace Ar
end Ar
end Go.Proofs.YtiicphkpmdidaaaGreatDoor

/- Plain numbers: where Fast is sure it is the number itself, rounded. -/
namespace Go.Proofs.YtiicphkpmdidaaaGreatDoor
open Go.RowKit
open Na Ar
set_option linter.unusedVariables false
namespace Ar
/-- the number m times ten to the e, by a numerator and a denominator -/
def exN (m e : Int) : Int := if 0 ≤ e then m * 10 ^ e.toNat else m
def exD (e : Int) : Int := if 0 ≤ e then 1 else 10 ^ (-e).toNat
/-! ### there is an answer; the order -/
/-! ### the bounds of the table -/
theorem p10 (n : Nat) : (10 : Int) ^ n = 5 ^ n * 2 ^ n := by rw [← Int.mul_pow]; rfl
end Ar
end Go.Proofs.YtiicphkpmdidaaaGreatDoor

