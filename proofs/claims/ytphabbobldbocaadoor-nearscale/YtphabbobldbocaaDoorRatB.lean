/- package rat: areRats, sum. -/
import Derived.Test.YtphabbobldbocaaDoorRatA
import Derived.Deep.RegionWith
import Derived.Deep.RegionHeld3
import Derived.Deep.DeepCutAuto
import Derived.Deep.DeepFit
namespace Go.Proofs.YtphabbobldbocaaDoor
open Go.ChangeShapes Go.WideShapes Go.ChangeAt Go.RowKit
open Na Ar
set_option linter.unusedVariables false
theorem st_two (w : World) (x y z x' y' z' : Value) (t t' : TypeId) : St ((w.alloc (.cells #[x, y, z] t)).alloc (.cells #[x', y', z'] t')) w.heap.size t x y z ∧ St ((w.alloc (.cells #[x, y, z] t)).alloc (.cells #[x', y', z'] t')) (w.heap.size + 1) t' x' y' z' ∧ Below w.heap.size w ((w.alloc (.cells #[x, y, z] t)).alloc (.cells #[x', y', z'] t')) := by
  have b1 := alloc_below (w := w) (.cells #[x, y, z] t)
  have s1 := st_new w x y z t
  have e1 : (w.alloc (.cells #[x, y, z] t)).heap.size = w.heap.size + 1 := by simp
  generalize w.alloc (.cells #[x, y, z] t) = w1 at *
  have b2 := alloc_below (w := w1) (.cells #[x', y', z'] t')
  have s2 := st_new w1 x' y' z' t'
  rw [e1] at s2
  exact ⟨s1.later b2, s2, b1.trans (b2.mono b1.size)⟩
theorem st_three (w : World) (x y z x' y' z' x2 y2 z2 : Value) (t t' t2 : TypeId) : St (((w.alloc (.cells #[x, y, z] t)).alloc (.cells #[x', y', z'] t')).alloc (.cells #[x2, y2, z2] t2)) w.heap.size t x y z ∧ St (((w.alloc (.cells #[x, y, z] t)).alloc (.cells #[x', y', z'] t')).alloc (.cells #[x2, y2, z2] t2)) (w.heap.size + 1) t' x' y' z' ∧ St (((w.alloc (.cells #[x, y, z] t)).alloc (.cells #[x', y', z'] t')).alloc (.cells #[x2, y2, z2] t2)) (w.heap.size + 1 + 1) t2 x2 y2 z2 ∧ Below w.heap.size w (((w.alloc (.cells #[x, y, z] t)).alloc (.cells #[x', y', z'] t')).alloc (.cells #[x2, y2, z2] t2)) := by
  obtain ⟨s1, s2, b⟩ := st_two w x y z x' y' z' t t'
  have e1 : ((w.alloc (.cells #[x, y, z] t)).alloc (.cells #[x', y', z'] t')).heap.size = w.heap.size + 1 + 1 := by simp
  generalize (w.alloc (.cells #[x, y, z] t)).alloc (.cells #[x', y', z'] t') = w1 at *
  have b2 := alloc_below (w := w1) (.cells #[x2, y2, z2] t2)
  have s3 := st_new w1 x2 y2 z2 t2
  rw [e1] at s3
  exact ⟨s1.later b2, s2.later b2, s3, b.trans (b2.mono b.size)⟩
section
variable {w0 w1 : World} {a b : Option Addr} {n c m d : Nat} {xs ys : List Int} {A B : Int} {k : Nat}
end
section
variable {w : World} {s1 s2 : Bool} {a1 b1 a2 b2 : Option Addr} {n1 c1 m1 d1 n2 c2 m2 d2 : Nat} {p q : Rat} {k l : Nat}
end
end Go.Proofs.YtphabbobldbocaaDoor
