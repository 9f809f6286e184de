/- plumblaw07: whole, cmp, twice, size. -/
import Derived.Test.YtceecgklgkiffaaGreatDoorNearG
import Derived.Test.YtceecgklgkiffaaGreatDoorRatE
import Derived.Test.YtceecgklgkiffaaGreatDoorRatD
namespace Go.Proofs.YtceecgklgkiffaaGreatDoor
open Go.ChangeShapes Go.WideShapes Go.ChangeAt Go.RowKit
open Na Ar
set_option linter.unusedVariables false
section
variable {w : World} {s1 s2 s3 : Bool} {a1 a2 a3 b1 b2 b3 : Option Addr} {n1 n2 n3 c1 c2 c3 m1 m2 m3 d1 d2 d3 : Nat} {p q r : Rat} {k l j : Nat}
theorem st_two7 (w : World) (x y z x' y' z' : Value) (t t' : TypeId) : St ((w.alloc (.cells #[x, y, z] t)).alloc (.cells #[x', y', z'] t')) w.heap.size t x y z ∧ St ((w.alloc (.cells #[x, y, z] t)).alloc (.cells #[x', y', z'] t')) (w.heap.size + 1) t' x' y' z' ∧ Below w.heap.size w ((w.alloc (.cells #[x, y, z] t)).alloc (.cells #[x', y', z'] t')) := by
  have b1 := alloc_below (w := w) (.cells #[x, y, z] t)
  have b2 := alloc_below (w := w.alloc (.cells #[x, y, z] t)) (.cells #[x', y', z'] t')
  have s1 := (st_new w x y z t).later b2
  have s2 := st_new (w.alloc (.cells #[x, y, z] t)) x' y' z' t'
  have e1 : (w.alloc (.cells #[x, y, z] t)).heap.size = w.heap.size + 1 := by simp
  rw [e1] at s2
  exact ⟨s1, s2, b1.trans (b2.mono b1.size)⟩
end
end Go.Proofs.YtceecgklgkiffaaGreatDoor
