/- Layer 16, the law's own: same, lent, kept over bytes. -/
import Derived.Test.YtinagjljebbceaaDoorByRow
import Derived.Test.YtinagjljebbceaaDoorBaseA
import Derived.Test.YtinagjljebbceaaDoorOctMath
namespace Go.Proofs.YtinagjljebbceaaDoor
open Go.ChangeShapes Go.WideShapes Go.ChangeAt Go.RowKit
open Ep Oc
set_option linter.unusedVariables false
namespace Ep
theorem takeD {xs : List UInt8} {k : Nat} (h : k < xs.length) : xs.take (k + 1) = xs.take k ++ [xs.getD k 0] := by
  rw [List.take_succ_eq_append_getElem h]
  simp [List.getD_eq_getElem?_getD, List.getElem?_eq_getElem h]
theorem same_take8 {xs ys : List UInt8} {k : Nat} (h : xs.take k = ys.take k) (hx : k < xs.length) (hy : k < ys.length) (he : xs.getD k 0 = ys.getD k 0) : xs.take (k + 1) = ys.take (k + 1) := by
  rw [takeD hx, takeD hy, h, he]
end Ep
theorem drewN_more (w : World) (a b : Nat) : (w.drewN a).drewN b = w.drewN (a + b) := by
  simp [World.drewN, Nat.add_assoc]
end Go.Proofs.YtinagjljebbceaaDoor
