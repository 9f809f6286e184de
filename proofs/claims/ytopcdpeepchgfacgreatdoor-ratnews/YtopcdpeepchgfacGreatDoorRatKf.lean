/- plumbref05 on Rats: Add. -/
import Derived.Test.YtopcdpeepchgfacGreatDoorRatKe
namespace Go.Proofs.YtopcdpeepchgfacGreatDoor
open Go.ChangeShapes Go.WideShapes Go.ChangeAt Go.RowKit
open Na Ar
set_option linter.unusedVariables false
section
variable {w : World} {s1 s2 : Bool} {a1 b1 a2 b2 : Option Addr} {n1 c1 m1 d1 n2 c2 m2 d2 : Nat} {p q : Rat} {k l : Nat}
theorem sum_zero1 (s t : Bool) (n m D : Int) (d : Nat) (hD : D.toNat = d) (hn : n = 0) : mkR t (n + m) D = mkRat (sg s n + sg t m) d := by
  subst hn
  have : sg s 0 = 0 := by cases s <;> rfl
  rw [mkR, hD, this, Int.zero_add, Int.zero_add]
theorem sum_zero2 (s t : Bool) (n m D : Int) (d : Nat) (hD : D.toNat = d) (hm : m = 0) : mkR s (n + m) D = mkRat (sg s n + sg t m) d := by
  subst hm
  have : sg t 0 = 0 := by cases t <;> rfl
  rw [mkR, hD, this, Int.add_zero, Int.add_zero]
end
end Go.Proofs.YtopcdpeepchgfacGreatDoor
