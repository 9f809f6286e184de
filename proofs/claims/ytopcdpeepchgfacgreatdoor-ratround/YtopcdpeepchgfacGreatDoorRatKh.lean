/- plumbref05 on Rats: Floor. -/
import Derived.Test.YtopcdpeepchgfacGreatDoorRatKg
namespace Go.Proofs.YtopcdpeepchgfacGreatDoor
open Go.ChangeShapes Go.WideShapes Go.ChangeAt Go.RowKit
open Na Ar
set_option linter.unusedVariables false
theorem mkR_one (s : Bool) (A : Int) : mkR s A 1 = ((sg s A : Int) : Rat) := by
  unfold mkR
  exact Rat.mkRat_one (sg s A)
section
variable {w : World} {s s1 : Bool} {a1 b1 : Option Addr} {n1 c1 m1 d1 : Nat} {p : Rat} {k l : Nat}
end
end Go.Proofs.YtopcdpeepchgfacGreatDoor
