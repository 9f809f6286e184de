/- plumbref05 on Rats: two, Mul, Div. -/
import Derived.Test.YtopcdpeepchgfacGreatDoorRatKd
namespace Go.Proofs.YtopcdpeepchgfacGreatDoor
open Go.ChangeShapes Go.WideShapes Go.ChangeAt Go.RowKit
open Na Ar
set_option linter.unusedVariables false
section
variable {w : World} {a b : Option Addr} {n c m d : Nat} {xs ys : List Int} {A B : Int} {k : Nat}
theorem resE_ok {N : Int} {k : Nat} (h : Lt N k) (hk : k ≤ 4096) : resE N = 0 := if_pos (by have := h.len; omega)
theorem resL_ok {N : Int} {k : Nat} (h : Lt N k) (hk : k ≤ 4096) : resL N = words N := if_pos (by have := h.len; omega)
end
section
variable {w : World} {s1 s2 : Bool} {a1 b1 a2 b2 : Option Addr} {n1 c1 m1 d1 n2 c2 m2 d2 : Nat} {p q : Rat} {k l : Nat}
end
end Go.Proofs.YtopcdpeepchgfacGreatDoor
