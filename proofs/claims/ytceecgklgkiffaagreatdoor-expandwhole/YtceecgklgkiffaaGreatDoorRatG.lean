/- package rat: Div by zero. -/
import Derived.Test.YtceecgklgkiffaaGreatDoorRatF
namespace Go.Proofs.YtceecgklgkiffaaGreatDoor
open Go.ChangeShapes Go.WideShapes Go.ChangeAt Go.RowKit
open Na Ar
set_option linter.unusedVariables false
section
variable {w : World} {s1 s2 : Bool} {a1 b1 a2 b2 : Option Addr} {n1 c1 m1 d1 n2 c2 m2 d2 : Nat} {p q : Rat} {k l : Nat}
end
end Go.Proofs.YtceecgklgkiffaaGreatDoor
