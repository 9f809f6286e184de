/- package near: Rat. -/
import Derived.Test.YtceecgklgkiffaaGreatDoorNearD
import Derived.Test.YtceecgklgkiffaaGreatDoorRatF
namespace Go.Proofs.YtceecgklgkiffaaGreatDoor
open Go.ChangeShapes Go.WideShapes Go.ChangeAt Go.RowKit
open Na Ar
set_option linter.unusedVariables false
section
variable {w : World} {s : Bool} {a b : Option Addr} {n c m d : Nat} {q : Rat} {k : Nat}
end
end Go.Proofs.YtceecgklgkiffaaGreatDoor
