/- package near: Rat. -/
import Derived.Test.YtcnkgkogjaiohaaGreatDoorNearD
import Derived.Test.YtcnkgkogjaiohaaGreatDoorRatF
namespace Go.Proofs.YtcnkgkogjaiohaaGreatDoor
open Go.ChangeShapes Go.WideShapes Go.ChangeAt Go.RowKit
open Na Ar
set_option linter.unusedVariables false
section
variable {w : World} {s : Bool} {a b : Option Addr} {n c m d : Nat} {q : Rat} {k : Nat}
end
end Go.Proofs.YtcnkgkogjaiohaaGreatDoor
