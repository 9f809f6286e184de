/- Layer 16: the law's sameErr; OctetHex. -/
import Derived.Test.YtchlflmdannhaaaOctF
import Derived.Test.YtchlflmdannhaaaByArg
namespace Go.Proofs.Ytchlflmdannhaaa
open Go.ChangeShapes Go.WideShapes Go.ChangeAt Go.RowKit
open Ep Oc
set_option linter.unusedVariables false
end Go.Proofs.Ytchlflmdannhaaa
