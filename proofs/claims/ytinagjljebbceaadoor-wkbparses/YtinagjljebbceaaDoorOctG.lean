/- Layer 16: the law's sameErr; OctetHex. -/
import Derived.Test.YtinagjljebbceaaDoorOctF
import Derived.Test.YtinagjljebbceaaDoorByArg
namespace Go.Proofs.YtinagjljebbceaaDoor
open Go.ChangeShapes Go.WideShapes Go.ChangeAt Go.RowKit
open Ep Oc
set_option linter.unusedVariables false
end Go.Proofs.YtinagjljebbceaaDoor
