/- plumbref03: Norm, at, Word; plumblaw03: lent, kept. -/
import Derived.Test.YtmenhfnakcdnnabDoorBaseB
namespace Go.Proofs.YtmenhfnakcdnnabDoor
open Go.ChangeShapes Go.WideShapes Go.ChangeAt Go.RowKit
open Na Ar
set_option linter.unusedVariables false
end Go.Proofs.YtmenhfnakcdnnabDoor
