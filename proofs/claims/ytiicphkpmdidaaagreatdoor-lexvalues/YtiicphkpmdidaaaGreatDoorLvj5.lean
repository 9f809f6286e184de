import Derived.KernelRfl
import Derived.Below
import Derived.BigQuiet
import Derived.ChangeOld
import Derived.Deep.QuietTactic
import Derived.Deep.RegionWith
import Derived.Laws.BitsAllLaws
import Derived.Laws.CopyRow
import Derived.Laws.IdiomCopy
import Derived.Laws.IdiomRangeMap
import Derived.OpenShut
import Derived.OwnWalk
import Derived.ProofKit
import Derived.ShutString
import Derived.WalkKit
import Derived.WalkLawsBesides
import Derived.WalkSpells
import Derived.Test.YtiicphkpmdidaaaGreatDoorLvj3
import Derived.Test.YtiicphkpmdidaaaGreatDoorLvj4
/- plumblaw06: the numbers of patterns as natural numbers. -/
namespace Go.Proofs.YtiicphkpmdidaaaGreatDoor
open Go.ChangeShapes Go.WideShapes Go.ChangeAt Go.RowKit
open Na Ar
set_option linter.unusedVariables false

namespace Ar
end Ar
end Go.Proofs.YtiicphkpmdidaaaGreatDoor

/- Plain numbers: an exact number among the patterns, and rounding by five modes. -/
namespace Go.Proofs.YtiicphkpmdidaaaGreatDoor.Ar
open Go.RowKit
set_option linter.unusedVariables false

/-! ### both multiplied by the same -/
/-! ### far out, and next to nothing -/
/-! ### the document's way: crosswise, by halving -/
end Go.Proofs.YtiicphkpmdidaaaGreatDoor.Ar

/- Plain numbers: what rounding means: the nearest, the neighbours, the order, a little more. -/
namespace Go.Proofs.YtiicphkpmdidaaaGreatDoor.Ar
open Go.RowKit
set_option linter.unusedVariables false

end Go.Proofs.YtiicphkpmdidaaaGreatDoor.Ar

/- Plain numbers: near's way: a mantissa cut at its last place, and what lies behind it. -/
namespace Go.Proofs.YtiicphkpmdidaaaGreatDoor.Ar
open Go.RowKit
set_option linter.unusedVariables false

end Go.Proofs.YtiicphkpmdidaaaGreatDoor.Ar

/- Plain numbers: near's Scaled and Quotient: what they come to is the rounded number. -/
namespace Go.Proofs.YtiicphkpmdidaaaGreatDoor.Ar
open Go.RowKit
set_option linter.unusedVariables false

/-! ### a quotient that is cut, with a rest -/
end Go.Proofs.YtiicphkpmdidaaaGreatDoor.Ar

/- Plain numbers: lemire's rounding. -/
namespace Go.Proofs.YtiicphkpmdidaaaGreatDoor.Ar
open Go.RowKit
set_option linter.unusedVariables false

/-! ### a rest below the last place, of a whole of 55 bits and more -/
/-! ### powers of two moved between the number and its exponent -/
/-! ### one word, rounded -/
end Go.Proofs.YtiicphkpmdidaaaGreatDoor.Ar

/- Plain numbers: lemire's products, and the exact powers of ten. -/
namespace Go.Proofs.YtiicphkpmdidaaaGreatDoor.Ar
open Go.RowKit
set_option linter.unusedVariables false

/-! ### the exact powers of ten -/
/-- the table -/
def tenL : List Nat := [4607182418800017408, 4621819117588971520, 4636737291354636288, 4652007308841189376, 4666723172467343360, 4681608360884174848, 4696837146684686336, 4711630319722168320, 4726483295884279808, 4741671816366391296, 4756540486875873280, 4771362005757984768, 4786511204640096256, 4801453603149578240, 4816244402031689728, 4831355200913801216, 4846369599423283200, 4861130398305394688, 4876203697187506176, 4891288408196988160, 4906019910204099648, 4921056587992461136, 4936209963552724370]
def tenP (k : Nat) : Int := (tenL.getD k 0 : Nat)
end Go.Proofs.YtiicphkpmdidaaaGreatDoor.Ar

