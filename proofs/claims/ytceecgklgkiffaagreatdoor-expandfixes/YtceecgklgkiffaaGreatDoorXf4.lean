import Derived.KernelRfl
import Derived.Below
import Derived.BigQuiet
import Derived.ChangeOld
import Derived.Deep.DeepCutAuto
import Derived.Deep.QuietTactic
import Derived.Deep.RegionWith
import Derived.Laws.BitsAllLaws
import Derived.Laws.CopyRow
import Derived.Laws.IdiomCopy
import Derived.Laws.IdiomRangeMap
import Derived.OpenShut
import Derived.OwnWalk
import Derived.ProofKit
import Derived.ShutString
import Derived.WalkKit
import Derived.WalkLawsBesides
import Derived.WalkSpells
import Derived.Test.YtceecgklgkiffaaGreatDoorXf2
import Derived.Test.YtceecgklgkiffaaGreatDoorXf3
/- plumblaw06: the numbers of patterns as natural numbers. -/
namespace Go.Proofs.YtceecgklgkiffaaGreatDoor
open Go.ChangeShapes Go.WideShapes Go.ChangeAt Go.RowKit
open Na Ar
set_option linter.unusedVariables false

namespace Ar
/-- the number of a finite pattern, times two to the 1074 -/
def numW (b : Int) : Int := spM b * 2 ^ (spX b + 1074).toNat
theorem num_parts {b : Int} (h : U b) (hf : ef b ≠ 2047) : ∃ p : Nat, spX b + 1074 = p ∧ p ≤ 2045 ∧ 0 ≤ spM b ∧ spM b < 9007199254740992 ∧ mg b = p * 4503599627370496 + spM b ∧ (p = 0 ∨ 4503599627370496 ≤ spM b) ∧ numW b = spM b * 2 ^ p := by
  have h1 := ef_bd b
  have h2 := fr_bd b
  have h3 := mg_parts b
  have hx : -1074 ≤ spX b ∧ spX b ≤ 971 ∧ 0 ≤ spM b ∧ spM b < 9007199254740992 ∧ mg b = (spX b + 1074) * 4503599627370496 + spM b ∧ (spX b = -1074 ∨ 4503599627370496 ≤ spM b) := by
    unfold spX spM
    simp only [if_neg hf]
    split <;> omega
  refine ⟨(spX b + 1074).toNat, by omega, by omega, by omega, by omega, ?_, by omega, rfl⟩
  have : ((spX b + 1074).toNat : Int) = spX b + 1074 := by omega
  rw [this]; omega
end Ar
end Go.Proofs.YtceecgklgkiffaaGreatDoor

/- Plain numbers: an exact number among the patterns, and rounding by five modes. -/
namespace Go.Proofs.YtceecgklgkiffaaGreatDoor.Ar
open Go.RowKit
set_option linter.unusedVariables false

/-- how far it is from a pattern to the next one: two to this -/
def stepN (p : Int) : Nat := (spX p + 1074).toNat
theorem num_low {p : Int} (h : ef p = 0) : numW p = fr p ∧ stepN p = 0 := by
  unfold numW stepN spM spX
  simp [h]
/-! ### both multiplied by the same -/
/-! ### far out, and next to nothing -/
/-! ### the document's way: crosswise, by halving -/
end Go.Proofs.YtceecgklgkiffaaGreatDoor.Ar

/- Plain numbers: what rounding means: the nearest, the neighbours, the order, a little more. -/
namespace Go.Proofs.YtceecgklgkiffaaGreatDoor.Ar
open Go.RowKit
set_option linter.unusedVariables false

end Go.Proofs.YtceecgklgkiffaaGreatDoor.Ar

/- Plain numbers: near's way: a mantissa cut at its last place, and what lies behind it. -/
namespace Go.Proofs.YtceecgklgkiffaaGreatDoor.Ar
open Go.RowKit
set_option linter.unusedVariables false

end Go.Proofs.YtceecgklgkiffaaGreatDoor.Ar

/- Plain numbers: near's Scaled and Quotient: what they come to is the rounded number. -/
namespace Go.Proofs.YtceecgklgkiffaaGreatDoor.Ar
open Go.RowKit
set_option linter.unusedVariables false

/-! ### a quotient that is cut, with a rest -/
end Go.Proofs.YtceecgklgkiffaaGreatDoor.Ar

/- Plain numbers: lemire's rounding. -/
namespace Go.Proofs.YtceecgklgkiffaaGreatDoor.Ar
open Go.RowKit
set_option linter.unusedVariables false

/-! ### a rest below the last place, of a whole of 55 bits and more -/
/-! ### powers of two moved between the number and its exponent -/
/-! ### one word, rounded -/
end Go.Proofs.YtceecgklgkiffaaGreatDoor.Ar

/- Plain numbers: lemire's products, and the exact powers of ten. -/
namespace Go.Proofs.YtceecgklgkiffaaGreatDoor.Ar
open Go.RowKit
set_option linter.unusedVariables false

/-! ### the exact powers of ten -/
end Go.Proofs.YtceecgklgkiffaaGreatDoor.Ar

