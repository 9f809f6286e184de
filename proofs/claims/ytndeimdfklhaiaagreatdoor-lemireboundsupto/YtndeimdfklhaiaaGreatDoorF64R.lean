/- plumbref06: the document's answers but Join. -/
import Derived.Test.YtndeimdfklhaiaaGreatDoorF64C
namespace Go.Proofs.YtndeimdfklhaiaaGreatDoor
open Go.ChangeShapes Go.WideShapes Go.ChangeAt Go.RowKit
open Ar
set_option linter.unusedVariables false
set_option linter.unusedSimpArgs false

theorem top_is {b : Int} (hb : U b) : (b / 9223372036854775808 == 1) = decide (9223372036854775808 ≤ b) := by
  unfold U at hb
  rw [Bool.eq_iff_iff]; simp; omega
theorem ret_bii {k l : IntKind} {p q : Bool} {a b c d : Int} (h : p = q) (h' : a = b) (h'' : c = d) : Ending.returned (.tuple #[.bool p, .int k a, .int l c]) = .returned (.tuple #[.bool q, .int k b, .int l d]) := by rw [h, h', h'']

end Go.Proofs.YtndeimdfklhaiaaGreatDoor
