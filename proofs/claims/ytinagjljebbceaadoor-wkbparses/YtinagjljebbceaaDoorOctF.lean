/- Layer 16: Unhex. -/
import Derived.Test.YtinagjljebbceaaDoorOctE
namespace Go.Proofs.YtinagjljebbceaaDoor
open Go.ChangeShapes Go.WideShapes Go.ChangeAt Go.RowKit
open Ep Oc
set_option linter.unusedVariables false
namespace Oc
/-- is it told as an error? -/
def ubad (l : List UInt8) : Bool := decide (fb l < l.length) || decide (l.length % 2 = 1)
theorem ubad_at {l : List UInt8} (h : fb l < l.length) : ubad l = true := by unfold ubad; rw [decide_eq_true h]; rfl
theorem ubad_odd {l : List UInt8} (h : l.length % 2 = 1) : ubad l = true := by unfold ubad; rw [decide_eq_true h]; simp
theorem ubad_no {l : List UInt8} (h : fb l = l.length) (k : l.length % 2 = 0) : ubad l = false := by unfold ubad; rw [decide_eq_false (by omega), decide_eq_false (by omega)]; rfl
theorem shl_nib : ∀ x : Fin 16, IntKind.u8.wrap (((x.val : Nat) : Int) * 16) = ((16 * x.val : Nat) : Int) := by decide
theorem or_nib8 : ∀ (x y : Fin 16), bits BinOp.or IntKind.u8 ((16 * x.val : Nat) : Int) ((y.val : Nat) : Int) = ((16 * x.val + y.val : Nat) : Int) := by decide +kernel
theorem str_at (s : ByteArray) {k : Nat} (h : k < s.size) : s.data.toList.getD k 0 = s[k] := by
  rw [List.getD_eq_getElem?_getD, Array.getElem?_toList, Array.getElem?_eq_getElem h]
  rfl
end Oc
end Go.Proofs.YtinagjljebbceaaDoor
