/- Layer 16: Hex, the program's and the document's. -/
import Derived.Test.YtinagjljebbceaaDoorOctA
import Derived.Deep.RegionLaw
import Derived.Deep.RegionHeld3
namespace Go.Proofs.YtinagjljebbceaaDoor
open Go.ChangeShapes Go.WideShapes Go.ChangeAt Go.RowKit
open Ep Oc
set_option linter.unusedVariables false
namespace Oc
theorem hex_at (k : Nat) (hk : k < 16) (h : k < (ByteArray.mk #[48, 49, 50, 51, 52, 53, 54, 55, 56, 57, 97, 98, 99, 100, 101, 102]).size) : (ByteArray.mk #[48, 49, 50, 51, 52, 53, 54, 55, 56, 57, 97, 98, 99, 100, 101, 102])[k]'h = hexD k := by
  have : ∀ k : Fin 16, ∀ h, (ByteArray.mk #[48, 49, 50, 51, 52, 53, 54, 55, 56, 57, 97, 98, 99, 100, 101, 102])[k.val]'h = hexD k.val := by decide
  exact this ⟨k, hk⟩ h
end Oc
theorem Ob.drew {w : World} {base : Nat} {v : Value} {l : List UInt8} (h : Ob w base v l) : Ob w.drew base v l := h.later (below_drewN (Below.refl _ _) 1)
end Go.Proofs.YtinagjljebbceaaDoor
