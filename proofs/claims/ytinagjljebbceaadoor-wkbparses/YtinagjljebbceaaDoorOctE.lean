/- Layer 16: Unhex, the program's and the document's. -/
import Derived.Test.YtinagjljebbceaaDoorOctD
import Derived.Test.YtinagjljebbceaaDoorOctHx
import Derived.Test.YtinagjljebbceaaDoorOctB
import Derived.Test.YtinagjljebbceaaDoorBaseZ
import Derived.Deep.DeepCutAuto
namespace Go.Proofs.YtinagjljebbceaaDoor
open Go.ChangeShapes Go.WideShapes Go.ChangeAt Go.RowKit
open Ep Oc
set_option linter.unusedVariables false
namespace Oc
/-- a capital A to F made small -/
def lowD (c : UInt8) : UInt8 := if 65 ≤ c.toNat ∧ c.toNat ≤ 70 then UInt8.ofNat (c.toNat + 32) else c
theorem all8 {p : UInt8 → Prop} (h : ∀ k : Fin 256, p (UInt8.ofNat k.val)) (c : UInt8) : p c := by
  have := h ⟨c.toNat, c.toNat_lt⟩
  simpa using this
theorem low_val (c : UInt8) : valD (lowD c) = valD c := all8 (p := fun c => valD (lowD c) = valD c) (by decide +kernel) c
theorem hexD_val {c : UInt8} {k : Nat} (h : valD (lowD c) = some k) : hexD k = lowD c := by
  have : ∀ c : UInt8, (match valD (lowD c) with | some k => decide (hexD k = lowD c) | none => true) = true := all8 (by decide +kernel)
  have := this c
  rw [h] at this
  simpa using this
theorem low_nat (c : UInt8) : ((lowD c).toNat : Int) = if 65 ≤ (c.toNat : Int) ∧ (c.toNat : Int) ≤ 70 then (c.toNat : Int) + 32 else (c.toNat : Int) := by
  unfold lowD
  by_cases h : 65 ≤ c.toNat ∧ c.toNat ≤ 70
  · rw [if_pos h, if_pos (by omega), UInt8.toNat_ofNat']
    omega
  · rw [if_neg h, if_neg (by omega)]
/-- the document's worth of a digit: -1 of none -/
def rvN (c : UInt8) : Int := match valD c with | some k => (k : Int) | none => -1
theorem rvN_some {c : UInt8} {k : Nat} (h : valD c = some k) : rvN c = (k : Int) := by unfold rvN; rw [h]
theorem rvN_none {c : UInt8} (h : valD c = none) : rvN c = -1 := by unfold rvN; rw [h]
theorem rvN_low (c : UInt8) : rvN (lowD c) = rvN c := by unfold rvN; rw [low_val]
end Oc
end Go.Proofs.YtinagjljebbceaaDoor
