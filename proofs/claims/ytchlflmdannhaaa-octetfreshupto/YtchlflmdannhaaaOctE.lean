/- Layer 16: Unhex, the program's and the document's. -/
import Derived.Test.YtchlflmdannhaaaOctD
import Derived.Test.YtchlflmdannhaaaOctHx
import Derived.Test.YtchlflmdannhaaaOctB
import Derived.Test.YtchlflmdannhaaaBaseZ
import Derived.Deep.DeepCutAuto
namespace Go.Proofs.Ytchlflmdannhaaa
open Go.ChangeShapes Go.WideShapes Go.ChangeAt Go.RowKit
open Ep Oc
set_option linter.unusedVariables false
namespace Oc
/-- a capital A to F made small -/
def lowD (c : UInt8) : UInt8 := if 65 ≤ c.toNat ∧ c.toNat ≤ 70 then UInt8.ofNat (c.toNat + 32) else c
theorem all8 {p : UInt8 → Prop} (h : ∀ k : Fin 256, p (UInt8.ofNat k.val)) (c : UInt8) : p c := by
  have := h ⟨c.toNat, c.toNat_lt⟩
  simpa using this
theorem low_val (c : UInt8) : valD (lowD c) = valD c := all8 (p := fun c => valD (lowD c) = valD c) (by decide +kernel) c
theorem hexD_val {c : UInt8} {k : Nat} (h : valD (lowD c) = some k) : hexD k = lowD c := by
  have : ∀ c : UInt8, (match valD (lowD c) with | some k => decide (hexD k = lowD c) | none => true) = true := all8 (by decide +kernel)
  have := this c
  rw [h] at this
  simpa using this
theorem low_nat (c : UInt8) : ((lowD c).toNat : Int) = if 65 ≤ (c.toNat : Int) ∧ (c.toNat : Int) ≤ 70 then (c.toNat : Int) + 32 else (c.toNat : Int) := by
  unfold lowD
  by_cases h : 65 ≤ c.toNat ∧ c.toNat ≤ 70
  · rw [if_pos h, if_pos (by omega), UInt8.toNat_ofNat']
    omega
  · rw [if_neg h, if_neg (by omega)]
/-- the document's worth of a digit: -1 of none -/
def rvN (c : UInt8) : Int := match valD c with | some k => (k : Int) | none => -1
theorem rvN_some {c : UInt8} {k : Nat} (h : valD c = some k) : rvN c = (k : Int) := by unfold rvN; rw [h]
theorem rvN_none {c : UInt8} (h : valD c = none) : rvN c = -1 := by unfold rvN; rw [h]
theorem rvN_low (c : UInt8) : rvN (lowD c) = rvN c := by unfold rvN; rw [low_val]
end Oc
set_option maxHeartbeats 1600000 in
theorem value16_yes {c : UInt8} {k : Nat} (h : valD c = some k) (w : World) :
    Calls Try.prog 15 #[.int .u8 (c.toNat : Int)] w fun e w' => e = .returned (.tuple #[.int .u8 (k : Int), .bool true]) ∧ w' = w := by
  unfold valD at h
  have hc := c.toNat_lt
  obtain ⟨x, hx⟩ : ∃ x : Nat, x = c.toNat := ⟨_, rfl⟩
  rw [← hx] at h hc ⊢
  clear hx
  rcases (by omega : (48 ≤ x ∧ x ≤ 57) ∨ (97 ≤ x ∧ x ≤ 102) ∨ (65 ≤ x ∧ x ≤ 70) ∨ ((x < 48 ∨ 57 < x) ∧ (x < 97 ∨ 102 < x) ∧ (x < 65 ∨ 70 < x))) with q | q | q | ⟨q1, q2, q3⟩
  · rw [if_pos q] at h
    simp only [Option.some.injEq] at h
    have e : (k : Int) = (x : Int) - 48 := by omega
    rw [e]
    have i1 : (48 : Int) ≤ x := by omega
    have i2 : (x : Int) ≤ 57 := by omega
    clear h e q
    go_enter Try.func15, Try.ntmps15
    go_wp2
    go_ret2
    exact ⟨rfl, rfl⟩
  · rw [if_neg (by omega), if_pos q] at h
    simp only [Option.some.injEq] at h
    have e : (k : Int) = (x : Int) - 97 + 10 := by omega
    rw [e]
    have i1 : (97 : Int) ≤ x := by omega
    have i2 : (x : Int) ≤ 102 := by omega
    clear h e q
    go_enter Try.func15, Try.ntmps15
    go_wp2
    go_ret2
    exact ⟨rfl, rfl⟩
  · rw [if_neg (by omega), if_neg (by omega), if_pos q] at h
    simp only [Option.some.injEq] at h
    have e : (k : Int) = (x : Int) - 65 + 10 := by omega
    rw [e]
    have i1 : (65 : Int) ≤ x := by omega
    have i2 : (x : Int) ≤ 70 := by omega
    clear h e q
    go_enter Try.func15, Try.ntmps15
    go_wp2
    go_ret2
    exact ⟨rfl, rfl⟩
  · rw [if_neg (by omega), if_neg (by omega), if_neg (by omega)] at h
    cases h
set_option maxHeartbeats 1600000 in
theorem value16_no {c : UInt8} (h : valD c = none) (w : World) :
    Calls Try.prog 15 #[.int .u8 (c.toNat : Int)] w fun e w' => e = .returned (.tuple #[.int .u8 0, .bool false]) ∧ w' = w := by
  unfold valD at h
  have hc := c.toNat_lt
  obtain ⟨x, hx⟩ : ∃ x : Nat, x = c.toNat := ⟨_, rfl⟩
  rw [← hx] at h hc ⊢
  clear hx
  have h' : (x < 48 ∨ 57 < x) ∧ (x < 97 ∨ 102 < x) ∧ (x < 65 ∨ 70 < x) := by
    by_cases q1 : 48 ≤ x ∧ x ≤ 57
    · rw [if_pos q1] at h; cases h
    · rw [if_neg q1] at h
      by_cases q2 : 97 ≤ x ∧ x ≤ 102
      · rw [if_pos q2] at h; cases h
      · rw [if_neg q2] at h
        by_cases q3 : 65 ≤ x ∧ x ≤ 70
        · rw [if_pos q3] at h; cases h
        · omega
  clear h
  rcases (by omega : (x : Int) < 48 ∨ (57 < (x : Int) ∧ (x : Int) < 65) ∨ (70 < (x : Int) ∧ (x : Int) < 97) ∨ 102 < (x : Int)) with q | ⟨q, q'⟩ | ⟨q, q'⟩ | q
  all_goals
    clear h'
    go_enter Try.func15, Try.ntmps15
    go_wp2
    go_ret2
    exact ⟨rfl, rfl⟩
end Go.Proofs.Ytchlflmdannhaaa
