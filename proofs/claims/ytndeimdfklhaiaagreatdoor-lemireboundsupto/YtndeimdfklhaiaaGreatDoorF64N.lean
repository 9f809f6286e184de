/- plumblaw06: the numbers of patterns as natural numbers. -/
import Derived.Test.YtndeimdfklhaiaaGreatDoorF64D
import Derived.Test.YtndeimdfklhaiaaGreatDoorBaseB
namespace Go.Proofs.YtndeimdfklhaiaaGreatDoor
open Go.ChangeShapes Go.WideShapes Go.ChangeAt Go.RowKit
open Na Ar
set_option linter.unusedVariables false

namespace Ar
/-- the number of a finite pattern, times two to the 1074 -/
def numW (b : Int) : Int := spM b * 2 ^ (spX b + 1074).toNat
theorem num_parts {b : Int} (h : U b) (hf : ef b ≠ 2047) : ∃ p : Nat, spX b + 1074 = p ∧ p ≤ 2045 ∧ 0 ≤ spM b ∧ spM b < 9007199254740992 ∧ mg b = p * 4503599627370496 + spM b ∧ (p = 0 ∨ 4503599627370496 ≤ spM b) ∧ numW b = spM b * 2 ^ p := by
  have h1 := ef_bd b
  have h2 := fr_bd b
  have h3 := mg_parts b
  have hx : -1074 ≤ spX b ∧ spX b ≤ 971 ∧ 0 ≤ spM b ∧ spM b < 9007199254740992 ∧ mg b = (spX b + 1074) * 4503599627370496 + spM b ∧ (spX b = -1074 ∨ 4503599627370496 ≤ spM b) := by
    unfold spX spM
    simp only [if_neg hf]
    split <;> omega
  refine ⟨(spX b + 1074).toNat, by omega, by omega, by omega, by omega, ?_, by omega, rfl⟩
  have : ((spX b + 1074).toNat : Int) = spX b + 1074 := by omega
  rw [this]; omega
theorem num_lt {M N : Int} {p q : Nat} (hM : 0 ≤ M) (hM' : M < 9007199254740992) (hN : q = 0 ∨ 4503599627370496 ≤ N) (hN0 : 0 ≤ N) (h : (p : Int) * 4503599627370496 + M < q * 4503599627370496 + N) (hN' : N < 9007199254740992) (hp : p = 0 ∨ 4503599627370496 ≤ M) : M * 2 ^ p < N * 2 ^ q := by
  have hpq : p ≤ q := by omega
  by_cases e : p = q
  · subst e
    have : M < N := by omega
    exact Int.mul_lt_mul_of_pos_right this (pow_pos p)
  · have hq : q = p + 1 + (q - p - 1) := by omega
    have hn : 4503599627370496 ≤ N := by omega
    rw [hq, Int.pow_add, Int.pow_succ]
    have hP := pow_pos p
    have hR := pow_pos (q - p - 1)
    have a1 : M * 2 ^ p < 9007199254740992 * 2 ^ p := Int.mul_lt_mul_of_pos_right hM' hP
    have a2 : 4503599627370496 * (2 ^ p * 2) ≤ N * (2 ^ p * 2) := Int.mul_le_mul_of_nonneg_right hn (by omega)
    have a3 : N * (2 ^ p * 2) * 1 ≤ N * (2 ^ p * 2) * 2 ^ (q - p - 1) := Int.mul_le_mul_of_nonneg_left (by omega) (Int.mul_nonneg hN0 (by omega))
    rw [Int.mul_one, Int.mul_assoc] at a3
    generalize (2 : Int) ^ p = P at *
    generalize N * (P * 2 * 2 ^ (q - p - 1)) = T at *
    omega
theorem num_ord {a b : Int} (ha : U a) (hb : U b) (fa : ef a ≠ 2047) (fb : ef b ≠ 2047) : (mg a < mg b → numW a < numW b) ∧ (mg a = mg b → numW a = numW b) := by
  obtain ⟨p, e1, e2, e3, e4, e5, e6, e7⟩ := num_parts ha fa
  obtain ⟨q, f1, f2, f3, f4, f5, f6, f7⟩ := num_parts hb fb
  rw [e7, f7]
  constructor
  · intro h
    rw [e5, f5] at h
    exact num_lt e3 e4 f6 f3 h f4 e6
  · intro h
    rw [e5, f5] at h
    have : p = q := by omega
    subst this
    have : spM a = spM b := by omega
    rw [this]
theorem num_zero {b : Int} (h : U b) (hf : ef b ≠ 2047) : spM b = 0 ↔ mg b = 0 := by
  obtain ⟨p, e1, e2, e3, e4, e5, e6, e7⟩ := num_parts h hf
  omega
end Ar
theorem ordN_num {a b : Int} (ha : U a) (hb : U b) (fa : ef a ≠ 2047) (fb : ef b ≠ 2047) : ordN (numW a) (numW b) = ord (mg a) (mg b) := by
  obtain ⟨h1, h2⟩ := num_ord ha hb fa fb
  obtain ⟨h3, h4⟩ := num_ord hb ha fb fa
  rcases ord_cases (mg a) (mg b) with ⟨h, e⟩ | ⟨h, e⟩ | ⟨h, e⟩
  · rw [e]; exact ordN_lt (h1 h)
  · rw [e]; exact ordN_eq (h2 h)
  · rw [e]; exact ordN_gt (h3 h)
end Go.Proofs.YtndeimdfklhaiaaGreatDoor
