/- package lemire: products, Small. -/
import Derived.Test.YtalglldkjbinbaaGreatDoorLemA
import Derived.Test.YtalglldkjbinbaaGreatDoorBaseC
namespace Go.Proofs.YtalglldkjbinbaaGreatDoor
open Go.ChangeShapes Go.WideShapes Go.ChangeAt Go.RowKit
open Ar
set_option linter.unusedVariables false
namespace Ar
theorem round_fits {A B b E : Int} {more neg : Bool} {mode : Int} (hB : 0 < B) (hA : A < numW mostP * B) (h : RoundIs A B more neg mode b E) : E = 0 := by
  obtain ⟨d, hb, h⟩ := h
  obtain ⟨a1, a2, a3, a4⟩ := hb
  rcases h with ⟨_, _, h⟩ | ⟨_, ⟨h, _, _⟩ | ⟨_, _, h⟩⟩
  · exact h
  · rw [h] at a3; omega
  · exact h
theorem small_fits {N D : Int} (h0 : 0 < D) (h : N < e2 200 * D) : scA N 0 < numW mostP * scB D 0 := by
  unfold scA scB
  rw [most_nums.1, e2_zero (k := -(0 + 1074)) (by omega), Int.mul_one]
  have e : e2 2045 = e2 (0 + 1074) * e2 971 := by rw [← e2_add (by omega) (by omega)]; congr 1
  have l : e2 200 ≤ e2 971 := e2_le (by omega)
  rw [e]
  have hp := e2_pos (0 + 1074)
  generalize e2 (0 + 1074) = Z at *
  have hq := e2_pos 200
  have a1 : N * Z < e2 200 * D * Z := Int.mul_lt_mul_of_pos_right h hp
  have a2 : e2 200 * D * Z ≤ e2 971 * D * Z := Int.mul_le_mul_of_nonneg_right (Int.mul_le_mul_of_nonneg_right l (by omega)) (by omega)
  generalize e2 971 = Y at *
  have a3 : 9007199254740991 * (Z * Y) * D = 9007199254740991 * (Y * D * Z) := by grind
  rw [a3]
  have : 0 ≤ Y * D * Z := Int.mul_nonneg (Int.mul_nonneg (by omega) (by omega)) (by omega)
  omega
theorem ten_le {k : Nat} (h : k < 23) : (10 : Int) ^ k ≤ 10000000000000000000000 := by
  have e : (10 : Int) ^ 22 = 10 ^ k * 10 ^ (22 - k) := by rw [← Int.pow_add]; congr 1; omega
  have p1 : (0 : Int) < 10 ^ k := Int.pow_pos (by omega)
  have p2 : (0 : Int) < 10 ^ (22 - k) := Int.pow_pos (by omega)
  have := Int.mul_le_mul_of_nonneg_left (show (1 : Int) ≤ 10 ^ (22 - k) by omega) (Int.le_of_lt p1)
  have e2 : (10 : Int) ^ 22 = 10000000000000000000000 := by rfl
  omega
/-- what Small answers -/
def SmlI (m e b : Int) : Prop := if 0 ≤ e then RoundIs (scA (m * 10 ^ e.toNat) 0) (scB 1 0) false false 0 b 0 else RoundIs (scA m 0) (scB (10 ^ (-e).toNat) 0) false false 0 b 0
def smallOk (m e : Int) : Bool := decide (m ≤ 9007199254740992 ∧ -22 ≤ e ∧ e ≤ 22)
end Ar
namespace Ar
theorem by_shift {m : Int} (hm : U m) (m0 : m ≠ 0) (m1 : m ≤ 9007199254740992) : ∃ up : Nat, (116 : Int) - lenW m = up ∧ up ≤ 115 ∧ 1 ≤ lenW m ∧ lenW m ≤ 54 ∧ clampN (up : Int) = up ∧ shHi 0 m up * 18446744073709551616 + shLo 0 m up = m * 2 ^ up ∧ 0 ≤ shHi 0 m up ∧ shHi 0 m up < 4503599627370496 ∧ 41538374868278621028243970633760768 ≤ m * 2 ^ up := by
  obtain ⟨k, k1, k2, k3, k4, k5⟩ := len_two hm
  have hx0 : 0 < m := by unfold U at hm; omega
  have hk : k ≠ 0 := by
    rintro rfl
    simp at k4
    omega
  have k6 : (2 : Int) ^ k ≤ 2 * m := by
    rcases k5 with ⟨h, _⟩ | h
    · exact absurd h hk
    · exact h
  have hk54 : k ≤ 54 := by
    apply Decidable.byContradiction
    intro hc
    have e : (2 : Int) ^ k = 2 ^ 55 * 2 ^ (k - 55) := by rw [← Int.pow_add]; congr 1; omega
    have := pow_pos (k - 55)
    have e5 : (2 : Int) ^ 55 = 36028797018963968 := rfl
    omega
  have hp : (2 : Int) ^ k * 2 ^ (116 - k) = 83076749736557242056487941267521536 := by rw [← Int.pow_add, show k + (116 - k) = 116 by omega]; rfl
  have hq := pow_pos (116 - k)
  have a1 : m * 2 ^ (116 - k) < 2 ^ k * 2 ^ (116 - k) := Int.mul_lt_mul_of_pos_right k4 hq
  have a2 : 2 ^ k * 2 ^ (116 - k) ≤ 2 * m * 2 ^ (116 - k) := Int.mul_le_mul_of_nonneg_right k6 (by omega)
  rw [hp] at a1 a2
  rw [Int.mul_assoc] at a2
  refine ⟨116 - k, by omega, by omega, by omega, by omega, ?_, ?_, ?_, ?_, by omega⟩
  · unfold clampN
    rw [if_neg (by omega), if_neg (by omega), Int.toNat_natCast]
  · unfold shHi shLo
    rw [Int.zero_mul, Int.zero_add]
    omega
  · unfold shHi
    omega
  · unfold shHi
    rw [Int.zero_mul, Int.zero_add]
    omega
end Ar
end Go.Proofs.YtalglldkjbinbaaGreatDoor
