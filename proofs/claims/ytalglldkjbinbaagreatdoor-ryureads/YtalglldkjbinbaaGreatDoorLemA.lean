/- package lemire: rounding. -/
import Derived.Test.YtalglldkjbinbaaGreatDoorBaseK
import Derived.Test.YtalglldkjbinbaaGreatDoorBaseJ
import Derived.Test.YtalglldkjbinbaaGreatDoorBaseA
namespace Go.Proofs.YtalglldkjbinbaaGreatDoor
open Go.ChangeShapes Go.WideShapes Go.ChangeAt Go.RowKit
open Ar
set_option linter.unusedVariables false
namespace Ar
theorem raise_math {x : Int} (hx : U x) (h0 : x ≠ 0) : ∃ up : Nat, (64 : Int) - lenW x = up ∧ up ≤ 63 ∧ clampN (up : Int) = up ∧ shLo 0 x up = x * 2 ^ up ∧ 9223372036854775808 ≤ x * 2 ^ up ∧ x * 2 ^ up < 18446744073709551616 := by
  obtain ⟨k, k1, k2, k3, k4, k5⟩ := len_two hx
  have hx0 : 0 < x := by unfold U at hx; omega
  have hk : k ≠ 0 := by
    rintro rfl
    simp at k4
    omega
  have k6 : (2 : Int) ^ k ≤ 2 * x := by
    rcases k5 with ⟨h, _⟩ | h
    · exact absurd h hk
    · exact h
  have hp : (2 : Int) ^ k * 2 ^ (64 - k) = 18446744073709551616 := by rw [← Int.pow_add, show k + (64 - k) = 64 by omega]; rfl
  have hq := pow_pos (64 - k)
  have a1 : x * 2 ^ (64 - k) < 2 ^ k * 2 ^ (64 - k) := Int.mul_lt_mul_of_pos_right k4 hq
  have a2 : 2 ^ k * 2 ^ (64 - k) ≤ 2 * x * 2 ^ (64 - k) := Int.mul_le_mul_of_nonneg_right k6 (by omega)
  rw [hp] at a1 a2
  rw [Int.mul_assoc] at a2
  have hn : 0 ≤ x * 2 ^ (64 - k) := Int.mul_nonneg (by omega) (by omega)
  refine ⟨64 - k, by omega, by omega, ?_, ?_, by omega, a1⟩
  · unfold clampN
    by_cases h : k = 64
    · subst h; rfl
    · rw [if_neg (by omega), if_neg (by omega), Int.toNat_natCast]
  · unfold shLo
    rw [Int.zero_mul, Int.zero_add]
    exact Int.emod_eq_of_lt hn a1
end Ar
namespace Ar
theorem U_srHi0 {x : Int} (h0 : 9223372036854775808 ≤ x) (h1 : x < 18446744073709551616) {D : Int} (hD : 11 ≤ D) : 0 ≤ srHi x 0 (clampN D) ∧ srHi x 0 (clampN D) < 9007199254740992 := by
  rw [(lem_cut (m := 0) (more := false) h0 h1 hD).1]
  have h11 : e2 11 ≤ e2 D := e2_le hD
  have e : e2 11 = 2048 := rfl
  rw [e] at h11
  refine ⟨Int.ediv_nonneg (by omega) (by omega), ?_⟩
  apply Int.ediv_lt_of_lt_mul (by omega)
  omega
end Ar
end Go.Proofs.YtalglldkjbinbaaGreatDoor
