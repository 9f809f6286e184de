/- package near: what lies behind, the cut. -/
import Derived.Test.YtceecgklgkiffaaGreatDoorNearA
namespace Go.Proofs.YtceecgklgkiffaaGreatDoor
open Go.ChangeShapes Go.WideShapes Go.ChangeAt Go.RowKit
open Na Ar
set_option linter.unusedVariables false
theorem kK_11 {z D : Int} {more : Bool} (h : more = true ∨ z < D - 1) : kK 1 z D more = 3 := by unfold kK; rw [if_pos rfl, if_pos h]
theorem kK_10 {z D : Int} {more : Bool} (h : ¬ (more = true ∨ z < D - 1)) : kK 1 z D more = 2 := by unfold kK; rw [if_pos rfl, if_neg h]
theorem kK_01 {q z D : Int} {more : Bool} (hq : q ≠ 1) (h : more = true ∨ z < D - 1) : kK q z D more = 1 := by unfold kK; rw [if_neg hq, if_pos h]
theorem kK_00 {q z D : Int} {more : Bool} (hq : q ≠ 1) (h : ¬ (more = true ∨ z < D - 1)) : kK q z D more = 0 := by unfold kK; rw [if_neg hq, if_neg h]
/-- the exponent, held -/
def heldX (L x : Int) : Int := if L = 0 then -1074 else min (max x (-1152921504606846976)) 1152921504606846976
theorem small_res {N : Int} (h0 : 0 ≤ N) (h1 : N < 18446744073709551616) : resL N = words N ∧ resE N = 0 := (Lt.word ⟨h0, h1⟩).fits (by omega)
theorem bits_char {N : Int} (h : 0 < N) : 1 ≤ bitsN N ∧ e2 (bitsN N - 1) ≤ N ∧ N < e2 (bitsN N) := by
  obtain ⟨b, e, h1, h2⟩ := bits_some h
  rw [e]
  unfold e2
  have k1 : ((b : Int) + 1 - 1).toNat = b := by omega
  have k2 : ((b : Int) + 1).toNat = b + 1 := by omega
  rw [k1, k2]
  exact ⟨by omega, h1, h2⟩
theorem e2_max (D : Int) : e2 (if D < 0 then 0 else D) = e2 D := by
  by_cases h : D < 0
  · rw [if_pos h, e2_zero (Int.le_refl 0), e2_zero (by omega)]
  · rw [if_neg h]
theorem cut_lt {M L x : Int} (h0 : 0 ≤ M) (hL : 0 ≤ L) (hb : 0 < M → 1 ≤ L ∧ e2 (L - 1) ≤ M ∧ M < e2 L) : 0 ≤ cutM M L x ∧ cutM M L x < 9007199254740992 ∧ 0 ≤ M / e2 (cutX L x - x) ∧ M / e2 (cutX L x - x) < 9007199254740992 := by
  have hp := e2_pos (cutX L x - x)
  have hq := e2_pos (-(cutX L x - x))
  have d0 : 0 ≤ M / e2 (cutX L x - x) := Int.ediv_nonneg h0 (by omega)
  have key : M / e2 (cutX L x - x) ≤ cutM M L x := by
    unfold cutM
    have := Int.mul_le_mul_of_nonneg_left (show (1 : Int) ≤ e2 (-(cutX L x - x)) by omega) d0
    omega
  by_cases hM : 0 < M
  · obtain ⟨g1, g2, g3⟩ := hb hM
    obtain ⟨f0, f1, _⟩ := cut_form (x := x) hM g1 g2 g3
    exact ⟨f0, f1, d0, by omega⟩
  · have : M = 0 := by omega
    subst this
    have e : cutM 0 L x = 0 := by unfold cutM; rw [Int.zero_ediv, Int.zero_mul]
    rw [e] at key ⊢
    exact ⟨by omega, by omega, d0, by omega⟩
end Go.Proofs.YtceecgklgkiffaaGreatDoor
