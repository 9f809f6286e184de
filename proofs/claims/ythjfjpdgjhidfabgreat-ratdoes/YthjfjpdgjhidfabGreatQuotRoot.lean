/- package quot: plus, above, Root. -/
import Derived.Test.YthjfjpdgjhidfabGreatQuotPow
import Derived.Test.YthjfjpdgjhidfabGreatQuotMath
import Derived.Deep.LoopGhost
namespace Go.Proofs.YthjfjpdgjhidfabGreat
open Go.ChangeShapes Go.WideShapes Go.ChangeAt Go.RowKit
open Na Ar
set_option linter.unusedVariables false

theorem ret_vb {v : Value} {p q : Bool} (h : p = q) : Ending.returned (.tuple #[v, .bool p]) = .returned (.tuple #[v, .bool q]) := by rw [h]
def RootPost (w : World) (X : Int) (e : Ending) (w' : World) : Prop := ∃ v s, e = .returned (.tuple #[v, .bool (decide (s * s = X))]) ∧ IsRoot X s ∧ Own .u64 w' w.heap.size 53 v (words s) ∧ Below w.heap.size w w'
namespace Na
theorem above_small {X : Int} {b : Nat} (h1 : 2 ^ b ≤ X) (h2 : X < 2 ^ (b + 1)) : 0 < (1 : Int) * 2 ^ ((b + 2) / 2) ∧ (1 : Int) * 2 ^ ((b + 2) / 2) ≤ 2 * X ∧ X < ((1 : Int) * 2 ^ ((b + 2) / 2) + 1) * ((1 : Int) * 2 ^ ((b + 2) / 2) + 1) := by
  rw [Int.one_mul]
  have p := p2pos ((b + 2) / 2)
  have a := p2mono (show (b + 2) / 2 ≤ b + 1 by omega)
  have c : (2 : Int) ^ (b + 1) ≤ 2 ^ ((b + 2) / 2 + (b + 2) / 2) := p2mono (by omega)
  have e : (2 : Int) ^ ((b + 2) / 2 + (b + 2) / 2) = 2 ^ ((b + 2) / 2) * 2 ^ ((b + 2) / 2) := Int.pow_add ..
  rw [e] at c
  have e2 : (2 : Int) ^ (b + 1) = 2 * 2 ^ b := by rw [Int.pow_succ, Int.mul_comm]
  rw [e2] at a
  refine ⟨p, by omega, ?_⟩
  generalize (2 : Int) ^ ((b + 2) / 2) = s at *
  have : (s + 1) * (s + 1) = s * s + 2 * s + 1 := by grind
  omega
theorem above_great {X s0 : Int} {b q : Nat} (h1 : 2 ^ b ≤ X) (hq : 2 * q ≤ b) (hr : IsRoot (X / 2 ^ (2 * q)) s0) : 1 ≤ s0 ∧ 0 < (s0 + 1) * 2 ^ q ∧ (s0 + 1) * 2 ^ q ≤ 2 * X ∧ X < ((s0 + 1) * 2 ^ q + 1) * ((s0 + 1) * 2 ^ q + 1) := by
  obtain ⟨r1, r2, r3⟩ := hr
  have p := p2pos (2 * q)
  have pq := p2pos q
  have d := Int.mul_ediv_add_emod X (2 ^ (2 * q))
  have m0 := Int.emod_nonneg X (show (2 : Int) ^ (2 * q) ≠ 0 by omega)
  have m1 := Int.emod_lt_of_pos X p
  have y1 : 1 ≤ X / 2 ^ (2 * q) := by
    rw [Int.le_ediv_iff_mul_le p, Int.one_mul]
    exact Int.le_trans (p2mono hq) h1
  have e : (2 : Int) ^ (2 * q) = 2 ^ q * 2 ^ q := by rw [Nat.two_mul, Int.pow_add]
  generalize X / 2 ^ (2 * q) = Y at *
  generalize X % 2 ^ (2 * q) = R at *
  rw [e] at d m1
  generalize (2 : Int) ^ q = Q at *
  have s1 : 1 ≤ s0 := by
    by_cases g : 1 ≤ s0
    · exact g
    · have : s0 = 0 := by omega
      subst this
      omega
  have sY : s0 + 1 ≤ 2 * Y := by
    have : s0 * 1 ≤ s0 * s0 := Int.mul_le_mul_of_nonneg_left s1 r1
    omega
  have a : (s0 + 1) * Q ≤ 2 * Y * Q := Int.mul_le_mul_of_nonneg_right sY (by omega)
  have b2 : Y * Q * 1 ≤ Y * Q * Q := Int.mul_le_mul_of_nonneg_left (by omega) (Int.mul_nonneg (by omega) (by omega))
  have c : Q * Q * Y = Y * Q * Q := by grind
  have c2 : 2 * Y * Q = 2 * (Y * Q) := by grind
  have pos : 0 < (s0 + 1) * Q := Int.mul_pos (by omega) (by omega)
  refine ⟨s1, pos, by omega, ?_⟩
  have u : (Y + 1) * (Q * Q) ≤ (s0 + 1) * (s0 + 1) * (Q * Q) := Int.mul_le_mul_of_nonneg_right (by omega) (Int.mul_nonneg (by omega) (by omega))
  have u2 : (s0 + 1) * (s0 + 1) * (Q * Q) = (s0 + 1) * Q * ((s0 + 1) * Q) := by grind
  have u3 : (Y + 1) * (Q * Q) = Q * Q * Y + Q * Q := by grind
  generalize (s0 + 1) * Q = S at *
  have : (S + 1) * (S + 1) = S * S + 2 * S + 1 := by grind
  omega
end Na
end Go.Proofs.YthjfjpdgjhidfabGreat
