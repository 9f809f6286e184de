/- package near: Quotient. -/
import Derived.Test.YtceecgklgkiffaaGreatDoorNearC
import Derived.Test.YtceecgklgkiffaaGreatDoorBaseC
import Derived.Deep.QuietTactic
import Derived.BigQuiet
namespace Go.Proofs.YtceecgklgkiffaaGreatDoor
open Go.ChangeShapes Go.WideShapes Go.ChangeAt Go.RowKit
open Na Ar
set_option linter.unusedVariables false
theorem e2_nat (k : Nat) : e2 (k : Int) = 2 ^ k := by unfold e2; rw [Int.toNat_natCast]
theorem e2_neg_nat (k : Nat) : e2 (-(k : Int)) = 1 := e2_zero (by omega)
/-- long enough: more bits than a mantissa and one behind it -/
theorem quot_long {N D : Int} {m s : Nat} (hD : 0 < D) (hDl : D < 18446744073709551616 ^ m) (h : (18446744073709551616 : Int) ^ (m + 1) ≤ N) : e2 64 ≤ N / D := by
  apply Int.le_ediv_of_mul_le hD
  rw [e2_64]
  rw [Int.pow_succ] at h
  have : 18446744073709551616 * D ≤ 18446744073709551616 * 18446744073709551616 ^ m := Int.mul_le_mul_of_nonneg_left (by omega) (by omega)
  rw [Int.mul_comm (18446744073709551616 ^ m)] at h
  omega
theorem quot_up {N D mode b e : Int} {neg : Bool} {m n q : Nat} (hN : 0 ≤ N) (hD : 0 < D) (hDl : D < 18446744073709551616 ^ m) (hNl : N = 0 ∨ (1 ≤ n ∧ (18446744073709551616 : Int) ^ (n - 1) ≤ N)) (hq : q + n = m + 2) :
    RoundIs (scA (N * 2 ^ (64 * q) / D) (-((64 * q : Nat) : Int))) (scB 1 (-((64 * q : Nat) : Int))) (decide (N * 2 ^ (64 * q) % D ≠ 0)) neg mode b e ↔ RoundIs (scA N 0) (scB D 0) false neg mode b e := by
  refine round_quot (F := N * 2 ^ (64 * q) % D) hD ?_ (Int.emod_nonneg _ (by omega)) ?_ (by simp) ?_
  · rw [Int.neg_neg, e2_nat, e2_neg_nat, Int.mul_one]
    exact (Int.ediv_mul_add_emod _ _).symm
  · rw [e2_neg_nat, Int.mul_one]; exact Int.emod_lt_of_pos _ hD
  · rcases hNl with rfl | ⟨h1, h2⟩
    · left; rw [Int.zero_mul, Int.zero_emod]
    · right
      refine quot_long (s := 0) hD hDl ?_
      have p := p2pos (64 * q)
      have : (18446744073709551616 : Int) ^ (n - 1) * 2 ^ (64 * q) ≤ N * 2 ^ (64 * q) := Int.mul_le_mul_of_nonneg_right h2 (by omega)
      rw [← wpow2, ← Int.pow_add] at this
      rw [← wpow2]
      have e : n - 1 + q = m + 1 := by omega
      rw [e] at this
      exact this
theorem quot_down {N D mode b e : Int} {neg : Bool} {m n k : Nat} (hN : 0 ≤ N) (hD : 0 < D) (hDl : D < 18446744073709551616 ^ m) (hNl : (18446744073709551616 : Int) ^ (n - 1) ≤ N) (hk : n = m + 2 + k) :
    RoundIs (scA (N / 2 ^ (64 * k) / D) ((64 * k : Nat) : Int)) (scB 1 ((64 * k : Nat) : Int)) (decide (N % 2 ^ (64 * k) ≠ 0) || decide (N / 2 ^ (64 * k) % D ≠ 0)) neg mode b e ↔ RoundIs (scA N 0) (scB D 0) false neg mode b e := by
  have p := p2pos (64 * k)
  have l0 := Int.emod_nonneg N (show (2 : Int) ^ (64 * k) ≠ 0 by omega)
  have l1 := Int.emod_lt_of_pos N p
  have r0 := Int.emod_nonneg (N / 2 ^ (64 * k)) (show D ≠ 0 by omega)
  have r1 := Int.emod_lt_of_pos (N / 2 ^ (64 * k)) hD
  have m0 : 0 ≤ N / 2 ^ (64 * k) % D * 2 ^ (64 * k) := Int.mul_nonneg r0 (by omega)
  refine round_quot (F := N / 2 ^ (64 * k) % D * 2 ^ (64 * k) + N % 2 ^ (64 * k)) hD ?_ (by omega) ?_ ?_ ?_
  · rw [e2_nat, e2_neg_nat, Int.mul_one]
    have e1 := Int.ediv_mul_add_emod N (2 ^ (64 * k))
    have e3 := Int.ediv_mul_add_emod (N / 2 ^ (64 * k)) D
    have e4 : N / 2 ^ (64 * k) * 2 ^ (64 * k) = (N / 2 ^ (64 * k) / D * D + N / 2 ^ (64 * k) % D) * 2 ^ (64 * k) := by rw [e3]
    rw [Int.add_mul, Int.mul_assoc] at e4
    omega
  · rw [e2_nat]
    have : (N / 2 ^ (64 * k) % D + 1) * 2 ^ (64 * k) ≤ D * 2 ^ (64 * k) := Int.mul_le_mul_of_nonneg_right (by omega) (by omega)
    rw [Int.add_mul, Int.one_mul] at this
    omega
  · simp only [Bool.or_eq_true, decide_eq_true_eq]
    constructor
    · rintro (h | h)
      · omega
      · have : 1 * (2 : Int) ^ (64 * k) ≤ N / 2 ^ (64 * k) % D * 2 ^ (64 * k) := Int.mul_le_mul_of_nonneg_right (by omega) (by omega)
        omega
    · intro h
      by_cases hr : N / 2 ^ (64 * k) % D = 0
      · left; rw [hr, Int.zero_mul] at h; omega
      · right; exact hr
  · right
    refine quot_long (s := 0) hD hDl ?_
    apply Int.le_ediv_of_mul_le p
    rw [← wpow2, ← Int.pow_add]
    have e : m + 1 + k = n - 1 := by omega
    rw [e]; exact hNl
theorem emod_le' {a D : Int} (h : 0 ≤ a) (hD : 0 < D) : a % D ≤ a := by
  have e := Int.ediv_mul_add_emod a D
  have := Int.mul_nonneg (Int.ediv_nonneg h (show 0 ≤ D by omega)) (show 0 ≤ D by omega)
  omega
theorem bne_len {n : Nat} {R : Int} (h : n = 0 ↔ R = 0) : ((n : Int) != 0) = decide (R ≠ 0) := by
  rw [Bool.eq_iff_iff]; simp; exact not_congr h
theorem num_low_mod {xs : List Int} (h : Ws xs) {k : Nat} (hk : k ≤ xs.length) : num (xs.take k) = num xs % 2 ^ (64 * k) ∧ num (xs.drop k) = num xs / 2 ^ (64 * k) := by
  have s := val_splitB 18446744073709551616 xs hk
  have hb : num (xs.take k) < 18446744073709551616 ^ k := by
    have := num_bd (h.take k)
    rw [List.length_take, Nat.min_eq_left hk] at this
    exact this
  have h0 : 0 ≤ num (xs.take k) := num_nonneg (h.take k)
  have p := p2pos (64 * k)
  have s' : num xs = num (xs.take k) + 2 ^ (64 * k) * num (xs.drop k) := by rw [← wpow2]; exact s
  rw [wpow2] at hb
  constructor
  · rw [s', Int.add_mul_emod_self_left, Int.emod_eq_of_lt h0 hb]
  · rw [s', Int.add_mul_ediv_left _ _ (by omega), Int.ediv_eq_zero_of_lt h0 hb, Int.zero_add]
end Go.Proofs.YtceecgklgkiffaaGreatDoor
