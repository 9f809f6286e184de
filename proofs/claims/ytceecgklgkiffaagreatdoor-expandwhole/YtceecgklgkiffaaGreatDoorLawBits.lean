/- NatBits: a number is the sum of its bits. -/
import Derived.Test.YtceecgklgkiffaaGreatDoorBaseB
namespace Go.Proofs.YtceecgklgkiffaaGreatDoor
open Go.ChangeShapes Go.WideShapes Go.ChangeAt Go.RowKit
open Na Ar
set_option linter.unusedVariables false
namespace Na
theorem mod_step (A : Int) (i : Nat) : A % 2 ^ (i + 1) = A % 2 ^ i + 2 ^ i * (A / 2 ^ i % 2) := by
  have := mod_both A i 1
  simpa using this
/-- behind i bits -/
def BitJ (A : Int) (i : Nat) (f l : Int) : Prop := l = bitsN (A % 2 ^ i) - 1 ∧ f = (if A % 2 ^ i = 0 then -1 else zerosN (A % 2 ^ i)) ∧ -1 ≤ f ∧ f < i ∧ -1 ≤ l ∧ l < i
theorem bitJ_start (A : Int) : BitJ A 0 (-1) (-1) := by
  unfold BitJ
  simp [bits_none, Int.emod_one]
theorem bitJ_zero {A f l : Int} {i : Nat} (h : BitJ A i f l) (hb : A / 2 ^ i % 2 = 0) : BitJ A (i + 1) f l := by
  unfold BitJ at *
  rw [mod_step, hb, Int.mul_zero, Int.add_zero]
  omega
theorem pow_bits (M : Int) (i : Nat) (h0 : 0 ≤ M) (h1 : M < 2 ^ i) : bitsN (M + 2 ^ i) = i + 1 := by
  refine bitsN_eq (by omega) ?_
  rw [Int.pow_succ]; omega
theorem pow_zeros (i : Nat) : zerosN (2 ^ i) = i := zerosN_eq (u := 1) (by simp) (by omega) (by omega)
theorem add_zeros {M : Int} {i : Nat} (h0 : 0 < M) (h1 : M < 2 ^ i) : zerosN (M + 2 ^ i) = zerosN M := by
  obtain ⟨k, m, hk⟩ := odd_part M.toNat (by omega)
  have e : M = 2 ^ k * (2 * (m : Int) + 1) := by
    have : M = ((2 ^ (k + 1) * m + 2 ^ k : Nat) : Int) := by omega
    rw [this, Int.natCast_add, Int.natCast_mul, p2cast, p2cast, Int.pow_succ]
    grind
  have hz : zerosN M = k := zerosN_eq e (by omega) (by omega)
  have hki : k < i := by
    by_cases g : k < i
    · exact g
    · have a := p2mono (show i ≤ k by omega)
      have p := p2pos k
      have : (2 : Int) ^ k * 1 ≤ 2 ^ k * (2 * (m : Int) + 1) := Int.mul_le_mul_of_nonneg_left (by omega) (by omega)
      omega
  rw [hz]
  have s : (2 : Int) ^ i = 2 ^ k * (2 * 2 ^ (i - k - 1)) := by
    have : i = k + (1 + (i - k - 1)) := by omega
    rw [this, Int.pow_add, Int.pow_add]
    simp
  have q := p2pos (i - k - 1)
  refine zerosN_eq (u := 2 * (m : Int) + 1 + 2 * 2 ^ (i - k - 1)) ?_ (by omega) (by omega)
  rw [e, s]; grind
theorem bitJ_one {A f l : Int} {i : Nat} (h : BitJ A i f l) (hb : A / 2 ^ i % 2 = 1) : BitJ A (i + 1) (if f < 0 then (i : Int) else f) i := by
  unfold BitJ at *
  have p := p2pos i
  have r0 := Int.emod_nonneg A (show (2 : Int) ^ i ≠ 0 by omega)
  have r1 := Int.emod_lt_of_pos A p
  have e : A % 2 ^ (i + 1) = A % 2 ^ i + 2 ^ i := by rw [mod_step, hb, Int.mul_one]
  have e2 : (if A % 2 ^ i + 2 ^ i = 0 then (-1 : Int) else zerosN (A % 2 ^ i + 2 ^ i)) = zerosN (A % 2 ^ i + 2 ^ i) := if_neg (by omega)
  rw [e, pow_bits _ i r0 r1, e2]
  obtain ⟨h1, h2, h3, h4, h5, h6⟩ := h
  by_cases g : A % 2 ^ i = 0
  · rw [if_pos g] at h2
    rw [if_pos (show f < 0 by omega), g, Int.zero_add, pow_zeros]
    omega
  · rw [if_neg g] at h2
    have z : 0 ≤ zerosN (A % 2 ^ i) := by unfold zerosN; omega
    rw [if_neg (show ¬ f < 0 by omega), add_zeros (by omega) r1]
    omega
theorem bitJ_end {A f l : Int} {i : Nat} (h : BitJ A i f l) (h0 : 0 ≤ A) (h1 : A < 2 ^ i) : bitsN A = l + 1 ∧ zerosN A = (if 0 < f then f else 0) := by
  unfold BitJ at h
  rw [Int.emod_eq_of_lt h0 h1] at h
  obtain ⟨h1, h2, h3, h4, h5, h6⟩ := h
  refine ⟨by omega, ?_⟩
  by_cases g : A = 0
  · subst g
    rw [if_pos rfl] at h2
    rw [if_neg (by omega), zerosN_zero]
  · rw [if_neg g] at h2
    have z : 0 ≤ zerosN A := by unfold zerosN; omega
    split <;> omega
end Na
section
variable {a : Option Addr} {n c1 : Nat} {xs : List Int} {A : Int} {w : World}
theorem bitsQ (hr1 : RowC w a n c1 xs) (h1 : Nm xs A) {b : Int} (hb : bitsN A = b) :
    Calls Tryz.prog 57 #[.slice a n c1] w fun e w' => e = .returned (.int .i64 b) ∧ Below w.heap.size w w' := by
  have l1 := hr1.1.1
  have h := natBits_any hr1 h1.ws (by have := h1.len; omega)
  rw [h1.num, hb] at h
  exact h
theorem zerosQ (hr1 : RowC w a n c1 xs) (h1 : Nm xs A) {b : Int} (hb : zerosN A = b) :
    Calls Tryz.prog 110 #[.slice a n c1] w fun e w' => e = .returned (.int .i64 b) ∧ Below w.heap.size w w' := by
  have l1 := hr1.1.1
  have h := natZeros_any hr1 h1.ws (by have := h1.len; omega)
  rw [h1.num, hb] at h
  exact h
end
end Go.Proofs.YtceecgklgkiffaaGreatDoor
