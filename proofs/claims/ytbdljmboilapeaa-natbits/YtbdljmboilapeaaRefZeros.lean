/- plumbref02: Zeros. -/
import Derived.Test.YtbdljmboilapeaaRefNatBits
namespace Go.Proofs.Ytbdljmboilapeaa
open Go.ChangeShapes Go.WideShapes Go.ChangeAt Go.RowKit
open Na
set_option linter.unusedVariables false

namespace Na
def ctz (n : Nat) : Nat := if h : n = 0 ∨ n % 2 = 1 then 0 else ctz (n / 2) + 1
termination_by n
decreasing_by omega
def zerosN (N : Int) : Int := (ctz N.toNat : Int)
theorem ctz_odd (m : Nat) : ctz (2 * m + 1) = 0 := by unfold ctz; rw [dif_pos (by omega)]
theorem ctz_pow (k m : Nat) : ctz (2 ^ k * (2 * m + 1)) = k := by
  induction k with
  | zero => rw [Nat.pow_zero, Nat.one_mul]; exact ctz_odd m
  | succ k ih =>
    have e : 2 ^ (k + 1) * (2 * m + 1) = 2 * (2 ^ k * (2 * m + 1)) := by rw [Nat.pow_succ]; grind
    have p : 0 < 2 ^ k * (2 * m + 1) := Nat.mul_pos (Nat.two_pow_pos k) (by omega)
    rw [e, ctz, dif_neg (by omega)]
    have d : 2 * (2 ^ k * (2 * m + 1)) / 2 = 2 ^ k * (2 * m + 1) := by omega
    rw [d, ih]
theorem zerosN_eq {N u : Int} {k : Nat} (h : N = 2 ^ k * u) (hu : 0 < u) (ho : u % 2 = 1) : zerosN N = k := by
  obtain ⟨m, hm⟩ : ∃ m : Nat, u = 2 * (m : Int) + 1 := ⟨(u / 2).toNat, by omega⟩
  have e : N.toNat = 2 ^ k * (2 * m + 1) := by
    have c := p2cast k
    have : N = ((2 ^ k * (2 * m + 1) : Nat) : Int) := by rw [h, hm, Int.natCast_mul, c]; rfl
    omega
  unfold zerosN
  rw [e, ctz_pow]
theorem zerosN_zero : zerosN 0 = 0 := by unfold zerosN; rw [show (0 : Int).toNat = 0 from rfl, ctz]; simp
def ZeI (x : Int) (k : Nat) (v : Int) : Prop := x = 2 ^ k * v ∧ 0 < v
theorem ze_start {x : Int} (h : 0 < x) : ZeI x 0 x := ⟨by simp, h⟩
theorem ze_step {x v : Int} {k : Nat} (h : ZeI x k v) (he : v % 2 = 0) : ZeI x (k + 1) (v / 2) := by
  obtain ⟨h1, h2⟩ := h
  refine ⟨?_, by omega⟩
  rw [h1, Int.pow_succ, Int.mul_assoc]
  have : 2 * (v / 2) = v := by omega
  rw [this]
theorem ze_small {x v : Int} {k : Nat} (h : ZeI x k v) (hx : x ≤ 65535) : k ≤ 15 := by
  by_cases g : 16 ≤ k
  · have l : 2 ^ 16 ≤ 2 ^ k := Nat.pow_le_pow_right (by omega) g
    have l' : (65536 : Int) ≤ 2 ^ k := by rw [← p2cast]; exact Int.ofNat_le.mpr l
    have p := p2pos k
    have m : (2 : Int) ^ k * 1 ≤ 2 ^ k * v := Int.mul_le_mul_of_nonneg_left (by have := h.2; omega) (by omega)
    rw [← h.1, Int.mul_one] at m
    generalize (2 : Int) ^ k = P at *
    omega
  · omega
theorem ze_end {ps : List Int} {x v : Int} {i k : Nat} (hp : Dg 65536 ps) (hi : i < ps.length) (hz : val 65536 (ps.take i) = 0) (hx : ps.getD i 0 = x) (h : ZeI x k v) (ho : v % 2 = 1) (hk : k ≤ 15) : zerosN (val 65536 ps) = 16 * i + k := by
  have e := val_at hi
  rw [hz, hx, Int.zero_add, h.1] at e
  have V0 := val_nonneg (B := 65536) (by omega) (hp.drop (i + 1))
  generalize val 65536 (ps.drop (i + 1)) = V at *
  have r : (65536 : Int) = 2 ^ k * (2 * 2 ^ (15 - k)) := by
    have : (2 : Int) * 2 ^ (15 - k) = 2 ^ (16 - k) := by
      have : 16 - k = (15 - k) + 1 := by omega
      rw [this, Int.pow_succ, Int.mul_comm]
    rw [this, ← Int.pow_add]
    have : k + (16 - k) = 16 := by omega
    rw [this]; rfl
  have e2 : 2 ^ k * v + 65536 * V = 2 ^ k * (v + 2 * (2 ^ (15 - k) * V)) := by
    have : (65536 : Int) * V = 2 ^ k * (2 * 2 ^ (15 - k)) * V := by rw [← r]
    rw [this]; grind
  rw [e2, p16, ← Int.mul_assoc, ← Int.pow_add] at e
  have w0 : 0 ≤ (2 : Int) ^ (15 - k) * V := Int.mul_nonneg (Int.le_of_lt (p2pos _)) V0
  have := zerosN_eq e (by have := h.2; omega) (by omega)
  rw [this]; omega
theorem ze_skip {ps : List Int} {i : Nat} (hi : i < ps.length) (hz : val 65536 (ps.take i) = 0) (hx : ps.getD i 0 = 0) : val 65536 (ps.take (i + 1)) = 0 := by
  rw [take_val hi, hz, hx]; simp
end Na

end Go.Proofs.Ytbdljmboilapeaa
