/- plumbref02: Bits, Bit, Zeros. -/
import Derived.Test.YtbdljmboilapeaaRefShl
namespace Go.Proofs.Ytbdljmboilapeaa
open Go.ChangeShapes Go.WideShapes Go.ChangeAt Go.RowKit
open Na
set_option linter.unusedVariables false

namespace Na
/-- how many bits -/
def bitsN (N : Int) : Int := if N ≤ 0 then 0 else (Nat.log2 N.toNat : Int) + 1
theorem p2pos (k : Nat) : 0 < (2 : Int) ^ k := Int.pow_pos (by omega)
theorem p2cast (k : Nat) : ((2 ^ k : Nat) : Int) = (2 : Int) ^ k := by simp
theorem bitsN_eq {N : Int} {k : Nat} (h1 : 2 ^ k ≤ N) (h2 : N < 2 ^ (k + 1)) : bitsN N = k + 1 := by
  have p := p2pos k
  unfold bitsN
  rw [if_neg (by omega)]
  have e : N.toNat.log2 = k := by
    rw [Nat.log2_eq_iff (by omega)]
    have a1 := p2cast k
    have a2 := p2cast (k + 1)
    omega
  rw [e]
theorem p16 (q : Nat) : (65536 : Int) ^ q = 2 ^ (16 * q) := by rw [Int.pow_mul]; rfl
/-- the highest digit tells the bits -/
theorem bits_top {zs : List Int} {x : Int} {k : Nat} (hz : Dg 65536 zs) (h1 : 2 ^ k ≤ x) (h2 : x < 2 ^ (k + 1)) : bitsN (val 65536 (zs ++ [x])) = 16 * zs.length + k + 1 := by
  have e : val 65536 (zs ++ [x]) = val 65536 zs + 2 ^ (16 * zs.length) * x := by rw [val_append, p16]; simp [val]
  rw [e]
  have v0 := val_nonneg (B := 65536) (by omega) hz
  have v1 := val_lt (B := 65536) (by omega) hz
  rw [p16] at v1
  have p := p2pos (16 * zs.length)
  have a : (2 : Int) ^ (16 * zs.length) * 2 ^ k ≤ 2 ^ (16 * zs.length) * x := Int.mul_le_mul_of_nonneg_left h1 (by omega)
  have b : (2 : Int) ^ (16 * zs.length) * (x + 1) ≤ 2 ^ (16 * zs.length) * 2 ^ (k + 1) := Int.mul_le_mul_of_nonneg_left (by omega) (by omega)
  rw [← Int.pow_add] at a b
  rw [Int.mul_add, Int.mul_one] at b
  have := bitsN_eq (N := val 65536 zs + 2 ^ (16 * zs.length) * x) (k := 16 * zs.length + k) (by omega) (by rw [Nat.add_assoc]; omega)
  rw [this]; omega
def BitI (x : Int) (k : Nat) (v : Int) : Prop := v = x / 2 ^ k ∧ (k = 0 ∨ 2 ^ (k - 1) ≤ x)
theorem bit_start (x : Int) : BitI x 0 x := ⟨by simp, Or.inl rfl⟩
theorem bit_step {x v : Int} {k : Nat} (h : BitI x k v) (hv : 0 < v) : BitI x (k + 1) (v / 2) := by
  obtain ⟨h1, h2⟩ := h
  have p := p2pos k
  refine ⟨?_, Or.inr ?_⟩
  · rw [h1, Int.pow_succ, Int.ediv_ediv_of_nonneg (by omega)]
  · simp only [Nat.add_sub_cancel]
    have a := Int.mul_ediv_self_le (x := x) (k := 2 ^ k) (by omega)
    rw [← h1] at a
    have b : (2 : Int) ^ k * 1 ≤ 2 ^ k * v := Int.mul_le_mul_of_nonneg_left (by omega) (by omega)
    omega
theorem bit_small {x v : Int} {k : Nat} (h : BitI x k v) (hx : x ≤ 65535) : k ≤ 16 := by
  rcases h.2 with h2 | h2
  · omega
  · by_cases g : 17 ≤ k
    · have c := p2cast (k - 1)
      have l : 2 ^ 16 ≤ 2 ^ (k - 1) := Nat.pow_le_pow_right (by omega) (by omega)
      have l' := Int.ofNat_le.mpr l
      rw [c] at l'
      have : ((2 ^ 16 : Nat) : Int) = 65536 := rfl
      omega
    · omega
theorem bit_end {x v : Int} {k : Nat} (h : BitI x k v) (hx : 0 < x) (hv : ¬ 0 < v) : ∃ j : Nat, k = j + 1 ∧ 2 ^ j ≤ x ∧ x < 2 ^ (j + 1) := by
  obtain ⟨h1, h2⟩ := h
  have p := p2pos k
  have b := Int.lt_mul_ediv_self_add (x := x) (k := 2 ^ k) p
  have v0 : 0 ≤ v := by rw [h1]; exact Int.ediv_nonneg (by omega) (by omega)
  have vz : v = 0 := by omega
  rw [← h1, vz] at b
  rcases h2 with h2 | h2
  · subst h2; simp at b; omega
  · have hk : k ≠ 0 := by
      intro e; subst e; simp at b; omega
    refine ⟨k - 1, by omega, h2, ?_⟩
    have : k - 1 + 1 = k := by omega
    rw [this]; omega
/-- bit i -/
def bitN (N i : Int) : Int := if i < 0 then 0 else N / 2 ^ i.toNat % 2
theorem bit_out {N : Int} {L t : Nat} (h0 : 0 ≤ N) (h : N < 65536 ^ L) (ht : L ≤ t / 16) : N / 2 ^ t = 0 := by
  rw [p16] at h
  have l : 2 ^ (16 * L) ≤ 2 ^ t := Nat.pow_le_pow_right (by omega) (by omega)
  have l' := Int.ofNat_le.mpr l
  rw [p2cast, p2cast] at l'
  exact Int.ediv_eq_zero_of_lt h0 (by omega)
theorem bit_in {ps : List Int} {t : Nat} (hp : Dg 65536 ps) (h : t / 16 < ps.length) : val 65536 ps / 2 ^ t % 2 = ps.getD (t / 16) 0 / 2 ^ (t % 16) % 2 := by
  rw [val_at h]
  have e : (2 : Int) ^ t = 65536 ^ (t / 16) * 2 ^ (t % 16) := by
    rw [p16, ← Int.pow_add]
    congr 1; omega
  have v0 := val_nonneg (B := 65536) (by omega) (hp.take (t / 16))
  have v1 := val_lt (B := 65536) (by omega) (hp.take (t / 16))
  rw [List.length_take, Nat.min_eq_left (by omega)] at v1
  have p : 0 < (65536 : Int) ^ (t / 16) := Int.pow_pos (by omega)
  rw [e, ← Int.ediv_ediv_of_nonneg (by omega), Int.add_mul_ediv_left _ _ (by omega), Int.ediv_eq_zero_of_lt v0 v1, Int.zero_add]
  have r : (65536 : Int) = 2 ^ (t % 16) * (2 ^ (15 - t % 16) * 2) := by
    rw [← Int.pow_succ, ← Int.pow_add]
    have : t % 16 + (15 - t % 16 + 1) = 16 := by omega
    rw [Nat.succ_eq_add_one, this]; rfl
  have q := p2pos (t % 16)
  have e2 : ps.getD (t / 16) 0 + 65536 * val 65536 (ps.drop (t / 16 + 1)) = ps.getD (t / 16) 0 + 2 ^ (t % 16) * ((2 ^ (15 - t % 16) * 2) * val 65536 (ps.drop (t / 16 + 1))) := by
    rw [← Int.mul_assoc, ← r]
  rw [e2, Int.add_mul_ediv_left _ _ (by omega)]
  have e3 : (2 : Int) ^ (15 - t % 16) * 2 * val 65536 (ps.drop (t / 16 + 1)) = 2 * (2 ^ (15 - t % 16) * val 65536 (ps.drop (t / 16 + 1))) := by grind
  rw [e3]
  omega
end Na

end Go.Proofs.Ytbdljmboilapeaa
