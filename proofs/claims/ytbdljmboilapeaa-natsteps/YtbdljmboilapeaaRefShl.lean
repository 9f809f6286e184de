/- plumbref02.Shl -/
import Derived.Test.YtbdljmboilapeaaRefNatMulW
namespace Go.Proofs.Ytbdljmboilapeaa
open Go.ChangeShapes Go.WideShapes Go.ChangeAt Go.RowKit
open Na
set_option linter.unusedVariables false

namespace Na
def shlE (N n : Int) : Int := if n < 0 then 22 else resE (N * 2 ^ n.toNat)
def shlL (N n : Int) : List Int := if n < 0 then [] else resL (N * 2 ^ n.toNat)
def ShlI (ps : List Int) (s i : Nat) (f : Int) (fs : List Int) : Prop := Bd 281474976710656 fs ∧ fs.length = s + i ∧ val 65536 fs = 65536 ^ s * (f * val 65536 (ps.take i))
theorem shl_begin (ps : List Int) (s : Nat) (f : Int) : ShlI ps s 0 f (List.replicate s 0) :=
  ⟨fun y hy => by have := List.eq_of_mem_replicate hy; subst this; omega, by simp, by rw [val_zeros]; simp [val]⟩
theorem shl_more {ps fs : List Int} {s i : Nat} {f : Int} (h : ShlI ps s i f fs) (hi : i < ps.length) (hp : 0 ≤ ps.getD i 0 ∧ ps.getD i 0 ≤ 65535) (hf : 0 ≤ f ∧ f ≤ 32768) : ShlI ps s (i + 1) f (fs ++ [ps.getD i 0 * f]) := by
  obtain ⟨h1, h2, h3⟩ := h
  have m0 : 0 ≤ ps.getD i 0 * f := Int.mul_nonneg hp.1 hf.1
  have m1 : ps.getD i 0 * f ≤ 65535 * 32768 := Int.mul_le_mul hp.2 hf.2 hf.1 (by omega)
  refine ⟨h1.append (Bd.one (by omega)), by rw [List.length_append, h2]; simp; omega, ?_⟩
  rw [val_append, h2, h3, take_val hi, Int.pow_add]
  have e4 : val 65536 [ps.getD i 0 * f] = ps.getD i 0 * f := by simp [val]
  rw [e4]
  generalize val 65536 (ps.take i) = V
  generalize (65536 : Int) ^ s = P
  generalize (65536 : Int) ^ i = Q
  generalize ps.getD i 0 = x
  grind
theorem shl_whole {ps fs : List Int} {t : Nat} (h : ShlI ps (t / 16) ps.length (2 ^ (t % 16)) fs) : val 65536 fs = val 65536 ps * 2 ^ t := by
  have := h.2.2
  rw [List.take_of_length_le (Nat.le_refl _)] at this
  rw [this]
  have e : (2 : Int) ^ t = 65536 ^ (t / 16) * 2 ^ (t % 16) := by
    have e1 : (65536 : Int) = 2 ^ 16 := rfl
    rw [e1, ← Int.pow_mul, ← Int.pow_add]
    congr 1; omega
  rw [e]
  grind
theorem pow2_small {k : Nat} (h : k ≤ 15) : 0 ≤ (2 : Int) ^ k ∧ (2 : Int) ^ k ≤ 32768 := by
  have c : ((2 ^ k : Nat) : Int) = (2 : Int) ^ k := by simp
  have l : 2 ^ k ≤ 2 ^ 15 := Nat.pow_le_pow_right (by omega) h
  rw [← c]
  exact ⟨Int.natCast_nonneg _, Int.ofNat_le.mpr l⟩
theorem shl_huge {A : Int} {t k : Nat} (hA : 0 < A) (h : 64 * k ≤ t) : k < (words (A * 2 ^ t)).length := by
  refine dig_len_ge ?_
  have e : (18446744073709551616 : Int) ^ k = 2 ^ (64 * k) := by rw [Int.pow_mul]; rfl
  rw [e]
  have c1 : ((2 ^ (64 * k) : Nat) : Int) = (2 : Int) ^ (64 * k) := by simp
  have c2 : ((2 ^ t : Nat) : Int) = (2 : Int) ^ t := by simp
  have l : 2 ^ (64 * k) ≤ 2 ^ t := Nat.pow_le_pow_right (by omega) h
  have l' := Int.ofNat_le.mpr l
  rw [c1, c2] at l'
  have p : 0 ≤ (2 : Int) ^ t := Int.le_of_lt (Int.pow_pos (by omega))
  have m : 1 * (2 : Int) ^ t ≤ A * 2 ^ t := Int.mul_le_mul_of_nonneg_right (by omega) p
  rw [Int.one_mul] at m
  exact Int.le_trans l' m
theorem shl_len {A : Int} {t n1 : Nat} (h0 : 0 ≤ A) (h : A < 65536 ^ n1) : (digs (A * 2 ^ t)).length ≤ n1 + t := by
  refine digs_len_lt (Int.mul_nonneg h0 (Int.le_of_lt (Int.pow_pos (by omega)))) ?_
  rw [Int.pow_add]
  have p2 : 0 < (2 : Int) ^ t := Int.pow_pos (by omega)
  have p3 : 0 < (65536 : Int) ^ n1 := Int.pow_pos (by omega)
  have l : (2 : Int) ^ t ≤ 65536 ^ t := by
    have c1 : ((2 ^ t : Nat) : Int) = (2 : Int) ^ t := by simp
    have c2 : ((65536 ^ t : Nat) : Int) = (65536 : Int) ^ t := by simp
    have q : 2 ^ t ≤ 65536 ^ t := Nat.pow_le_pow_left (by omega) t
    rw [← c1, ← c2]; exact Int.ofNat_le.mpr q
  have a := Int.mul_lt_mul_of_pos_right h p2
  have b := Int.mul_le_mul_of_nonneg_left l (Int.le_of_lt p3)
  omega
end Na

end Go.Proofs.Ytbdljmboilapeaa
