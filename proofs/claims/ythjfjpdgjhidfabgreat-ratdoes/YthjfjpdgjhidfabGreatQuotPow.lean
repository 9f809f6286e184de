/- package quot: Pow. -/
import Derived.Test.YthjfjpdgjhidfabGreatQuotDivMod
import Derived.Test.YthjfjpdgjhidfabGreatBaseB
namespace Go.Proofs.YthjfjpdgjhidfabGreat
open Go.ChangeShapes Go.WideShapes Go.ChangeAt Go.RowKit
open Na Ar
set_option linter.unusedVariables false
namespace Na
theorem and_oneI (x : Int) : bits .and .i64 x 1 = x % 2 := by
  have h : (BitVec.ofInt 64 1).toNat = 2 ^ 1 - 1 := by decide
  have e : (BitVec.ofInt 64 x &&& BitVec.ofInt 64 1).toNat = (x % ((2 ^ 64 : Nat) : Int)).toNat % 2 ^ 1 := by
    rw [BitVec.toNat_and, BitVec.toNat_ofInt, h, Nat.and_two_pow_sub_one_eq_mod]
  show IntKind.i64.wrap ((BitVec.ofInt 64 x &&& BitVec.ofInt 64 1).toNat : Nat) = _
  rw [e, IntKind.wrap_i64]
  omega
theorem half_div (n j : Nat) : n / 2 ^ j = 2 * (n / 2 ^ (j + 1)) + n / 2 ^ j % 2 := by
  have : n / 2 ^ (j + 1) = n / 2 ^ j / 2 := by rw [Nat.pow_succ, Nat.div_div_eq_div_mul]
  rw [this]; omega
theorem ipow_pos {X : Int} (h : 1 ≤ X) (n : Nat) : 1 ≤ X ^ n := by
  induction n with
  | zero => simp
  | succ n ih =>
    rw [Int.pow_succ]
    have := Int.mul_le_mul_of_nonneg_left h (show 0 ≤ X ^ n by omega)
    omega
theorem ipow_mono {X : Int} (h : 1 ≤ X) {a b : Nat} (hab : a ≤ b) : X ^ a ≤ X ^ b := by
  obtain ⟨c, rfl⟩ : ∃ c, b = a + c := ⟨b - a, by omega⟩
  rw [Int.pow_add]
  have p := ipow_pos h a
  have := Int.mul_le_mul_of_nonneg_left (ipow_pos h c) (show 0 ≤ X ^ a by omega)
  omega
theorem ipow_base {X Y : Int} (h0 : 0 ≤ X) (h : X ≤ Y) (n : Nat) : X ^ n ≤ Y ^ n := by
  induction n with
  | zero => simp
  | succ n ih =>
    rw [Int.pow_succ, Int.pow_succ]
    exact Int.mul_le_mul ih h h0 (Int.le_trans (Int.pow_nonneg h0) ih)
theorem res_above {A B : Int} (hA : 0 ≤ A) (h : A ≤ B) (hh : resE A ≠ 0) : resE B = 21 ∧ resL B = [] ∧ resE A = 21 ∧ resL A = [] := by
  have l : 4096 < (words A).length := by
    unfold resE at hh
    by_cases g : (words A).length ≤ 4096
    · rw [if_pos g] at hh; exact absurd rfl hh
    · omega
  have m := words_mono hA h
  have a := res_huge (N := A) l
  have b := res_huge (N := B) (by omega)
  exact ⟨b.2, b.1, a.2, a.1⟩
theorem res_ok {A : Int} (h : resE A = 0) : resL A = words A ∧ (words A).length ≤ 4096 := by
  unfold resE at h
  by_cases g : (words A).length ≤ 4096
  · exact ⟨(res_fits g).1, g⟩
  · rw [if_neg g] at h; omega
end Na
/-- what Pow answers: its error, its list -/
def powE (X n : Int) : Int := if n < 0 then 31 else resE (X ^ n.toNat)
def powL (X n : Int) : List Int := if n < 0 then [] else resL (X ^ n.toNat)
namespace Na
theorem pow_small {X : Int} (h0 : 0 ≤ X) (h : bitsN X ≤ 1) {n : Nat} (hn : n ≠ 0) : X ^ n = X ∧ (words X).length ≤ 1 := by
  have hX : X = 0 ∨ X = 1 := by
    by_cases hz : X = 0
    · exact Or.inl hz
    · obtain ⟨b, hb, a1, a2⟩ := bits_some (N := X) (by omega)
      have : b = 0 := by omega
      subst this
      right
      simp at a1 a2
      omega
  rcases hX with rfl | rfl
  · exact ⟨Int.zero_pow hn, words_len1 (by omega)⟩
  · exact ⟨Int.one_pow, words_len1 (by omega)⟩
theorem pow_huge {X : Int} {b n : Nat} (h : 2 ^ b ≤ X) (hn : 262144 ≤ b * n) : 4096 < (words (X ^ n)).length := by
  have p := p2pos b
  have a : (2 : Int) ^ (b * n) ≤ X ^ n := by
    rw [Int.pow_mul]
    exact ipow_base (by omega) h n
  have c : (2 : Int) ^ 262144 ≤ 2 ^ (b * n) := p2mono hn
  have d : 4096 < (words (X ^ n)).length := by
    refine dig_len_ge ?_
    rw [wpow2]
    have : 64 * 4096 = 262144 := by omega
    rw [this]
    omega
  exact d
end Na
end Go.Proofs.YthjfjpdgjhidfabGreat
