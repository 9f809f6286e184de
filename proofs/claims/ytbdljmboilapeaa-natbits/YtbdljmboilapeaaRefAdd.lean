/- plumbref02: Cmp, Add, Sub, From, Word. -/
import Derived.Test.YtbdljmboilapeaaRefCmp
namespace Go.Proofs.Ytbdljmboilapeaa
open Go.ChangeShapes Go.WideShapes Go.ChangeAt Go.RowKit
open Na
set_option linter.unusedVariables false

namespace Na
/-- the number of a list of words -/
def num (xs : List Int) : Int := val 18446744073709551616 xs
/-- a list of words -/
abbrev Ws (xs : List Int) : Prop := Dg 18446744073709551616 xs
theorem num_nonneg {xs : List Int} (h : Ws xs) : 0 ≤ num xs := val_nonneg (B := 18446744073709551616) (by omega) h
theorem digs_len_lt {N : Int} {k : Nat} (h0 : 0 ≤ N) (h : N < 65536 ^ k) : (digs N).length ≤ k := by
  refine dig_length (by omega) ?_
  have c : ((65536 ^ k : Nat) : Int) = (65536 : Int) ^ k := by simp
  omega
theorem num_lt {xs : List Int} (h : Ws xs) : num xs < 65536 ^ (4 * xs.length) := by
  have l := val_lt (by omega) h
  have e : (65536 : Int) ^ (4 * xs.length) = 18446744073709551616 ^ xs.length := by rw [Int.pow_mul]; rfl
  rw [e]; exact l
theorem digs_len {xs : List Int} (h : Ws xs) : (digs (num xs)).length ≤ 4 * xs.length := digs_len_lt (num_nonneg h) (num_lt h)
theorem pow_mono {a b : Nat} (h : a ≤ b) : (65536 : Int) ^ a ≤ 65536 ^ b := by
  have c1 : ((65536 ^ a : Nat) : Int) = (65536 : Int) ^ a := by simp
  have c2 : ((65536 ^ b : Nat) : Int) = (65536 : Int) ^ b := by simp
  have : 65536 ^ a ≤ 65536 ^ b := Nat.pow_le_pow_right (by omega) h
  omega
theorem add_lt {A B : Int} {p q : Nat} (hA : A < 65536 ^ p) (hB : B < 65536 ^ q) : A + B < 65536 ^ (p + q + 1) := by
  have m1 := pow_mono (show p ≤ p + q by omega)
  have m2 := pow_mono (show q ≤ p + q by omega)
  rw [Int.pow_succ]
  have p0 : 0 < (65536 : Int) ^ (p + q) := Int.pow_pos (by omega)
  omega
end Na

end Go.Proofs.Ytbdljmboilapeaa
