/- plumbref02: Word, Bits, Bit, Zeros. -/
import Derived.Test.YtbdljmboilapeaaRefSub
namespace Go.Proofs.Ytbdljmboilapeaa
open Go.ChangeShapes Go.WideShapes Go.ChangeAt Go.RowKit
open Na
set_option linter.unusedVariables false

namespace Na
def wordV (N : Int) : Int := if N < 18446744073709551616 then N else 0
def wordB (N : Int) : Bool := decide (N < 18446744073709551616)
theorem words_cases {N : Int} (h : 0 ≤ N) : (N = 0 ∧ words N = []) ∨ (0 < N ∧ N < 18446744073709551616 ∧ words N = [N]) ∨ (18446744073709551616 ≤ N ∧ 2 ≤ (words N).length) := by
  unfold words
  by_cases e : N = 0
  · subst e; exact Or.inl ⟨rfl, dig_zero _⟩
  · rw [dig_step (by omega) (by omega)]
    by_cases l : N < 18446744073709551616
    · right; left
      have e1 : N.toNat / 18446744073709551616 = 0 := by omega
      have e2 : ((N.toNat % 18446744073709551616 : Nat) : Int) = N := by omega
      rw [e1, dig_zero, e2]
      exact ⟨by omega, l, rfl⟩
    · right; right
      refine ⟨by omega, ?_⟩
      rw [dig_step (by omega) (by omega)]
      simp
end Na

theorem ret_ib {k : IntKind} {a b : Int} {p q : Bool} (h : a = b) (h' : p = q) : Ending.returned (.tuple #[.int k a, .bool p]) = .returned (.tuple #[.int k b, .bool q]) := by rw [h, h']
end Go.Proofs.Ytbdljmboilapeaa
