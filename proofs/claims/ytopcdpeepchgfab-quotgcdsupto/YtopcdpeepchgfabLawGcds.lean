/- Gcd and Root, by the code, as rows. -/
import Derived.Test.YtopcdpeepchgfabRef3Root
import Derived.Test.YtopcdpeepchgfabBaseD
namespace Go.Proofs.Ytopcdpeepchgfab
open Go.ChangeShapes Go.WideShapes Go.ChangeAt Go.RowKit
open Na Ar
set_option linter.unusedVariables false
theorem gcdX {a b : Option Addr} {n m c1 c2 : Nat} {xs ys : List Int} {w : World} (hr1 : RowC w a n c1 xs) (hr2 : RowC w b m c2 ys) (hx : Ws xs) (hy : Ws ys) (hn : n ≤ 3700000) (hm : m ≤ 3700000) :
    Calls Try.prog 18 #[.slice a n c1, .slice b m c2] w fun e w' => ∃ va l c, e = .returned (.slice va l c) ∧ RowC w' va l c (words (Int.gcd (num xs) (num ys) : Int)) ∧ Below w.heap.size w w' := by
  refine (gcd_any hr1 hr2 hx hy hn hm).mono ?_
  rintro e w' ⟨v, rfl, hv, hb⟩
  obtain ⟨va, vc, rfl, hr⟩ := hv.readsC
  exact ⟨va, _, vc, rfl, hr, hb⟩
theorem rootX {a : Option Addr} {n c1 : Nat} {xs : List Int} {w : World} (hr1 : RowC w a n c1 xs) (hx : Ws xs) (hn : n ≤ 3700000) {S : Int} (hS : IsRoot (num xs) S) :
    Calls Try.prog 11 #[.slice a n c1] w fun e w' => ∃ va l c, e = .returned (.tuple #[.slice va l c, .bool (decide (S * S = num xs))]) ∧ RowC w' va l c (words S) ∧ Below w.heap.size w w' := by
  refine (root_any hr1 hx hn).mono ?_
  rintro e w' ⟨v1, s, rfl, hs, ho1, hb⟩
  have : s = S := hs.unique hS
  subst this
  obtain ⟨va, vc, rfl, hr⟩ := ho1.readsC
  exact ⟨va, _, vc, rfl, hr, hb⟩
theorem ref3RootX {a : Option Addr} {n c1 : Nat} {xs : List Int} {w : World} (hr1 : RowAt .u64 w a n xs) (hx : Ws xs) (hn : n ≤ 2000000) {S : Int} (hS : IsRoot (num xs) S) :
    Calls Try.prog 28 #[.slice a n c1] w fun e w' => ∃ va l c, e = .returned (.tuple #[.slice va l c, .bool (decide (S * S = num xs))]) ∧ RowC w' va l c (words S) ∧ Below w.heap.size w w' := by
  refine (ref3Root_any hr1 hx hn).mono ?_
  rintro e w' ⟨va, l, c, s, rfl, hr, hs, hb⟩
  have : s = S := hs.unique hS
  subst this
  exact ⟨va, l, c, rfl, hr, hb⟩
/-- there is a root -/
theorem has_root (n : Nat) : ∃ s : Nat, s * s ≤ n ∧ n < (s + 1) * (s + 1) := by
  induction n with
  | zero => exact ⟨0, by omega, by omega⟩
  | succ n ih =>
    obtain ⟨s, h1, h2⟩ := ih
    by_cases g : n + 1 < (s + 1) * (s + 1)
    · exact ⟨s, by omega, g⟩
    · refine ⟨s + 1, by omega, ?_⟩
      have : (s + 1 + 1) * (s + 1 + 1) = (s + 1) * (s + 1) + 2 * (s + 1) + 1 := by grind
      omega
theorem hasRoot {X : Int} (h : 0 ≤ X) : ∃ S, IsRoot X S := by
  obtain ⟨s, h1, h2⟩ := has_root X.toNat
  refine ⟨(s : Int), by omega, ?_, ?_⟩
  · have : ((s * s : Nat) : Int) ≤ (X.toNat : Int) := by omega
    rw [Int.natCast_mul] at this
    omega
  · have : (X.toNat : Int) < (((s + 1) * (s + 1) : Nat) : Int) := by omega
    rw [Int.natCast_mul] at this
    push_cast at this
    omega
theorem root_len {X S : Int} (h : IsRoot X S) (h0 : 0 ≤ X) : (words S).length ≤ (words X).length := by
  obtain ⟨r1, r2, _⟩ := h
  refine words_mono r1 ?_
  by_cases g : S = 0
  · omega
  · have : S * 1 ≤ S * S := Int.mul_le_mul_of_nonneg_left (by omega) r1
    omega
end Go.Proofs.Ytopcdpeepchgfab
