/- DivMod and Small, by the code and by the document, whatever the divisor. -/
import Derived.Test.YtopcdpeepchgfabLawEx
import Derived.Test.YtopcdpeepchgfabBaseH
namespace Go.Proofs.Ytopcdpeepchgfab
open Go.ChangeShapes Go.WideShapes Go.ChangeAt Go.RowKit
open Na Ar
set_option linter.unusedVariables false
def divE (D : Int) : Int := if D = 0 then 30 else 0
def quoL (X D : Int) : List Int := if D = 0 then [] else words (X / D)
def remL (X D : Int) : List Int := if D = 0 then [] else words (X % D)
def remW (X D : Int) : Int := if D = 0 then 0 else X % D
theorem quoL_len {xs : List Int} (hx : Ws xs) {D : Int} (hD : 0 ≤ D) : (quoL (num xs) D).length ≤ xs.length := by
  unfold quoL
  split
  · simp
  · have h0 := num_nonneg hx
    exact Nat.le_trans (words_mono (Int.ediv_nonneg h0 hD) (Int.ediv_le_self D h0)) (words_le hx)
theorem remL_len {ys : List Int} (hy : Ws ys) {X : Int} (hX : 0 ≤ X) : (remL X (num ys)).length ≤ ys.length := by
  unfold remL
  split
  · simp
  · have h0 := num_nonneg hy
    have m1 := Int.emod_lt_of_pos X (show 0 < num ys by omega)
    have m0 := Int.emod_nonneg X (show num ys ≠ 0 by omega)
    exact Nat.le_trans (words_mono m0 (Int.le_of_lt m1)) (words_le hy)
section
variable {a b : Option Addr} {n m c1 c2 : Nat} {xs ys : List Int} {w : World}
theorem divX (hr1 : RowC w a n c1 xs) (hr2 : RowC w b m c2 ys) (hx : Ws xs) (hy : Ws ys) (hn : n ≤ 3700000) (hm : m ≤ 3700000) :
    Calls Try.prog 23 #[.slice a n c1, .slice b m c2] w fun e w' => ∃ a1 n1 d1 a2 n2 d2, e = .returned (.tuple #[.slice a1 n1 d1, .slice a2 n2 d2, .int .i64 (divE (num ys))]) ∧ RowC w' a1 n1 d1 (quoL (num xs) (num ys)) ∧ RowC w' a2 n2 d2 (remL (num xs) (num ys)) ∧ Below w.heap.size w w' := by
  have h0 := num_nonneg hy
  by_cases hz : num ys = 0
  · refine (divModZero_any hr1 hr2 hx hy (by omega) (by omega) hz).mono ?_
    rintro e w' ⟨v1, v2, rfl, ho1, ho2, hb, _⟩
    unfold divE quoL remL
    rw [if_pos hz, if_pos hz, if_pos hz]
    obtain ⟨a1, d1, rfl, q1⟩ := ho1.readsC
    obtain ⟨a2, d2, rfl, q2⟩ := ho2.readsC
    exact ⟨a1, _, d1, a2, _, d2, rfl, q1, q2, hb⟩
  · refine (divMod_any hr1 hr2 hx hy (by omega) (by omega) (by omega)).mono ?_
    rintro e w' ⟨v1, v2, rfl, ho1, ho2, hb, _⟩
    unfold divE quoL remL
    rw [if_neg hz, if_neg hz, if_neg hz]
    obtain ⟨a1, d1, rfl, q1⟩ := ho1.readsC
    obtain ⟨a2, d2, rfl, q2⟩ := ho2.readsC
    exact ⟨a1, _, d1, a2, _, d2, rfl, q1, q2, hb⟩
theorem ref3DivX (hr1 : RowAt .u64 w a n xs) (hr2 : RowAt .u64 w b m ys) (hx : Ws xs) (hy : Ws ys) (hn : n ≤ 3000000) (hm : m ≤ 3000000) :
    Calls Try.prog 63 #[.slice a n c1, .slice b m c2] w fun e w' => ∃ a1 n1 d1 a2 n2 d2, e = .returned (.tuple #[.slice a1 n1 d1, .slice a2 n2 d2, .int .i64 (divE (num ys))]) ∧ RowC w' a1 n1 d1 (quoL (num xs) (num ys)) ∧ RowC w' a2 n2 d2 (remL (num xs) (num ys)) ∧ Below w.heap.size w w' := by
  have h0 := num_nonneg hy
  by_cases hz : num ys = 0
  · refine (ref3DivZero_any (xs := xs) hr2 hy (by omega) hz).mono ?_
    rintro e w' ⟨rfl, hb⟩
    unfold divE quoL remL
    rw [if_pos hz, if_pos hz, if_pos hz]
    exact ⟨none, 0, 0, none, 0, 0, rfl, rowC_nil _, rowC_nil _, hb⟩
  · refine (ref3Div_any hr1 hr2 hx hy (by omega) (by omega) (by omega)).mono ?_
    rintro e w' ⟨a1, n1, d1, a2, n2, d2, rfl, q1, q2, hb⟩
    unfold divE quoL remL
    rw [if_neg hz, if_neg hz, if_neg hz]
    exact ⟨a1, _, d1, a2, _, d2, rfl, q1, q2, hb⟩
end
end Go.Proofs.Ytopcdpeepchgfab
