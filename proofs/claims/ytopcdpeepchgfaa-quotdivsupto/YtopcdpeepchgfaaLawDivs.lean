/- DivMod and Small, by the code and by the document, whatever the divisor. -/
import Derived.Test.YtopcdpeepchgfaaLawEx
import Derived.Test.YtopcdpeepchgfaaBaseH
namespace Go.Proofs.Ytopcdpeepchgfaa
open Go.ChangeShapes Go.WideShapes Go.ChangeAt Go.RowKit
open Na Ar
set_option linter.unusedVariables false
def divE (D : Int) : Int := if D = 0 then 30 else 0
def quoL (X D : Int) : List Int := if D = 0 then [] else words (X / D)
def remL (X D : Int) : List Int := if D = 0 then [] else words (X % D)
def remW (X D : Int) : Int := if D = 0 then 0 else X % D
theorem quoL_len {xs : List Int} (hx : Ws xs) {D : Int} (hD : 0 ≤ D) : (quoL (num xs) D).length ≤ xs.length := by
  unfold quoL
  split
  · simp
  · have h0 := num_nonneg hx
    exact Nat.le_trans (words_mono (Int.ediv_nonneg h0 hD) (Int.ediv_le_self D h0)) (words_le hx)
theorem remL_len {ys : List Int} (hy : Ws ys) {X : Int} (hX : 0 ≤ X) : (remL X (num ys)).length ≤ ys.length := by
  unfold remL
  split
  · simp
  · have h0 := num_nonneg hy
    have m1 := Int.emod_lt_of_pos X (show 0 < num ys by omega)
    have m0 := Int.emod_nonneg X (show num ys ≠ 0 by omega)
    exact Nat.le_trans (words_mono m0 (Int.le_of_lt m1)) (words_le hy)
section
variable {a b : Option Addr} {n m c1 c2 : Nat} {xs ys : List Int} {w : World}
theorem divX (hr1 : RowC w a n c1 xs) (hr2 : RowC w b m c2 ys) (hx : Ws xs) (hy : Ws ys) (hn : n ≤ 3700000) (hm : m ≤ 3700000) :
    Calls Try.prog 15 #[.slice a n c1, .slice b m c2] w fun e w' => ∃ a1 n1 d1 a2 n2 d2, e = .returned (.tuple #[.slice a1 n1 d1, .slice a2 n2 d2, .int .i64 (divE (num ys))]) ∧ RowC w' a1 n1 d1 (quoL (num xs) (num ys)) ∧ RowC w' a2 n2 d2 (remL (num xs) (num ys)) ∧ Below w.heap.size w w' := by
  have h0 := num_nonneg hy
  by_cases hz : num ys = 0
  · refine (divModZero_any hr1 hr2 hx hy (by omega) (by omega) hz).mono ?_
    rintro e w' ⟨v1, v2, rfl, ho1, ho2, hb, _⟩
    unfold divE quoL remL
    rw [if_pos hz, if_pos hz, if_pos hz]
    obtain ⟨a1, d1, rfl, q1⟩ := ho1.readsC
    obtain ⟨a2, d2, rfl, q2⟩ := ho2.readsC
    exact ⟨a1, _, d1, a2, _, d2, rfl, q1, q2, hb⟩
  · refine (divMod_any hr1 hr2 hx hy (by omega) (by omega) (by omega)).mono ?_
    rintro e w' ⟨v1, v2, rfl, ho1, ho2, hb, _⟩
    unfold divE quoL remL
    rw [if_neg hz, if_neg hz, if_neg hz]
    obtain ⟨a1, d1, rfl, q1⟩ := ho1.readsC
    obtain ⟨a2, d2, rfl, q2⟩ := ho2.readsC
    exact ⟨a1, _, d1, a2, _, d2, rfl, q1, q2, hb⟩
theorem ref3DivX (hr1 : RowAt .u64 w a n xs) (hr2 : RowAt .u64 w b m ys) (hx : Ws xs) (hy : Ws ys) (hn : n ≤ 3000000) (hm : m ≤ 3000000) :
    Calls Try.prog 16 #[.slice a n c1, .slice b m c2] w fun e w' => ∃ a1 n1 d1 a2 n2 d2, e = .returned (.tuple #[.slice a1 n1 d1, .slice a2 n2 d2, .int .i64 (divE (num ys))]) ∧ RowC w' a1 n1 d1 (quoL (num xs) (num ys)) ∧ RowC w' a2 n2 d2 (remL (num xs) (num ys)) ∧ Below w.heap.size w w' := by
  have h0 := num_nonneg hy
  by_cases hz : num ys = 0
  · refine (ref3DivZero_any (xs := xs) hr2 hy (by omega) hz).mono ?_
    rintro e w' ⟨rfl, hb⟩
    unfold divE quoL remL
    rw [if_pos hz, if_pos hz, if_pos hz]
    exact ⟨none, 0, 0, none, 0, 0, rfl, rowC_nil _, rowC_nil _, hb⟩
  · refine (ref3Div_any hr1 hr2 hx hy (by omega) (by omega) (by omega)).mono ?_
    rintro e w' ⟨a1, n1, d1, a2, n2, d2, rfl, q1, q2, hb⟩
    unfold divE quoL remL
    rw [if_neg hz, if_neg hz, if_neg hz]
    exact ⟨a1, _, d1, a2, _, d2, rfl, q1, q2, hb⟩
theorem smallX {d : Int} (hr1 : RowC w a n c1 xs) (hx : Ws xs) (hd : U d) (hn : n ≤ 3700000) :
    Calls Try.prog 17 #[.slice a n c1, .int .u64 d] w fun e w' => ∃ a1 n1 d1, e = .returned (.tuple #[.slice a1 n1 d1, .int .u64 (remW (num xs) d), .int .i64 (divE d)]) ∧ RowC w' a1 n1 d1 (quoL (num xs) d) ∧ Below w.heap.size w w' := by
  by_cases hz : d = 0
  · subst hz
    refine (smallZero_any w).mono ?_
    rintro e w' ⟨rfl, rfl⟩
    unfold divE quoL remW
    rw [if_pos rfl, if_pos rfl, if_pos rfl]
    exact ⟨none, 0, 0, rfl, rowC_nil _, Below.refl _ _⟩
  · refine (small_any hr1 hx (by omega) hd hz).mono ?_
    rintro e w' ⟨v1, rfl, ho1, hb⟩
    unfold divE quoL remW
    rw [if_neg hz, if_neg hz, if_neg hz]
    obtain ⟨a1, d1, rfl, q1⟩ := ho1.readsC
    exact ⟨a1, _, d1, rfl, q1, hb⟩
theorem remL_word {X d : Int} (hd : U d) : (remL X d).getD 0 0 = remW X d := by
  unfold remL remW
  by_cases hz : d = 0
  · rw [if_pos hz, if_pos hz]; rfl
  · rw [if_neg hz, if_neg hz]
    unfold U at hd
    have m1 := Int.emod_lt_of_pos X (show 0 < d by omega)
    have m0 := Int.emod_nonneg X hz
    rw [getD_num (Dg_words _), num_words m0]
    simp
    omega
theorem ref3SmallX {d : Int} (hr1 : RowAt .u64 w a n xs) (hx : Ws xs) (hd : U d) (hn : n ≤ 3000000) :
    Calls Try.prog 18 #[.slice a n c1, .int .u64 d] w fun e w' => ∃ a1 n1 d1, e = .returned (.tuple #[.slice a1 n1 d1, .int .u64 (remW (num xs) d), .int .i64 (divE d)]) ∧ RowC w' a1 n1 d1 (quoL (num xs) d) ∧ Below w.heap.size w w' := by
  have hb0 : Below w.heap.size w (w.alloc (.cells #[.int .u64 d] 32)) := (Below.refl _ _).alloc (Nat.le_refl _) _
  have hone := rowC_one w d 32
  have hdv := ref3DivX (c1 := c1) (c2 := 1) (hr1.later hb0) hone.1 hx (Dg.one hd) hn (by omega)
  have en : num [d] = d := by simp [num, val]
  rw [en] at hdv
  have hrl := remL_len (Dg.one hd) (num_nonneg hx)
  rw [en] at hrl
  have hrw := remL_word (X := num xs) hd
  generalize divE d = E at *
  generalize remW (num xs) d = R at *
  go_enter Try.func18, Try.ntmps18
  go_wp2_with fail
  refine hdv.mono ?_
  rintro e w1 ⟨a1, n1, d1, a2, n2, d2, rfl, q1, q2, hb1⟩
  have hat := ref3At_any (c1 := d2) q2.1 (by have := q2.1.1; simp at hrl; omega) 0 (by omega)
  rw [hrw] at hat
  have hB := hb0.trans (hb1.mono hb0.size)
  clear hdv hone q2 hrl hrw
  go_wp2_with fail
  refine hat.mono ?_
  rintro e w' ⟨rfl, rfl⟩
  go_wp2
  go_ret3
  exact ⟨_, _, _, rfl, q1, hB⟩
end
end Go.Proofs.Ytopcdpeepchgfaa
