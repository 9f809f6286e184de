/- the walks of PowerProducts, PowerBounds, PowerStays. -/
import Derived.Test.YtbbmoaipilmmdabGreatDoorPowC
namespace Go.Proofs.YtbbmoaipilmmdabGreatDoor
open Go.ChangeShapes Go.WideShapes Go.ChangeAt Go.RowKit
open Na Ar
set_option linter.unusedVariables false
theorem lits3 (w : World) (x y z u v : Int) : RowC (((w.alloc (.cells #[.int .u64 x, .int .u64 y] 22)).alloc (.cells #[.int .u64 z, .int .u64 u] 22)).alloc (.cells #[.int .u64 v] 22)) (some ⟨w.heap.size, 0, none⟩) 2 2 [x, y] ∧
    RowC (((w.alloc (.cells #[.int .u64 x, .int .u64 y] 22)).alloc (.cells #[.int .u64 z, .int .u64 u] 22)).alloc (.cells #[.int .u64 v] 22)) (some ⟨w.heap.size + 1, 0, none⟩) 2 2 [z, u] ∧
    RowC (((w.alloc (.cells #[.int .u64 x, .int .u64 y] 22)).alloc (.cells #[.int .u64 z, .int .u64 u] 22)).alloc (.cells #[.int .u64 v] 22)) (some ⟨w.heap.size + 1 + 1, 0, none⟩) 1 1 [v] ∧
    Below w.heap.size w (((w.alloc (.cells #[.int .u64 x, .int .u64 y] 22)).alloc (.cells #[.int .u64 z, .int .u64 u] 22)).alloc (.cells #[.int .u64 v] 22)) := by
  have r1 := rowC_two w x y 22
  have b1 := alloc_below (w := w) (.cells #[.int .u64 x, .int .u64 y] 22)
  have s1 : (w.alloc (.cells #[.int .u64 x, .int .u64 y] 22)).heap.size = w.heap.size + 1 := by simp
  generalize w.alloc (.cells #[.int .u64 x, .int .u64 y] 22) = w1 at *
  have r2 := rowC_two w1 z u 22
  have b2 := alloc_below (w := w1) (.cells #[.int .u64 z, .int .u64 u] 22)
  have s2 : (w1.alloc (.cells #[.int .u64 z, .int .u64 u] 22)).heap.size = w1.heap.size + 1 := by simp
  generalize w1.alloc (.cells #[.int .u64 z, .int .u64 u] 22) = w2 at *
  have r3 := rowC_one w2 v 22
  have b3 := alloc_below (w := w2) (.cells #[.int .u64 v] 22)
  generalize w2.alloc (.cells #[.int .u64 v] 22) = w3 at *
  rw [s2, s1] at r3
  rw [s1] at r2
  exact ⟨(r1.later b2).later b3, r2.later b3, r3, (b1.trans (b2.mono b1.size)).trans (b3.mono (Nat.le_trans b1.size b2.size))⟩
theorem nm_pair {e : Int} (h : inT e) : Nm [pV e % 18446744073709551616, pV e / 18446744073709551616] (pV e) ∧ Lt (pV e) 2 := by
  have w := pV_words h
  have r := pV_rng h
  have l := lt_pair (A := pV e) ⟨by omega, r.2.1⟩
  have n := l.nm (by omega)
  rw [w.1] at n
  exact ⟨n, l⟩
theorem ordN_pos {A B : Int} (h : B < A) : decide (ordN A B ≤ 0) = false ∧ decide (ordN A B > 0) = true ∧ decide (0 < ordN A B) = true := by rw [ordN_gt h]; decide
namespace Na
theorem ag_less {V x : Int} (hx : -2000 ≤ x) : agL (V - 1) x < agL V x := by
  unfold agL
  have a : (0 : Int) < 2 ^ (x + 2000).toNat := Int.pow_pos (by omega)
  have b : (0 : Int) < 5 ^ 696 := Int.pow_pos (by omega)
  exact Int.mul_lt_mul_of_pos_right (Int.mul_lt_mul_of_pos_right (by omega) a) b
end Na
theorem lits2 (w : World) (x y v : Int) : RowC ((w.alloc (.cells #[.int .u64 v] 22)).alloc (.cells #[.int .u64 x, .int .u64 y] 22)) (some ⟨w.heap.size, 0, none⟩) 1 1 [v] ∧
    RowC ((w.alloc (.cells #[.int .u64 v] 22)).alloc (.cells #[.int .u64 x, .int .u64 y] 22)) (some ⟨w.heap.size + 1, 0, none⟩) 2 2 [x, y] ∧
    Below w.heap.size w ((w.alloc (.cells #[.int .u64 v] 22)).alloc (.cells #[.int .u64 x, .int .u64 y] 22)) := by
  have r1 := rowC_one w v 22
  have b1 := alloc_below (w := w) (.cells #[.int .u64 v] 22)
  have s1 : (w.alloc (.cells #[.int .u64 v] 22)).heap.size = w.heap.size + 1 := by simp
  generalize w.alloc (.cells #[.int .u64 v] 22) = w1 at *
  have r2 := rowC_two w1 x y 22
  have b2 := alloc_below (w := w1) (.cells #[.int .u64 x, .int .u64 y] 22)
  generalize w1.alloc (.cells #[.int .u64 x, .int .u64 y] 22) = w2 at *
  rw [s1] at r2
  exact ⟨r1.later b2, r2, b1.trans (b2.mono b1.size)⟩
theorem ab_pair {e : Int} (h : inT e) : Nm [abV e % 18446744073709551616, abV e / 18446744073709551616] (abV e) ∧ Lt (abV e) 2 ∧ 9223372036854775808 ≤ abV e / 18446744073709551616 ∧ 1 ≤ abV e := by
  have r := pV_rng h
  have b : 170141183460469231731687303715884105728 ≤ abV e ∧ abV e < 340282366920938463463374607431768211456 := by
    by_cases hw : pW e = true
    · rw [abV_in hw]; omega
    · have hw : pW e = false := by simpa using hw
      rw [abV_out hw]
      have := r.2.2 hw
      omega
  have u1 : 0 ≤ abV e % 18446744073709551616 ∧ abV e % 18446744073709551616 < 18446744073709551616 := by omega
  have u2 : 0 ≤ abV e / 18446744073709551616 ∧ abV e / 18446744073709551616 < 18446744073709551616 := by omega
  have n := Nm.two u1 u2
  rw [Int.emod_add_mul_ediv] at n
  exact ⟨n, lt_pair ⟨by omega, b.2⟩, by omega, by omega⟩
end Go.Proofs.YtbbmoaipilmmdabGreatDoor
