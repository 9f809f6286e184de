/- plumblaw07: fixed, bounded. -/
import Derived.Test.YtceecgklgkiffabGreatDoorNearD
namespace Go.Proofs.YtceecgklgkiffabGreatDoor
open Go.ChangeShapes Go.WideShapes Go.ChangeAt Go.RowKit
open Na Ar
set_option linter.unusedVariables false
theorem half_is : RoundIs (scA 1 0) (scB 2 0) false false 0 4602678819172646912 0 := by
  refine ⟨4602678819172646912, by unfold BelP; decide +kernel, Or.inl ⟨Or.inl (by decide +kernel), by decide +kernel, rfl⟩⟩
theorem third_is : RoundIs (scA 1 0) (scB 3 0) false true 0 13823048456275842389 0 := by
  refine ⟨4599676419421066581, by unfold BelP; decide +kernel, Or.inl ⟨Or.inr (by decide +kernel), by decide +kernel, rfl⟩⟩
theorem lits_7 (w : World) (N : Nat) (hN : w.heap.size = N) (x y : Int) : RowC ((w.alloc (.cells #[.int .u64 x] 22)).alloc (.cells #[.int .u64 y] 22)) (some ⟨N, 0, none⟩) 1 1 [x] ∧ RowC ((w.alloc (.cells #[.int .u64 x] 22)).alloc (.cells #[.int .u64 y] 22)) (some ⟨N + 1, 0, none⟩) 1 1 [y] ∧ Below w.heap.size w ((w.alloc (.cells #[.int .u64 x] 22)).alloc (.cells #[.int .u64 y] 22)) := by
  have r1 := rowC_one w x 22
  have b1 := alloc_below (w := w) (.cells #[.int .u64 x] 22)
  have r2 := rowC_one (w.alloc (.cells #[.int .u64 x] 22)) y 22
  have b2 := alloc_below (w := w.alloc (.cells #[.int .u64 x] 22)) (.cells #[.int .u64 y] 22)
  have es : (w.alloc (.cells #[.int .u64 x] 22)).heap.size = N + 1 := by simp [hN]
  rw [es] at r2
  rw [hN] at r1
  exact ⟨r1.later b2, r2, b1.trans (b2.mono b1.size)⟩
/-- a quotient of two words, whose answer is known -/
theorem quot_lits {w : World} {N : Nat} (hN : w.heap.size = N) {x y v E : Int} {neg : Bool} (hx : 0 ≤ x ∧ x < 18446744073709551616) (hy : 0 < y ∧ y < 18446744073709551616) (hG : GrVar w) (h : RoundIs (scA x 0) (scB y 0) false neg 0 v E) :
    Calls Tryz.prog 85 #[.bool neg, .slice (some ⟨N, 0, none⟩) 1 1, .slice (some ⟨N + 1, 0, none⟩) 1 1, .int .i64 0] ((w.alloc (.cells #[.int .u64 x] 22)).alloc (.cells #[.int .u64 y] 22)) fun e w' => e = .returned (.tuple #[.int .u64 v, .int .i64 E]) ∧ Below w.heap.size w w' := by
  obtain ⟨r1, r2, hb⟩ := lits_7 w N hN x y
  have n1 : num [x] = x := by simp [num, val]
  have n2 : num [y] = y := by simp [num, val]
  refine (quotient_any (neg := neg) (mode := 0) r1 r2 (Dg.one hx) (Dg.one ⟨by omega, by omega⟩) (by omega) (by omega) (by omega) (by omega) (by rw [n2]; exact hy.1) (hG.later hb)).mono ?_
  rintro e w' ⟨v', E', rfl, hr, _, hb'⟩
  rw [n1, n2] at hr
  obtain ⟨rfl, rfl⟩ := roundIs_uniq (scB_pos hy.1) hr h
  exact ⟨rfl, hb.trans (hb'.mono hb.size)⟩
end Go.Proofs.YtceecgklgkiffabGreatDoor
