/- plumblaw07: fixed, bounded. -/
import Derived.Test.YtceecgklgkiffaaGreatDoorNearD
namespace Go.Proofs.YtceecgklgkiffaaGreatDoor
open Go.ChangeShapes Go.WideShapes Go.ChangeAt Go.RowKit
open Na Ar
set_option linter.unusedVariables false
theorem half_is : RoundIs (scA 1 0) (scB 2 0) false false 0 4602678819172646912 0 := by
  refine ⟨4602678819172646912, by unfold BelP; decide +kernel, Or.inl ⟨Or.inl (by decide +kernel), by decide +kernel, rfl⟩⟩
theorem third_is : RoundIs (scA 1 0) (scB 3 0) false true 0 13823048456275842389 0 := by
  refine ⟨4599676419421066581, by unfold BelP; decide +kernel, Or.inl ⟨Or.inr (by decide +kernel), by decide +kernel, rfl⟩⟩
theorem lits_7 (w : World) (N : Nat) (hN : w.heap.size = N) (x y : Int) : RowC ((w.alloc (.cells #[.int .u64 x] 22)).alloc (.cells #[.int .u64 y] 22)) (some ⟨N, 0, none⟩) 1 1 [x] ∧ RowC ((w.alloc (.cells #[.int .u64 x] 22)).alloc (.cells #[.int .u64 y] 22)) (some ⟨N + 1, 0, none⟩) 1 1 [y] ∧ Below w.heap.size w ((w.alloc (.cells #[.int .u64 x] 22)).alloc (.cells #[.int .u64 y] 22)) := by
  have r1 := rowC_one w x 22
  have b1 := alloc_below (w := w) (.cells #[.int .u64 x] 22)
  have r2 := rowC_one (w.alloc (.cells #[.int .u64 x] 22)) y 22
  have b2 := alloc_below (w := w.alloc (.cells #[.int .u64 x] 22)) (.cells #[.int .u64 y] 22)
  have es : (w.alloc (.cells #[.int .u64 x] 22)).heap.size = N + 1 := by simp [hN]
  rw [es] at r2
  rw [hN] at r1
  exact ⟨r1.later b2, r2, b1.trans (b2.mono b1.size)⟩
end Go.Proofs.YtceecgklgkiffaaGreatDoor
