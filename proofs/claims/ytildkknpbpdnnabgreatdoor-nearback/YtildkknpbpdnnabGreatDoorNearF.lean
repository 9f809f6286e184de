/- plumblaw07: fixed, bounded. -/
import Derived.Test.YtildkknpbpdnnabGreatDoorNearD
namespace Go.Proofs.YtildkknpbpdnnabGreatDoor
open Go.ChangeShapes Go.WideShapes Go.ChangeAt Go.RowKit
open Na Ar
set_option linter.unusedVariables false
theorem num7_same (e : Int) (w : World) : Calls Tryz.prog 10 #[.int .i64 e] w fun r w' => r = .returned (.int .i64 e) ∧ w = w' := by
  go_enter Tryz.func10, Tryz.ntmps10
  go_wp2
  go_ret
  exact ⟨rfl, rfl⟩
theorem half_is : RoundIs (scA 1 0) (scB 2 0) false false 0 4602678819172646912 0 := by
  refine ⟨4602678819172646912, by unfold BelP; decide +kernel, Or.inl ⟨Or.inl (by decide +kernel), by decide +kernel, rfl⟩⟩
theorem third_is : RoundIs (scA 1 0) (scB 3 0) false true 0 13823048456275842389 0 := by
  refine ⟨4599676419421066581, by unfold BelP; decide +kernel, Or.inl ⟨Or.inr (by decide +kernel), by decide +kernel, rfl⟩⟩
theorem lits_7 (w : World) (N : Nat) (hN : w.heap.size = N) (x y : Int) : RowC ((w.alloc (.cells #[.int .u64 x] 22)).alloc (.cells #[.int .u64 y] 22)) (some ⟨N, 0, none⟩) 1 1 [x] ∧ RowC ((w.alloc (.cells #[.int .u64 x] 22)).alloc (.cells #[.int .u64 y] 22)) (some ⟨N + 1, 0, none⟩) 1 1 [y] ∧ Below w.heap.size w ((w.alloc (.cells #[.int .u64 x] 22)).alloc (.cells #[.int .u64 y] 22)) := by
  have r1 := rowC_one w x 22
  have b1 := alloc_below (w := w) (.cells #[.int .u64 x] 22)
  have r2 := rowC_one (w.alloc (.cells #[.int .u64 x] 22)) y 22
  have b2 := alloc_below (w := w.alloc (.cells #[.int .u64 x] 22)) (.cells #[.int .u64 y] 22)
  have es : (w.alloc (.cells #[.int .u64 x] 22)).heap.size = N + 1 := by simp [hN]
  rw [es] at r2
  rw [hN] at r1
  exact ⟨r1.later b2, r2, b1.trans (b2.mono b1.size)⟩
/-- a quotient of two words, whose answer is known -/
theorem quot_lits {w : World} {N : Nat} (hN : w.heap.size = N) {x y v E : Int} {neg : Bool} (hx : 0 ≤ x ∧ x < 18446744073709551616) (hy : 0 < y ∧ y < 18446744073709551616) (hG : GrVar w) (h : RoundIs (scA x 0) (scB y 0) false neg 0 v E) :
    Calls Tryz.prog 39 #[.bool neg, .slice (some ⟨N, 0, none⟩) 1 1, .slice (some ⟨N + 1, 0, none⟩) 1 1, .int .i64 0] ((w.alloc (.cells #[.int .u64 x] 22)).alloc (.cells #[.int .u64 y] 22)) fun e w' => e = .returned (.tuple #[.int .u64 v, .int .i64 E]) ∧ Below w.heap.size w w' := by
  obtain ⟨r1, r2, hb⟩ := lits_7 w N hN x y
  have n1 : num [x] = x := by simp [num, val]
  have n2 : num [y] = y := by simp [num, val]
  refine (quotient_any (neg := neg) (mode := 0) r1 r2 (Dg.one hx) (Dg.one ⟨by omega, by omega⟩) (by omega) (by omega) (by omega) (by omega) (by rw [n2]; exact hy.1) (hG.later hb)).mono ?_
  rintro e w' ⟨v', E', rfl, hr, _, hb'⟩
  rw [n1, n2] at hr
  obtain ⟨rfl, rfl⟩ := roundIs_uniq (scB_pos hy.1) hr h
  exact ⟨rfl, hb.trans (hb'.mono hb.size)⟩
set_option maxHeartbeats 1600000 in
set_option maxRecDepth 100000 in
theorem fixed_any {w : World} (hG : GrVar w) : Calls Tryz.prog 12 #[] w fun e w' => e = .returned (.bool true) ∧ Below w.heap.size w w' := by
  have q1 := quot_lits (w := w) rfl (x := 1) (y := 2) (by omega) (by omega) hG half_is
  go_enter Tryz.func12, Tryz.ntmps12
  go_wp2_with fail
  refine q1.mono ?_
  rintro e w1 ⟨rfl, hb1⟩
  have G1 := hG.later hb1
  have q2 := quot_lits (w := w1) rfl (x := 1) (y := 3) (by omega) (by omega) G1 third_is
  clear q1 hG
  go_wp2_with fail
  refine q2.mono ?_
  rintro e w2 ⟨rfl, hb2⟩
  have hB2 := hb1.trans (hb2.mono hb1.size)
  have r3 := rowC_one w2 1 22
  have hal := alloc_below (w := w2) (.cells #[.int .u64 1] 22)
  have hnil : RowC (w2.alloc (.cells #[.int .u64 1] 22)) none 0 0 [] := ⟨⟨rfl, Or.inl rfl⟩, Nat.le_refl _, Nat.zero_le _⟩
  have q3 := quotient_zero (neg := false) (mode := 0) r3 hnil (Dg.one (by omega)) (Dg.nil _) (by omega) (by omega) (by omega) (by omega) (by simp [num, val])
  have hB3 := hB2.trans (hal.mono hB2.size)
  clear q2 r3 hnil hb1 hb2 G1 hal
  go_wp2_with fail
  refine q3.mono ?_
  rintro e w3 ⟨rfl, hb3⟩
  have hB := hB3.trans (hb3.mono hB3.size)
  clear q3 hB3 hb3 hB2
  go_wp2_with fail
  refine (num7_same 0 w3).mono ?_
  rintro e w4 ⟨rfl, rfl⟩
  go_wp2_with fail
  refine (num7_same 0 w3).mono ?_
  rintro e w4 ⟨rfl, rfl⟩
  go_wp2_with fail
  refine (num7_same 50 w3).mono ?_
  rintro e w4 ⟨rfl, rfl⟩
  go_wp2
  go_ret
  exact ⟨rfl, hB⟩
end Go.Proofs.YtildkknpbpdnnabGreatDoor
