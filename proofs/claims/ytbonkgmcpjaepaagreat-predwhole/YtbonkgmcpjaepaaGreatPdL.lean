/- plumblaw22: PredOrders (written by genpdl.py). -/
import Derived.Test.YtbonkgmcpjaepaaGreatPdK
namespace Go.Proofs.YtbonkgmcpjaepaaGreat
open Go.ChangeShapes Go.WideShapes Go.ChangeAt Go.RowKit
open Na Ar
set_option linter.unusedVariables false
structure HL (p : Prop) : Prop where
  mk ::
  out : p
theorem num22_same (x : Int) (w : World) : Calls Tryz.prog 9 #[.int .i64 x] w fun e w' => e = .returned (.int .i64 x) ∧ w = w' := by
  go_enter Tryz.func9, Tryz.ntmps9
  go_wp2
  go_ret
  exact ⟨rfl, rfl⟩
theorem ordS_swap (a b c d : Rat) : ordS c d a b = - ordS a b c d := by
  unfold ordS
  rw [ordR_swap a c, ordR_swap b d]
  by_cases h : ordR a c = 0
  · rw [if_pos h, if_pos (by omega)]
  · rw [if_neg h, if_neg (by omega)]
theorem ordS_le {a b c d : Rat} : ordS a b c d ≤ 0 ↔ a < c ∨ (a = c ∧ b ≤ d) := by
  unfold ordS
  by_cases h : ordR a c = 0
  · have e := ordR_zero.mp h
    rw [if_pos h, ordR_le]
    constructor
    · exact fun x => Or.inr ⟨e, x⟩
    · rintro (x | ⟨_, x⟩)
      · have := ordR_neg.mpr x; omega
      · exact x
  · rw [if_neg h]
    constructor
    · intro x; exact Or.inl (ordR_neg.mp (by omega))
    · rintro (x | ⟨x, _⟩)
      · have := ordR_neg.mpr x; omega
      · exact absurd (ordR_zero.mpr x) h
theorem ordS_zero {a b c d : Rat} : ordS a b c d = 0 ↔ a = c ∧ b = d := by
  unfold ordS
  by_cases h : ordR a c = 0
  · rw [if_pos h, ordR_zero]; exact ⟨fun x => ⟨ordR_zero.mp h, x⟩, fun x => x.2⟩
  · rw [if_neg h]; exact ⟨fun x => absurd x h, fun x => absurd (ordR_zero.mpr x.1) h⟩
theorem ordS_trans {a b c d e f : Rat} (h1 : ordS a b c d ≤ 0) (h2 : ordS c d e f ≤ 0) : ordS a b e f ≤ 0 := by
  rw [ordS_le] at *
  grind
theorem crR_swap (a b c d e f : Rat) : crR c d a b e f = - crR a b c d e f := by
  unfold crR
  grind
theorem sgnR_neg (q : Rat) : sgnR (-q) = - sgnR q := by
  unfold sgnR
  rw [Rat.neg_num]
  by_cases h : q.num = 0
  · rw [if_pos h, if_pos (by omega)]; rfl
  · by_cases h' : q.num < 0
    · rw [if_neg h, if_pos h', if_neg (by omega), if_neg (by omega)]; rfl
    · rw [if_neg h, if_neg h', if_neg (by omega), if_pos (by omega)]
theorem sgnR_in (q : Rat) : -1 ≤ sgnR q ∧ sgnR q ≤ 1 := by
  unfold sgnR
  (repeat' split) <;> omega
theorem sqR_swap (a b c d : Rat) : sqR c d a b = sqR a b c d := by
  unfold sqR
  grind
theorem sqR_self (a b : Rat) : sqR a b a b = 0 := by
  unfold sqR
  grind
theorem sqR_nn (a b c d : Rat) : 0 ≤ sqR a b c d := by
  unfold sqR
  have h1 : 0 ≤ (c - a) * (c - a) := by
    rcases Rat.le_total (a := 0) (b := c - a) with h | h
    · exact Rat.mul_nonneg h h
    · have := Rat.mul_nonneg (a := -(c - a)) (b := -(c - a)) (by grind) (by grind)
      grind
  have h2 : 0 ≤ (d - b) * (d - b) := by
    rcases Rat.le_total (a := 0) (b := d - b) with h | h
    · exact Rat.mul_nonneg h h
    · have := Rat.mul_nonneg (a := -(d - b)) (b := -(d - b)) (by grind) (by grind)
      grind
  grind
theorem sqR_zero {a b c d : Rat} : sqR a b c d = 0 ↔ a = c ∧ b = d := by
  constructor
  · intro h
    have h1 : 0 ≤ (c - a) * (c - a) := by have := sqR_nn a 0 c 0; unfold sqR at this; grind
    have h2 : 0 ≤ (d - b) * (d - b) := by have := sqR_nn 0 b 0 d; unfold sqR at this; grind
    unfold sqR at h
    have e1 : (c - a) * (c - a) = 0 := by grind
    have e2 : (d - b) * (d - b) = 0 := by grind
    rcases Rat.mul_eq_zero.mp e1 with x | x <;> rcases Rat.mul_eq_zero.mp e2 with y | y <;> exact ⟨by grind, by grind⟩
  · rintro ⟨rfl, rfl⟩
    exact sqR_self a b
/-- what PredOrders asks of its numbers -/
theorem orders_facts (a0 a1 b0 b1 c0 c1 d0 d1 : Rat) : ∃ AB BC AC : Int, ∃ N : Int, ∃ IS : Bool, ∃ X U CD : Int,
    AB = ordS a0 a1 b0 b1 ∧ -AB = ordS b0 b1 a0 a1 ∧ BC = ordS b0 b1 c0 c1 ∧ AC = ordS a0 a1 c0 c1 ∧ N = sgnR (crR a0 a1 b0 b1 c0 c1) ∧
    IS = (decide (0 ≤ ordS a0 a1 c0 c1 * ordS c0 c1 b0 b1) && decide (sgnR (crR a0 a1 b0 b1 c0 c1) = 0)) ∧
    IS = (decide (0 ≤ ordS b0 b1 c0 c1 * ordS c0 c1 a0 a1) && decide (sgnR (crR b0 b1 a0 a1 c0 c1) = 0)) ∧
    X = ordR (sqR a0 a1 b0 b1) (sqR c0 c1 d0 d1) ∧ -X = ordR (sqR d0 d1 c0 c1) (sqR a0 a1 b0 b1) ∧ 0 = ordR (sqR a0 a1 b0 b1) (sqR b0 b1 a0 a1) ∧ U = ordR (sqR a0 a1 a0 a1) (sqR c0 c1 d0 d1) ∧ CD = ordS c0 c1 d0 d1 ∧
    (-1 ≤ AB ∧ AB ≤ 1) ∧ (-1 ≤ BC ∧ BC ≤ 1) ∧ (-1 ≤ AC ∧ AC ≤ 1) ∧ (-1 ≤ N ∧ N ≤ 1) ∧ (-1 ≤ X ∧ X ≤ 1) ∧ (-1 ≤ U ∧ U ≤ 1) ∧ (-1 ≤ CD ∧ CD ≤ 1) ∧
    (AB ≤ 0 → BC ≤ 0 → AC ≤ 0) ∧ (0 ≤ AB → 0 ≤ BC → 0 ≤ AC) ∧ (IS = true ↔ N = 0 ∧ ((AC ≤ 0 ∧ 0 ≤ BC) ∨ (0 ≤ AC ∧ BC ≤ 0))) ∧ U ≤ 0 ∧ (U = 0 ↔ CD = 0) := by
  have s1 := ordS_swap a0 a1 b0 b1
  have s2 := ordS_swap b0 b1 c0 c1
  have s3 := ordS_swap a0 a1 c0 c1
  have b1' := ordS_in a0 a1 b0 b1
  have b2' := ordS_in b0 b1 c0 c1
  have b3' := ordS_in a0 a1 c0 c1
  refine ⟨_, _, _, _, _, _, _, _, rfl, s1.symm, rfl, rfl, rfl, rfl, ?_, rfl, ?_, ?_, rfl, rfl, b1', b2', b3', sgnR_in _, ?_, ?_, ordS_in _ _ _ _, fun h1 h2 => ordS_trans h1 h2, ?_, ?_, ?_, ?_⟩
  · rw [crR_swap, sgnR_neg, s2, s3]
    congr 1
    · rw [decide_eq_decide, Int.mul_comm, Int.mul_neg, Int.neg_mul]
    · rw [decide_eq_decide]; constructor <;> intro h <;> omega
  · rw [sqR_swap c0 c1 d0 d1, ordR_swap, Int.neg_neg]
  · rw [sqR_swap a0 a1 b0 b1]; exact (ordR_self _).symm
  · unfold ordR; (repeat' split) <;> omega
  · unfold ordR; (repeat' split) <;> omega
  · intro h1 h2
    have t := ordS_trans (a := c0) (b := c1) (c := b0) (d := b1) (e := a0) (f := a1) (by omega) (by omega)
    omega
  · rw [Bool.and_eq_true, decide_eq_true_iff, decide_eq_true_iff, s2]
    generalize ordS a0 a1 c0 c1 = x at *
    generalize ordS b0 b1 c0 c1 = y at *
    generalize sgnR (crR a0 a1 b0 b1 c0 c1) = n at *
    rcases (show x = -1 ∨ x = 0 ∨ x = 1 by omega) with rfl | rfl | rfl <;> rcases (show y = -1 ∨ y = 0 ∨ y = 1 by omega) with rfl | rfl | rfl <;> simp
  · rw [ordR_le, sqR_self]; exact sqR_nn _ _ _ _
  · rw [ordR_zero, sqR_self, ordS_zero]
    constructor
    · intro h; exact sqR_zero.mp h.symm
    · intro h; exact (sqR_zero.mpr h).symm
end Go.Proofs.YtbonkgmcpjaepaaGreat
