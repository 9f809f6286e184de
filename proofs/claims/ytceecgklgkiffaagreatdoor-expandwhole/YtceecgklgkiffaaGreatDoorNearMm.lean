/- the middle of two neighbours, and what lies a little to either side: the numbers. -/
import Derived.Test.YtceecgklgkiffaaGreatDoorNearBkW
import Derived.Test.YtceecgklgkiffaaGreatDoorNearM
namespace Go.Proofs.YtceecgklgkiffaaGreatDoor
open Go.ChangeShapes Go.WideShapes Go.ChangeAt Go.RowKit
open Na Ar
set_option linter.unusedVariables false
namespace Na
theorem mkR_div (s : Bool) {A B : Int} (hB : 0 < B) : mkR s A B = ((sg s A : Int) : Rat) / ((B : Int) : Rat) := by
  unfold mkR
  rw [Rat.mkRat_eq_div]
  have : (((B.toNat : Nat) : Int) : Rat) = ((B : Int) : Rat) := by rw [Int.toNat_of_nonneg (by omega)]
  rw [← this]
  rfl
theorem rat_pos_ne {B : Int} (hB : 0 < B) : ((B : Int) : Rat) ≠ 0 := by
  intro h
  have : B = 0 := Rat.intCast_inj.mp (by rw [h]; rfl)
  omega
/-- r and r: v and w -/
theorem mid_twice {n0 n1 E : Int} (hE : 0 < E) (s : Bool) : mkR s (n0 + n1) (2 * E) + mkR s (n0 + n1) (2 * E) = mkR s n0 E + mkR s n1 E := by
  have p := rat_pos_ne hE
  rw [mkR_div s (show 0 < 2 * E by omega), mkR_div s hE, mkR_div s hE]
  unfold sg
  cases s
  · simp only [Bool.false_eq_true, if_false, Rat.intCast_add, Rat.intCast_mul]
    generalize ((E : Int) : Rat) = e at *
    generalize ((n0 : Int) : Rat) = a
    generalize ((n1 : Int) : Rat) = b
    grind
  · simp only [if_true, Rat.intCast_neg, Rat.intCast_add, Rat.intCast_mul]
    generalize ((E : Int) : Rat) = e at *
    generalize ((n0 : Int) : Rat) = a
    generalize ((n1 : Int) : Rat) = b
    grind
theorem mid_left {n0 n1 E : Int} (hE : 0 < E) (s : Bool) : mkR s (n0 + n1) (2 * E) - (mkR s (if s = true then n0 else n1) E - mkR s (n0 + n1) (2 * E)) * mkR false 1 8 = mkR s (if s = true then 7 * n0 + 9 * n1 else 9 * n0 + 7 * n1) (16 * E) := by
  have p := rat_pos_ne hE
  rw [mkR_div s (show 0 < 2 * E by omega), mkR_div s hE, mkR_div false (show (0 : Int) < 8 by omega), mkR_div s (show 0 < 16 * E by omega)]
  unfold sg
  cases s
  · simp only [Bool.false_eq_true, if_false, Rat.intCast_add, Rat.intCast_mul]
    generalize ((E : Int) : Rat) = e at *
    generalize ((n0 : Int) : Rat) = a
    generalize ((n1 : Int) : Rat) = b
    grind
  · simp only [if_true, Bool.false_eq_true, if_false, Rat.intCast_neg, Rat.intCast_add, Rat.intCast_mul]
    generalize ((E : Int) : Rat) = e at *
    generalize ((n0 : Int) : Rat) = a
    generalize ((n1 : Int) : Rat) = b
    grind
theorem mid_right {n0 n1 E : Int} (hE : 0 < E) (s : Bool) : mkR s (n0 + n1) (2 * E) + (mkR s (if s = true then n0 else n1) E - mkR s (n0 + n1) (2 * E)) * mkR false 1 8 = mkR s (if s = true then 9 * n0 + 7 * n1 else 7 * n0 + 9 * n1) (16 * E) := by
  have p := rat_pos_ne hE
  rw [mkR_div s (show 0 < 2 * E by omega), mkR_div s hE, mkR_div false (show (0 : Int) < 8 by omega), mkR_div s (show 0 < 16 * E by omega)]
  unfold sg
  cases s
  · simp only [Bool.false_eq_true, if_false, Rat.intCast_add, Rat.intCast_mul]
    generalize ((E : Int) : Rat) = e at *
    generalize ((n0 : Int) : Rat) = a
    generalize ((n1 : Int) : Rat) = b
    grind
  · simp only [if_true, Bool.false_eq_true, if_false, Rat.intCast_neg, Rat.intCast_add, Rat.intCast_mul]
    generalize ((E : Int) : Rat) = e at *
    generalize ((n0 : Int) : Rat) = a
    generalize ((n1 : Int) : Rat) = b
    grind
/-- rounding a Rat by its number -/
theorem round_mk {s : Bool} {A B v e mode : Int} (hA : 0 < A) (hB : 0 < B) {q : Rat} (hq : q = mkR s A (B * e2 1074)) : decide (q.num < 0) = s ∧ (RoundIs (scA (q.num.natAbs : Int) 0) (scB (q.den : Int) 0) false s mode v e ↔ RoundIs A B false s mode v e) := by
  have pE := e2_pos 1074
  have pB : 0 < B * e2 1074 := Int.mul_pos hB pE
  have c := mkR_cross s (Int.le_of_lt hA) pB
  have pd : (0 : Int) < ((mkR s A (B * e2 1074)).den : Int) := by have := (mkR s A (B * e2 1074)).den_pos; omega
  subst hq
  generalize mkR s A (B * e2 1074) = q at *
  constructor
  · have pAd : 0 < A * (q.den : Int) := Int.mul_pos hA pd
    unfold sg at c
    cases s
    · simp only [Bool.false_eq_true, if_false] at c
      rw [decide_eq_false_iff_not]
      intro h
      have : q.num * (B * e2 1074) < 0 := Int.mul_neg_of_neg_of_pos h pB
      omega
    · simp only [if_true] at c
      rw [decide_eq_true_eq]
      apply Decidable.byContradiction
      intro h
      have : 0 ≤ q.num * (B * e2 1074) := Int.mul_nonneg (by omega) (by omega)
      rw [c, Int.neg_mul] at this
      omega
  · have c2 := congrArg (fun z : Int => (z.natAbs : Int)) c
    simp only [Int.natAbs_mul, Int.natCast_mul] at c2
    rw [sg_abs _ (Int.le_of_lt hA)] at c2
    have q1 : ((e2 1074).natAbs : Int) = e2 1074 := by omega
    have q2 : (B.natAbs : Int) = B := by omega
    rw [q1, q2] at c2
    unfold scA scB
    rw [e2_zero (show -(0 + 1074 : Int) ≤ 0 by omega), Int.mul_one, Int.zero_add]
    refine round_cross pd hB ?_
    have q3 : (((q.den : Int).natAbs : Nat) : Int) = (q.den : Int) := by omega
    rw [q3] at c2
    rw [← c2]
    generalize ((q.num.natAbs : Nat) : Int) = N
    generalize e2 1074 = E
    grind
theorem round_lower {d : Int} {s : Bool} (h0 : 0 ≤ d) (h1 : d < mostP) : RoundIs (9 * numW d + 7 * nxtN d) 16 false s 0 (d + sgB s) 0 := by
  have g := nxt_gt d
  have su := num_succ h0 h1
  refine ⟨d, ⟨h0, by omega, by omega, Or.inr (by rw [su]; omega)⟩, Or.inl ⟨Or.inr ?_, rfl, rfl⟩⟩
  unfold upP agn
  simp
  constructor
  · split <;> (try split) <;> omega
  · intro h
    exfalso
    split at h <;> (try split at h) <;> omega
theorem round_upper {d : Int} {s : Bool} (h0 : 0 ≤ d) (h1 : d < mostP) : RoundIs (7 * numW d + 9 * nxtN d) 16 false s 0 (d + 1 + sgB s) 0 := by
  have g := nxt_gt d
  have su := num_succ h0 h1
  refine ⟨d, ⟨h0, by omega, by omega, Or.inr (by rw [su]; omega)⟩, Or.inr ⟨⟨?_, ?_⟩, Or.inr ⟨h1, rfl, rfl⟩⟩⟩
  · unfold agn
    split <;> (try split) <;> omega
  · unfold upP agn
    simp
    left
    split <;> (try split) <;> omega
theorem round_tie {d : Int} {s : Bool} (h0 : 0 ≤ d) (h1 : d < mostP) : RoundIs (numW d + nxtN d) 2 false s 0 (if d % 2 = 1 then d + 1 + sgB s else d + sgB s) 0 := by
  have g := nxt_gt d
  have su := num_succ h0 h1
  have z : agn (2 * (numW d + nxtN d)) 2 (numW d + nxtN d) false = 0 := by
    unfold agn
    rw [if_neg (by omega), if_pos (by omega), if_neg (by simp)]
  have up : upP (numW d + nxtN d) 2 false s 0 d = decide (d % 2 = 1) := by
    unfold upP
    simp [z]
  have ne : agn (numW d + nxtN d) 2 (numW d) false ≠ 0 := by
    unfold agn
    split <;> (try split) <;> omega
  by_cases q : d % 2 = 1
  · rw [if_pos q]
    exact ⟨d, ⟨h0, by omega, by omega, Or.inr (by rw [su]; omega)⟩, Or.inr ⟨⟨ne, by rw [up]; simpa using q⟩, Or.inr ⟨h1, rfl, rfl⟩⟩⟩
  · rw [if_neg q]
    exact ⟨d, ⟨h0, by omega, by omega, Or.inr (by rw [su]; omega)⟩, Or.inl ⟨Or.inr (by rw [up]; simpa using q), rfl, rfl⟩⟩
end Na
end Go.Proofs.YtceecgklgkiffaaGreatDoor
