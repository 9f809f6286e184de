/- other digits of the same pattern. -/
import Derived.Test.YtalglldkjbinbaaGreatDoorRyuEx
namespace Go.Proofs.YtalglldkjbinbaaGreatDoor
open Go.ChangeShapes Go.WideShapes Go.ChangeAt Go.RowKit
open Na Ar Ry
set_option linter.unusedVariables false
namespace Ry
theorem ex_ten (d e : Int) : exN d (e + 1) * exD e = exN (d * 10) e * exD (e + 1) := by
  unfold exN exD
  by_cases h : 0 ≤ e
  · rw [if_pos h, if_pos h, if_pos (by omega), if_pos (by omega), show (e + 1).toNat = e.toNat + 1 by omega, Int.pow_succ, Int.mul_one, Int.mul_one, Int.mul_assoc, Int.mul_comm 10]
  · rw [if_neg h, if_neg h]
    by_cases h1 : 0 ≤ e + 1
    · have e1 : e = -1 := by omega
      subst e1
      rw [if_pos (by omega), if_pos (by omega)]
      show d * 10 ^ 0 * 10 ^ 1 = d * 10 * 1
      rw [Int.pow_zero, Int.pow_succ, Int.pow_zero]
      omega
    · rw [if_neg h1, if_neg h1, show (-e).toNat = (-(e + 1)).toNat + 1 by omega, Int.pow_succ, Int.mul_comm _ 10, ← Int.mul_assoc]
theorem ex_one {d e b E : Int} : ExIs d (e + 1) b E ↔ ExIs (d * 10) e b E := by
  unfold ExIs
  refine round_cross (scB_pos' (exD_pos _)) (scB_pos' (exD_pos _)) ?_
  rw [scB_flat, scB_flat]
  show exN d (e + 1) * e2 (0 + 1074) * exD e = exN (d * 10) e * e2 (0 + 1074) * exD (e + 1)
  rw [Int.mul_right_comm, ex_ten, Int.mul_right_comm]
theorem ex_pow {b E : Int} (k : Nat) : ∀ {d e : Int}, ExIs d (e + k) b E ↔ ExIs (d * 10 ^ k) e b E := by
  induction k with
  | zero => intro d e; rw [Int.pow_zero, Int.mul_one]; simp
  | succ k ih =>
    intro d e
    rw [show e + ((k + 1 : Nat) : Int) = e + k + 1 by omega, ex_one, ih, Int.pow_succ, Int.mul_assoc, Int.mul_comm 10]
theorem ex_mono {a c e b : Int} (ha : 0 ≤ a) (hc : 0 ≤ c) {y : Int} (h1 : a ≤ y) (h2 : y ≤ c) (ha' : ExIs a e b 0) (hc' : ExIs c e b 0) : ExIs y e b 0 := by
  unfold ExIs at *
  have p := exD_pos e
  have le : ∀ {u v : Int}, u ≤ v → scA (exN u e) 0 * scB (exD e) 0 ≤ scA (exN v e) 0 * scB (exD e) 0 := by
    intro u v h
    refine Int.mul_le_mul_of_nonneg_right ?_ (Int.le_of_lt (scB_pos' p))
    show exN u e * e2 (0 + 1074) ≤ exN v e * e2 (0 + 1074)
    refine Int.mul_le_mul_of_nonneg_right ?_ (Int.le_of_lt (e2_pos _))
    unfold exN; split
    · exact Int.mul_le_mul_of_nonneg_right h (Int.le_of_lt (Int.pow_pos (by omega)))
    · exact h
  exact round_between (scA_nonneg (exN_nonneg (by omega) e) 0) (scB_pos' p) (scB_pos' p) (scB_pos' p) (le h1) (le h2) ha' hc'
/-- the exponent of other digits is not greater -/
theorem few_exp {p g h d e : Int} (S : ShP p g h) (hd : 0 < d) (hx : ExIs d e p 0) : e ≤ h := by
  rcases Int.lt_or_le h e with l | l
  · exfalso
    obtain ⟨k, hk⟩ := Int.eq_ofNat_of_zero_le (show 0 ≤ e - (h + 1) by omega)
    have : ExIs d (h + 1 + (k : Int)) p 0 := by rw [show h + 1 + (k : Int) = e by omega]; exact hx
    rw [ex_pow] at this
    exact S.no _ (Int.le_of_lt (Int.mul_pos hd (Int.pow_pos (by omega)))) this
  · exact l
/-- no fewer digits -/
theorem few_digits {p g h d e : Int} {ng nd : Nat} (S : ShP p g h) (hd : 0 < d) (hx : ExIs d e p 0) (h1 : (10 : Int) ^ (ng - 1) ≤ g) (h2 : d < 10 ^ nd) : ng ≤ nd := by
  rcases Nat.lt_or_ge nd ng with l | l
  · exfalso
    have he := few_exp S hd hx
    obtain ⟨k, hk⟩ := Int.eq_ofNat_of_zero_le (show 0 ≤ h - e by omega)
    have n0 : nd ≠ 0 := by
      intro z
      rw [z, Int.pow_zero] at h2
      omega
    obtain ⟨n, rfl⟩ : ∃ n, ng = n + 2 := ⟨ng - 2, by omega⟩
    have tp : ∀ j : Nat, (0 : Int) < 10 ^ j := fun j => Int.pow_pos (by omega)
    have a1 : d ≤ 10 ^ (n + 1) * 10 ^ k := by
      have q1 : (10 : Int) ^ nd ≤ 10 ^ (n + 1) := by
        have := Nat.pow_le_pow_right (n := 10) (by omega) (show nd ≤ n + 1 by omega)
        exact_mod_cast this
      have q2 : (10 : Int) ^ (n + 1) * 1 ≤ 10 ^ (n + 1) * 10 ^ k := Int.mul_le_mul_of_nonneg_left (by have := tp k; omega) (Int.le_of_lt (tp _))
      omega
    have a2 : (10 : Int) ^ (n + 1) * 10 ^ k ≤ g * 10 ^ k := Int.mul_le_mul_of_nonneg_right h1 (Int.le_of_lt (tp _))
    have x1 : ExIs (g * 10 ^ k) e p 0 := by
      rw [← ex_pow, show e + (k : Int) = h by omega]; exact S.rd
    have g0 := S.r0
    have x2 := ex_mono (Int.le_of_lt hd) (Int.le_of_lt (Int.mul_pos g0 (tp k))) a1 a2 hx x1
    rw [← ex_pow, show e + (k : Int) = h by omega, Int.pow_succ, ← ex_one] at x2
    exact S.no _ (Int.le_of_lt (tp n)) x2
  · exact l
/-- at most 15 digits of a normal number: just these -/
theorem few_same {p g h d e : Int} (h0 : 0 < p) (hn : 4503599627370496 ≤ p) (h1 : p ≤ mostP) (S : ShP p g h) (hd : 0 < d) (hd1 : d < 1000000000000000) (hd2 : d % 10 ≠ 0) (hx : ExIs d e p 0) : g = d ∧ h = e := by
  have he := few_exp S hd hx
  obtain ⟨k, hk⟩ := Int.eq_ofNat_of_zero_le (show 0 ≤ h - e by omega)
  have tp : ∀ j : Nat, (0 : Int) < 10 ^ j := fun j => Int.pow_pos (by omega)
  have g0 := S.r0
  have x1 : ExIs (g * 10 ^ k) e p 0 := by
    rw [← ex_pow, show e + (k : Int) = h by omega]; exact S.rd
  have same : g * 10 ^ k = d := by
    rcases Decidable.em (g * 10 ^ k = d) with z | z
    · exact z
    · exfalso
      obtain ⟨q1, q2, q3, q4, q5, q6, q7, q8, q9⟩ := parts_of h0 h1
      have pB := exD_pos e
      have gp : 0 < g * 10 ^ k := Int.mul_pos g0 (tp k)
      have mm : 4503599627370496 ≤ spM p := by
        obtain ⟨f1, f2, f3⟩ := fields_of (p := p) (by omega) h1
        unfold spM
        rw [if_neg (by omega), if_neg (by omega)]
        omega
      unfold ExIs at hx x1
      rw [round_ends (scA_nonneg (exN_nonneg (Int.le_of_lt hd) e) 0) (scB_pos' pB) h0 h1, scB_flat] at hx
      rw [round_ends (scA_nonneg (exN_nonneg (Int.le_of_lt gp) e) 0) (scB_pos' pB) h0 h1, scB_flat] at x1
      obtain ⟨l1, u1, -⟩ := hx
      obtain ⟨l2, u2, -⟩ := x1
      have ea : ∀ y : Int, scA (exN y e) 0 = y * (exN 1 e * e2 1074) := by
        intro y
        show exN y e * e2 (0 + 1074) = _
        have : exN y e = y * exN 1 e := by unfold exN; split; rw [Int.one_mul]; omega
        rw [this, Int.mul_assoc]
        rfl
      rw [ea] at l1 u1 l2 u2
      have tpos : 0 < exN 1 e * e2 1074 := Int.mul_pos (by unfold exN; split; rw [Int.one_mul]; exact tp _; omega) (e2_pos _)
      generalize exN 1 e * e2 1074 = T at *
      generalize exD e = B at *
      generalize g * 10 ^ k = G at *
      -- the width
      have pP : 0 < (2 : Int) ^ iP p := Int.pow_pos (by omega)
      have dc := dn_cases (mP p) (iP p)
      have w1 : 2 * ((numW p + nxtN p) * B) = ((4 * mP p + 2 : Nat) : Int) * (2 ^ iP p * B) := by rw [← Int.mul_assoc, q7, Int.mul_assoc]
      have w2 : 2 * ((numW (p - 1) + numW p) * B) = ((4 * mP p - dnR (mP p) (iP p) : Nat) : Int) * (2 ^ iP p * B) := by rw [← Int.mul_assoc, q8, Int.mul_assoc]
      have pW : 0 < (2 : Int) ^ iP p * B := Int.mul_pos pP pB
      generalize (2 : Int) ^ iP p * B = W at *
      generalize (numW p + nxtN p) * B = HH at *
      generalize (numW (p - 1) + numW p) * B = LL at *
      have w3 : 2 * HH - 2 * LL ≤ 4 * W := by
        have : ((4 * mP p + 2 : Nat) : Int) * W = ((4 * mP p - dnR (mP p) (iP p) : Nat) : Int) * W + ((dnR (mP p) (iP p) + 2 : Nat) : Int) * W := by
          rw [← Int.add_mul]; congr 1; omega
        have d4 : ((dnR (mP p) (iP p) + 2 : Nat) : Int) * W ≤ 4 * W := Int.mul_le_mul_of_nonneg_right (by omega) (Int.le_of_lt pW)
        omega
      have w4 : T ≤ W := by
        have : T ≤ G * T - d * T ∨ T ≤ d * T - G * T := by
          rcases Int.lt_or_gt_of_ne z with l | l
          · right
            have := Int.mul_le_mul_of_nonneg_right (show G + 1 ≤ d by omega) (Int.le_of_lt tpos)
            rw [Int.add_mul] at this
            omega
          · left
            have := Int.mul_le_mul_of_nonneg_right (show d + 1 ≤ G by omega) (Int.le_of_lt tpos)
            rw [Int.add_mul] at this
            omega
        omega
      have w5 : d * T ≤ 1000000000000000 * W := Int.le_trans (Int.mul_le_mul_of_nonneg_right (show d ≤ 1000000000000000 by omega) (Int.le_of_lt tpos)) (Int.mul_le_mul_of_nonneg_left w4 (by omega))
      have w6 : 18014398509481982 * W ≤ ((4 * mP p - dnR (mP p) (iP p) : Nat) : Int) * W := Int.mul_le_mul_of_nonneg_right (by omega) (Int.le_of_lt pW)
      omega
  cases k with
  | zero =>
    rw [Int.pow_zero, Int.mul_one] at same
    exact ⟨same, by omega⟩
  | succ k =>
    exfalso
    rw [Int.pow_succ, ← Int.mul_assoc] at same
    omega
end Ry
end Go.Proofs.YtalglldkjbinbaaGreatDoor
