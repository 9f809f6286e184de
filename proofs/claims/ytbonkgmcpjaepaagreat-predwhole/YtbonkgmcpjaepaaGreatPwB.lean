/- plumblaw22: the number of a pattern that Join makes of a whole number. -/
import Derived.Test.YtbonkgmcpjaepaaGreatPwA
namespace Go.Proofs.YtbonkgmcpjaepaaGreat
open Go.ChangeShapes Go.WideShapes Go.ChangeAt Go.RowKit
open Na Ar
set_option linter.unusedVariables false
/-- two to the k -/
def P2 (k : Int) : Rat := mkR false (e2 k) (e2 (-k))
theorem e2_shift {z : Int} (h : -2000 ≤ z) : e2 (z + 2000) * e2 (-z) = e2 z * e2 2000 := by
  by_cases g : 0 ≤ z
  · rw [e2_zero (k := -z) (by omega), Int.mul_one, e2_add g (by omega)]
  · rw [e2_zero (k := z) (by omega), Int.one_mul, ← e2_add (by omega) (by omega)]
    congr 1; omega
theorem P2_pos (k : Int) : 0 < P2 k := by
  have h := mk_lt22 (x := 0) (y := e2 k) (E := e2 (-k)) (by omega) (e2_pos _) (e2_pos _)
  have z : mkR false 0 (e2 (-k)) = 0 := by
    unfold mkR
    have : sg false 0 = 0 := rfl
    rw [this, Rat.mkRat_eq_div, Rat.div_def]
    exact Rat.zero_mul _
  rw [z] at h
  exact h
theorem mkR_whole {s : Bool} {m A B : Int} : mkR s (m * A) B = ((sg s m : Int) : Rat) * mkR false A B := by
  unfold mkR
  have e1 : sg s (m * A) = sg s m * A := by unfold sg; split <;> simp [Int.neg_mul]
  have e2' : sg false A = A := rfl
  rw [e1, e2', Rat.mkRat_eq_div, Rat.mkRat_eq_div, Rat.intCast_mul, Rat.div_def, Rat.div_def, Rat.mul_assoc]
/-- what Join makes of a whole number times two to the k -/
theorem join_whole {v k b c : Int} (hv : -4095 ≤ v ∧ v ≤ 4095) (hk : -899 ≤ k ∧ k ≤ 899) (h : JoinIs (decide (v < 0)) (v.natAbs : Int) k b c) : c = 0 ∧ U b ∧ ef b ≠ 2047 ∧ valR b = (v : Rat) * P2 k := by
  have hm : U (v.natAbs : Int) := by unfold U; omega
  rcases h with ⟨h0, hb, hc⟩ | ⟨h0, ⟨M, X, hN, hX, hb, hc⟩ | ⟨hbad, _, _⟩⟩
  · have hv0 : v = 0 := by omega
    subst hv0
    have : b = 0 := by rw [hb]; rfl
    subst this
    exact ⟨hc, by unfold U; omega, by unfold ef; omega, by rw [valR_zero]; simp⟩
  · obtain ⟨hS, hX0, hM0, hM1, hM2⟩ := hN
    have hsv : (v : Int) = sg (decide (v < 0)) (v.natAbs : Int) := by unfold sg; by_cases g : v < 0 <;> simp [g] <;> omega
    have hM : (X + 1074) * 4503599627370496 + M < 9218868437227405312 := by omega
    generalize hs : decide (v < 0) = s at *
    have hs01 : sgB s = 0 ∧ s = false ∨ sgB s = 9223372036854775808 ∧ s = true := by cases s <;> simp [sgB]
    have mgb : mg b = (X + 1074) * 4503599627370496 + M := by unfold mg; rw [hb]; omega
    have efb : ef b = ((X + 1074) * 4503599627370496 + M) / 4503599627370496 := by unfold ef; unfold mg at mgb; rw [mgb]
    have frb : fr b = ((X + 1074) * 4503599627370496 + M) % 4503599627370496 := by unfold fr; rw [hb]; omega
    have nf : ef b ≠ 2047 := by rw [efb]; omega
    have ub : U b := by unfold U; rw [hb]; omega
    have sm : spM b = M := by unfold spM; rw [if_neg nf, efb, frb]; split <;> omega
    have sx : spX b = X := by unfold spX; rw [if_neg nf, efb]; split <;> omega
    have ss : spS b = s := by
      unfold spS; rw [if_neg nf, hb]
      rcases hs01 with ⟨g, e⟩ | ⟨g, e⟩ <;> rw [g, e]
      · exact decide_eq_false (by omega)
      · exact decide_eq_true (by omega)
    refine ⟨hc, ub, nf, ?_⟩
    have key := (sm_iff (-2000) (by omega) (by omega)).mp hS
    have k1 : k - -2000 = k + 2000 := by omega
    have k2 : X - -2000 = X + 2000 := by omega
    rw [k1, k2] at key
    have s1 := e2_shift (z := k) (by omega)
    have s2 := e2_shift (z := X) (by omega)
    have p2000 := e2_pos 2000
    have eqv : M * e2 X * e2 (-k) = (v.natAbs : Int) * e2 k * e2 (-X) := by
      refine Int.eq_of_mul_eq_mul_right (show e2 2000 ≠ 0 by omega) ?_
      have a1 : M * e2 X * e2 (-k) * e2 2000 = M * (e2 X * e2 2000) * e2 (-k) := by
        generalize e2 2000 = T
        grind
      have a2 : (v.natAbs : Int) * e2 k * e2 (-X) * e2 2000 = (v.natAbs : Int) * (e2 k * e2 2000) * e2 (-X) := by
        generalize e2 2000 = T
        grind
      rw [a1, a2, ← s1, ← s2]
      have a3 : M * (e2 (X + 2000) * e2 (-X)) * e2 (-k) = M * e2 (X + 2000) * (e2 (-X) * e2 (-k)) := by
        generalize e2 (X + 2000) = T
        grind
      have a4 : (v.natAbs : Int) * (e2 (k + 2000) * e2 (-k)) * e2 (-X) = (v.natAbs : Int) * e2 (k + 2000) * (e2 (-X) * e2 (-k)) := by
        generalize e2 (k + 2000) = T
        grind
      rw [a3, a4, key]
    unfold valR
    rw [sm, sx, ss]
    have em : mkR s (M * e2 X) (e2 (-X)) = mkR s ((v.natAbs : Int) * e2 k) (e2 (-k)) := by
      rw [mk_eq (Int.mul_nonneg (by omega) (Int.le_of_lt (e2_pos _))) (e2_pos _) (Int.mul_nonneg (by omega) (Int.le_of_lt (e2_pos _))) (e2_pos _)]
      have sgm : ∀ x y, sg s x * y = sg s (x * y) := fun x y => by unfold sg; split <;> simp [Int.neg_mul]
      rw [sgm, sgm, eqv]
    rw [em, mkR_whole, ← hsv]
    rfl
  · exfalso
    obtain ⟨q, hq, e, l1, l2⟩ := at_bd (x := k) hm h0
    have hq12 : q < 12 := by
      by_cases g : q < 12
      · exact g
      · exfalso
        have : e2 12 ≤ e2 q := e2_le (by omega)
        have e12 : e2 12 = 4096 := by rfl
        omega
    have hat : atX (v.natAbs : Int) k ≤ k ∧ atX (v.natAbs : Int) k ≤ 971 := by unfold atX; rw [e]; omega
    have := hbad _ _ (nf_up hm h0 hat.1)
    omega
end Go.Proofs.YtbonkgmcpjaepaaGreat
