/- plumblaw22: what PredSteps asks of its numbers. -/
import Derived.Test.YtbonkgmcpjaepaaGreatPdN
import Derived.Test.YtbonkgmcpjaepaaGreatPdJ
namespace Go.Proofs.YtbonkgmcpjaepaaGreat
open Go.ChangeShapes Go.WideShapes Go.ChangeAt Go.RowKit
open Na Ar
set_option linter.unusedVariables false
theorem sgnR_pos {q : Rat} (h : 0 < q) : sgnR q = 1 := by
  have h1 : 0 ≤ q.num := Rat.num_nonneg.mpr (Rat.le_of_lt h)
  have h2 : q.num ≠ 0 := fun e => by rw [Rat.num_eq_zero] at e; rw [e] at h; exact absurd h (by decide)
  unfold sgnR
  rw [if_neg h2, if_neg (by omega)]
theorem sgnR_ng {q : Rat} (h : q < 0) : sgnR q = -1 := by
  have := sgnR_pos (q := -q) (by grind)
  rw [sgnR_neg] at this
  omega
theorem ordR_lt {p q : Rat} (h : p < q) : ordR p q = -1 := by
  have h1 := ordR_neg.mpr h
  have h2 := ordR_bd p q
  omega
theorem ordR_eq {p q : Rat} (h : p = q) : ordR p q = 0 := ordR_zero.mpr h
/-- the numbers of PredSteps: u is the step below v -/
theorem steps_facts {u v : Rat} (h0 : 0 ≤ u) (h1 : u < v) :
    sgnR (crR 0 0 v v u v) = 1 ∧ sgnR (crR 0 0 v v v u) = -1 ∧ ordR (sqR 0 0 u v) (sqR 0 0 v v) = -1 ∧ ordR (sqR 0 0 u v) (sqR 0 0 v u) = 0 ∧ ordS u v v v = -1 ∧ ordS v u v v = -1 ∧
    (decide (0 ≤ ordS 0 0 u v * ordS u v v v) && decide (sgnR (crR 0 0 v v u v) = 0)) = false ∧ (decide (0 ≤ ordS 0 0 v v * ordS v v v v) && decide (sgnR (crR 0 0 v v v v) = 0)) = true ∧
    sgnR (inR 0 0 v 0 0 v v v) = 0 ∧ sgnR (inR 0 0 v 0 0 v u v) = (if u = 0 then 0 else 1) := by
  have hv : 0 < v := by grind
  have hd : 0 < v - u := by grind
  have n1 : sgnR (crR 0 0 v v u v) = 1 := by
    have e : crR 0 0 v v u v = v * (v - u) := by unfold crR; grind
    rw [e]; exact sgnR_pos (Rat.mul_pos hv hd)
  refine ⟨n1, ?_, ?_, ?_, ?_, ?_, ?_, ?_, ?_, ?_⟩
  · have e : crR 0 0 v v v u = -(v * (v - u)) := by unfold crR; grind
    rw [e, sgnR_neg, sgnR_pos (Rat.mul_pos hv hd)]
  · refine ordR_lt ?_
    have e : sqR 0 0 v v - sqR 0 0 u v = (v - u) * (v + u) := by unfold sqR; grind
    have p := Rat.mul_pos hd (show 0 < v + u by grind)
    rw [← e] at p
    grind
  · refine ordR_eq ?_
    unfold sqR; grind
  · unfold ordS
    rw [ordR_lt h1]; rfl
  · unfold ordS
    rw [if_pos (ordR_eq rfl), ordR_lt h1]
  · rw [n1]; simp
  · have e : crR 0 0 v v v v = 0 := by unfold crR; grind
    have s : ordS v v v v = 0 := ordS_zero.mpr ⟨rfl, rfl⟩
    rw [e, s, Int.mul_zero]; rfl
  · have e : inR 0 0 v 0 0 v v v = 0 := by unfold inR; grind
    rw [e]; rfl
  · have e : inR 0 0 v 0 0 v u v = v * v * (u * (v - u)) := by unfold inR; grind
    rw [e]
    by_cases hu : u = 0
    · rw [if_pos hu, hu]
      have : v * v * (0 * (v - 0)) = 0 := by grind
      rw [this]; rfl
    · rw [if_neg hu]
      exact sgnR_pos (Rat.mul_pos (Rat.mul_pos hv hv) (Rat.mul_pos (by grind) hd))
theorem numW_lt {p q : Int} (h0 : 0 ≤ p) (h1 : p < q) (h2 : q ≤ mostP) : numW p < numW q := by
  obtain ⟨u1, f1, m1⟩ := size_fin h0 (by omega)
  obtain ⟨u2, f2, m2⟩ := size_fin (p := q) (by omega) h2
  obtain ⟨o1, _⟩ := num_ord u1 u2 f1 f2
  rw [m1, m2] at o1
  exact o1 h1
theorem mk_lt22 {x y E : Int} (hx : 0 ≤ x) (h : x < y) (hE : 0 < E) : mkR false x E < mkR false y E := by
  have s : ∀ z : Int, sg false z = z := fun z => rfl
  rw [← ordR_neg, ordR_mk hx hE (by omega) hE, s, s, ordN_lt (Int.mul_lt_mul_of_pos_right h hE)]
  decide
theorem valR_zero : valR 0 = 0 := by decide +kernel
theorem valR_lt {p q : Int} (h0 : 0 ≤ p) (h1 : p < q) (h2 : q ≤ mostP) : valR p < valR q := by
  rw [valR_low h0 (by omega), valR_low (b := q) (by omega) h2]
  exact mk_lt22 (num_nonneg' h0 (by omega)) (numW_lt h0 h1 h2) (e2_pos _)
/-- a pattern above 0 and the one before it -/
theorem step_vals {b : Int} (h1 : 1 ≤ b) (h2 : b ≤ mostP) : 0 ≤ valR (b - 1) ∧ valR (b - 1) < valR b ∧ (valR (b - 1) = 0 ↔ b = 1) := by
  have l := valR_lt (p := b - 1) (q := b) (by omega) (by omega) h2
  by_cases hb : b = 1
  · subst hb
    have e : valR (1 - 1) = 0 := valR_zero
    rw [e] at l ⊢
    exact ⟨Rat.le_refl, l, by simp⟩
  · have l0 := valR_lt (p := 0) (q := b - 1) (by omega) (by omega) (by omega)
    rw [valR_zero] at l0
    exact ⟨Rat.le_of_lt l0, l, ⟨fun e => by rw [e] at l0; exact absurd l0 (by decide), fun e => absurd e hb⟩⟩
end Go.Proofs.YtbonkgmcpjaepaaGreat
