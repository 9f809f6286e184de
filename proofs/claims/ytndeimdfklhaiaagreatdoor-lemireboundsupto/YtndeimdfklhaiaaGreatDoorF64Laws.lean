/- Plain numbers: neighbours, order, ranks. -/
import Derived.Test.YtndeimdfklhaiaaGreatDoorF64JoinR
namespace Go.Proofs.YtndeimdfklhaiaaGreatDoor.Ar
open Go.RowKit
set_option linter.unusedVariables false

/-- the number is a pattern's, finite or not, by its size -/
theorem fin_no {b : Int} (h : ef b = 2047) : 9218868437227405312 ≤ mg b := by unfold ef at h; unfold mg; omega
theorem fin_yes {b : Int} (h : ef b ≠ 2047) : mg b ≤ 9218868437227405311 := by unfold ef at h; unfold mg; omega
theorem fin_of {b : Int} (h : mg b ≤ 9218868437227405311) : ef b ≠ 2047 := by unfold mg at h; unfold ef; omega
theorem rk0_mg {b : Int} (h : U b) : (b < 9223372036854775808 ∧ rk0 b = mg b ∧ b = mg b) ∨ (9223372036854775808 ≤ b ∧ rk0 b = -mg b ∧ b = mg b + 9223372036854775808) := by
  unfold U at h
  unfold rk0 mg
  split <;> omega
theorem cls_ge (b : Int) : (3 ≤ clsW b) ↔ ef b = 2047 := by
  unfold clsW
  split
  · split <;> simp_all
  · split
    · split <;> simp_all
    · simp_all
theorem cls_bd (b : Int) : 0 ≤ clsW b ∧ clsW b ≤ 4 := by
  unfold clsW
  split
  · split <;> omega
  · split
    · split <;> omega
    · omega
theorem cls_zero (b : Int) : clsW b = 0 ↔ (ef b ≠ 2047 ∧ spM b = 0) := by
  have h2 := fr_bd b
  unfold clsW spM
  split
  · split <;> simp_all
  · split
    · split <;> simp_all
    · simp_all; omega
theorem cls_negW {b : Int} (h : U b) : clsW (negW b) = clsW b := by unfold clsW; rw [ef_negW h, fr_negW h]
theorem fiE_negW {b : Int} (h : U b) : fiE (negW b) = fiE b := by unfold fiE; rw [ef_negW h]
theorem rk0_negW {b : Int} (h : U b) : rk0 (negW b) = -rk0 b := by unfold U at h; unfold rk0 negW; split <;> split <;> omega
theorem rkW_negW {b : Int} (h : U b) : rkW (negW b) = -rkW b := by unfold rkW; rw [ef_negW h, rk0_negW h]; split <;> omega
theorem ord_neg (a b : Int) : ord (-b) (-a) = ord a b := by unfold ord; split <;> (try split) <;> (try split) <;> (try split) <;> omega
theorem cmE_negW {a b : Int} (h : U a) (k : U b) : cmE (negW b) (negW a) = cmE a b := by unfold cmE; rw [ef_negW h, ef_negW k]; split <;> split <;> rfl
theorem cmW_negW {a b : Int} (h : U a) (k : U b) : cmW (negW b) (negW a) = cmW a b := by
  unfold cmW; rw [ef_negW h, ef_negW k, rk0_negW h, rk0_negW k, ord_neg]; split <;> split <;> rfl
theorem pvW_negW {a : Int} (h : U a) : pvW (negW a) = if nxE a = 0 then negW (nxW a) else 0 := by unfold pvW; rw [negW_negW h]
/-! ### neighbours -/
theorem nx_fin {b : Int} (h : nxE b = 0) : ef b ≠ 2047 ∧ b ≠ 9218868437227405311 := by
  unfold nxE at h
  split at h
  · omega
  · split at h <;> simp_all
theorem nx_mg {b : Int} (h : U b) (he : nxE b = 0) : (b < 9223372036854775808 ∧ nxW b = mg b + 1 ∧ b = mg b ∧ mg b < 9218868437227405311) ∨ (b = 9223372036854775808 ∧ mg b = 0 ∧ nxW b = 1) ∨ (9223372036854775808 < b ∧ b = mg b + 9223372036854775808 ∧ nxW b = mg b + 9223372036854775807 ∧ 0 < mg b ∧ mg b ≤ 9218868437227405311) := by
  obtain ⟨h1, h2⟩ := nx_fin he
  have h3 := fin_yes h1
  unfold nxW
  rw [if_neg h1, if_neg h2]
  unfold U at h
  unfold mg at *
  split
  · omega
  · split <;> omega
theorem nx_next {b : Int} (h : U b) (he : nxE b = 0) : ef (nxW b) ≠ 2047 ∧ rk0 (nxW b) = rk0 b + 1 ∧ U (nxW b) := by
  obtain ⟨h1, h2⟩ := nx_fin he
  have h3 := rk0_mg h
  have hu := U_nxW h
  have h5 := rk0_mg hu
  refine ⟨?_, ?_, hu⟩
  · apply fin_of
    rcases nx_mg h he with ⟨a, b, c, d⟩ | ⟨a, b, c⟩ | ⟨a, b, c, d, e⟩ <;> unfold mg at * <;> omega
  · rcases nx_mg h he with ⟨a, b, c, d⟩ | ⟨a, b, c⟩ | ⟨a, b, c, d, e⟩ <;> omega
theorem ord_lt {a b : Int} (h : a < b) : ord a b = -1 := by unfold ord; rw [if_pos h]
theorem ord_eq {a b : Int} (h : a = b) : ord a b = 0 := by unfold ord; rw [if_neg (by omega), if_neg (by omega)]
theorem ord_cases (a b : Int) : (a < b ∧ ord a b = -1) ∨ (a = b ∧ ord a b = 0) ∨ (b < a ∧ ord a b = 1) := by
  unfold ord; split
  · left; omega
  · split <;> omega
theorem prev_back {b : Int} (h : U b) (he : nxE b = 0) : nxE (negW (nxW b)) = 0 ∧ ef (pvW (nxW b)) ≠ 2047 ∧ rk0 (pvW (nxW b)) = rk0 b ∧ U (pvW (nxW b)) := by
  obtain ⟨h1, h2, h3⟩ := nx_next h he
  have hb := rk0_mg h
  have hm := fin_yes (nx_fin he).1
  have un := U_negW h3
  have rn := rk0_negW h3
  have e0 : nxE (negW (nxW b)) = 0 := by
    unfold nxE
    rw [ef_negW h3, if_neg h1, if_neg]
    intro hc
    have := rk0_mg un
    rw [hc] at this
    have hmm := mg_bd b
    have e : mg 9218868437227405311 = 9218868437227405311 := rfl
    rw [e] at this
    rw [hc] at rn
    omega
  have h4 := nx_next un e0
  refine ⟨e0, ?_, ?_, ?_⟩
  · unfold pvW; rw [if_pos e0, ef_negW h4.2.2]; exact h4.1
  · unfold pvW; rw [if_pos e0, rk0_negW h4.2.2, h4.2.1, rn, h2]; omega
  · unfold pvW; rw [if_pos e0]; exact U_negW h4.2.2
end Go.Proofs.YtndeimdfklhaiaaGreatDoor.Ar
