/- RyuApart: neighbours have unlike decimals, rising. -/
import Derived.Test.YtalglldkjbinbaaGreatDoorRyuG
import Derived.Test.YtalglldkjbinbaaGreatDoorBaseJ
namespace Go.Proofs.YtalglldkjbinbaaGreatDoor
open Go.ChangeShapes Go.WideShapes Go.ChangeAt Go.RowKit
open Na Ar Ry
set_option linter.unusedVariables false
namespace Ry
theorem dec_lt {d e d' e' p p' : Int} (hd : 0 ≤ d) (hd' : 0 ≤ d') (h : ExIs d e p 0) (h' : ExIs d' e' p' 0) (hlt : p < p') : ordR (decR d e) (decR d' e') = -1 := by
  have p1 := exD_pos e
  have p2 := exD_pos e'
  have key : exN d e * exD e' < exN d' e' * exD e := by
    rcases Int.lt_or_le (exN d e * exD e') (exN d' e' * exD e) with z | z
    · exact z
    · exfalso
      unfold ExIs at h h'
      have := round_mono (scB_pos' p2) (scB_pos' p1) (by
        rw [scB_flat, scB_flat]
        show exN d' e' * e2 (0 + 1074) * exD e ≤ exN d e * e2 (0 + 1074) * exD e'
        rw [Int.mul_right_comm, Int.mul_right_comm (exN d e)]
        exact Int.mul_le_mul_of_nonneg_right z (Int.le_of_lt (e2_pos _))) h' h rfl rfl
      omega
  unfold decR
  rw [ordR_mk (exN_nonneg hd e) p1 (exN_nonneg hd' e') p2]
  unfold sg ordN
  simp only [Bool.false_eq_true, if_false]
  rw [if_pos key]
theorem dec_nil {d e : Int} (hd : 0 < d) : ordR (decR 0 0) (decR d e) = -1 := by
  have p1 := exD_pos e
  unfold decR
  rw [ordR_mk (exN_nonneg (by omega) 0) (exD_pos 0) (exN_nonneg (by omega) e) p1]
  have e0 : exN 0 0 = 0 := by decide
  have e1 : exD 0 = 1 := by decide
  rw [e0, e1]
  unfold sg ordN
  simp only [Bool.false_eq_true, if_false]
  have : 0 < exN d e := by
    unfold exN; split
    · exact Int.mul_pos hd (Int.pow_pos (by omega))
    · exact hd
  rw [if_pos (by omega)]
end Ry
theorem finite12_any {b : Int} (hu : U b) (w : World) : Calls Tryz.prog 12 #[.int .u64 b] w fun r w' => r = .returned (.bool (ef b != 2047)) ∧ w' = w := by
  have h := field_and hu
  go_enter Tryz.func12, Tryz.ntmps12
  go_wp2
  go_ret
  exact ⟨rfl, rfl⟩
end Go.Proofs.YtalglldkjbinbaaGreatDoor
