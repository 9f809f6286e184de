/- RyuApart: neighbours have unlike decimals, rising. -/
import Derived.Test.YtalglldkjbinbaaRyuG
import Derived.Test.YtalglldkjbinbaaBaseJ
namespace Go.Proofs.Ytalglldkjbinbaa
open Go.ChangeShapes Go.WideShapes Go.ChangeAt Go.RowKit
open Na Ar Ry
set_option linter.unusedVariables false
namespace Ry
theorem dec_lt {d e d' e' p p' : Int} (hd : 0 ≤ d) (hd' : 0 ≤ d') (h : ExIs d e p 0) (h' : ExIs d' e' p' 0) (hlt : p < p') : ordR (decR d e) (decR d' e') = -1 := by
  have p1 := exD_pos e
  have p2 := exD_pos e'
  have key : exN d e * exD e' < exN d' e' * exD e := by
    rcases Int.lt_or_le (exN d e * exD e') (exN d' e' * exD e) with z | z
    · exact z
    · exfalso
      unfold ExIs at h h'
      have := round_mono (scB_pos' p2) (scB_pos' p1) (by
        rw [scB_flat, scB_flat]
        show exN d' e' * e2 (0 + 1074) * exD e ≤ exN d e * e2 (0 + 1074) * exD e'
        rw [Int.mul_right_comm, Int.mul_right_comm (exN d e)]
        exact Int.mul_le_mul_of_nonneg_right z (Int.le_of_lt (e2_pos _))) h' h rfl rfl
      omega
  unfold decR
  rw [ordR_mk (exN_nonneg hd e) p1 (exN_nonneg hd' e') p2]
  unfold sg ordN
  simp only [Bool.false_eq_true, if_false]
  rw [if_pos key]
theorem dec_nil {d e : Int} (hd : 0 < d) : ordR (decR 0 0) (decR d e) = -1 := by
  have p1 := exD_pos e
  unfold decR
  rw [ordR_mk (exN_nonneg (by omega) 0) (exD_pos 0) (exN_nonneg (by omega) e) p1]
  have e0 : exN 0 0 = 0 := by decide
  have e1 : exD 0 = 1 := by decide
  rw [e0, e1]
  unfold sg ordN
  simp only [Bool.false_eq_true, if_false]
  have : 0 < exN d e := by
    unfold exN; split
    · exact Int.mul_pos hd (Int.pow_pos (by omega))
    · exact hd
  rw [if_pos (by omega)]
end Ry
theorem finite12_any {b : Int} (hu : U b) (w : World) : Calls Try.prog 5 #[.int .u64 b] w fun r w' => r = .returned (.bool (ef b != 2047)) ∧ w' = w := by
  have h := field_and hu
  go_enter Try.func5, Try.ntmps5
  go_wp2
  go_ret
  exact ⟨rfl, rfl⟩
theorem within12_any {e : Int} (h0 : -400 ≤ e) (h1 : e ≤ 400) (w : World) : Calls Try.prog 10 #[.int .i64 e] w fun r w' => r = .returned (.int .i64 e) ∧ w' = w := by
  have d1 : decide (e < -400) = false := by simp; omega
  have d2 : decide (e > 400) = false := by simp; omega
  have d3 : decide (400 < e) = false := by simp; omega
  go_enter Try.func10, Try.ntmps10
  go_wp2
  go_ret
  exact ⟨rfl, rfl⟩
set_option maxHeartbeats 3200000 in
set_option maxRecDepth 100000 in
theorem apart_go {b s t d e g h : Int} (hs : bits .andNot .u64 b 9223372036854775808 = s) (us : U s) (ut : U t) (hf : (ef s != 2047) = true) (hm : (s == 9218868437227405311) = false)
    (hN : ∀ w, Calls Try.prog 6 #[.int .u64 s] w fun r w' => r = .returned (.tuple #[.int .u64 t, .int .i64 0]) ∧ w' = w)
    (h1 : ∀ w, Calls Try.prog 7 #[.int .u64 s] w fun r w' => r = .returned (.tuple #[.int .u64 d, .int .i64 e, .int .i64 0]) ∧ Below w.heap.size w w')
    (h2 : ∀ w, Calls Try.prog 7 #[.int .u64 t] w fun r w' => r = .returned (.tuple #[.int .u64 g, .int .i64 h, .int .i64 0]) ∧ Below w.heap.size w w')
    (ud : U d) (ug : U g) (e0 : -370 ≤ e) (e1 : e ≤ 370) (q0 : -370 ≤ h) (q1 : h ≤ 370) (ho : ordR (decR d e) (decR g h) = -1) (w : World) :
    Calls Try.prog 3 #[.int .u64 b] w fun r w' => r = .returned (.bool true) ∧ Below w.heap.size w w' := by
  have hF := fun w => finite12_any us w
  rw [hf] at hF
  have w1 := fun w => within12_any (e := e) (by omega) (by omega) w
  have w2 := fun w => within12_any (e := h) (by omega) (by omega) w
  have D1 := fun w => dec12_any ud e0 e1 w
  have D2 := fun w => dec12_any ug q0 q1 w
  have z1 := (dec_size ud e0 e1).2.2
  have z2 := (dec_size ug q0 q1).2.2
  generalize decR d e = P at *
  generalize decR g h = Q at *
  go_enter Try.func3, Try.ntmps3
  go_wp2_with fail
  refine (fixed12_any _).mono ?_
  rintro r v1 ⟨rfl, b1⟩
  go_wp2_with fail
  refine (hF _).mono ?_
  rintro r vz ⟨rfl, hz⟩
  rw [hz]
  clear hz hF
  go_wp2_with fail
  refine (hN _).mono ?_
  rintro r vz ⟨rfl, hz⟩
  rw [hz]
  clear hz hN
  go_wp2_with fail
  refine (h1 _).mono ?_
  rintro r v2 ⟨rfl, b2⟩
  have B2 := b1.trans (b2.mono b1.size)
  clear b1 b2 h1
  go_wp2_with fail
  refine (h2 _).mono ?_
  rintro r v3 ⟨rfl, b3⟩
  have B3 := B2.trans (b3.mono B2.size)
  clear B2 b3 h2
  go_wp2_with fail
  refine (num12_same _ _).mono ?_
  rintro r vz ⟨rfl, hz⟩
  rw [hz]
  clear hz
  go_wp2_with fail
  refine (num12_same _ _).mono ?_
  rintro r vz ⟨rfl, hz⟩
  rw [hz]
  clear hz
  go_wp2_with fail
  refine (num12_same _ _).mono ?_
  rintro r vz ⟨rfl, hz⟩
  rw [hz]
  clear hz
  go_wp2_with fail
  refine (w1 _).mono ?_
  rintro r vz ⟨rfl, hz⟩
  rw [hz]
  clear hz w1
  go_wp2_with fail
  refine (D1 _).mono ?_
  rintro r v4 ⟨s4, a4, n4, c4, b4, m4, f4, rfl, R4, hb4⟩
  have B4 := B3.trans (hb4.mono B3.size)
  clear D1 B3 hb4
  go_wp2_with fail
  have t4 := st_new v4 (.bool s4) (.slice a4 n4 c4) (.slice b4 m4 f4) 33
  have R5 := R4.later (alloc_below (w := v4) (.cells #[.bool s4, .slice a4 n4 c4, .slice b4 m4 f4] 33))
  have B5 : Below w.heap.size w (v4.alloc (.cells #[.bool s4, .slice a4 n4 c4, .slice b4 m4 f4] 33)) := B4.alloc B4.size _
  refine (w2 _).mono ?_
  rintro r vz ⟨rfl, hz⟩
  rw [hz]
  clear hz w2 R4 B4
  go_wp2_with fail
  refine (D2 _).mono ?_
  rintro r v6 ⟨s6, a6, n6, c6, b6, m6, f6, rfl, R6, hb6⟩
  have B6 := B5.trans (hb6.mono B5.size)
  have R7 := (R5.later hb6).later (alloc_below (w := v6) (.cells #[.bool s6, .slice a6 n6 c6, .slice b6 m6 f6] 33))
  have t7 := (t4.later hb6).later (alloc_below (w := v6) (.cells #[.bool s6, .slice a6 n6 c6, .slice b6 m6 f6] 33))
  have R8 := R6.later (alloc_below (w := v6) (.cells #[.bool s6, .slice a6 n6 c6, .slice b6 m6 f6] 33))
  have t8 := st_new v6 (.bool s6) (.slice a6 n6 c6) (.slice b6 m6 f6) 33
  have B8 : Below w.heap.size w (v6.alloc (.cells #[.bool s6, .slice a6 n6 c6, .slice b6 m6 f6] 33)) := B6.alloc B6.size _
  have hC := rCmp_ok R7 R8 z1 z2 (by omega) ho
  obtain ⟨x0, x1, x2⟩ := t7.cells
  obtain ⟨y0, y1, y2⟩ := t8.cells
  clear t4 t7 t8 R5 R6 R7 R8 hb6 B5 B6 D2
  go_wp2_with fail
  refine hC.mono ?_
  rintro r v9 ⟨rfl, b9⟩
  have B9 := B8.trans (b9.mono B8.size)
  clear hC x0 x1 x2 y0 y1 y2 b9 B8
  go_wp2_with fail
  refine (num12_same _ _).mono ?_
  rintro r vz ⟨rfl, hz⟩
  rw [hz]
  clear hz
  go_wp2
  go_ret
  exact ⟨rfl, B9⟩
theorem apart_walk12 {b : Int} (hu : U b) (w : World) : Calls Try.prog 3 #[.int .u64 b] w fun r w' => r = .returned (.bool true) ∧ Below w.heap.size w w' := by
  have hs := size_bits hu
  have hm := mg_bd b
  have us : U (mg b) := U_mg b
  by_cases hf : ef (mg b) = 2047
  · have hF := fun w => finite12_any us w
    rw [bne_of hf] at hF
    go_enter Try.func3, Try.ntmps3
    go_wp2_with fail
    refine (fixed12_any _).mono ?_
    rintro r v1 ⟨rfl, b1⟩
    go_wp2_with fail
    refine (hF _).mono ?_
    rintro r vz ⟨rfl, hz⟩
    rw [hz]
    go_wp2
    go_ret
    exact ⟨rfl, b1⟩
  · have hf' : (ef (mg b) != 2047) = true := bne_yes hf
    by_cases hx : mg b = 9218868437227405311
    · have hF := fun w => finite12_any us w
      rw [hf'] at hF
      rw [hx] at hs hF
      clear hf hf' hm us hx
      go_enter Try.func3, Try.ntmps3
      go_wp2_with fail
      refine (fixed12_any _).mono ?_
      rintro r v1 ⟨rfl, b1⟩
      go_wp2_with fail
      refine (hF _).mono ?_
      rintro r vz ⟨rfl, hz⟩
      rw [hz]
      go_wp2
      go_ret
      exact ⟨rfl, b1⟩
    · have p1 : mg b < mostP := by
        have := fields_of (p := mg b) hm.1
        have := mg_parts b
        have := ef_bd b
        have := fr_bd b
        have e1 : ef (mg b) = ef b := (sp_mg hu).2.2
        unfold mostP
        omega
      generalize hS : mg b = s at *
      have m0 : mg s = s := by unfold mg at *; omega
      have ut : U (s + 1) := by unfold U mostP at *; omega
      have m1 : mg (s + 1) = s + 1 := by unfold mg mostP at *; omega
      have f1 : ef (s + 1) ≠ 2047 := (size_fin (p := s + 1) (by omega) (by omega)).2.1
      have e1 : nxW s = s + 1 := by unfold nxW; unfold mostP at p1; rw [if_neg hf, if_neg (by omega), if_pos (by omega)]
      have e2 : nxE s = 0 := by unfold nxE; unfold mostP at p1; rw [if_neg hf, if_neg (by omega)]
      have hN := fun w => f6Next_any us w
      rw [e1, e2] at hN
      have h2 := fun w => rshort_fin ut f1 (by rw [m1]; omega) w
      rw [m1] at h2
      have S2 := sh_is (p := s + 1) (by omega) (by omega)
      have hN' : ∀ w, Calls Try.prog 6 #[.int .u64 s] w fun r w' => r = .returned (.tuple #[.int .u64 (s + 1), .int .i64 0]) ∧ w' = w := fun w => (hN w).mono (by rintro r w' ⟨rfl, h⟩; exact ⟨rfl, h.symm⟩)
      have ug : U (shD (s + 1)) := by have := S2.r0; have := S2.r1; unfold U; omega
      by_cases z : s = 0
      · have h1 := fun w => rshort_zero us hf (by rw [m0]; exact z) w
        exact apart_go hs us ut hf' (beq_no hx) hN' h1 h2 (by unfold U; omega) ug (by omega) (by omega) (by have := S2.e0; omega) (by have := S2.e1; omega) (dec_nil S2.r0) w
      · have h1 := fun w => rshort_fin us hf (by rw [m0]; exact z) w
        rw [m0] at h1
        have S1 := sh_is (p := s) (by omega) (by omega)
        have ud : U (shD s) := by have := S1.r0; have := S1.r1; unfold U; omega
        exact apart_go hs us ut hf' (beq_no hx) hN' h1 h2 ud ug (by have := S1.e0; omega) (by have := S1.e1; omega) (by have := S2.e0; omega) (by have := S2.e1; omega) (dec_lt (Int.le_of_lt S1.r0) (Int.le_of_lt S2.r0) S1.rd S2.rd (by omega)) w
end Go.Proofs.Ytalglldkjbinbaa
