/- package f64: Class, Split, the neighbours, the order, ranks. -/
import Derived.Test.YtndeimdfklhaiaaGreatDoorF64A
namespace Go.Proofs.YtndeimdfklhaiaaGreatDoor
open Go.ChangeShapes Go.WideShapes Go.ChangeAt Go.RowKit
open Ar
set_option linter.unusedVariables false
set_option linter.unusedSimpArgs false

theorem ret_biii {k l m : IntKind} {p q : Bool} {a b c d e f : Int} (h : p = q) (h' : a = b) (h'' : c = d) (h3 : e = f) : Ending.returned (.tuple #[.bool p, .int k a, .int l c, .int m e]) = .returned (.tuple #[.bool q, .int k b, .int l d, .int m f]) := by rw [h, h', h'', h3]

theorem f6Class_w {b : Int} (hb : U b) {p q r : Bool} (h1 : (ef b != 2047) = p) (h2 : (ef b != 0) = q) (h3 : (fr b == 0) = r) (w : World) :
    Calls Tryz.prog 104 #[.int .u64 b] w fun e w' => e = .returned (.int .i64 (clsW b)) ∧ w = w' := by
  have hc : clsW b = if p = true then (if q = true then 2 else if r = true then 0 else 1) else (if r = true then 3 else 4) := by
    subst h1 h2 h3
    unfold clsW
    simp
  rw [hc]
  clear hc
  cases p <;> cases q <;> cases r
  all_goals
    go_enter Tryz.func104, Tryz.ntmps104
    go_wp2_with (first | (go_at_call 67; refine (f6finite_any hb _).mono ?_; rintro e w' ⟨rfl, rfl⟩) | (go_at_call 102; refine (f6field_any hb _).mono ?_; rintro e w' ⟨rfl, rfl⟩) | (go_at_call 103; refine (f6fraction_any hb _).mono ?_; rintro e w' ⟨rfl, rfl⟩))
    go_ret
    exact ⟨rfl, rfl⟩
theorem f6Class_any {b : Int} (hb : U b) (w : World) :
    Calls Tryz.prog 104 #[.int .u64 b] w fun e w' => e = .returned (.int .i64 (clsW b)) ∧ w = w' := f6Class_w hb rfl rfl rfl w

theorem cls_of (b : Int) : (ef b = 2047 ∧ (clsW b = 3 ∨ clsW b = 4) ∧ spS b = false ∧ spM b = 0 ∧ spX b = 0 ∧ fiE b = 60) ∨ (ef b ≠ 2047 ∧ (clsW b = 0 ∨ clsW b = 1) ∧ spS b = decide (9223372036854775808 ≤ b) ∧ spM b = fr b ∧ spX b = -1074 ∧ fiE b = 0) ∨ (ef b ≠ 2047 ∧ clsW b = 2 ∧ spS b = decide (9223372036854775808 ≤ b) ∧ spM b = 4503599627370496 + fr b ∧ spX b = ef b - 1075 ∧ fiE b = 0) := by
  unfold clsW spS spM spX fiE
  by_cases h : ef b = 2047
  · left
    simp only [if_pos h]
    refine ⟨h, ?_, by simp⟩
    split <;> simp
  · right
    simp only [if_neg h]
    by_cases h0 : ef b = 0
    · left
      simp only [if_pos h0]
      refine ⟨h, ?_, by simp⟩
      split <;> simp
    · right
      simp only [if_neg h0]
      exact ⟨h, by simp⟩
theorem f6Split_any {b : Int} (hb : U b) (w : World) :
    Calls Tryz.prog 70 #[.int .u64 b] w fun e w' => e = .returned (.tuple #[.bool (spS b), .int .u64 (spM b), .int .i64 (spX b), .int .i64 (fiE b)]) ∧ w = w' := by
  have hK := fun w => f6Class_any hb w
  have hf := fr_bd b
  have he := ef_bd b
  have ho := hid_or hf.1 hf.2
  rcases cls_of b with ⟨h, hc, e1, e2, e3, e4⟩ | ⟨h, hc, e1, e2, e3, e4⟩ | ⟨h, hc, e1, e2, e3, e4⟩
  · rw [e1, e2, e3, e4]
    clear e1 e2 e3 e4 h ho
    rcases hc with hc | hc
    all_goals
      rw [hc] at hK
      clear hc
      go_enter Tryz.func70, Tryz.ntmps70
      go_wp2_with (first | (go_at_call 104; refine (hK _).mono ?_; rintro e w' ⟨rfl, rfl⟩) | (go_at_call 103; refine (f6fraction_any hb _).mono ?_; rintro e w' ⟨rfl, rfl⟩))
      ((try simp only [Exit.inBlock, Exit.then]); refine bodyPost_ret (results_tmp4 rfl _ _ _) rfl ?_)
      exact ⟨rfl, rfl⟩
  · rw [e1, e2, e3, e4]
    clear e1 e2 e3 e4 h ho
    rcases hc with hc | hc
    all_goals
      rw [hc] at hK
      clear hc
      go_enter Tryz.func70, Tryz.ntmps70
      go_wp2_with (first | (go_at_call 104; refine (hK _).mono ?_; rintro e w' ⟨rfl, rfl⟩) | (go_at_call 103; refine (f6fraction_any hb _).mono ?_; rintro e w' ⟨rfl, rfl⟩) | (go_at_call 68; refine (f6negative_any hb _).mono ?_; rintro e w' ⟨rfl, rfl⟩))
      ((try simp only [Exit.inBlock, Exit.then]); refine bodyPost_ret (results_tmp4 rfl _ _ _) rfl ?_)
      exact ⟨rfl, rfl⟩
  · rw [e1, e2, e3, e4]
    rw [hc] at hK
    have O : Hid (bits .or .u64 (fr b) 4503599627370496 = 4503599627370496 + fr b) := ho
    clear e1 e2 e3 e4 h ho hc
    go_enter Tryz.func70, Tryz.ntmps70
    go_wp2_with (first | (go_at_call 104; refine (hK _).mono ?_; rintro e w' ⟨rfl, rfl⟩) | (go_at_call 103; refine (f6fraction_any hb _).mono ?_; rintro e w' ⟨rfl, rfl⟩) | (go_at_call 68; refine (f6negative_any hb _).mono ?_; rintro e w' ⟨rfl, rfl⟩) | (go_at_call 102; refine (f6field_any hb _).mono ?_; rintro e w' ⟨rfl, rfl⟩))
    ((try simp only [Exit.inBlock, Exit.then]); refine bodyPost_ret (results_tmp4 rfl _ _ _) rfl ?_)
    exact ⟨ret_biii rfl O.out rfl rfl, rfl⟩
theorem f6Next_any {b : Int} (hb : U b) (w : World) :
    Calls Tryz.prog 31 #[.int .u64 b] w fun e w' => e = .returned (.tuple #[.int .u64 (nxW b), .int .i64 (nxE b)]) ∧ w = w' := by
  have hF := fun w => f6finite_any hb w
  have hN := fun w => f6negative_any hb w
  have hS := fun w => f6size_any hb w
  have hu := hb
  unfold U at hu
  unfold nxW nxE
  by_cases h : ef b = 2047
  · have q : (ef b != 2047) = false := bne_of h
    rw [q] at hF
    rw [if_pos h, if_pos h]
    clear h q
    go_enter Tryz.func31, Tryz.ntmps31
    go_wp2_with ((go_at_call 67; refine (hF _).mono ?_; rintro e w' ⟨rfl, rfl⟩))
    go_ret2
    exact ⟨rfl, rfl⟩
  · have q : (ef b != 2047) = true := bne_yes h
    rw [q] at hF
    rw [if_neg h, if_neg h]
    clear h q
    by_cases h : b = 9218868437227405311
    · have q : (b == 9218868437227405311) = true := beq_of h
      rw [if_pos h, if_pos h]
      clear h
      go_enter Tryz.func31, Tryz.ntmps31
      go_wp2_with ((go_at_call 67; refine (hF _).mono ?_; rintro e w' ⟨rfl, rfl⟩))
      go_ret2
      exact ⟨rfl, rfl⟩
    · have q : (b == 9218868437227405311) = false := beq_no h
      rw [if_neg h, if_neg h]
      clear h
      by_cases h : b < 9223372036854775808
      · have d : decide (9223372036854775808 ≤ b) = false := by simpa using h
        have m : mg b = b := by unfold mg; omega
        rw [d] at hN
        rw [m] at hS
        rw [if_pos h]
        clear d m
        go_enter Tryz.func31, Tryz.ntmps31
        go_wp2_with (first | (go_at_call 67; refine (hF _).mono ?_; rintro e w' ⟨rfl, rfl⟩) | (go_at_call 68; refine (hN _).mono ?_; rintro e w' ⟨rfl, rfl⟩) | (go_at_call 69; refine (hS _).mono ?_; rintro e w' ⟨rfl, rfl⟩))
        go_ret2
        exact ⟨rfl, rfl⟩
      · have d : decide (9223372036854775808 ≤ b) = true := by simpa using h
        rw [d] at hN
        rw [if_neg h]
        clear d
        by_cases k : b = 9223372036854775808
        · have m : mg b = 0 := by unfold mg; omega
          rw [m] at hS
          rw [if_pos k]
          clear m h k
          go_enter Tryz.func31, Tryz.ntmps31
          go_wp2_with (first | (go_at_call 67; refine (hF _).mono ?_; rintro e w' ⟨rfl, rfl⟩) | (go_at_call 68; refine (hN _).mono ?_; rintro e w' ⟨rfl, rfl⟩) | (go_at_call 69; refine (hS _).mono ?_; rintro e w' ⟨rfl, rfl⟩))
          go_ret2
          exact ⟨rfl, rfl⟩
        · have m : (mg b != 0) = true := bne_yes (by unfold mg; omega)
          rw [if_neg k]
          go_enter Tryz.func31, Tryz.ntmps31
          go_wp2_with (first | (go_at_call 67; refine (hF _).mono ?_; rintro e w' ⟨rfl, rfl⟩) | (go_at_call 68; refine (hN _).mono ?_; rintro e w' ⟨rfl, rfl⟩) | (go_at_call 69; refine (hS _).mono ?_; rintro e w' ⟨rfl, rfl⟩))
          go_ret2
          exact ⟨rfl, rfl⟩

end Go.Proofs.YtndeimdfklhaiaaGreatDoor
