/- package f64: Class, Split, the neighbours, the order, ranks. -/
import Derived.Test.YtphabbobldbocaaDoorF64A
namespace Go.Proofs.YtphabbobldbocaaDoor
open Go.ChangeShapes Go.WideShapes Go.ChangeAt Go.RowKit
open Ar
set_option linter.unusedVariables false
set_option linter.unusedSimpArgs false

theorem ret_biii {k l m : IntKind} {p q : Bool} {a b c d e f : Int} (h : p = q) (h' : a = b) (h'' : c = d) (h3 : e = f) : Ending.returned (.tuple #[.bool p, .int k a, .int l c, .int m e]) = .returned (.tuple #[.bool q, .int k b, .int l d, .int m f]) := by rw [h, h', h'', h3]

theorem cls_of (b : Int) : (ef b = 2047 ∧ (clsW b = 3 ∨ clsW b = 4) ∧ spS b = false ∧ spM b = 0 ∧ spX b = 0 ∧ fiE b = 60) ∨ (ef b ≠ 2047 ∧ (clsW b = 0 ∨ clsW b = 1) ∧ spS b = decide (9223372036854775808 ≤ b) ∧ spM b = fr b ∧ spX b = -1074 ∧ fiE b = 0) ∨ (ef b ≠ 2047 ∧ clsW b = 2 ∧ spS b = decide (9223372036854775808 ≤ b) ∧ spM b = 4503599627370496 + fr b ∧ spX b = ef b - 1075 ∧ fiE b = 0) := by
  unfold clsW spS spM spX fiE
  by_cases h : ef b = 2047
  · left
    simp only [if_pos h]
    refine ⟨h, ?_, by simp⟩
    split <;> simp
  · right
    simp only [if_neg h]
    by_cases h0 : ef b = 0
    · left
      simp only [if_pos h0]
      refine ⟨h, ?_, by simp⟩
      split <;> simp
    · right
      simp only [if_neg h0]
      exact ⟨h, by simp⟩
theorem f6Next_any {b : Int} (hb : U b) (w : World) :
    Calls Tryd.prog 24 #[.int .u64 b] w fun e w' => e = .returned (.tuple #[.int .u64 (nxW b), .int .i64 (nxE b)]) ∧ w = w' := by
  have hF := fun w => f6finite_any hb w
  have hN := fun w => f6negative_any hb w
  have hS := fun w => f6size_any hb w
  have hu := hb
  unfold U at hu
  unfold nxW nxE
  by_cases h : ef b = 2047
  · have q : (ef b != 2047) = false := bne_of h
    rw [q] at hF
    rw [if_pos h, if_pos h]
    clear h q
    go_enter Tryd.func24, Tryd.ntmps24
    go_wp2_with ((go_at_call 50; refine (hF _).mono ?_; rintro e w' ⟨rfl, rfl⟩))
    go_ret2
    exact ⟨rfl, rfl⟩
  · have q : (ef b != 2047) = true := bne_yes h
    rw [q] at hF
    rw [if_neg h, if_neg h]
    clear h q
    by_cases h : b = 9218868437227405311
    · have q : (b == 9218868437227405311) = true := beq_of h
      rw [if_pos h, if_pos h]
      clear h
      go_enter Tryd.func24, Tryd.ntmps24
      go_wp2_with ((go_at_call 50; refine (hF _).mono ?_; rintro e w' ⟨rfl, rfl⟩))
      go_ret2
      exact ⟨rfl, rfl⟩
    · have q : (b == 9218868437227405311) = false := beq_no h
      rw [if_neg h, if_neg h]
      clear h
      by_cases h : b < 9223372036854775808
      · have d : decide (9223372036854775808 ≤ b) = false := by simpa using h
        have m : mg b = b := by unfold mg; omega
        rw [d] at hN
        rw [m] at hS
        rw [if_pos h]
        clear d m
        go_enter Tryd.func24, Tryd.ntmps24
        go_wp2_with (first | (go_at_call 50; refine (hF _).mono ?_; rintro e w' ⟨rfl, rfl⟩) | (go_at_call 51; refine (hN _).mono ?_; rintro e w' ⟨rfl, rfl⟩) | (go_at_call 52; refine (hS _).mono ?_; rintro e w' ⟨rfl, rfl⟩))
        go_ret2
        exact ⟨rfl, rfl⟩
      · have d : decide (9223372036854775808 ≤ b) = true := by simpa using h
        rw [d] at hN
        rw [if_neg h]
        clear d
        by_cases k : b = 9223372036854775808
        · have m : mg b = 0 := by unfold mg; omega
          rw [m] at hS
          rw [if_pos k]
          clear m h k
          go_enter Tryd.func24, Tryd.ntmps24
          go_wp2_with (first | (go_at_call 50; refine (hF _).mono ?_; rintro e w' ⟨rfl, rfl⟩) | (go_at_call 51; refine (hN _).mono ?_; rintro e w' ⟨rfl, rfl⟩) | (go_at_call 52; refine (hS _).mono ?_; rintro e w' ⟨rfl, rfl⟩))
          go_ret2
          exact ⟨rfl, rfl⟩
        · have m : (mg b != 0) = true := bne_yes (by unfold mg; omega)
          rw [if_neg k]
          go_enter Tryd.func24, Tryd.ntmps24
          go_wp2_with (first | (go_at_call 50; refine (hF _).mono ?_; rintro e w' ⟨rfl, rfl⟩) | (go_at_call 51; refine (hN _).mono ?_; rintro e w' ⟨rfl, rfl⟩) | (go_at_call 52; refine (hS _).mono ?_; rintro e w' ⟨rfl, rfl⟩))
          go_ret2
          exact ⟨rfl, rfl⟩

end Go.Proofs.YtphabbobldbocaaDoor
