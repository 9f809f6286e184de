/- wide.Shl, wide.Shr -/
import Derived.Test.YtbdljmboilapeabWide
import Derived.Test.YtbdljmboilapeabShift
import Derived.Deep.QuietTactic
import Derived.BigQuiet
namespace Go.Proofs.Ytbdljmboilapeab
open Go.ChangeShapes Go.WideShapes Go.ChangeAt Go.RowKit
open Ar
set_option linter.unusedVariables false

theorem within_any (n : Int) (w : World) :
    Calls Try.prog 107 #[.int .i64 n] w fun e w' => e = .returned (.int .i64 (clampN n)) ∧ w = w' := by
  by_cases h0 : n ≤ 0
  · have e : clampN n = 0 := by unfold clampN; rw [if_pos h0]
    rw [e]
    by_cases h : n = 0
    · subst h
      go_enter Try.func107, Try.ntmps107
      go_wp2
      go_ret
      exact ⟨rfl, rfl⟩
    · have h' : n < 0 := by omega
      clear h h0
      go_enter Try.func107, Try.ntmps107
      go_wp2
      go_ret
      exact ⟨rfl, rfl⟩
  · by_cases h1 : 128 < n
    · have e : clampN n = 128 := by unfold clampN; rw [if_neg h0, if_pos (by omega)]
      rw [e]
      go_enter Try.func107, Try.ntmps107
      go_wp2
      go_ret
      exact ⟨rfl, rfl⟩
    · have e : (clampN n : Int) = n := by
        unfold clampN; rw [if_neg h0]; split <;> omega
      rw [e]
      go_enter Try.func107, Try.ntmps107
      go_wp2
      all_goals go_ret
      all_goals exact ⟨rfl, rfl⟩

theorem shl_any {a b : Int} (ha : U a) (hb : U b) (n : Int) (w : World) :
    Calls Try.prog 99 #[.int .u64 a, .int .u64 b, .int .i64 n] w fun e w' => e = .returned (.tuple #[.int .u64 (shHi a b (clampN n)), .int .u64 (shLo a b (clampN n))]) ∧ Gr w w' := by
  have hw := fun w => within_any n w
  have hk := clampN_le n
  generalize clampN n = k at *
  by_cases h : 64 ≤ k
  · go_enter Try.func99, Try.ntmps99
    go_wp2_with (go_at_call 107; refine (hw _).mono ?_; rintro e w' ⟨rfl, rfl⟩)
    go_ret2
    exact ⟨ret_two (shl_hi_big h) (shl_lo_big h), gr_refl _⟩
  · go_enter Try.func99, Try.ntmps99
    go_wp2_with (go_at_call 107; refine (hw _).mono ?_; rintro e w' ⟨rfl, rfl⟩)
    go_quiet (fail)
    go_wp2
    go_ret2
    exact ⟨ret_two (shl_hi hb (by omega)) (shl_lo k), gr_drewN (gr_refl _) _⟩

theorem shr_any {a b : Int} (ha : U a) (hb : U b) (n : Int) (w : World) :
    Calls Try.prog 105 #[.int .u64 a, .int .u64 b, .int .i64 n] w fun e w' => e = .returned (.tuple #[.int .u64 (srHi a b (clampN n)), .int .u64 (srLo a b (clampN n)), .bool (srLost a b (clampN n))]) ∧ Gr w w' := by
  have hw := fun w => within_any n w
  have hk := clampN_le n
  generalize clampN n = k at *
  by_cases h : 64 ≤ k
  · have hl := shr_lost_big (a := a) hb h hk
    by_cases hz : b = 0
    · have hz' : (b != 0) = false := bne_of hz
      rw [hz', Bool.false_or] at hl
      have HL : Hid ((IntKind.u64.wrap (a * 2 ^ (128 - k)) != 0) = srLost a b k) := hl
      clear hl hz
      go_enter Try.func105, Try.ntmps105
      go_wp2_with (go_at_call 107; refine (hw _).mono ?_; rintro e w' ⟨rfl, rfl⟩)
      go_quiet (fail)
      go_wp2
      go_ret3
      exact ⟨ret_iib (shr_hi_big ha hb h) (shr_lo_big ha hb h) HL.out, gr_drewN (gr_refl _) _⟩
    · have hz' : (b != 0) = true := bne_yes hz
      rw [hz', Bool.true_or] at hl
      have HL : Hid (true = srLost a b k) := hl
      clear hl hz
      go_enter Try.func105, Try.ntmps105
      go_wp2_with (go_at_call 107; refine (hw _).mono ?_; rintro e w' ⟨rfl, rfl⟩)
      go_quiet (fail)
      go_wp2
      go_ret3
      exact ⟨ret_iib (shr_hi_big ha hb h) (shr_lo_big ha hb h) HL.out, gr_drewN (gr_refl _) _⟩
  · go_enter Try.func105, Try.ntmps105
    go_wp2_with (go_at_call 107; refine (hw _).mono ?_; rintro e w' ⟨rfl, rfl⟩)
    go_quiet (fail)
    go_wp2
    go_ret3
    exact ⟨ret_iib (shr_hi hb k) (shr_lo hb (by omega)) (shr_lost (by omega)), gr_drewN (gr_refl _) _⟩
end Go.Proofs.Ytbdljmboilapeab
