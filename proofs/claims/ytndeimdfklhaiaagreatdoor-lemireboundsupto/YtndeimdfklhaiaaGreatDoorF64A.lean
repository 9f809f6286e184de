/- package f64: the fields of a pattern, Class, Split, Neg, the neighbours, the order. -/
import Derived.Test.YtndeimdfklhaiaaGreatDoorBaseA
import Derived.Test.YtndeimdfklhaiaaGreatDoorF64Laws
namespace Go.Proofs.YtndeimdfklhaiaaGreatDoor
open Go.ChangeShapes Go.WideShapes Go.ChangeAt Go.RowKit
open Ar
set_option linter.unusedVariables false

theorem results_tmp4 {fn : Func} {t u v x : Tmp} (h : fn.results = #[.tmp t, .tmp u, .tmp v, .tmp x]) (tmps : Array Value) (P : Program) (w : World) :
    (results fn tmps).run P w = .ok (.tuple #[tmps.getD t undef, tmps.getD u undef, tmps.getD v undef, tmps.getD x undef]) w := by
  simp [results, h]
theorem ret_b {p q : Bool} (h : p = q) : Ending.returned (.bool p) = .returned (.bool q) := by rw [h]
theorem beq_if {a b : Int} {p : Bool} (h : (a = b) ↔ (p = true)) : (a == b) = p := by rw [Bool.eq_iff_iff]; simpa using h

theorem f6size_any {b : Int} (hb : U b) (w : World) :
    Calls Tryz.prog 69 #[.int .u64 b] w fun e w' => e = .returned (.int .u64 (mg b)) ∧ w = w' := by
  go_enter Tryz.func69, Tryz.ntmps69
  go_wp2
  go_ret
  exact ⟨ret_int (size_bits hb), rfl⟩
theorem f6fraction_any {b : Int} (hb : U b) (w : World) :
    Calls Tryz.prog 103 #[.int .u64 b] w fun e w' => e = .returned (.int .u64 (fr b)) ∧ w = w' := by
  go_enter Tryz.func103, Tryz.ntmps103
  go_wp2
  go_ret
  exact ⟨ret_int (frac_bits hb), rfl⟩
theorem f6negative_any {b : Int} (hb : U b) (w : World) :
    Calls Tryz.prog 68 #[.int .u64 b] w fun e w' => e = .returned (.bool (decide (9223372036854775808 ≤ b))) ∧ w = w' := by
  go_enter Tryz.func68, Tryz.ntmps68
  go_wp2
  go_ret
  exact ⟨ret_b (sign_ne hb), rfl⟩
theorem f6field_any {b : Int} (hb : U b) (w : World) :
    Calls Tryz.prog 102 #[.int .u64 b] w fun e w' => e = .returned (.int .i64 (ef b)) ∧ w = w' := by
  have hm := mg_bd b
  go_enter Tryz.func102, Tryz.ntmps102
  go_wp2_with (go_at_call 69; refine (f6size_any hb _).mono ?_; rintro e w' ⟨rfl, rfl⟩)
  go_ret
  refine ⟨ret_int ?_, rfl⟩
  rfl
theorem f6finite_any {b : Int} (hb : U b) (w : World) :
    Calls Tryz.prog 67 #[.int .u64 b] w fun e w' => e = .returned (.bool (ef b != 2047)) ∧ w = w' := by
  go_enter Tryz.func67, Tryz.ntmps67
  go_wp2_with (go_at_call 102; refine (f6field_any hb _).mono ?_; rintro e w' ⟨rfl, rfl⟩)
  go_ret
  exact ⟨rfl, rfl⟩
theorem f6Neg_any {b : Int} (hb : U b) (w : World) :
    Calls Tryz.prog 32 #[.int .u64 b] w fun e w' => e = .returned (.int .u64 (negW b)) ∧ w = w' := by
  go_enter Tryz.func32, Tryz.ntmps32
  go_wp2
  go_ret
  exact ⟨ret_int (sign_xor hb), rfl⟩
theorem f6signed_any {s : Bool} {b : Int} (h0 : 0 ≤ b) (h1 : b < 9223372036854775808) (w : World) :
    Calls Tryz.prog 65 #[.bool s, .int .u64 b] w fun e w' => e = .returned (.int .u64 (sgB s + b)) ∧ w = w' := by
  have hb : U b := by unfold U; omega
  cases s
  · go_enter Tryz.func65, Tryz.ntmps65
    go_wp2
    go_ret
    exact ⟨ret_int (by unfold sgB; rw [if_neg (by decide)]; omega), rfl⟩
  · go_enter Tryz.func65, Tryz.ntmps65
    go_wp2
    go_ret
    exact ⟨ret_int (by rw [sign_or hb h1]; unfold sgB; rw [if_pos rfl]; omega), rfl⟩
end Go.Proofs.YtndeimdfklhaiaaGreatDoor
