/- package f64: the fields of a pattern, Class, Split, Neg, the neighbours, the order. -/
import Derived.Test.YteohdooeinogoabBaseA
import Derived.Test.YteohdooeinogoabF64Laws
namespace Go.Proofs.Yteohdooeinogoab
open Go.ChangeShapes Go.WideShapes Go.ChangeAt Go.RowKit
open Ar
set_option linter.unusedVariables false

theorem results_tmp4 {fn : Func} {t u v x : Tmp} (h : fn.results = #[.tmp t, .tmp u, .tmp v, .tmp x]) (tmps : Array Value) (P : Program) (w : World) :
    (results fn tmps).run P w = .ok (.tuple #[tmps.getD t undef, tmps.getD u undef, tmps.getD v undef, tmps.getD x undef]) w := by
  simp [results, h]
theorem ret_b {p q : Bool} (h : p = q) : Ending.returned (.bool p) = .returned (.bool q) := by rw [h]
theorem beq_if {a b : Int} {p : Bool} (h : (a = b) ↔ (p = true)) : (a == b) = p := by rw [Bool.eq_iff_iff]; simpa using h

theorem f6size_any {b : Int} (hb : U b) (w : World) :
    Calls Try.prog 34 #[.int .u64 b] w fun e w' => e = .returned (.int .u64 (mg b)) ∧ w = w' := by
  go_enter Try.func34, Try.ntmps34
  go_wp2
  go_ret
  exact ⟨ret_int (size_bits hb), rfl⟩
theorem f6fraction_any {b : Int} (hb : U b) (w : World) :
    Calls Try.prog 35 #[.int .u64 b] w fun e w' => e = .returned (.int .u64 (fr b)) ∧ w = w' := by
  go_enter Try.func35, Try.ntmps35
  go_wp2
  go_ret
  exact ⟨ret_int (frac_bits hb), rfl⟩
theorem f6negative_any {b : Int} (hb : U b) (w : World) :
    Calls Try.prog 33 #[.int .u64 b] w fun e w' => e = .returned (.bool (decide (9223372036854775808 ≤ b))) ∧ w = w' := by
  go_enter Try.func33, Try.ntmps33
  go_wp2
  go_ret
  exact ⟨ret_b (sign_ne hb), rfl⟩
theorem f6field_any {b : Int} (hb : U b) (w : World) :
    Calls Try.prog 36 #[.int .u64 b] w fun e w' => e = .returned (.int .i64 (ef b)) ∧ w = w' := by
  have hm := mg_bd b
  go_enter Try.func36, Try.ntmps36
  go_wp2_with (go_at_call 34; refine (f6size_any hb _).mono ?_; rintro e w' ⟨rfl, rfl⟩)
  go_ret
  refine ⟨ret_int ?_, rfl⟩
  rfl
theorem f6finite_any {b : Int} (hb : U b) (w : World) :
    Calls Try.prog 32 #[.int .u64 b] w fun e w' => e = .returned (.bool (ef b != 2047)) ∧ w = w' := by
  go_enter Try.func32, Try.ntmps32
  go_wp2_with (go_at_call 36; refine (f6field_any hb _).mono ?_; rintro e w' ⟨rfl, rfl⟩)
  go_ret
  exact ⟨rfl, rfl⟩
theorem f6Neg_any {b : Int} (hb : U b) (w : World) :
    Calls Try.prog 15 #[.int .u64 b] w fun e w' => e = .returned (.int .u64 (negW b)) ∧ w = w' := by
  go_enter Try.func15, Try.ntmps15
  go_wp2
  go_ret
  exact ⟨ret_int (sign_xor hb), rfl⟩
theorem f6signed_any {s : Bool} {b : Int} (h0 : 0 ≤ b) (h1 : b < 9223372036854775808) (w : World) :
    Calls Try.prog 40 #[.bool s, .int .u64 b] w fun e w' => e = .returned (.int .u64 (sg s + b)) ∧ w = w' := by
  have hb : U b := by unfold U; omega
  cases s
  · go_enter Try.func40, Try.ntmps40
    go_wp2
    go_ret
    exact ⟨ret_int (by unfold sg; rw [if_neg (by decide)]; omega), rfl⟩
  · go_enter Try.func40, Try.ntmps40
    go_wp2
    go_ret
    exact ⟨ret_int (by rw [sign_or hb h1]; unfold sg; rw [if_pos rfl]; omega), rfl⟩
theorem f6rank_any {b : Int} (hb : U b) (w : World) :
    Calls Try.prog 37 #[.int .u64 b] w fun e w' => e = .returned (.int .i64 (rk0 b)) ∧ w = w' := by
  have hm := mg_bd b
  have hr := rk0_mg hb
  by_cases hn : 9223372036854775808 ≤ b
  · have hd : decide (9223372036854775808 ≤ b) = true := by simpa using hn
    have E : Hid (-mg b = rk0 b) := by rw [Hid]; omega
    have hN := fun w => f6negative_any hb w
    rw [hd] at hN
    clear hr hd hn
    go_enter Try.func37, Try.ntmps37
    go_wp2_with (first | (go_at_call 33; refine (hN _).mono ?_; rintro e w' ⟨rfl, rfl⟩) | (go_at_call 34; refine (f6size_any hb _).mono ?_; rintro e w' ⟨rfl, rfl⟩))
    go_ret
    exact ⟨ret_int E.out, rfl⟩
  · have hd : decide (9223372036854775808 ≤ b) = false := by simpa using hn
    have E : Hid (mg b = rk0 b) := by rw [Hid]; omega
    have hN := fun w => f6negative_any hb w
    rw [hd] at hN
    clear hr hd hn
    go_enter Try.func37, Try.ntmps37
    go_wp2_with (first | (go_at_call 33; refine (hN _).mono ?_; rintro e w' ⟨rfl, rfl⟩) | (go_at_call 34; refine (f6size_any hb _).mono ?_; rintro e w' ⟨rfl, rfl⟩))
    go_ret
    exact ⟨ret_int E.out, rfl⟩
end Go.Proofs.Yteohdooeinogoab
