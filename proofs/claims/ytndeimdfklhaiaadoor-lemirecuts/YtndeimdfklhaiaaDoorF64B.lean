/- package f64: Class, Split, the neighbours, the order, ranks. -/
import Derived.Test.YtndeimdfklhaiaaDoorF64A
namespace Go.Proofs.YtndeimdfklhaiaaDoor
open Go.ChangeShapes Go.WideShapes Go.ChangeAt Go.RowKit
open Ar
set_option linter.unusedVariables false
set_option linter.unusedSimpArgs false

theorem ret_biii {k l m : IntKind} {p q : Bool} {a b c d e f : Int} (h : p = q) (h' : a = b) (h'' : c = d) (h3 : e = f) : Ending.returned (.tuple #[.bool p, .int k a, .int l c, .int m e]) = .returned (.tuple #[.bool q, .int k b, .int l d, .int m f]) := by rw [h, h', h'', h3]
theorem isNaN6_any (a : Int) (w : World) : Calls Tryd.prog 55 #[.int .i64 a] w fun e w' => e = .returned (.bool false) ∧ w = w' := by
  have t : (a != a) = false := by simp
  go_enter Tryd.func55, Tryd.ntmps55
  go_wp2
  go_ret
  exact ⟨rfl, rfl⟩
theorem compare6_any (a b : Int) (w : World) : Calls Tryd.prog 35 #[.int .i64 a, .int .i64 b] w fun e w' => e = .returned (.int .i64 (ord a b)) ∧ w = w' := by
  rcases ord_cases a b with ⟨h, E0⟩ | ⟨h, E0⟩ | ⟨h, E0⟩
  all_goals
    rw [E0]
    clear E0
    go_enter Tryd.func35, Tryd.ntmps35
    go_wp2_with (go_at_call 55; refine (isNaN6_any _ _).mono ?_; rintro e w' ⟨rfl, rfl⟩)
    go_ret
    exact ⟨rfl, rfl⟩

theorem f6Class_w {b : Int} (hb : U b) {p q r : Bool} (h1 : (ef b != 2047) = p) (h2 : (ef b != 0) = q) (h3 : (fr b == 0) = r) (w : World) :
    Calls Tryd.prog 68 #[.int .u64 b] w fun e w' => e = .returned (.int .i64 (clsW b)) ∧ w = w' := by
  have hc : clsW b = if p = true then (if q = true then 2 else if r = true then 0 else 1) else (if r = true then 3 else 4) := by
    subst h1 h2 h3
    unfold clsW
    simp
  rw [hc]
  clear hc
  cases p <;> cases q <;> cases r
  all_goals
    go_enter Tryd.func68, Tryd.ntmps68
    go_wp2_with (first | (go_at_call 34; refine (f6finite_any hb _).mono ?_; rintro e w' ⟨rfl, rfl⟩) | (go_at_call 54; refine (f6field_any hb _).mono ?_; rintro e w' ⟨rfl, rfl⟩) | (go_at_call 67; refine (f6fraction_any hb _).mono ?_; rintro e w' ⟨rfl, rfl⟩))
    go_ret
    exact ⟨rfl, rfl⟩
theorem f6Class_any {b : Int} (hb : U b) (w : World) :
    Calls Tryd.prog 68 #[.int .u64 b] w fun e w' => e = .returned (.int .i64 (clsW b)) ∧ w = w' := f6Class_w hb rfl rfl rfl w

theorem cls_of (b : Int) : (ef b = 2047 ∧ (clsW b = 3 ∨ clsW b = 4) ∧ spS b = false ∧ spM b = 0 ∧ spX b = 0 ∧ fiE b = 60) ∨ (ef b ≠ 2047 ∧ (clsW b = 0 ∨ clsW b = 1) ∧ spS b = decide (9223372036854775808 ≤ b) ∧ spM b = fr b ∧ spX b = -1074 ∧ fiE b = 0) ∨ (ef b ≠ 2047 ∧ clsW b = 2 ∧ spS b = decide (9223372036854775808 ≤ b) ∧ spM b = 4503599627370496 + fr b ∧ spX b = ef b - 1075 ∧ fiE b = 0) := by
  unfold clsW spS spM spX fiE
  by_cases h : ef b = 2047
  · left
    simp only [if_pos h]
    refine ⟨h, ?_, by simp⟩
    split <;> simp
  · right
    simp only [if_neg h]
    by_cases h0 : ef b = 0
    · left
      simp only [if_pos h0]
      refine ⟨h, ?_, by simp⟩
      split <;> simp
    · right
      simp only [if_neg h0]
      exact ⟨h, by simp⟩
theorem f6Split_any {b : Int} (hb : U b) (w : World) :
    Calls Tryd.prog 47 #[.int .u64 b] w fun e w' => e = .returned (.tuple #[.bool (spS b), .int .u64 (spM b), .int .i64 (spX b), .int .i64 (fiE b)]) ∧ w = w' := by
  have hK := fun w => f6Class_any hb w
  have hf := fr_bd b
  have he := ef_bd b
  have ho := hid_or hf.1 hf.2
  rcases cls_of b with ⟨h, hc, e1, e2, e3, e4⟩ | ⟨h, hc, e1, e2, e3, e4⟩ | ⟨h, hc, e1, e2, e3, e4⟩
  · rw [e1, e2, e3, e4]
    clear e1 e2 e3 e4 h ho
    rcases hc with hc | hc
    all_goals
      rw [hc] at hK
      clear hc
      go_enter Tryd.func47, Tryd.ntmps47
      go_wp2_with (first | (go_at_call 68; refine (hK _).mono ?_; rintro e w' ⟨rfl, rfl⟩) | (go_at_call 67; refine (f6fraction_any hb _).mono ?_; rintro e w' ⟨rfl, rfl⟩))
      ((try simp only [Exit.inBlock, Exit.then]); refine bodyPost_ret (results_tmp4 rfl _ _ _) rfl ?_)
      exact ⟨rfl, rfl⟩
  · rw [e1, e2, e3, e4]
    clear e1 e2 e3 e4 h ho
    rcases hc with hc | hc
    all_goals
      rw [hc] at hK
      clear hc
      go_enter Tryd.func47, Tryd.ntmps47
      go_wp2_with (first | (go_at_call 68; refine (hK _).mono ?_; rintro e w' ⟨rfl, rfl⟩) | (go_at_call 67; refine (f6fraction_any hb _).mono ?_; rintro e w' ⟨rfl, rfl⟩) | (go_at_call 56; refine (f6negative_any hb _).mono ?_; rintro e w' ⟨rfl, rfl⟩))
      ((try simp only [Exit.inBlock, Exit.then]); refine bodyPost_ret (results_tmp4 rfl _ _ _) rfl ?_)
      exact ⟨rfl, rfl⟩
  · rw [e1, e2, e3, e4]
    rw [hc] at hK
    have O : Hid (bits .or .u64 (fr b) 4503599627370496 = 4503599627370496 + fr b) := ho
    clear e1 e2 e3 e4 h ho hc
    go_enter Tryd.func47, Tryd.ntmps47
    go_wp2_with (first | (go_at_call 68; refine (hK _).mono ?_; rintro e w' ⟨rfl, rfl⟩) | (go_at_call 67; refine (f6fraction_any hb _).mono ?_; rintro e w' ⟨rfl, rfl⟩) | (go_at_call 56; refine (f6negative_any hb _).mono ?_; rintro e w' ⟨rfl, rfl⟩) | (go_at_call 54; refine (f6field_any hb _).mono ?_; rintro e w' ⟨rfl, rfl⟩))
    ((try simp only [Exit.inBlock, Exit.then]); refine bodyPost_ret (results_tmp4 rfl _ _ _) rfl ?_)
    exact ⟨ret_biii rfl O.out rfl rfl, rfl⟩
theorem f6Cmp_any {a b : Int} (ha : U a) (hb : U b) (w : World) :
    Calls Tryd.prog 18 #[.int .u64 a, .int .u64 b] w fun e w' => e = .returned (.tuple #[.int .i64 (cmW a b), .int .i64 (cmE a b)]) ∧ w = w' := by
  have hF := fun w => f6finite_any ha w
  have hG := fun w => f6finite_any hb w
  unfold cmW cmE
  by_cases h : ef a = 2047
  · have q : (ef a != 2047) = false := bne_of h
    rw [q] at hF
    rw [if_pos h, if_pos h]
    clear h q
    go_enter Tryd.func18, Tryd.ntmps18
    go_wp2_with fail
    refine (hF _).mono ?_
    rintro e w' ⟨rfl, rfl⟩
    go_wp2_with fail
    go_ret2
    exact ⟨rfl, rfl⟩
  · have q : (ef a != 2047) = true := bne_yes h
    rw [q] at hF
    rw [if_neg h, if_neg h]
    clear h q
    by_cases h : ef b = 2047
    · have q : (ef b != 2047) = false := bne_of h
      rw [q] at hG
      rw [if_pos h, if_pos h]
      clear h q
      go_enter Tryd.func18, Tryd.ntmps18
      go_wp2_with fail
      refine (hF _).mono ?_
      rintro e w' ⟨rfl, rfl⟩
      go_wp2_with fail
      refine (hG _).mono ?_
      rintro e w' ⟨rfl, rfl⟩
      go_wp2_with fail
      go_ret2
      exact ⟨rfl, rfl⟩
    · have q : (ef b != 2047) = true := bne_yes h
      rw [q] at hG
      rw [if_neg h, if_neg h]
      clear h q
      go_enter Tryd.func18, Tryd.ntmps18
      go_wp2_with fail
      refine (hF _).mono ?_
      rintro e w' ⟨rfl, rfl⟩
      go_wp2_with fail
      refine (hG _).mono ?_
      rintro e w' ⟨rfl, rfl⟩
      go_wp2_with fail
      refine (f6rank_any ha _).mono ?_
      rintro e w' ⟨rfl, rfl⟩
      go_wp2_with fail
      refine (f6rank_any hb _).mono ?_
      rintro e w' ⟨rfl, rfl⟩
      go_wp2_with (go_at_call 35; refine (compare6_any _ _ _).mono ?_; rintro e w' ⟨rfl, rfl⟩)
      go_ret2
      exact ⟨rfl, rfl⟩

end Go.Proofs.YtndeimdfklhaiaaDoor
