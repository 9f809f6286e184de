/- plumbref06: the document's answers but Join. -/
import Derived.Test.YteohdooeinogoabF64C
namespace Go.Proofs.Yteohdooeinogoab
open Go.ChangeShapes Go.WideShapes Go.ChangeAt Go.RowKit
open Ar
set_option linter.unusedVariables false
set_option linter.unusedSimpArgs false

theorem top_is {b : Int} (hb : U b) : (b / 9223372036854775808 == 1) = decide (9223372036854775808 ≤ b) := by
  unfold U at hb
  rw [Bool.eq_iff_iff]; simp; omega
theorem ret_bii {k l : IntKind} {p q : Bool} {a b c d : Int} (h : p = q) (h' : a = b) (h'' : c = d) : Ending.returned (.tuple #[.bool p, .int k a, .int l c]) = .returned (.tuple #[.bool q, .int k b, .int l d]) := by rw [h, h', h'']
theorem r6fields_any {b : Int} (hb : U b) (w : World) :
    Calls Try.prog 39 #[.int .u64 b] w fun e w' => e = .returned (.tuple #[.bool (decide (9223372036854775808 ≤ b)), .int .i64 (ef b), .int .u64 (fr b)]) ∧ w = w' := by
  have h1 := field_and hb
  have h2 := frac_bits hb
  have h3 := top_is hb
  have h4 := ef_bd b
  go_enter Try.func39, Try.ntmps39
  go_wp2
  go_ret3
  refine ⟨ret_bii ?_ ?_ ?_, rfl⟩
  · first | rfl | exact h3
  · first | rfl | exact h1 | (rw [IntKind.wrap_i64]; omega)
  · first | rfl | exact h2
theorem r6Finite_any {b : Int} (hb : U b) (w : World) :
    Calls Try.prog 49 #[.int .u64 b] w fun e w' => e = .returned (.bool (ef b != 2047)) ∧ w = w' := by
  go_enter Try.func49, Try.ntmps49
  go_wp2_with (go_at_call 39; refine (r6fields_any hb _).mono ?_; rintro e w' ⟨rfl, rfl⟩)
  go_ret
  exact ⟨rfl, rfl⟩
theorem r6Class_any {b : Int} (hb : U b) (w : World) :
    Calls Try.prog 18 #[.int .u64 b] w fun e w' => e = .returned (.int .i64 (clsW b)) ∧ w = w' := by
  have hFl := fun w => r6fields_any hb w
  have h1 := ef_bd b
  have h2 := fr_bd b
  have hc : clsW b = if ef b = 2047 then (if fr b = 0 then 3 else 4) else if ef b = 0 then (if fr b = 0 then 0 else 1) else 2 := rfl
  generalize clsW b = c at *
  generalize decide (9223372036854775808 ≤ b) = s at *
  generalize ef b = E at *
  generalize fr b = F at *
  by_cases e : E = 2047
  · rw [if_pos e] at hc
    have q : (E == 2047) = true := beq_of e
    by_cases f : F = 0
    · rw [if_pos f] at hc
      have k : (F != 0) = false := bne_of f
      subst hc
      clear e f
      go_enter Try.func18, Try.ntmps18
      go_wp2_with ((go_at_call 39; refine (hFl _).mono ?_; rintro e w' ⟨rfl, rfl⟩))
      go_ret
      exact ⟨rfl, rfl⟩
    · rw [if_neg f] at hc
      have k : (F != 0) = true := bne_yes f
      subst hc
      clear e f
      go_enter Try.func18, Try.ntmps18
      go_wp2_with ((go_at_call 39; refine (hFl _).mono ?_; rintro e w' ⟨rfl, rfl⟩))
      go_ret
      exact ⟨rfl, rfl⟩
  · rw [if_neg e] at hc
    have q : (E == 2047) = false := beq_no e
    by_cases e0 : E = 0
    · rw [if_pos e0] at hc
      by_cases f : F = 0
      · rw [if_pos f] at hc
        subst hc
        clear e
        go_enter Try.func18, Try.ntmps18
        go_wp2_with ((go_at_call 39; refine (hFl _).mono ?_; rintro e w' ⟨rfl, rfl⟩))
        go_ret
        exact ⟨rfl, rfl⟩
      · rw [if_neg f] at hc
        subst hc
        clear e
        go_enter Try.func18, Try.ntmps18
        go_wp2_with ((go_at_call 39; refine (hFl _).mono ?_; rintro e w' ⟨rfl, rfl⟩))
        go_ret
        exact ⟨rfl, rfl⟩
    · rw [if_neg e0] at hc
      subst hc
      clear e
      go_enter Try.func18, Try.ntmps18
      go_wp2_with ((go_at_call 39; refine (hFl _).mono ?_; rintro e w' ⟨rfl, rfl⟩))
      go_ret
      exact ⟨rfl, rfl⟩
theorem r6Neg_any {b : Int} (hb : U b) (w : World) :
    Calls Try.prog 19 #[.int .u64 b] w fun e w' => e = .returned (.int .u64 (negW b)) ∧ w = w' := by
  have hu := hb
  unfold U at hu
  by_cases h : b < 9223372036854775808
  · have E : negW b = b + 9223372036854775808 := by unfold negW; rw [if_pos h]
    rw [E]
    clear E
    go_enter Try.func19, Try.ntmps19
    go_wp2
    go_ret
    exact ⟨rfl, rfl⟩
  · have E : negW b = b - 9223372036854775808 := by unfold negW; rw [if_neg h]
    rw [E]
    clear E
    go_enter Try.func19, Try.ntmps19
    go_wp2
    go_ret
    exact ⟨rfl, rfl⟩
theorem r6Split_any {b : Int} (hb : U b) (w : World) :
    Calls Try.prog 17 #[.int .u64 b] w fun e w' => e = .returned (.tuple #[.bool (spS b), .int .u64 (spM b), .int .i64 (spX b), .int .i64 (fiE b)]) ∧ w = w' := by
  have hFl := fun w => r6fields_any hb w
  have h1 := ef_bd b
  have h2 := fr_bd b
  unfold spS spM spX fiE
  generalize decide (9223372036854775808 ≤ b) = s at *
  generalize ef b = E at *
  generalize fr b = F at *
  by_cases e : E = 2047
  · simp only [if_pos e]
    have q : (E == 2047) = true := beq_of e
    clear e
    go_enter Try.func17, Try.ntmps17
    go_wp2_with ((go_at_call 39; refine (hFl _).mono ?_; rintro e w' ⟨rfl, rfl⟩))
    ((try simp only [Exit.inBlock, Exit.then]); refine bodyPost_ret (results_tmp4 rfl _ _ _) rfl ?_)
    exact ⟨rfl, rfl⟩
  · simp only [if_neg e]
    have q : (E == 2047) = false := beq_no e
    by_cases e0 : E = 0
    · simp only [if_pos e0]
      have k : (E == 0) = true := beq_of e0
      clear e e0
      go_enter Try.func17, Try.ntmps17
      go_wp2_with ((go_at_call 39; refine (hFl _).mono ?_; rintro e w' ⟨rfl, rfl⟩))
      ((try simp only [Exit.inBlock, Exit.then]); refine bodyPost_ret (results_tmp4 rfl _ _ _) rfl ?_)
      exact ⟨rfl, rfl⟩
    · simp only [if_neg e0]
      have k : (E == 0) = false := beq_no e0
      clear e e0
      go_enter Try.func17, Try.ntmps17
      go_wp2_with ((go_at_call 39; refine (hFl _).mono ?_; rintro e w' ⟨rfl, rfl⟩))
      ((try simp only [Exit.inBlock, Exit.then]); refine bodyPost_ret (results_tmp4 rfl _ _ _) rfl ?_)
      exact ⟨rfl, rfl⟩
theorem r6Rank_any {b : Int} (hb : U b) (w : World) :
    Calls Try.prog 29 #[.int .u64 b] w fun e w' => e = .returned (.tuple #[.int .i64 (rkW b), .int .i64 (fiE b)]) ∧ w = w' := by
  have hF := fun w => r6Finite_any hb w
  have hu := hb
  unfold U at hu
  unfold rkW fiE rk0
  by_cases h : ef b = 2047
  · have q : (ef b != 2047) = false := bne_of h
    rw [q] at hF
    rw [if_pos h, if_pos h]
    clear h q
    go_enter Try.func29, Try.ntmps29
    go_wp2_with ((go_at_call 49; refine (hF _).mono ?_; rintro e w' ⟨rfl, rfl⟩))
    go_ret2
    exact ⟨rfl, rfl⟩
  · have q : (ef b != 2047) = true := bne_yes h
    rw [q] at hF
    rw [if_neg h, if_neg h]
    clear h q
    by_cases h : b < 9223372036854775808
    · rw [if_pos h]
      go_enter Try.func29, Try.ntmps29
      go_wp2_with ((go_at_call 49; refine (hF _).mono ?_; rintro e w' ⟨rfl, rfl⟩))
      go_ret2
      exact ⟨rfl, rfl⟩
    · rw [if_neg h]
      go_enter Try.func29, Try.ntmps29
      go_wp2_with ((go_at_call 49; refine (hF _).mono ?_; rintro e w' ⟨rfl, rfl⟩))
      go_ret2
      exact ⟨rfl, rfl⟩
theorem r6At_any (r : Int) (w : World) :
    Calls Try.prog 31 #[.int .i64 r] w fun e w' => e = .returned (.tuple #[.int .u64 (atW r), .int .i64 (atE r)]) ∧ w = w' := by
  rcases at_of r with ⟨h, e1, e2⟩ | ⟨h, e1, e2⟩ | ⟨h, h', e1, e2⟩ | ⟨h, h', e1, e2⟩
  · rw [e1, e2]
    clear e1 e2
    go_enter Try.func31, Try.ntmps31
    go_wp2
    go_ret2
    exact ⟨rfl, rfl⟩
  · rw [e1, e2]
    clear e1 e2
    go_enter Try.func31, Try.ntmps31
    go_wp2
    go_ret2
    exact ⟨rfl, rfl⟩
  · rw [e1, e2]
    clear e1 e2
    go_enter Try.func31, Try.ntmps31
    go_wp2
    go_ret2
    exact ⟨ret_two (by omega) rfl, rfl⟩
  · rw [e1, e2]
    clear e1 e2
    go_enter Try.func31, Try.ntmps31
    go_wp2
    go_ret2
    exact ⟨rfl, rfl⟩
theorem nx_of {b : Int} (hb : U b) : (ef b = 2047 ∧ nxW b = 0 ∧ nxE b = 60 ∧ fiE b = 60) ∨ (fiE b = 0 ∧ rkW b = 9218868437227405311 ∧ nxW b = 0 ∧ nxE b = 62) ∨ (fiE b = 0 ∧ rkW b = -1 ∧ nxW b = 9223372036854775808 ∧ nxE b = 0) ∨
    (fiE b = 0 ∧ rkW b ≠ 9218868437227405311 ∧ rkW b ≠ -1 ∧ nxW b = atW (rkW b + 1) ∧ nxE b = 0 ∧ atE (rkW b + 1) = 0 ∧ -9218868437227405311 ≤ rkW b ∧ rkW b ≤ 9218868437227405311) := by
  have h1 := rk0_mg hb
  have hm := mg_bd b
  by_cases h : ef b = 2047
  · left
    unfold nxW nxE fiE
    simp only [if_pos h]
    exact ⟨h, trivial, trivial, trivial⟩
  · right
    have h2 := fin_yes h
    have hr : rkW b = rk0 b := by unfold rkW; rw [if_neg h]
    have hf : fiE b = 0 := by unfold fiE; rw [if_neg h]
    rw [hr, hf]
    unfold nxW nxE
    simp only [if_neg h]
    by_cases k : b = 9218868437227405311
    · left
      simp only [if_pos k]
      refine ⟨trivial, ?_, trivial, trivial⟩
      unfold rk0; rw [if_pos (by omega)]; exact k
    · right
      simp only [if_neg k]
      by_cases n : rk0 b = -1
      · left
        refine ⟨trivial, n, ?_, trivial⟩
        split
        · omega
        · split <;> omega
      · right
        have ha := at_of (rk0 b + 1)
        refine ⟨trivial, by omega, n, ?_, trivial, by omega, by omega, by omega⟩
        split
        · omega
        · split <;> omega
theorem r6Next_any {b : Int} (hb : U b) (w : World) :
    Calls Try.prog 26 #[.int .u64 b] w fun e w' => e = .returned (.tuple #[.int .u64 (nxW b), .int .i64 (nxE b)]) ∧ w = w' := by
  have hR := fun w => r6Rank_any hb w
  rcases nx_of hb with ⟨h, e1, e2, e3⟩ | ⟨e3, hr, e1, e2⟩ | ⟨e3, hr, e1, e2⟩ | ⟨e3, k1, k2, e1, e2, e4, b1, b2⟩
  · rw [e3] at hR
    rw [e1, e2]
    clear e1 e2 e3 h
    generalize rkW b = r at *
    go_enter Try.func26, Try.ntmps26
    go_wp2_with ((go_at_call 29; refine (hR _).mono ?_; rintro e w' ⟨rfl, rfl⟩))
    go_ret2
    exact ⟨rfl, rfl⟩
  · rw [e3, hr] at hR
    rw [e1, e2]
    clear e1 e2 e3 hr
    go_enter Try.func26, Try.ntmps26
    go_wp2_with ((go_at_call 29; refine (hR _).mono ?_; rintro e w' ⟨rfl, rfl⟩))
    go_ret2
    exact ⟨rfl, rfl⟩
  · rw [e3, hr] at hR
    rw [e1, e2]
    clear e1 e2 e3 hr
    go_enter Try.func26, Try.ntmps26
    go_wp2_with ((go_at_call 29; refine (hR _).mono ?_; rintro e w' ⟨rfl, rfl⟩))
    go_ret2
    exact ⟨rfl, rfl⟩
  · rw [e3] at hR
    rw [e1, e2]
    have q1 : (rkW b == 9218868437227405311) = false := beq_no k1
    have q2 : (rkW b == -1) = false := beq_no k2
    have hA := fun w => r6At_any (rkW b + 1) w
    rw [e4] at hA
    clear e1 e2 e3 e4 k1 k2
    generalize rkW b = r at *
    go_enter Try.func26, Try.ntmps26
    go_wp2_with (first | (go_at_call 29; refine (hR _).mono ?_; rintro e w' ⟨rfl, rfl⟩) | (go_at_call 31; refine (hA _).mono ?_; rintro e w' ⟨rfl, rfl⟩))
    go_ret2
    exact ⟨rfl, rfl⟩
theorem r6Prev_any {b : Int} (hb : U b) (w : World) :
    Calls Try.prog 27 #[.int .u64 b] w fun e w' => e = .returned (.tuple #[.int .u64 (pvW b), .int .i64 (nxE (negW b))]) ∧ w = w' := by
  have hn := U_negW hb
  have hx := U_nxW hn
  have hN := fun w => r6Next_any hn w
  have h1 := fun w => r6Neg_any hb w
  have h2 := fun w => r6Neg_any hx w
  by_cases h : nxE (negW b) = 0
  · have E : Hid (negW (nxW (negW b)) = pvW b) := by rw [Hid]; unfold pvW; rw [if_pos h]
    rw [h] at hN ⊢
    clear h
    go_enter Try.func27, Try.ntmps27
    go_wp2_with fail
    refine (h1 _).mono ?_
    rintro e w' ⟨rfl, rfl⟩
    go_wp2_with fail
    refine (hN _).mono ?_
    rintro e w' ⟨rfl, rfl⟩
    go_wp2_with fail
    refine (h2 _).mono ?_
    rintro e w' ⟨rfl, rfl⟩
    go_wp2_with fail
    go_ret2
    exact ⟨ret_two E.out rfl, rfl⟩
  · have E : Hid (0 = pvW b) := by rw [Hid]; unfold pvW; rw [if_neg h]
    have q : (nxE (negW b) != 0) = true := bne_yes h
    clear h
    go_enter Try.func27, Try.ntmps27
    go_wp2_with fail
    refine (h1 _).mono ?_
    rintro e w' ⟨rfl, rfl⟩
    go_wp2_with fail
    refine (hN _).mono ?_
    rintro e w' ⟨rfl, rfl⟩
    go_wp2_with fail
    go_ret2
    exact ⟨ret_two E.out rfl, rfl⟩
theorem r6Cmp_any {a b : Int} (ha : U a) (hb : U b) (w : World) :
    Calls Try.prog 28 #[.int .u64 a, .int .u64 b] w fun e w' => e = .returned (.tuple #[.int .i64 (cmW a b), .int .i64 (cmE a b)]) ∧ w = w' := by
  have hR := fun w => r6Rank_any ha w
  have hS := fun w => r6Rank_any hb w
  have hc : ∀ a b : Int, cmW a b = (if ef a = 2047 then 0 else if ef b = 2047 then 0 else ord (rkW a) (rkW b)) := by
    intro a b
    unfold cmW rkW
    split
    · rfl
    · split <;> rfl
  rw [hc]
  unfold cmE
  clear hc
  by_cases h : ef a = 2047
  · have q : fiE a = 60 := by unfold fiE; rw [if_pos h]
    have q' : (fiE b != 0) = true ∨ (fiE b != 0) = false := by cases (fiE b != 0) <;> simp
    rw [q] at hR
    rw [if_pos h, if_pos h]
    clear h q
    generalize rkW a = r at *
    generalize rkW b = s at *
    generalize fiE b = f at *
    rcases q' with q' | q'
    all_goals
      go_enter Try.func28, Try.ntmps28
      go_wp2_with fail
      refine (hR _).mono ?_
      rintro e w' ⟨rfl, rfl⟩
      go_wp2_with fail
      refine (hS _).mono ?_
      rintro e w' ⟨rfl, rfl⟩
      go_wp2_with fail
      go_ret2
      exact ⟨rfl, rfl⟩
  · have q : fiE a = 0 := by unfold fiE; rw [if_neg h]
    rw [q] at hR
    rw [if_neg h, if_neg h]
    clear h q
    by_cases h : ef b = 2047
    · have q : fiE b = 60 := by unfold fiE; rw [if_pos h]
      rw [q] at hS
      rw [if_pos h, if_pos h]
      clear h q
      generalize rkW a = r at *
      generalize rkW b = s at *
      go_enter Try.func28, Try.ntmps28
      go_wp2_with fail
      refine (hR _).mono ?_
      rintro e w' ⟨rfl, rfl⟩
      go_wp2_with fail
      refine (hS _).mono ?_
      rintro e w' ⟨rfl, rfl⟩
      go_wp2_with fail
      go_ret2
      exact ⟨rfl, rfl⟩
    · have q : fiE b = 0 := by unfold fiE; rw [if_neg h]
      rw [q] at hS
      rw [if_neg h, if_neg h]
      clear h q
      generalize rkW a = r at *
      generalize rkW b = s at *
      rcases ord_cases r s with ⟨h, E0⟩ | ⟨h, E0⟩ | ⟨h, E0⟩
      all_goals
        rw [E0]
        clear E0
        go_enter Try.func28, Try.ntmps28
        go_wp2_with fail
        refine (hR _).mono ?_
        rintro e w' ⟨rfl, rfl⟩
        go_wp2_with fail
        refine (hS _).mono ?_
        rintro e w' ⟨rfl, rfl⟩
        go_wp2_with fail
        go_ret2
        exact ⟨rfl, rfl⟩

end Go.Proofs.Yteohdooeinogoab
