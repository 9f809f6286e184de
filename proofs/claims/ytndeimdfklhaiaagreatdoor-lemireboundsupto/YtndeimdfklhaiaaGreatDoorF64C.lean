/- package f64: Join. -/
import Derived.Test.YtndeimdfklhaiaaGreatDoorF64B
namespace Go.Proofs.YtndeimdfklhaiaaGreatDoor
open Go.ChangeShapes Go.WideShapes Go.ChangeAt Go.RowKit
open Ar
set_option linter.unusedVariables false

/-- what comes of the shifts -/
def JoinGo (s : Bool) (m x A M2 : Int) (L : Bool) : Prop :=
  (L = true ∧ JoinIs s m x 0 61) ∨ (L = false ∧ 971 < A ∧ JoinIs s m x 0 61) ∨ (L = false ∧ A ≤ 971 ∧ 0 < M2 ∧ M2 < 9007199254740992 ∧ JoinIs s m x (sgB s + ((A + 1074) * 4503599627370496 + M2)) 0)
theorem join_shifts {s : Bool} {m x A : Int} (hm : U m) (h0 : m ≠ 0) (h1 : -1137 ≤ x) (h2 : x ≤ 1023) (hA : A = atX m x) :
    ∃ H1 M1 H2 M2 : Int, ∃ L : Bool, (∀ (n : Int) (w : World), n = x - A → Calls Tryz.prog 66 #[.int .u64 0, .int .u64 m, .int .i64 n] w fun e w' => e = .returned (.tuple #[.int .u64 H1, .int .u64 M1]) ∧ Gr w w') ∧
      (∀ (n : Int) (w : World), n = A - x → Calls Tryz.prog 56 #[.int .u64 0, .int .u64 M1, .int .i64 n] w fun e w' => e = .returned (.tuple #[.int .u64 H2, .int .u64 M2, .bool L]) ∧ Gr w w') ∧ JoinGo s m x A M2 L := by
  obtain ⟨b1, b2, b3, b4, b5, b6⟩ := at_near hm h0 h1 h2
  rw [← hA] at b1 b2 b3 b4
  have hmp : 0 < m := by unfold U at hm; omega
  by_cases hx : A ≤ x
  · have nf := nf_up (x := x) hm h0 (by rw [← hA]; exact hx)
    rw [← hA] at nf
    obtain ⟨_, _, p1, p2, _⟩ := nf
    have nf := nf_up (x := x) hm h0 (by rw [← hA]; exact hx)
    have hM : U (m * e2 (x - A)) := by unfold U; omega
    have e1 := shl_some (m := m) (n := x - A) (by omega) (by omega) (by omega) p2
    obtain ⟨e2', e3⟩ := shr_none (n := A - x) hM (by omega)
    refine ⟨shHi 0 m (clampN (x - A)), m * e2 (x - A), srHi 0 (m * e2 (x - A)) (clampN (A - x)), m * e2 (x - A), false, ?_, ?_, ?_⟩
    · rintro n w rfl
      have h := shl_any U_zero hm (x - A) w
      rw [e1] at h
      exact h
    · rintro n w rfl
      have h := shr_any U_zero hM (A - x) w
      rw [e2', e3] at h
      exact h
    · right
      by_cases hb : 971 < A
      · exact Or.inl ⟨rfl, hb, join_big hm h0 (by rw [← hA]; exact hb)⟩
      · refine Or.inr ⟨rfl, by omega, p1, p2, ?_⟩
        have := join_ok (s := s) h0 nf (by rw [← hA]; omega)
        rw [← hA, Int.add_assoc] at this
        exact this
  · have e1 := shl_none (n := x - A) hm (by omega)
    obtain ⟨e2', e3⟩ := shr_some (n := A - x) hm (by omega) (by omega)
    refine ⟨shHi 0 m (clampN (x - A)), m, srHi 0 m (clampN (A - x)), m / e2 (A - x), decide (m % e2 (A - x) ≠ 0), ?_, ?_, ?_⟩
    · rintro n w rfl
      have h := shl_any U_zero hm (x - A) w
      rw [e1] at h
      exact h
    · rintro n w rfl
      have h := shr_any U_zero hm (A - x) w
      rw [e2', e3] at h
      exact h
    · by_cases hl : m % e2 (A - x) = 0
      · have hd : decide (m % e2 (A - x) ≠ 0) = false := by simpa using hl
        have nf := nf_down (x := x) hm h0 (by omega) (by rw [← hA]; exact hl)
        right
        by_cases hb : 971 < A
        · exact Or.inl ⟨hd, hb, join_big hm h0 (by rw [← hA]; exact hb)⟩
        · have := join_ok (s := s) h0 nf (by rw [← hA]; omega)
          rw [← hA, Int.add_assoc] at this
          rw [← hA] at nf
          obtain ⟨_, _, p1, p2, _⟩ := nf
          exact Or.inr ⟨hd, by omega, p1, p2, this⟩
      · left
        exact ⟨by simpa using hl, join_lost hm h0 (by omega) (by rw [← hA]; exact hl)⟩
theorem f6Join_go {s : Bool} {m x A H1 M1 H2 M2 : Int} {L : Bool} (hm : U m) (z : (m == 0) = false) (h1 : -1137 ≤ x) (h2 : x ≤ 1023) (b5 : 1 ≤ lenW m) (b6 : lenW m ≤ 64)
    (hA : (A = -1074 ∧ x + lenW m - 53 < -1074) ∨ (A = x + lenW m - 53 ∧ -1074 ≤ x + lenW m - 53))
    (hl : ∀ (n : Int) (w : World), n = x - A → Calls Tryz.prog 66 #[.int .u64 0, .int .u64 m, .int .i64 n] w fun e w' => e = .returned (.tuple #[.int .u64 H1, .int .u64 M1]) ∧ Gr w w')
    (hr : ∀ (n : Int) (w : World), n = A - x → Calls Tryz.prog 56 #[.int .u64 0, .int .u64 M1, .int .i64 n] w fun e w' => e = .returned (.tuple #[.int .u64 H2, .int .u64 M2, .bool L]) ∧ Gr w w')
    (hJ : JoinGo s m x A M2 L) (w : World) :
    Calls Tryz.prog 30 #[.bool s, .int .u64 m, .int .i64 x] w fun e w' => ∃ b c, e = .returned (.tuple #[.int .u64 b, .int .i64 c]) ∧ Gr w w' ∧ JoinIs s m x b c := by
  have hL := fun w => len_any hm w
  generalize lenW m = n at *
  rcases hJ with ⟨rfl, J⟩ | ⟨rfl, hb, J⟩ | ⟨rfl, hb, p1, p2, J⟩
  · rcases hA with ⟨rfl, hA⟩ | ⟨rfl, hA⟩
    all_goals
      go_enter Tryz.func30, Tryz.ntmps30
      go_wp2_with (first | (go_at_call 55; refine (hL _).mono ?_; rintro e w' ⟨rfl, rfl⟩) | (go_at_call 66; refine (hl _ _ (by omega)).mono ?_; rintro e w1 ⟨rfl, hg1⟩) | (go_at_call 56; refine (hr _ _ (by omega)).mono ?_; rintro e w2 ⟨rfl, hg2⟩))
      go_ret2
      exact ⟨_, _, rfl, gr_trans hg1 hg2, J⟩
  · rcases hA with ⟨rfl, hA⟩ | ⟨rfl, hA⟩
    · omega
    · go_enter Tryz.func30, Tryz.ntmps30
      go_wp2_with (first | (go_at_call 55; refine (hL _).mono ?_; rintro e w' ⟨rfl, rfl⟩) | (go_at_call 66; refine (hl _ _ (by omega)).mono ?_; rintro e w1 ⟨rfl, hg1⟩) | (go_at_call 56; refine (hr _ _ (by omega)).mono ?_; rintro e w2 ⟨rfl, hg2⟩))
      go_ret2
      exact ⟨_, _, rfl, gr_trans hg1 hg2, J⟩
  · have J' : ∀ y : Int, y = (A + 1074) * 4503599627370496 + M2 → JoinIs s m x (sgB s + y) 0 := fun y h => by rw [h]; exact J
    clear J
    have hS := fun (v : Int) (w : World) (h : v = (A + 1074) * 4503599627370496 + M2) => f6signed_any (s := s) (b := v) (by omega) (by omega) w
    rcases hA with ⟨rfl, hA⟩ | ⟨rfl, hA⟩
    all_goals
      go_enter Tryz.func30, Tryz.ntmps30
      go_wp2_with (first | (go_at_call 55; refine (hL _).mono ?_; rintro e w' ⟨rfl, rfl⟩) | (go_at_call 66; refine (hl _ _ (by omega)).mono ?_; rintro e w1 ⟨rfl, hg1⟩) | (go_at_call 56; refine (hr _ _ (by omega)).mono ?_; rintro e w2 ⟨rfl, hg2⟩))
      refine (hS _ _ ?_).mono ?_
      · omega
      rintro e w3 ⟨rfl, rfl⟩
      go_wp2_with fail
      go_ret2
      exact ⟨_, _, rfl, gr_trans hg1 hg2, J' _ (by omega)⟩
theorem f6Join_any (s : Bool) {m : Int} (x : Int) (hm : U m) (w : World) :
    Calls Tryz.prog 30 #[.bool s, .int .u64 m, .int .i64 x] w fun e w' => ∃ b c, e = .returned (.tuple #[.int .u64 b, .int .i64 c]) ∧ Gr w w' ∧ JoinIs s m x b c := by
  by_cases h0 : m = 0
  · subst h0
    have hS := fun (w : World) => f6signed_any (s := s) (b := 0) (by omega) (by omega) w
    rw [Int.add_zero] at hS
    go_enter Tryz.func30, Tryz.ntmps30
    go_wp2_with (go_at_call 65; refine (hS _).mono ?_; rintro e w' ⟨rfl, rfl⟩)
    go_ret2
    exact ⟨_, _, rfl, gr_refl _, Or.inl ⟨rfl, rfl, rfl⟩⟩
  · have z : (m == 0) = false := beq_no h0
    by_cases h1 : x < -1137
    · have J := join_far (s := s) hm h0 (Or.inl h1)
      go_enter Tryz.func30, Tryz.ntmps30
      go_wp2_with fail
      go_ret2
      exact ⟨_, _, rfl, gr_refl _, J⟩
    · by_cases h2 : 1023 < x
      · have J := join_far (s := s) hm h0 (Or.inr h2)
        go_enter Tryz.func30, Tryz.ntmps30
        go_wp2_with fail
        go_ret2
        exact ⟨_, _, rfl, gr_refl _, J⟩
      · obtain ⟨H1, M1, H2, M2, L, hl, hr, hJ⟩ := join_shifts (s := s) hm h0 (by omega) (by omega) (rfl : atX m x = atX m x)
        obtain ⟨_, _, _, _, b5, b6⟩ := at_near hm h0 (x := x) (by omega) (by omega)
        refine f6Join_go hm z (by omega) (by omega) b5 b6 ?_ hl hr hJ w
        unfold atX
        omega
end Go.Proofs.YtndeimdfklhaiaaGreatDoor
