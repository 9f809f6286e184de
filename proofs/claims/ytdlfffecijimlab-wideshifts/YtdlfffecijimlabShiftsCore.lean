/- WideShifts: the walk, over whatever the calls answer. -/
import Derived.Test.YtdlfffecijimlabShifts
namespace Go.Proofs.Ytdlfffecijimlab
open Go.ChangeShapes Go.WideShapes Go.ChangeAt Go.RowKit
open Ar
set_option linter.unusedVariables false

theorem lawHeld_any (n : Int) (w : World) :
    Calls Try.prog 16 #[.int .i64 n] w fun e w' => e = .returned (.int .i64 (clampN n)) ∧ w = w' := by
  by_cases h0 : n < 0
  · have e : clampN n = 0 := by unfold clampN; rw [if_pos (by omega)]
    rw [e]
    go_enter Try.func16, Try.ntmps16
    go_wp2
    go_ret
    exact ⟨rfl, rfl⟩
  · by_cases h1 : 128 < n
    · have e : clampN n = 128 := by unfold clampN; rw [if_neg (by omega), if_pos (by omega)]
      rw [e]
      go_enter Try.func16, Try.ntmps16
      go_wp2
      go_ret
      exact ⟨rfl, rfl⟩
    · have e : (clampN n : Int) = n := by
        unfold clampN; split
        · omega
        · split <;> omega
      rw [e]
      go_enter Try.func16, Try.ntmps16
      go_wp2
      go_ret
      exact ⟨rfl, rfl⟩
set_option maxRecDepth 100000 in
set_option maxHeartbeats 8000000 in
theorem shifts_core {a0 a1 a2 A B C D K K' P Q u v R V h l x1 x2 x3 x4 x5 : Int} {L G Y : Bool} {k : Nat} (hk : k ≤ 128) (hh : ∀ w, Calls Try.prog 16 #[.int .i64 a2] w fun e w' => e = .returned (.int .i64 k) ∧ w = w')
    (s1 : ∀ w, Calls Try.prog 17 #[.int .u64 a0, .int .u64 a1, .int .i64 k] w fun e w' => e = .returned (.tuple #[.int .u64 A, .int .u64 B]) ∧ Gr w w')
    (s2 : ∀ w, Calls Try.prog 17 #[.int .u64 A, .int .u64 B, .int .i64 1] w fun e w' => e = .returned (.tuple #[.int .u64 C, .int .u64 D]) ∧ Gr w w')
    (s3 : ∀ w, Calls Try.prog 17 #[.int .u64 a0, .int .u64 a1, .int .i64 (k + 1)] w fun e w' => e = .returned (.tuple #[.int .u64 C, .int .u64 D]) ∧ Gr w w')
    (s4 : ∀ w, Calls Try.prog 12 #[.int .u64 B, .int .u64 B, .int .u64 0] w fun e w' => e = .returned (.tuple #[.int .u64 D, .int .u64 K]) ∧ Gr w w')
    (s5 : ∀ w, Calls Try.prog 12 #[.int .u64 A, .int .u64 A, .int .u64 K] w fun e w' => e = .returned (.tuple #[.int .u64 C, .int .u64 K']) ∧ Gr w w')
    (s6 : ∀ w, Calls Try.prog 18 #[.int .u64 a0, .int .u64 a1, .int .i64 k] w fun e w' => e = .returned (.tuple #[.int .u64 P, .int .u64 Q, .bool L]) ∧ Gr w w')
    (s7 : ∀ w, Calls Try.prog 17 #[.int .u64 P, .int .u64 Q, .int .i64 k] w fun e w' => e = .returned (.tuple #[.int .u64 u, .int .u64 v]) ∧ Gr w w')
    (s8 : ∀ w, Calls Try.prog 18 #[.int .u64 P, .int .u64 Q, .int .i64 1] w fun e w' => e = .returned (.tuple #[.int .u64 R, .int .u64 V, .bool G]) ∧ Gr w w')
    (s9 : ∀ w, Calls Try.prog 18 #[.int .u64 a0, .int .u64 a1, .int .i64 (k + 1)] w fun e w' => e = .returned (.tuple #[.int .u64 R, .int .u64 V, .bool Y]) ∧ Gr w w')
    (s0 : ∀ w, Calls Try.prog 17 #[.int .u64 0, .int .u64 1, .int .i64 k] w fun e w' => e = .returned (.tuple #[.int .u64 h, .int .u64 l]) ∧ Gr w w')
    (l1 : ∀ w, Calls Try.prog 19 #[.int .u64 (IntKind.u64.wrap (2 ^ (k % 64)))] w fun e w' => e = .returned (.int .i64 x1) ∧ Gr w w') (l2 : ∀ w, Calls Try.prog 20 #[.int .u64 (IntKind.u64.wrap (2 ^ (k % 64)))] w fun e w' => e = .returned (.int .i64 x2) ∧ Gr w w')
    (l3 : ∀ w, Calls Try.prog 19 #[.int .u64 (IntKind.u64.wrap ((IntKind.u64.wrap (2 ^ (k % 64))) - 1))] w fun e w' => e = .returned (.int .i64 x3) ∧ Gr w w')
    (l4 : ∀ w, Calls Try.prog 19 #[.int .u64 0] w fun e w' => e = .returned (.int .i64 x4) ∧ Gr w w') (l5 : ∀ w, Calls Try.prog 20 #[.int .u64 0] w fun e w' => e = .returned (.int .i64 x5) ∧ Gr w w')
    (y1 : (x1 == (k : Int) % 64 + 1) = true) (y2 : (x2 == (k : Int) % 64) = true) (y3 : (x3 == (k : Int) % 64) = true) (y4 : (x4 == 0) = true) (y5 : (x5 == 64) = true)
    (dL : Hid ((L = false ∧ (u == a0) = true ∧ (v == a1) = true) ∨ (L = true ∧ (u == a0) = false) ∨ (L = true ∧ (u == a0) = true ∧ (v == a1) = false)))
    (dG : Hid ((G = false ∧ Y = L ∧ (bits .and .u64 Q 1 == 1) = false) ∨ (G = true ∧ Y = true ∧ (bits .and .u64 Q 1 == 1) = true)))
    (dk : Hid ((k < 64 ∧ (h != 0) = false ∧ (l != (IntKind.u64.wrap (2 ^ (k % 64)))) = false) ∨ (64 ≤ k ∧ k < 128 ∧ (h != (IntKind.u64.wrap (2 ^ (k % 64)))) = false ∧ (l != 0) = false) ∨ (128 ≤ k ∧ (h != 0) = false ∧ (l != 0) = false ∧ (x1 == 1) = true ∧ (x2 == 0) = true ∧ (x3 == 0) = true)))
    (w : World) : Calls Try.prog 6 #[.int .u64 a0, .int .u64 a1, .int .i64 a2] w fun e w' => e = .returned (.bool true) ∧ Gr w w' := by
  go_enter Try.func6, Try.ntmps6
  go_wp2_with fail
  refine (hh _).mono ?_
  rintro e w' ⟨rfl, rfl⟩
  go_wp2_with fail
  refine (s1 _).mono ?_
  rintro e w' ⟨rfl, hg⟩
  go_wp2_with fail
  refine (s2 _).mono ?_
  rintro e w' ⟨rfl, hg⟩
  go_wp2_with fail
  refine (s3 _).mono ?_
  rintro e w' ⟨rfl, hg⟩
  go_wp2_with fail
  refine (s4 _).mono ?_
  rintro e w' ⟨rfl, hg⟩
  go_wp2_with fail
  refine (s5 _).mono ?_
  rintro e w' ⟨rfl, hg⟩
  go_wp2_with fail
  refine (s6 _).mono ?_
  rintro e w' ⟨rfl, hg⟩
  go_wp2_with fail
  refine (s7 _).mono ?_
  rintro e w' ⟨rfl, hg⟩
  rcases dL.out with ⟨rfl, t1, t2⟩ | ⟨rfl, t1⟩ | ⟨rfl, t1, t2⟩
  all_goals clear dL
  all_goals go_wp2_with fail
  all_goals rcases dG.out with ⟨rfl, rfl, t3⟩ | ⟨rfl, rfl, t3⟩
  all_goals clear dG
  all_goals
    refine (s8 _).mono ?_
    rintro e w' ⟨rfl, hg⟩
    go_wp2_with fail
    refine (s9 _).mono ?_
    rintro e w' ⟨rfl, hg⟩
    go_wp2_with fail
  all_goals
    refine (s0 _).mono ?_
    rintro e w' ⟨rfl, hg⟩
  all_goals rcases dk.out with ⟨k1, k2, k3⟩ | ⟨k1, k1', k2, k3⟩ | ⟨k1, k2, k3, k4, k5, k6⟩
  all_goals clear dk
  all_goals go_wp2_with fail
  all_goals
    refine (l1 _).mono ?_
    rintro e w' ⟨rfl, hg⟩
    go_wp2_with fail
    refine (l2 _).mono ?_
    rintro e w' ⟨rfl, hg⟩
    go_wp2_with fail
    refine (l3 _).mono ?_
    rintro e w' ⟨rfl, hg⟩
    go_wp2_with fail
    refine (l4 _).mono ?_
    rintro e w' ⟨rfl, hg⟩
    go_wp2_with fail
    refine (l5 _).mono ?_
    rintro e w' ⟨rfl, hg⟩
    go_wp2
    go_ret
    exact ⟨rfl, by repeat (first | assumption | exact gr_refl _ | refine gr_trans (by assumption) ?_)⟩
end Go.Proofs.Ytdlfffecijimlab
