/- plumbref06: Join. -/
import Derived.Test.YteohdooeinogoaaF64D
namespace Go.Proofs.Yteohdooeinogoaa
open Go.ChangeShapes Go.WideShapes Go.ChangeAt Go.RowKit
open Ar
set_option linter.unusedVariables false

theorem sg_t : sg true = 9223372036854775808 := rfl
theorem sg_f : sg false = 0 := rfl
set_option maxHeartbeats 1000000 in
theorem r6Join_go (s : Bool) {m : Int} (x : Int) (hm : U m) (h0 : m ≠ 0) (h1 : -1200 ≤ x) (h2 : x ≤ 1200) (w : World) :
    Calls Try.prog 21 #[.bool s, .int .u64 m, .int .i64 x] w fun e w' => ∃ b c, e = .returned (.tuple #[.int .u64 b, .int .i64 c]) ∧ w = w' ∧ JoinIs s m x b c := by
  have z : (m == 0) = false := beq_no h0
  cases s
  case' false => have hs := sg_f
  case' true => have hs := sg_t
  all_goals
    have hs' : Hid (sg _ = _) := hs
    clear hs
    go_enter Try.func21, Try.ntmps21
    go_wp2_with fail
    go_loop [1, 2] (fun v u => ∃ M X : Int, v = .int .u64 M ∧ u = .int .i64 X ∧ Jh m x M X) (fun v _ => (intOf v).toNat)
    case atStart => exact ⟨m, x, rfl, rfl, jh_start hm h0⟩
    case round =>
      obtain ⟨M, X, rfl, rfl, hr⟩ := hrel
      obtain ⟨r1, r2, r3, r4, r5⟩ := hr
      by_cases q : M % 2 = 0
      · have hn := jh_step hm ⟨r1, r2, r3, r4, r5⟩ q
        have q' : (M % 2 == 0) = true := beq_of q
        clear r1
        unfold U at r4
        go_wp2_with fail
        go_round
        case rel => exact ⟨_, _, rfl, rfl, hn⟩
        case measure => simp [intOf]; omega
      · have q' : (M % 2 == 0) = false := beq_no q
        have q2 : M % 2 = 1 := by omega
        unfold U at r4
        by_cases f : X < -1074
        · have J := fun s => joinR_odd (s := s) h0 r1 q2 (Or.inl f)
          clear r1 q q2
          go_wp2_with fail
          go_ret2
          exact ⟨_, _, rfl, rfl, J _⟩
        · by_cases g : 9007199254740992 ≤ M
          · have J := fun s => joinR_odd (s := s) h0 r1 q2 (Or.inr g)
            clear r1 q q2
            go_wp2_with fail
            go_ret2
            exact ⟨_, _, rfl, rfl, J _⟩
          · have st : Jd m x M X := ⟨r1, by omega, r3, by omega, by omega⟩
            clear r1 q q2
            go_wp2_with fail
            go_loop [1, 2] (fun v u => ∃ M X : Int, v = .int .u64 M ∧ u = .int .i64 X ∧ Jd m x M X) (fun _ u => (intOf u + 1074).toNat)
            case atStart => exact ⟨M, X, rfl, rfl, st⟩
            case round =>
              clear st r2 r3 r4 r5 f g q'
              obtain ⟨M, X, rfl, rfl, hr⟩ := hrel
              by_cases t : -1074 < X ∧ M < 4503599627370496
              · have hn := jd_step hr t.1 t.2
                obtain ⟨_, a1, a2, a3, a4⟩ := hr
                obtain ⟨t1, t2⟩ := t
                go_wp2_with fail
                go_round
                case rel => exact ⟨_, _, rfl, rfl, hn⟩
                case measure => simp [intOf]; omega
              · have nf := jd_end hr (by omega)
                obtain ⟨_, a1, a2, a3, a4⟩ := hr
                by_cases u : M < 4503599627370496
                · have v : X = -1074 := by omega
                  subst v
                  clear t
                  go_wp2_with fail
                  go_ret2
                  exact ⟨_, _, rfl, rfl, joinR_ok h0 nf (by omega) (by rw [hs'.out]; omega)⟩
                · by_cases y : 971 < X
                  · have J := fun s => joinR_big (s := s) h0 nf y
                    clear t
                    go_wp2_with fail
                    go_ret2
                    exact ⟨_, _, rfl, rfl, J _⟩
                  · by_cases v : X = -1074
                    · subst v
                      clear t
                      go_wp2_with fail
                      go_ret2
                      exact ⟨_, _, rfl, rfl, joinR_ok h0 nf (by omega) (by rw [hs'.out]; omega)⟩
                    · have v' : -1074 < X := by omega
                      clear t v
                      go_wp2_with fail
                      go_ret2
                      exact ⟨_, _, rfl, rfl, joinR_ok h0 nf (by omega) (by rw [hs'.out]; omega)⟩
theorem r6Join_any (s : Bool) {m : Int} (x : Int) (hm : U m) (w : World) :
    Calls Try.prog 21 #[.bool s, .int .u64 m, .int .i64 x] w fun e w' => ∃ b c, e = .returned (.tuple #[.int .u64 b, .int .i64 c]) ∧ w = w' ∧ JoinIs s m x b c := by
  by_cases h0 : m = 0
  · subst h0
    cases s
    all_goals
      go_enter Try.func21, Try.ntmps21
      go_wp2_with fail
      go_ret2
      exact ⟨_, _, rfl, rfl, Or.inl ⟨rfl, rfl, rfl⟩⟩
  · have z : (m == 0) = false := beq_no h0
    by_cases h1 : x < -1200
    · have J := join_far (s := s) hm h0 (Or.inl (show x < -1137 by omega))
      cases s
      all_goals
        go_enter Try.func21, Try.ntmps21
        go_wp2_with fail
        go_ret2
        exact ⟨_, _, rfl, rfl, J⟩
    · by_cases h2 : 1200 < x
      · have J := join_far (s := s) hm h0 (Or.inr (show 1023 < x by omega))
        cases s
        all_goals
          go_enter Try.func21, Try.ntmps21
          go_wp2_with fail
          go_ret2
          exact ⟨_, _, rfl, rfl, J⟩
      · exact r6Join_go s x hm h0 (by omega) (by omega) w
end Go.Proofs.Yteohdooeinogoaa
