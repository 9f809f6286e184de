/- package lemire: rounding. -/
import Derived.Test.YtbbmoaipilmmdaaGreatDoorBaseK
import Derived.Test.YtbbmoaipilmmdaaGreatDoorBaseJ
import Derived.Test.YtbbmoaipilmmdaaGreatDoorBaseA
namespace Go.Proofs.YtbbmoaipilmmdaaGreatDoor
open Go.ChangeShapes Go.WideShapes Go.ChangeAt Go.RowKit
open Ar
set_option linter.unusedVariables false
namespace Ar
theorem raise_math {x : Int} (hx : U x) (h0 : x ≠ 0) : ∃ up : Nat, (64 : Int) - lenW x = up ∧ up ≤ 63 ∧ clampN (up : Int) = up ∧ shLo 0 x up = x * 2 ^ up ∧ 9223372036854775808 ≤ x * 2 ^ up ∧ x * 2 ^ up < 18446744073709551616 := by
  obtain ⟨k, k1, k2, k3, k4, k5⟩ := len_two hx
  have hx0 : 0 < x := by unfold U at hx; omega
  have hk : k ≠ 0 := by
    rintro rfl
    simp at k4
    omega
  have k6 : (2 : Int) ^ k ≤ 2 * x := by
    rcases k5 with ⟨h, _⟩ | h
    · exact absurd h hk
    · exact h
  have hp : (2 : Int) ^ k * 2 ^ (64 - k) = 18446744073709551616 := by rw [← Int.pow_add, show k + (64 - k) = 64 by omega]; rfl
  have hq := pow_pos (64 - k)
  have a1 : x * 2 ^ (64 - k) < 2 ^ k * 2 ^ (64 - k) := Int.mul_lt_mul_of_pos_right k4 hq
  have a2 : 2 ^ k * 2 ^ (64 - k) ≤ 2 * x * 2 ^ (64 - k) := Int.mul_le_mul_of_nonneg_right k6 (by omega)
  rw [hp] at a1 a2
  rw [Int.mul_assoc] at a2
  have hn : 0 ≤ x * 2 ^ (64 - k) := Int.mul_nonneg (by omega) (by omega)
  refine ⟨64 - k, by omega, by omega, ?_, ?_, by omega, a1⟩
  · unfold clampN
    by_cases h : k = 64
    · subst h; rfl
    · rw [if_neg (by omega), if_neg (by omega), Int.toNat_natCast]
  · unfold shLo
    rw [Int.zero_mul, Int.zero_add]
    exact Int.emod_eq_of_lt hn a1
end Ar
theorem raised_any {x : Int} (hx : U x) (h0 : x ≠ 0) (w : World) :
    Calls Tryz.prog 74 #[.int .u64 x] w fun e w' => ∃ up : Nat, e = .returned (.tuple #[.int .u64 (x * 2 ^ up), .int .i64 (up : Int)]) ∧ Gr w w' ∧ up ≤ 63 ∧ 9223372036854775808 ≤ x * 2 ^ up ∧ x * 2 ^ up < 18446744073709551616 := by
  obtain ⟨up, e1, e2, e3, e4, e5, e6⟩ := raise_math hx h0
  have hL := fun w => len_any hx w
  have hs := fun w => shl_any (a := 0) U_zero hx (up : Int) w
  rw [e3, e4] at hs
  have hb : 1 ≤ lenW x ∧ lenW x ≤ 64 := by omega
  refine Calls.mono (R := fun e w' => e = .returned (.tuple #[.int .u64 (x * 2 ^ up), .int .i64 (up : Int)]) ∧ Gr w w') ?_ (fun e w' h => ⟨up, h.1, h.2, e2, e5, e6⟩)
  generalize x * 2 ^ up = y at *
  generalize lenW x = L at *
  obtain ⟨b1, b2⟩ := hb
  clear e3 e4 e5 e6
  go_enter Tryz.func74, Tryz.ntmps74
  go_wp2_with (first | (go_at_call 56; refine (hL _).mono ?_; rintro e w' ⟨rfl, rfl⟩) | (go_at_call 68; refine (hs _).mono ?_; rintro e w' ⟨rfl, hg⟩))
  go_ret2
  exact ⟨rfl, hg⟩
theorem upward_any {k r : Int} (m : Bool) (hk : U k) (hr : U r) (w : World) :
    Calls Tryz.prog 99 #[.int .u64 k, .int .u64 r, .bool m] w fun e w' => e = .returned (.bool (upB k r m)) ∧ w = w' := by
  by_cases h : r = 9223372036854775808
  · cases m
    · have hu : upB k r false = (k % 2 == 1) := by
        unfold upB
        rw [if_pos ⟨h, rfl⟩]
        by_cases q : k % 2 = 1
        · rw [q]; rfl
        · rw [decide_eq_false q, beq_no q]
      rw [hu]
      have t : (r == 9223372036854775808) = true := beq_of h
      have h0 : 0 ≤ k := hk.1
      clear hu h hk hr
      go_enter Tryz.func99, Tryz.ntmps99
      go_wp2
      go_ret
      exact ⟨rfl, rfl⟩
    · have hu : upB k r true = true := by
        unfold upB
        rw [if_neg (by simp)]
        simp [h]
      rw [hu]
      subst h
      clear hu
      go_enter Tryz.func99, Tryz.ntmps99
      go_wp2
      go_ret
      exact ⟨rfl, rfl⟩
  · have hu : upB k r m = decide (9223372036854775808 ≤ r) := by
      unfold upB
      rw [if_neg (fun q => h q.1)]
    rw [hu]
    have t : (r == 9223372036854775808) = false := beq_no h
    clear hu h
    go_enter Tryz.func99, Tryz.ntmps99
    go_wp2
    go_ret
    exact ⟨rfl, rfl⟩
namespace Ar
theorem U_srHi0 {x : Int} (h0 : 9223372036854775808 ≤ x) (h1 : x < 18446744073709551616) {D : Int} (hD : 11 ≤ D) : 0 ≤ srHi x 0 (clampN D) ∧ srHi x 0 (clampN D) < 9007199254740992 := by
  rw [(lem_cut (m := 0) (more := false) h0 h1 hD).1]
  have h11 : e2 11 ≤ e2 D := e2_le hD
  have e : e2 11 = 2048 := rfl
  rw [e] at h11
  refine ⟨Int.ediv_nonneg (by omega) (by omega), ?_⟩
  apply Int.ediv_lt_of_lt_mul (by omega)
  omega
end Ar
set_option maxHeartbeats 1600000 in
theorem rounded_any {x exp : Int} (lost : Bool) (hx : U x) (h0 : x ≠ 0) (e0 : -100000 ≤ exp) (e1 : exp ≤ 100000) (w : World) :
    Calls Tryz.prog 58 #[.int .u64 x, .bool lost, .int .i64 exp] w fun e w' => ∃ b E, e = .returned (.tuple #[.int .u64 b, .int .i64 E]) ∧ RoundIs (scA x exp) (scB 1 exp) lost false 0 b E ∧ U b ∧ Gr w w' := by
  have hR := raised_any hx h0 w
  go_enter Tryz.func58, Tryz.ntmps58
  go_wp2_with fail
  refine hR.mono ?_
  rintro e w1 ⟨up, rfl, hg1, u1, u2, u3⟩
  clear hR
  have HM : Hid (∀ b E, RoundIs (scA (x * 2 ^ up) (exp - up)) (scB 1 (exp - up)) lost false 0 b E → RoundIs (scA x exp) (scB 1 exp) lost false 0 b E) := fun b E h => round_move.mp h
  generalize x * 2 ^ up = y at *
  obtain ⟨y2, hy2⟩ : ∃ y2, exp - (up : Int) = y2 := ⟨_, rfl⟩
  rw [hy2] at HM
  have b0 : -100063 ≤ y2 := by omega
  have b1 : y2 ≤ 100000 := by omega
  obtain ⟨X, hX⟩ : ∃ X, (if y2 + 64 - 53 < -1074 then -1074 else y2 + 64 - 53) = X := ⟨_, rfl⟩
  have hX2 : Hid (X = max (y2 + 11) (-1074)) := by show _ = _; rw [← hX]; split <;> omega
  have c0 : 11 ≤ X - y2 := by rw [hX2.out]; omega
  have c1 : -1074 ≤ X := by rw [hX2.out]; omega
  have c2 : X ≤ 100011 := by rw [hX2.out]; omega
  have uy : U y := by unfold U; omega
  have hS := fun w => shr_any (a := y) (b := 0) uy U_zero (X - y2) w
  obtain ⟨k0, k1⟩ := U_srHi0 u2 u3 c0
  have HL : Hid (∀ m b c, m = (if upB (srHi y 0 (clampN (X - y2))) (srLo y 0 (clampN (X - y2))) lost = true then srHi y 0 (clampN (X - y2)) + 1 else srHi y 0 (clampN (X - y2))) → JoinIs false m X b c → (c = 0 ∧ RoundIs (scA y y2) (scB 1 y2) lost false 0 b 0) ∨ (c = 61 ∧ RoundIs (scA y y2) (scB 1 y2) lost false 0 0 70)) := fun m b c hm hj => lem_rounded u2 u3 hX2.out rfl rfl hm hj
  have ur : U (srLo y 0 (clampN (X - y2))) := by unfold srLo U; omega
  generalize srHi y 0 (clampN (X - y2)) = kept at *
  generalize srLo y 0 (clampN (X - y2)) = rest at *
  generalize srLost y 0 (clampN (X - y2)) = lst at *
  have uk : U kept := by unfold U; omega
  have uk1 : U (kept + 1) := by unfold U; omega
  have hU := fun w => upward_any lost uk ur w
  have hJ0 := fun w => f6Join_any false X uk w
  have hJ1 := fun w => f6Join_any false X uk1 w
  generalize upB kept rest lost = g at *
  go_wp2_with fail
  refine (hS _).mono ?_
  rintro e w2 ⟨rfl, hg2⟩
  clear hS hX hy2
  go_wp2_with fail
  refine (hU _).mono ?_
  rintro e w3 ⟨rfl, rfl⟩
  clear hU
  have hG := gr_trans hg1 hg2
  clear hg1 hg2
  cases g
  · clear hJ1
    go_wp2_with fail
    refine (hJ0 _).mono ?_
    rintro e w3 ⟨b, c, rfl, hg3, hj⟩
    clear hJ0
    have hG := gr_trans hG hg3
    have ub := U_join hj
    rcases HL.out _ b c rfl hj with ⟨rfl, hr⟩ | ⟨rfl, hr⟩
    · have HR : Hid (RoundIs (scA x exp) (scB 1 exp) lost false 0 _ _) := HM.out _ _ hr
      clear hr HL HM hj
      go_wp2
      go_ret2
      exact ⟨_, _, rfl, HR.out, ub, hG⟩
    · have HR : Hid (RoundIs (scA x exp) (scB 1 exp) lost false 0 _ _) := HM.out _ _ hr
      clear hr HL HM hj
      go_wp2
      go_ret2
      exact ⟨_, _, rfl, HR.out, U_zero, hG⟩
  · clear hJ0
    go_wp2_with fail
    refine (hJ1 _).mono ?_
    rintro e w3 ⟨b, c, rfl, hg3, hj⟩
    clear hJ1
    have hG := gr_trans hG hg3
    have ub := U_join hj
    rcases HL.out _ b c rfl hj with ⟨rfl, hr⟩ | ⟨rfl, hr⟩
    · have HR : Hid (RoundIs (scA x exp) (scB 1 exp) lost false 0 _ _) := HM.out _ _ hr
      clear hr HL HM hj
      go_wp2
      go_ret2
      exact ⟨_, _, rfl, HR.out, ub, hG⟩
    · have HR : Hid (RoundIs (scA x exp) (scB 1 exp) lost false 0 _ _) := HM.out _ _ hr
      clear hr HL HM hj
      go_wp2
      go_ret2
      exact ⟨_, _, rfl, HR.out, U_zero, hG⟩
end Go.Proofs.YtbbmoaipilmmdaaGreatDoor
