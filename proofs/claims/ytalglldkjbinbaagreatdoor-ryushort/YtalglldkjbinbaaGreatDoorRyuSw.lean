/- RyuShort: count; the walk. -/
import Derived.Test.YtalglldkjbinbaaGreatDoorRyuT
import Derived.Test.YtalglldkjbinbaaGreatDoorRyuEy
namespace Go.Proofs.YtalglldkjbinbaaGreatDoor
open Go.ChangeShapes Go.WideShapes Go.ChangeAt Go.RowKit
open Na Ar Ry
set_option linter.unusedVariables false
namespace Ry
/-- so many digits -/
def Cn (d : Int) (n : Nat) : Prop := d < 10 ^ n ∧ (10 : Int) ^ (n - 1) ≤ d
theorem cn_end {d k : Nat} (hd : 0 < d) (h0 : d / 10 ^ k = 0) (h1 : k = 0 ∨ 10 ^ (k - 1) ≤ d) : Cn (d : Int) k := by
  have l : d < 10 ^ k := by
    rcases Nat.lt_or_ge d (10 ^ k) with z | z
    · exact z
    · have := Nat.div_pos z (Nat.pow_pos (by omega)); omega
  refine ⟨by exact_mod_cast l, ?_⟩
  rcases h1 with h1 | h1
  · subst h1; simp at l; omega
  · exact_mod_cast h1
theorem cn_step {d k : Nat} (h0 : 0 < d / 10 ^ k) : d / 10 ^ k / 10 = d / 10 ^ (k + 1) ∧ 10 ^ (k + 1 - 1) ≤ d ∧ k ≤ d := by
  have : 10 ^ k ≤ d := by
    rcases Nat.lt_or_ge d (10 ^ k) with z | z
    · rw [Nat.div_eq_of_lt z] at h0; omega
    · exact z
  refine ⟨by rw [Nat.div_div_eq_div_mul, Nat.pow_succ], by simpa using this, ?_⟩
  have := Nat.lt_pow_self (n := k) (show 1 < 10 by omega)
  omega
end Ry
set_option maxHeartbeats 1600000 in
theorem count12_any {d : Nat} (hd : 0 < d) (hd1 : d < 18446744073709551616) (w : World) :
    Calls Tryz.prog 11 #[.int .u64 (d : Int)] w fun r w' => ∃ n : Nat, r = .returned (.int .i64 (n : Int)) ∧ n ≤ 100 ∧ Cn (d : Int) n ∧ w' = w := by
  go_enter Tryz.func11, Tryz.ntmps11
  go_wp2
  go_loop [0, 3] (fun v k => ∃ (n : Nat), v = .int .u64 ((d / 10 ^ n : Nat) : Int) ∧ k = .int .i64 (n : Int) ∧ n ≤ 20 ∧ Hid (n = 0 ∨ 10 ^ (n - 1) ≤ d)) (fun v _ => (intOf v).toNat)
  case atStart => exact ⟨0, by simp, rfl, by omega, Or.inl rfl⟩
  case round =>
    obtain ⟨n, rfl, rfl, hn, hI⟩ := hrel
    by_cases q : 0 < d / 10 ^ n
    · have cs := cn_step q
      have d1 : decide (((d / 10 ^ n : Nat) : Int) > 0) = true := by simp only [decide_eq_true_eq]; omega
      have d1' : decide (0 < ((d / 10 ^ n : Nat) : Int)) = true := by simp only [decide_eq_true_eq]; omega
      have e1 : ((d / 10 ^ n : Nat) : Int) / 10 = ((d / 10 ^ (n + 1) : Nat) : Int) := by rw [← cs.1]; rfl
      have hn' : n + 1 ≤ 20 := by
        rcases Nat.lt_or_ge n 20 with z | z
        · omega
        · have e20 : n = 20 := by omega
          rw [e20] at q
          have : d / 10 ^ 20 = 0 := Nat.div_eq_of_lt (by omega)
          omega
      have lt1 : d / 10 ^ (n + 1) < d / 10 ^ n := by rw [← cs.1]; omega
      have HI : Hid (n + 1 = 0 ∨ 10 ^ (n + 1 - 1) ≤ d) := Or.inr cs.2.1
      have bq : d / 10 ^ n ≤ d := Nat.div_le_self _ _
      clear cs hI
      generalize hX : d / 10 ^ (n + 1) = X at *
      generalize d / 10 ^ n = Y at *
      go_wp2
      go_round
      case rel => exact ⟨n + 1, by rw [hX], by simp, hn', HI⟩
      case measure => simp [intOf]; omega
    · have z : d / 10 ^ n = 0 := Nat.eq_zero_of_not_pos q
      have hc := cn_end hd z hI.out
      rw [z]
      have HC : Hid (Cn (d : Int) n) := hc
      clear hc hI q
      go_wp2
      go_ret
      exact ⟨n, rfl, by omega, HC.out, rfl⟩
theorem count12_int {d : Int} (hd : 0 < d) (hu : U d) (w : World) :
    Calls Tryz.prog 11 #[.int .u64 d] w fun r w' => ∃ n : Nat, r = .returned (.int .i64 (n : Int)) ∧ n ≤ 100 ∧ Cn d n ∧ w' = w := by
  obtain ⟨k, rfl⟩ := Int.eq_ofNat_of_zero_le hu.1
  exact count12_any (by omega) (by have := hu.2; omega) w
theorem Ry.ex_zero {e b : Int} (h0 : 0 < b) (h1 : b ≤ mostP) : ¬ ExIs 0 e b 0 := by
  intro h
  unfold ExIs at h
  have pB := exD_pos e
  rw [round_ends (scA_nonneg (exN_nonneg (by omega) e) 0) (scB_pos' pB) h0 h1, scB_flat] at h
  have z : scA (exN 0 e) 0 = 0 := by
    show exN 0 e * _ = 0
    have : exN 0 e = 0 := by unfold exN; split <;> simp
    rw [this, Int.zero_mul]
  rw [z] at h
  have n1 := num_lt' (p := 0) (q := b) (by omega) h0 h1
  have n2 := num_nonneg' (p := b - 1) (by omega) (by omega)
  rw [num_zero'] at n1
  have := Int.mul_pos (show 0 < numW (b - 1) + numW b by omega) pB
  omega
set_option maxHeartbeats 6400000 in
set_option maxRecDepth 100000 in
theorem short_walk12 {d0 e0 : Int} (ud : U d0) (i0 : -9223372036854775808 ≤ e0) (i1 : e0 ≤ 9223372036854775807) {w : World} (hG : GrVar w) :
    Calls Tryz.prog 3 #[.int .u64 d0, .int .i64 e0] w fun r w' => r = .returned (.bool true) ∧ Below w.heap.size w w' := by
  have bd : 0 ≤ Int.tmod d0 100000000000000000 ∧ Int.tmod d0 100000000000000000 < 100000000000000000 := by rw [Int.tmod_eq_emod_of_nonneg ud.1]; omega
  have be : -340 < Int.tmod e0 340 ∧ Int.tmod e0 340 < 340 := by
    have a1 := Int.tmod_lt_of_pos e0 (show (0 : Int) < 340 by omega)
    have a2 : -340 < Int.tmod e0 340 := by
      rcases Int.le_total 0 e0 with h | h
      · have := Int.tmod_nonneg (a := e0) 340 h; omega
      · have e1 : Int.tmod e0 340 = -(Int.tmod (-e0) 340) := by rw [Int.neg_tmod]; omega
        have := Int.tmod_lt_of_pos (-e0) (show (0 : Int) < 340 by omega)
        omega
    omega
  obtain ⟨d, hd⟩ : ∃ d, d = Int.tmod d0 100000000000000000 := ⟨_, rfl⟩
  obtain ⟨e, he⟩ : ∃ e, e = Int.tmod e0 340 := ⟨_, rfl⟩
  rw [← hd] at bd
  rw [← he] at be
  have u1 : U d := by unfold U; omega
  have D1 := fun w => dec12_any (d := d) (e := e) u1 (by omega) (by omega) w
  have z1 := (dec_size (d := d) (e := e) u1 (by omega) (by omega)).2.2
  have nn := dec_nn (e := e) u1
  have hR : ∀ v E, RoundIs (scA ((decR d e).num.natAbs : Int) 0) (scB ((decR d e).den : Int) 0) false false 0 v E ↔ ExIs d e v E := fun v E => round_rat (exN_nonneg u1.1 e) (exD_pos e) rfl
  generalize decR d e = P at *
  go_enter Tryz.func3, Tryz.ntmps3
  go_wp2_with fail
  refine (fixed12_any _).mono ?_
  rintro r v1 ⟨rfl, b1⟩
  go_wp2_with fail
  rw [← hd, ← he]
  clear hd he
  refine (D1 _).mono ?_
  rintro r v4 ⟨s4, a4, n4, c4, b4, m4, f4, rfl, R4, hb4⟩
  have hs : s4 = false := by rw [R4.sgn]; simpa using nn
  subst hs
  have B4 := b1.trans (hb4.mono b1.size)
  have t4 := st_new v4 (.bool false) (.slice a4 n4 c4) (.slice b4 m4 f4) 26
  have R5 := R4.later (alloc_below (w := v4) (.cells #[.bool false, .slice a4 n4 c4, .slice b4 m4 f4] 26))
  have B5 : Below w.heap.size w (v4.alloc (.cells #[.bool false, .slice a4 n4 c4, .slice b4 m4 f4] 26)) := B4.alloc B4.size _
  have hQ := nearRat_ok (mode := 0) R5 z1 (by omega) (by omega) (by omega) (hG.later B5)
  obtain ⟨x0, x1, x2⟩ := t4.cells
  clear D1 R4 R5 t4 hb4 b1 B4
  go_wp2_with fail
  refine hQ.mono ?_
  rintro r v5 ⟨b, E, rfl, hr, hu, b5⟩
  have B6 := B5.trans (b5.mono B5.size)
  have HX : Hid (ExIs d e b E) := (hR b E).mp hr
  clear hQ x0 x1 x2 b5 B5 hr hR nn z1
  go_wp2_with fail
  refine (num12_same _ _).mono ?_
  rintro r vz ⟨rfl, hz⟩
  rw [hz]
  clear hz
  have ov := round_over (scB_pos' (exD_pos e)) HX.out
  by_cases e0' : E = 0
  · subst e0'
    have bb : 0 ≤ b ∧ b ≤ mostP := by
      rcases ov with ⟨q, _⟩ | ⟨_, q1, q2, _⟩
      · omega
      · exact ⟨q1, q2⟩
    clear ov
    obtain ⟨ub, fb, mb⟩ := size_fin bb.1 bb.2
    by_cases bz : b = 0
    · subst bz
      have hS := fun w => rshort_zero ub fb mb w
      go_wp2_with fail
      refine (hS _).mono ?_
      rintro r v7 ⟨rfl, b7⟩
      have B7 := B6.trans (b7.mono B6.size)
      clear hS b7 B6
      go_wp2_with fail
      refine (num12_same _ _).mono ?_
      rintro r vz ⟨rfl, hz⟩
      rw [hz]
      clear hz
      go_wp2
      go_ret
      exact ⟨rfl, B7⟩
    · have hS := fun w => rshort_fin ub fb (by rw [mb]; exact bz) w
      rw [mb] at hS
      have S := sh_is (p := b) (by omega) bb.2
      have dz : d ≠ 0 := fun z => by
        have := HX.out
        rw [z] at this
        exact ex_zero (by omega) bb.2 this
      have HS : Hid (ShP b (shD b) (shE b)) := S
      obtain ⟨g0, g1, -, h0, h1, -, -, -, -⟩ := S
      have fs := fun (d1 e1 : Int) (q1 : 0 < d1) (q2 : d1 < 1000000000000000) (q3 : d1 % 10 ≠ 0) (q4 : 4503599627370496 ≤ b) (q5 : ExIs d1 e1 b 0) => few_same (by omega) q4 bb.2 HS.out q1 q2 q3 q5
      have fd := fun (d1 e1 : Int) (ng nd : Nat) (q1 : 0 < d1) (q5 : ExIs d1 e1 b 0) (q6 : Cn (shD b) ng) (q7 : Cn d1 nd) => few_digits HS.out q1 q5 q6.2 q7.1
      have HF : Hid (∀ d1 e1 : Int, 0 < d1 → d1 < 1000000000000000 → d1 % 10 ≠ 0 → 4503599627370496 ≤ b → ExIs d1 e1 b 0 → shD b = d1 ∧ shE b = e1) := fs
      have HD : Hid (∀ (d1 e1 : Int) (ng nd : Nat), 0 < d1 → ExIs d1 e1 b 0 → Cn (shD b) ng → Cn d1 nd → ng ≤ nd) := fd
      generalize shD b = g at *
      generalize shE b = h at *
      have ug : U g := by unfold U; omega
      have q1 : (b == 0) = false := beq_no bz
      have q2 : (g == 0) = false := beq_no (by omega)
      have hCg := fun w => count12_int g0 ug w
      clear fs fd HS
      go_wp2_with fail
      refine (hS _).mono ?_
      rintro r v7 ⟨rfl, b7⟩
      have B7 := B6.trans (b7.mono B6.size)
      clear hS b7 B6
      go_wp2_with fail
      refine (num12_same _ _).mono ?_
      rintro r vz ⟨rfl, hz⟩
      rw [hz]
      clear hz
      go_wp2
      go_loop [0, 1] (fun v k => ∃ (d1 e1 : Int), v = .int .u64 d1 ∧ k = .int .i64 e1 ∧ 0 < d1 ∧ d1 < 100000000000000000 ∧ -340 ≤ e1 ∧ e1 + d1 ≤ 200000000000000000 ∧ Hid (ExIs d1 e1 b 0)) (fun v _ => (intOf v).toNat)
      case atStart => exact ⟨d, e, rfl, rfl, by omega, by omega, by omega, by omega, HX⟩
      case round =>
        obtain ⟨d1, e1, rfl, rfl, k0, k1, k2, k3, hI⟩ := hrel
        clear HX
        by_cases q : d1 % 10 = 0
        · have q3 : (d1 % 10 == 0) = true := beq_of q
          have HI : Hid (ExIs (d1 / 10) (e1 + 1) b 0) := by
            show ExIs _ _ _ _
            rw [ex_one, show d1 / 10 * 10 = d1 by omega]
            exact hI.out
          clear hI
          go_wp2
          go_round
          case rel => exact ⟨d1 / 10, e1 + 1, rfl, rfl, by omega, by omega, by omega, by omega, HI⟩
          case measure => simp [intOf]; omega
        · have q3 : (d1 % 10 == 0) = false := beq_no q
          have ud1 : U d1 := by unfold U; omega
          have hCd := fun w => count12_int k0 ud1 w
          have HD' : Hid (∀ ng nd : Nat, Cn g ng → Cn d1 nd → ng ≤ nd) := fun ng nd a c => HD.out d1 e1 ng nd k0 hI.out a c
          have HF' : Hid (d1 < 1000000000000000 → 4503599627370496 ≤ b → g = d1 ∧ h = e1) := fun a c => HF.out d1 e1 k0 a q c hI.out
          clear hI HD HF
          by_cases gt : 10 * d1 < g
          · have q4 : decide (g > 10 * d1) = true := by simp; omega
            have q4' : decide (10 * d1 < g) = true := by simp; omega
            go_wp2_with fail
            refine (hCg _).mono ?_
            rintro r vz ⟨n1, rfl, l1, c1, hz⟩
            rw [hz]
            clear hz
            go_wp2_with fail
            refine (hCd _).mono ?_
            rintro r vz ⟨n2, rfl, l2, c2, hz⟩
            rw [hz]
            clear hz
            have nle := HD'.out n1 n2 c1 c2
            have q5 : decide ((n1 : Int) > (n2 : Int)) = false := by simp; omega
            have q5' : decide ((n2 : Int) < (n1 : Int)) = false := by simp; omega
            by_cases t1 : d1 < 1000000000000000
            · have q6 : decide (d1 < 1000000000000000) = true := by simp; omega
              by_cases t2 : 4503599627370496 ≤ b
              · have q7 : decide (b ≥ 4503599627370496) = true := by simp; omega
                have q7' : decide (4503599627370496 ≤ b) = true := by simp; omega
                obtain ⟨f1, f2⟩ := HF'.out t1 t2
                have q8 : (g == d1) = true := beq_of f1
                have q9 : (h == e1) = true := beq_of f2
                clear f1 f2
                go_wp2
                go_ret
                exact ⟨rfl, B7⟩
              · have q7 : decide (b ≥ 4503599627370496) = false := by simp; omega
                have q7' : decide (4503599627370496 ≤ b) = false := by simp; omega
                go_wp2_with fail
                refine (hCg _).mono ?_
                rintro r vz ⟨n3, rfl, l3, c3, hz⟩
                rw [hz]
                clear hz
                go_wp2_with fail
                refine (hCd _).mono ?_
                rintro r vz ⟨n4, rfl, l4, c4, hz⟩
                rw [hz]
                clear hz
                have nle2 := HD'.out n3 n4 c3 c4
                have q10 : decide ((n3 : Int) ≤ (n4 : Int)) = true := by simp; omega
                go_wp2
                go_ret
                exact ⟨rfl, B7⟩
            · have q6 : decide (d1 < 1000000000000000) = false := by simp; omega
              go_wp2_with fail
              refine (hCg _).mono ?_
              rintro r vz ⟨n3, rfl, l3, c3, hz⟩
              rw [hz]
              clear hz
              go_wp2_with fail
              refine (hCd _).mono ?_
              rintro r vz ⟨n4, rfl, l4, c4, hz⟩
              rw [hz]
              clear hz
              have nle2 := HD'.out n3 n4 c3 c4
              have q10 : decide ((n3 : Int) ≤ (n4 : Int)) = true := by simp; omega
              go_wp2
              go_ret
              exact ⟨rfl, B7⟩
          · have q4 : decide (g > 10 * d1) = false := by simp; omega
            have q4' : decide (10 * d1 < g) = false := by simp; omega
            by_cases t1 : d1 < 1000000000000000
            · have q6 : decide (d1 < 1000000000000000) = true := by simp; omega
              by_cases t2 : 4503599627370496 ≤ b
              · have q7 : decide (b ≥ 4503599627370496) = true := by simp; omega
                have q7' : decide (4503599627370496 ≤ b) = true := by simp; omega
                obtain ⟨f1, f2⟩ := HF'.out t1 t2
                have q8 : (g == d1) = true := beq_of f1
                have q9 : (h == e1) = true := beq_of f2
                clear f1 f2
                go_wp2
                go_ret
                exact ⟨rfl, B7⟩
              · have q7 : decide (b ≥ 4503599627370496) = false := by simp; omega
                have q7' : decide (4503599627370496 ≤ b) = false := by simp; omega
                go_wp2_with fail
                refine (hCg _).mono ?_
                rintro r vz ⟨n3, rfl, l3, c3, hz⟩
                rw [hz]
                clear hz
                go_wp2_with fail
                refine (hCd _).mono ?_
                rintro r vz ⟨n4, rfl, l4, c4, hz⟩
                rw [hz]
                clear hz
                have nle2 := HD'.out n3 n4 c3 c4
                have q10 : decide ((n3 : Int) ≤ (n4 : Int)) = true := by simp; omega
                go_wp2
                go_ret
                exact ⟨rfl, B7⟩
            · have q6 : decide (d1 < 1000000000000000) = false := by simp; omega
              go_wp2_with fail
              refine (hCg _).mono ?_
              rintro r vz ⟨n3, rfl, l3, c3, hz⟩
              rw [hz]
              clear hz
              go_wp2_with fail
              refine (hCd _).mono ?_
              rintro r vz ⟨n4, rfl, l4, c4, hz⟩
              rw [hz]
              clear hz
              have nle2 := HD'.out n3 n4 c3 c4
              have q10 : decide ((n3 : Int) ≤ (n4 : Int)) = true := by simp; omega
              go_wp2
              go_ret
              exact ⟨rfl, B7⟩
  · have e70 : E = 70 := by
      rcases ov with ⟨q, _⟩ | ⟨q, _⟩
      · exact q
      · exact absurd q e0'
    subst e70
    go_wp2_with fail
    refine (num12_same _ _).mono ?_
    rintro r vz ⟨rfl, hz⟩
    rw [hz]
    clear hz
    go_wp2
    go_ret
    exact ⟨rfl, B6⟩
end Go.Proofs.YtalglldkjbinbaaGreatDoor
