/- package lemire: products, Small. -/
import Derived.Test.YtbbmoaipilmmdaaGreatDoorLemA
import Derived.Test.YtbbmoaipilmmdaaGreatDoorBaseC
namespace Go.Proofs.YtbbmoaipilmmdaaGreatDoor
open Go.ChangeShapes Go.WideShapes Go.ChangeAt Go.RowKit
open Ar
set_option linter.unusedVariables false
set_option maxHeartbeats 1600000 in
theorem product_any {m hi lo x : Int} (hm : U m) (m0 : m ≠ 0) (hh : U hi) (h63 : 9223372036854775808 ≤ hi) (hl : U lo) (x0 : -50000 ≤ x) (x1 : x ≤ 50000) (w : World) :
    Calls Tryz.prog 22 #[.int .u64 m, .int .u64 hi, .int .u64 lo, .int .i64 x] w fun e w' => ∃ b E, e = .returned (.tuple #[.int .u64 b, .int .i64 E]) ∧ RoundIs (scA ((hi * 18446744073709551616 + lo) * m) x) (scB 1 x) false false 0 b E ∧ U b ∧ Gr w w' := by
  have hM := fun w => mul3_any hh hl hm w
  have hm1 : 1 ≤ m := by unfold U at hm; omega
  have P0 : 170141183460469231731687303715884105728 ≤ (hi * 18446744073709551616 + lo) * m := by
    have q : 170141183460469231731687303715884105728 ≤ hi * 18446744073709551616 + lo := by unfold U at hl; omega
    have := Int.mul_le_mul q hm1 (by omega) (by omega)
    omega
  have ua := U_m3a hh hl hm
  have ub := U_m3b hi lo m
  have uc := U_m3c hi lo m
  obtain ⟨k, k1, k2, k3, k4, k5⟩ := len_two ua
  have hLn := fun w => len_any ua w
  have hS := fun w => shr_any ua ub (lenW (m3a hi lo m)) w
  rw [k3] at hS
  rw [k1] at hLn hS
  obtain ⟨top, F, t1, t2, t3, t4, t5, t6, t7⟩ := prod_top (P := (hi * 18446744073709551616 + lo) * m) (k := k) P0 k4 k5
  have e1 : srLo (m3a hi lo m) (m3b hi lo m) k = top := t1
  rw [e1] at hS
  have hR := fun w => rounded_any (x := top) (exp := x + 64 + k) (srLost (m3a hi lo m) (m3b hi lo m) k || (m3c hi lo m != 0)) (by unfold U; omega) (by omega) (by omega) (by omega) w
  have HR : Hid (∀ b E, RoundIs (scA top (x + 64 + k)) (scB 1 (x + 64 + k)) (srLost (m3a hi lo m) (m3b hi lo m) k || (m3c hi lo m != 0)) false 0 b E → RoundIs (scA ((hi * 18446744073709551616 + lo) * m) x) (scB 1 x) false false 0 b E) := fun b E h => by
    have r := round_restS (W := top) (F := F) (x := x) (g := 64 + k) (more := (srLost (m3a hi lo m) (m3b hi lo m) k || (m3c hi lo m != 0))) (neg := false) (mode := 0) (b := b) (e := E) t5 t6 t7 (Or.inr (by omega))
    rw [← t4] at r
    apply r.mp
    have e : x + ((64 + k : Nat) : Int) = x + 64 + k := by omega
    rw [e]
    exact h
  generalize (hi * 18446744073709551616 + lo) * m = P at *
  clear t1 t4 t5 t6 t7 e1 k3 k4 k5 P0 ub
  generalize srLost (m3a hi lo m) (m3b hi lo m) k = lst at *
  generalize srHi (m3a hi lo m) (m3b hi lo m) k = tp at *
  generalize lenW (m3a hi lo m) = L at *
  generalize m3a hi lo m = A at *
  generalize m3b hi lo m = Bb at *
  generalize m3c hi lo m = c at *
  clear k1 F
  cases lst
  · simp only [Bool.false_or] at hR HR
    go_enter Tryz.func22, Tryz.ntmps22
    go_wp2_with fail
    refine (hM _).mono ?_
    rintro e w1 ⟨_, _, _, rfl, hg1, rfl, rfl, rfl⟩
    clear hM
    go_wp2_with fail
    refine (hLn _).mono ?_
    rintro e w2 ⟨rfl, rfl⟩
    clear hLn
    go_wp2_with fail
    refine (hS _).mono ?_
    rintro e w2 ⟨rfl, hg2⟩
    clear hS
    go_wp2_with fail
    refine (hR _).mono ?_
    rintro e w3 ⟨b, E, rfl, hr, hb, hg3⟩
    clear hR
    have HQ : Hid (RoundIs (scA P x) (scB 1 x) false false 0 b E) := HR.out b E hr
    clear hr HR
    go_wp2
    go_ret2
    exact ⟨_, _, rfl, HQ.out, hb, gr_trans (gr_trans hg1 hg2) hg3⟩
  · simp only [Bool.true_or] at hR HR
    go_enter Tryz.func22, Tryz.ntmps22
    go_wp2_with fail
    refine (hM _).mono ?_
    rintro e w1 ⟨_, _, _, rfl, hg1, rfl, rfl, rfl⟩
    clear hM
    go_wp2_with fail
    refine (hLn _).mono ?_
    rintro e w2 ⟨rfl, rfl⟩
    clear hLn
    go_wp2_with fail
    refine (hS _).mono ?_
    rintro e w2 ⟨rfl, hg2⟩
    clear hS
    go_wp2_with fail
    refine (hR _).mono ?_
    rintro e w3 ⟨b, E, rfl, hr, hb, hg3⟩
    clear hR
    have HQ : Hid (RoundIs (scA P x) (scB 1 x) false false 0 b E) := HR.out b E hr
    clear hr HR
    go_wp2
    go_ret2
    exact ⟨_, _, rfl, HQ.out, hb, gr_trans (gr_trans hg1 hg2) hg3⟩
namespace Ar
theorem round_fits {A B b E : Int} {more neg : Bool} {mode : Int} (hB : 0 < B) (hA : A < numW mostP * B) (h : RoundIs A B more neg mode b E) : E = 0 := by
  obtain ⟨d, hb, h⟩ := h
  obtain ⟨a1, a2, a3, a4⟩ := hb
  rcases h with ⟨_, _, h⟩ | ⟨_, ⟨h, _, _⟩ | ⟨_, _, h⟩⟩
  · exact h
  · rw [h] at a3; omega
  · exact h
theorem small_fits {N D : Int} (h0 : 0 < D) (h : N < e2 200 * D) : scA N 0 < numW mostP * scB D 0 := by
  unfold scA scB
  rw [most_nums.1, e2_zero (k := -(0 + 1074)) (by omega), Int.mul_one]
  have e : e2 2045 = e2 (0 + 1074) * e2 971 := by rw [← e2_add (by omega) (by omega)]; congr 1
  have l : e2 200 ≤ e2 971 := e2_le (by omega)
  rw [e]
  have hp := e2_pos (0 + 1074)
  generalize e2 (0 + 1074) = Z at *
  have hq := e2_pos 200
  have a1 : N * Z < e2 200 * D * Z := Int.mul_lt_mul_of_pos_right h hp
  have a2 : e2 200 * D * Z ≤ e2 971 * D * Z := Int.mul_le_mul_of_nonneg_right (Int.mul_le_mul_of_nonneg_right l (by omega)) (by omega)
  generalize e2 971 = Y at *
  have a3 : 9007199254740991 * (Z * Y) * D = 9007199254740991 * (Y * D * Z) := by grind
  rw [a3]
  have : 0 ≤ Y * D * Z := Int.mul_nonneg (Int.mul_nonneg (by omega) (by omega)) (by omega)
  omega
theorem ten_le {k : Nat} (h : k < 23) : (10 : Int) ^ k ≤ 10000000000000000000000 := by
  have e : (10 : Int) ^ 22 = 10 ^ k * 10 ^ (22 - k) := by rw [← Int.pow_add]; congr 1; omega
  have p1 : (0 : Int) < 10 ^ k := Int.pow_pos (by omega)
  have p2 : (0 : Int) < 10 ^ (22 - k) := Int.pow_pos (by omega)
  have := Int.mul_le_mul_of_nonneg_left (show (1 : Int) ≤ 10 ^ (22 - k) by omega) (Int.le_of_lt p1)
  have e2 : (10 : Int) ^ 22 = 10000000000000000000000 := by rfl
  omega
/-- what Small answers -/
def SmlI (m e b : Int) : Prop := if 0 ≤ e then RoundIs (scA (m * 10 ^ e.toNat) 0) (scB 1 0) false false 0 b 0 else RoundIs (scA m 0) (scB (10 ^ (-e).toNat) 0) false false 0 b 0
def smallOk (m e : Int) : Bool := decide (m ≤ 9007199254740992 ∧ -22 ≤ e ∧ e ≤ 22)
end Ar
set_option maxHeartbeats 1600000 in
theorem timesTen_any {m : Int} {k : Nat} (hk : k < 23) (hm : U m) (m0 : m ≠ 0) (m1 : m ≤ 9007199254740992) (w : World) :
    Calls Tryz.prog 35 #[.int .u64 m, .int .u64 (tenP k)] w fun e w' => ∃ b, e = .returned (.int .u64 b) ∧ RoundIs (scA (m * 10 ^ k) 0) (scB 1 0) false false 0 b 0 ∧ U b ∧ Gr w w' := by
  obtain ⟨M, X, f1, f2, f3, f4, f5, f6, f7, f8, f9⟩ := ten_facts hk
  have hS := fun w => f6Split_any f8 w
  rw [f1, f2] at hS
  have uM : U M := by unfold U; omega
  have hR1 := fun w => raised_any hm m0 w
  have hR2 := fun w => raised_any uM (by omega) w
  have hfit : scA (m * 10 ^ k) 0 < numW mostP * scB 1 0 := by
    refine small_fits (by omega) ?_
    have h10 := ten_le hk
    have hp : (0 : Int) < 10 ^ k := Int.pow_pos (by omega)
    have hm9 : 0 ≤ m := by unfold U at hm; omega
    have := Int.mul_le_mul m1 h10 (by omega) (by omega)
    have e : e2 200 = 1606938044258990275541962092341162602522202993782792835301376 := rfl
    rw [e]
    omega
  have hB0 : 0 < scB 1 0 := scB_pos' (by omega)
  generalize tenP k = t at *
  generalize spS t = sg at *
  generalize fiE t = fe at *
  go_enter Tryz.func35, Tryz.ntmps35
  go_wp2_with fail
  refine (hS _).mono ?_
  rintro e w1 ⟨rfl, rfl⟩
  clear hS
  go_wp2_with fail
  refine (hR1 _).mono ?_
  rintro e w2 ⟨u1, rfl, hg1, u1a, u1b, u1c⟩
  clear hR1
  obtain ⟨y, hy⟩ : ∃ y, m * 2 ^ u1 = y := ⟨_, rfl⟩
  have Hy : Hid (m * 2 ^ u1 = y) := hy
  rw [hy] at u1b u1c ⊢
  clear hy
  go_wp2_with fail
  refine (hR2 _).mono ?_
  rintro e w3 ⟨u2, rfl, hg2, u2a, u2b, u2c⟩
  clear hR2
  obtain ⟨z, hz⟩ : ∃ z, M * 2 ^ u2 = z := ⟨_, rfl⟩
  have Hz : Hid (M * 2 ^ u2 = z) := hz
  rw [hz] at u2b u2c ⊢
  clear hz
  have uy : U y := by unfold U; omega
  have uz : U z := by unfold U; omega
  have hM := fun w => mul_any uy uz w
  have hhi : 4611686018427387904 ≤ mulHi y z ∧ mulHi y z < 18446744073709551616 := by
    have hU := U_mulHi uy uz
    unfold U at hU
    refine ⟨?_, hU.2⟩
    unfold mulHi
    have := Int.mul_le_mul u1b u2b (by omega) (by omega)
    omega
  have HM : Hid (y * z = mulHi y z * 18446744073709551616 + mulLo y z) := by
    show _ = _
    unfold mulHi mulLo
    omega
  have hlo := U_mulLo y z
  generalize mulHi y z = hi at *
  generalize mulLo y z = lo at *
  go_wp2_with fail
  refine (hM _).mono ?_
  rintro e w4 ⟨x1, x2, rfl, hg3, e1, e2⟩
  rw [e1, e2]
  clear hM e1 e2
  have hR := fun w => rounded_any (x := hi) (exp := X - u1 - u2 + 64) (lo != 0) (by unfold U; omega) (by omega) (by omega) (by omega) w
  go_wp2_with fail
  refine (hR _).mono ?_
  rintro e w5 ⟨b, E, rfl, hr, hb, hg4⟩
  clear hR
  have hr2 := (times_math (mant := m) (M := M) (k := k) (u1 := u1) (u2 := u2) f5 f7 (by rw [Hy.out, Hz.out]; exact HM.out) hlo.1 (by unfold U at hlo; omega) (by omega)).mp hr
  have hE := round_fits hB0 hfit hr2
  rw [hE] at hr2
  have HQ : Hid (RoundIs (scA (m * 10 ^ k) 0) (scB 1 0) false false 0 b 0) := hr2
  clear hr hr2 hE HM Hy Hz
  go_wp2
  go_ret
  exact ⟨_, rfl, HQ.out, hb, gr_trans (gr_trans hg1 hg2) (gr_trans hg3 hg4)⟩
namespace Ar
theorem by_shift {m : Int} (hm : U m) (m0 : m ≠ 0) (m1 : m ≤ 9007199254740992) : ∃ up : Nat, (116 : Int) - lenW m = up ∧ up ≤ 115 ∧ 1 ≤ lenW m ∧ lenW m ≤ 54 ∧ clampN (up : Int) = up ∧ shHi 0 m up * 18446744073709551616 + shLo 0 m up = m * 2 ^ up ∧ 0 ≤ shHi 0 m up ∧ shHi 0 m up < 4503599627370496 ∧ 41538374868278621028243970633760768 ≤ m * 2 ^ up := by
  obtain ⟨k, k1, k2, k3, k4, k5⟩ := len_two hm
  have hx0 : 0 < m := by unfold U at hm; omega
  have hk : k ≠ 0 := by
    rintro rfl
    simp at k4
    omega
  have k6 : (2 : Int) ^ k ≤ 2 * m := by
    rcases k5 with ⟨h, _⟩ | h
    · exact absurd h hk
    · exact h
  have hk54 : k ≤ 54 := by
    apply Decidable.byContradiction
    intro hc
    have e : (2 : Int) ^ k = 2 ^ 55 * 2 ^ (k - 55) := by rw [← Int.pow_add]; congr 1; omega
    have := pow_pos (k - 55)
    have e5 : (2 : Int) ^ 55 = 36028797018963968 := rfl
    omega
  have hp : (2 : Int) ^ k * 2 ^ (116 - k) = 83076749736557242056487941267521536 := by rw [← Int.pow_add, show k + (116 - k) = 116 by omega]; rfl
  have hq := pow_pos (116 - k)
  have a1 : m * 2 ^ (116 - k) < 2 ^ k * 2 ^ (116 - k) := Int.mul_lt_mul_of_pos_right k4 hq
  have a2 : 2 ^ k * 2 ^ (116 - k) ≤ 2 * m * 2 ^ (116 - k) := Int.mul_le_mul_of_nonneg_right k6 (by omega)
  rw [hp] at a1 a2
  rw [Int.mul_assoc] at a2
  refine ⟨116 - k, by omega, by omega, by omega, by omega, ?_, ?_, ?_, ?_, by omega⟩
  · unfold clampN
    rw [if_neg (by omega), if_neg (by omega), Int.toNat_natCast]
  · unfold shHi shLo
    rw [Int.zero_mul, Int.zero_add]
    omega
  · unfold shHi
    omega
  · unfold shHi
    rw [Int.zero_mul, Int.zero_add]
    omega
end Ar
set_option maxHeartbeats 1600000 in
theorem byTen_any {m : Int} {k : Nat} (hk : k < 23) (hm : U m) (m0 : m ≠ 0) (m1 : m ≤ 9007199254740992) (w : World) :
    Calls Tryz.prog 34 #[.int .u64 m, .int .u64 (tenP k)] w fun e w' => ∃ b, e = .returned (.int .u64 b) ∧ RoundIs (scA m 0) (scB (10 ^ k) 0) false false 0 b 0 ∧ U b ∧ Gr w w' := by
  obtain ⟨M, X, f1, f2, f3, f4, f5, f6, f7, f8, f9⟩ := ten_facts hk
  have hS := fun w => f6Split_any f8 w
  rw [f1, f2] at hS
  have uM : U M := by unfold U; omega
  obtain ⟨up, s1, s2, s3, s4, s5, s6, s7, s8, s9⟩ := by_shift hm m0 m1
  have hp10 : (0 : Int) < 10 ^ k := Int.pow_pos (by omega)
  have hfit : scA m 0 < numW mostP * scB (10 ^ k) 0 := by
    refine small_fits hp10 ?_
    have e : e2 200 = 1606938044258990275541962092341162602522202993782792835301376 := rfl
    rw [e]
    omega
  have hB0 : 0 < scB (10 ^ k) 0 := scB_pos' hp10
  have hLn := fun w => len_any hm w
  have hSh := fun w => shl_any (a := 0) U_zero hm (up : Int) w
  rw [s5] at hSh
  have ulo := U_shLo 0 m up
  generalize shHi 0 m up = hi at *
  generalize shLo 0 m up = lo at *
  have hD := fun w => div_any (h := hi) (l := lo) (b := M) (by unfold U; omega) ulo uM (by omega) (by omega) w
  have q1 : 18014398509481984 ≤ divQ hi lo M := by
    unfold divQ
    rw [s6]
    apply Int.le_ediv_of_mul_le (by omega)
    omega
  have q2 : divQ hi lo M < 18446744073709551616 := by
    unfold divQ
    apply Int.ediv_lt_of_lt_mul (by omega)
    unfold U at ulo
    omega
  have q3 : Hid (m * 2 ^ up = divQ hi lo M * M + divR hi lo M) := by
    show _ = _
    unfold divQ divR
    rw [← s6]
    exact (Int.ediv_mul_add_emod _ _).symm
  have q4 : 0 ≤ divR hi lo M := by unfold divR; exact Int.emod_nonneg _ (by omega)
  have q5 : divR hi lo M < M := by unfold divR; exact Int.emod_lt_of_pos _ (by omega)
  generalize divQ hi lo M = q at *
  generalize divR hi lo M = r at *
  have hR := fun w => rounded_any (x := q) (exp := -X - up) (r != 0) (by unfold U; omega) (by omega) (by omega) (by omega) w
  generalize tenP k = t at *
  generalize spS t = sg at *
  generalize fiE t = fe at *
  generalize lenW m = L at *
  clear s5 s6 s9
  go_enter Tryz.func34, Tryz.ntmps34
  go_wp2_with fail
  refine (hS _).mono ?_
  rintro e w1 ⟨rfl, rfl⟩
  clear hS
  go_wp2_with fail
  refine (hLn _).mono ?_
  rintro e w2 ⟨rfl, rfl⟩
  clear hLn
  go_wp2_with fail
  refine (hSh _).mono ?_
  rintro e w3 ⟨rfl, hg1⟩
  clear hSh
  go_wp2_with fail
  refine (hD _).mono ?_
  rintro e w4 ⟨rfl, hg2⟩
  clear hD
  go_wp2_with fail
  refine (hR _).mono ?_
  rintro e w5 ⟨b, E, rfl, hr, hb, hg4⟩
  clear hR
  have hr2 := (by_math (mant := m) (M := M) (k := k) (up := up) (by omega) f5 f6 f7 (by omega) q3.out q4 q5 q1).mp hr
  have hE := round_fits hB0 hfit hr2
  rw [hE] at hr2
  have HQ : Hid (RoundIs (scA m 0) (scB (10 ^ k) 0) false false 0 b 0) := hr2
  clear hr hr2 hE q3
  go_wp2
  go_ret
  exact ⟨_, rfl, HQ.out, hb, gr_trans (gr_trans hg1 hg2) hg4⟩
end Go.Proofs.YtbbmoaipilmmdaaGreatDoor
