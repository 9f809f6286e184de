import Derived.Test.YtceecgklgkiffaaGreatDoorBaseA
import Derived.Test.YtceecgklgkiffaaGreatDoorBaseB
import Derived.Scope
import Derived.WalkMore
/- Plain numbers: division of two words by one. -/
namespace Go.Proofs.YtceecgklgkiffaaGreatDoor.Ar
open Go.RowKit
set_option linter.unusedVariables false

/-- quotient and rest, told by what they are -/
theorem div_of {n b q r : Int} (hb : 0 < b) (h : n = q * b + r) (h0 : 0 ≤ r) (h1 : r < b) : n / b = q ∧ n % b = r := by
  have e : n = r + b * q := by rw [h, Int.mul_comm]; omega
  constructor
  · rw [e, Int.add_mul_ediv_left _ _ (by omega), Int.ediv_eq_zero_of_lt h0 h1]; omega
  · rw [e, Int.add_mul_emod_self_left, Int.emod_eq_of_lt h0 h1]

/-- the loop of wide.divHalf: q is never too small, and goes with r -/
def HalfInv (t n b Q R : Int) : Prop := Q * (b / 4294967296) + R = t ∧ (t * 4294967296 + n) / b ≤ Q ∧ 0 ≤ R ∧ 0 ≤ Q ∧ Q ≤ 4294967297 ∧ (4294967296 ≤ R → Q ≤ 4294967296) ∧ R < 9223372036854775808
/-- what a divisor of wide.divHalf is -/
def Big (b : Int) : Prop := 9223372036854775808 ≤ b ∧ b < 18446744073709551616
theorem big_halves {b : Int} (h : Big b) : 2147483648 ≤ b / 4294967296 ∧ b / 4294967296 < 4294967296 := by unfold Big at h; omega
theorem half_start {t n b : Int} (hb : Big b) (ht : U t) (htb : t < b) (hn : H n) : HalfInv t n b (t / (b / 4294967296)) (t % (b / 4294967296)) := by
  obtain ⟨g1, g2⟩ := big_halves hb
  unfold U H Big at *
  have e := Int.mul_ediv_add_emod t (b / 4294967296)
  have r0 : 0 ≤ t % (b / 4294967296) := Int.emod_nonneg _ (by omega)
  have r1 : t % (b / 4294967296) < b / 4294967296 := Int.emod_lt_of_pos _ (by omega)
  have q0 : 0 ≤ t / (b / 4294967296) := Int.ediv_nonneg ht.1 (by omega)
  refine ⟨by rw [Int.mul_comm]; exact e, ?_, r0, q0, ?_, by omega, by omega⟩
  · -- the true quotient's product with the divisor's higher half is not above t
    have d0 : 0 ≤ (t * 4294967296 + n) / b := Int.ediv_nonneg (by omega) (by omega)
    have d1 : (t * 4294967296 + n) / b * b ≤ t * 4294967296 + n := Int.ediv_mul_le _ (by omega)
    refine Int.le_ediv_of_mul_le (by omega) ?_
    generalize (t * 4294967296 + n) / b = d at *
    have e2 : d * b = d * (b / 4294967296) * 4294967296 + d * (b % 4294967296) := by
      have : b = b / 4294967296 * 4294967296 + b % 4294967296 := by omega
      have e3 : d * b = d * (b / 4294967296 * 4294967296 + b % 4294967296) := by rw [← this]
      rw [e3, Int.mul_add, Int.mul_assoc]
    have e4 : 0 ≤ d * (b % 4294967296) := Int.mul_nonneg d0 (by omega)
    generalize d * (b / 4294967296) = x at *
    generalize d * (b % 4294967296) = y at *
    omega
  · -- t is below b, b is below (2^32 + 1) times its higher half and as much again
    have : t / (b / 4294967296) < 4294967298 := by
      refine Int.ediv_lt_of_lt_mul (by omega) ?_
      omega
    omega
theorem half_big {t n b Q R : Int} (hb : Big b) (hn : H n) (h : HalfInv t n b Q R) (hR : 4294967296 ≤ R) : Q * b ≤ t * 4294967296 + n := by
  obtain ⟨h1, h2, h3, h4, h5, h6, h7⟩ := h
  have hq := h6 hR
  unfold H Big at *
  have e2 : Q * b = Q * (b / 4294967296) * 4294967296 + Q * (b % 4294967296) := by
    have : b = b / 4294967296 * 4294967296 + b % 4294967296 := by omega
    have e3 : Q * b = Q * (b / 4294967296 * 4294967296 + b % 4294967296) := by rw [← this]
    rw [e3, Int.mul_add, Int.mul_assoc]
  have e4 : Q * (b % 4294967296) ≤ 4294967296 * 4294967295 := Int.mul_le_mul hq (by omega) (by omega) (by omega)
  generalize Q * (b / 4294967296) = x at *
  generalize Q * (b % 4294967296) = y at *
  omega
theorem half_ok {t n b Q R : Int} (hb : Big b) (hn : H n) (h : HalfInv t n b Q R) (hq : Q * (b % 4294967296) ≤ R * 4294967296 + n) : Q * b ≤ t * 4294967296 + n := by
  obtain ⟨h1, h2, h3, h4, h5, h6, h7⟩ := h
  unfold H Big at *
  have e2 : Q * b = Q * (b / 4294967296) * 4294967296 + Q * (b % 4294967296) := by
    have : b = b / 4294967296 * 4294967296 + b % 4294967296 := by omega
    have e3 : Q * b = Q * (b / 4294967296 * 4294967296 + b % 4294967296) := by rw [← this]
    rw [e3, Int.mul_add, Int.mul_assoc]
  generalize Q * (b / 4294967296) = x at *
  generalize Q * (b % 4294967296) = y at *
  omega
theorem half_step {t n b Q R : Int} (hb : Big b) (hn : H n) (h : HalfInv t n b Q R) (hR : R < 4294967296) (hq : R * 4294967296 + n < Q * (b % 4294967296)) :
    1 ≤ Q ∧ HalfInv t n b (Q - 1) (R + b / 4294967296) := by
  obtain ⟨h1, h2, h3, h4, h5, h6, h7⟩ := h
  obtain ⟨g1, g2⟩ := big_halves hb
  have hQ : 1 ≤ Q := by
    by_cases e : Q = 0
    · subst e; unfold H at hn; omega
    · omega
  refine ⟨hQ, ?_, ?_, by omega, by omega, by omega, by omega, by omega⟩
  · rw [Int.sub_mul]; omega
  · have hlt : t * 4294967296 + n < Q * b := by
      have e2 : Q * b = Q * (b / 4294967296) * 4294967296 + Q * (b % 4294967296) := by
        have : b = b / 4294967296 * 4294967296 + b % 4294967296 := by omega
        have e3 : Q * b = Q * (b / 4294967296 * 4294967296 + b % 4294967296) := by rw [← this]
        rw [e3, Int.mul_add, Int.mul_assoc]
      generalize Q * (b / 4294967296) = x at *
      generalize Q * (b % 4294967296) = y at *
      omega
    have := Int.ediv_lt_of_lt_mul (by unfold Big at hb; omega) hlt
    omega
theorem half_end {t n b Q R : Int} (hb : Big b) (h : HalfInv t n b Q R) (hq : Q * b ≤ t * 4294967296 + n) : Q = (t * 4294967296 + n) / b := by
  have := h.2.1
  have h2 : Q ≤ (t * 4294967296 + n) / b := Int.le_ediv_of_mul_le (by unfold Big at hb; omega) hq
  omega
/-- q times the divisor's lower half fits a word -/
theorem half_fits {t n b Q R : Int} (h : HalfInv t n b Q R) : IntKind.u64.wrap (Q * (b % 4294967296)) = Q * (b % 4294967296) := by
  obtain ⟨h1, h2, h3, h4, h5, h6, h7⟩ := h
  have a1 : 0 ≤ Q * (b % 4294967296) := Int.mul_nonneg h4 (by omega)
  have a2 : Q * (b % 4294967296) ≤ 4294967297 * 4294967295 := Int.mul_le_mul h5 (by omega) (by omega) (by omega)
  rw [wrapU]; omega
theorem half_rest {t n b : Int} (hb : Big b) (hn : H n) : IntKind.u64.wrap (t % 4294967296 * 4294967296 + n - IntKind.u64.wrap ((t * 4294967296 + n) / b * b)) = (t * 4294967296 + n) % b := by
  unfold Big H at *
  have e := Int.mul_ediv_add_emod (t * 4294967296 + n) b
  have r0 : 0 ≤ (t * 4294967296 + n) % b := Int.emod_nonneg _ (by omega)
  have r1 : (t * 4294967296 + n) % b < b := Int.emod_lt_of_pos _ (by omega)
  rw [Int.mul_comm b] at e
  rw [wrapU, wrapU]
  generalize (t * 4294967296 + n) / b * b = x at *
  generalize (t * 4294967296 + n) % b = y at *
  omega
theorem norm_shift {b : Int} (ub : U b) (hb : b ≠ 0) : ∃ s : Nat, s < 64 ∧ 64 - lenW b = s ∧ Big (b * 2 ^ s) ∧ IntKind.u64.wrap (b * 2 ^ s) = b * 2 ^ s := by
  obtain ⟨j, hj, e, l1, l2⟩ := lenW_pos ub hb
  refine ⟨63 - j, by omega, by omega, ?_⟩
  have p := pow_pos (63 - j)
  have e1 : (2 : Int) ^ j * 2 ^ (63 - j) = 9223372036854775808 := by
    rw [← Int.pow_add]
    have : j + (63 - j) = 63 := by omega
    rw [this]; rfl
  have e2 : (2 : Int) ^ (j + 1) * 2 ^ (63 - j) = 18446744073709551616 := by
    rw [Int.pow_succ]
    have : (2 : Int) ^ j * 2 * 2 ^ (63 - j) = 2 * (2 ^ j * 2 ^ (63 - j)) := by grind
    rw [this, e1]; rfl
  have m1 : (2 : Int) ^ j * 2 ^ (63 - j) ≤ b * 2 ^ (63 - j) := Int.mul_le_mul_of_nonneg_right l1 (by omega)
  have m2 : b * 2 ^ (63 - j) < 2 ^ (j + 1) * 2 ^ (63 - j) := Int.mul_lt_mul_of_pos_right l2 p
  rw [e1] at m1
  rw [e2] at m2
  refine ⟨⟨m1, m2⟩, ?_⟩
  rw [wrapU]; omega
theorem div_final {h l b : Int} {s : Nat} (uh : U h) (ul : U l) (hh : h < b) (hb0 : 0 < b) (hB : Big (b * 2 ^ s)) (hs : s < 64) :
    shHi h l s < b * 2 ^ s ∧
    H ((shHi h l s * 4294967296 + shLo h l s / 4294967296) / (b * 2 ^ s)) ∧
    (shHi h l s * 4294967296 + shLo h l s / 4294967296) % (b * 2 ^ s) < b * 2 ^ s ∧ U ((shHi h l s * 4294967296 + shLo h l s / 4294967296) % (b * 2 ^ s)) ∧
    H (((shHi h l s * 4294967296 + shLo h l s / 4294967296) % (b * 2 ^ s) * 4294967296 + shLo h l s % 4294967296) / (b * 2 ^ s)) ∧
    (shHi h l s * 4294967296 + shLo h l s / 4294967296) / (b * 2 ^ s) % 4294967296 * 4294967296 + ((shHi h l s * 4294967296 + shLo h l s / 4294967296) % (b * 2 ^ s) * 4294967296 + shLo h l s % 4294967296) / (b * 2 ^ s) = (h * 18446744073709551616 + l) / b ∧
    ((shHi h l s * 4294967296 + shLo h l s / 4294967296) % (b * 2 ^ s) * 4294967296 + shLo h l s % 4294967296) % (b * 2 ^ s) / 2 ^ s = (h * 18446744073709551616 + l) % b := by
  have p := pow_pos s
  have n1 : (h * 18446744073709551616 + l) * 2 ^ s < b * 2 ^ s * 18446744073709551616 := by
    have : (h * 18446744073709551616 + l) * 2 ^ s < (b * 18446744073709551616) * 2 ^ s := Int.mul_lt_mul_of_pos_right (by unfold U at *; omega) p
    have e : b * 18446744073709551616 * 2 ^ s = b * 2 ^ s * 18446744073709551616 := by grind
    omega
  have n0 : 0 ≤ (h * 18446744073709551616 + l) * 2 ^ s := Int.mul_nonneg (by unfold U at *; omega) (by omega)
  have eN : (h * 18446744073709551616 + l) * 2 ^ s = shHi h l s * 18446744073709551616 + shLo h l s := by
    unfold shHi shLo Big at *
    generalize (h * 18446744073709551616 + l) * 2 ^ s = T at *
    omega
  have uhi := U_shHi h l s
  have ulo := U_shLo h l s
  have eq1 : (h * 18446744073709551616 + l) * 2 ^ s / (b * 2 ^ s) = (h * 18446744073709551616 + l) / b := Int.mul_ediv_mul_of_pos_left _ _ p
  have eq2 : (h * 18446744073709551616 + l) * 2 ^ s % (b * 2 ^ s) = (h * 18446744073709551616 + l) % b * 2 ^ s := mul_mod_right _ _ p
  have eq3 : (h * 18446744073709551616 + l) % b * 2 ^ s / 2 ^ s = (h * 18446744073709551616 + l) % b := Int.mul_ediv_cancel _ (by omega)
  rw [eN] at n1 n0 eq1 eq2
  rw [← eq1, ← eq3, ← eq2]
  generalize shHi h l s = x at *
  generalize shLo h l s = y at *
  generalize (2 : Int) ^ s = P at *
  generalize b * P = B at *
  clear eq1 eq2 eq3 eN
  unfold Big U at *
  have hx : x < B := by omega
  have r0 : 0 ≤ (x * 4294967296 + y / 4294967296) % B := Int.emod_nonneg _ (by omega)
  have r1 : (x * 4294967296 + y / 4294967296) % B < B := Int.emod_lt_of_pos _ (by omega)
  have d1 := Int.mul_ediv_add_emod (x * 4294967296 + y / 4294967296) B
  have q0 : 0 ≤ (x * 4294967296 + y / 4294967296) / B := Int.ediv_nonneg (by omega) (by omega)
  have q1 : (x * 4294967296 + y / 4294967296) / B < 4294967296 := Int.ediv_lt_of_lt_mul (by omega) (by omega)
  generalize (x * 4294967296 + y / 4294967296) % B = R1 at *
  generalize (x * 4294967296 + y / 4294967296) / B = Q1 at *
  have s0 : 0 ≤ (R1 * 4294967296 + y % 4294967296) % B := Int.emod_nonneg _ (by omega)
  have s1 : (R1 * 4294967296 + y % 4294967296) % B < B := Int.emod_lt_of_pos _ (by omega)
  have d2 := Int.mul_ediv_add_emod (R1 * 4294967296 + y % 4294967296) B
  have p0 : 0 ≤ (R1 * 4294967296 + y % 4294967296) / B := Int.ediv_nonneg (by omega) (by omega)
  have p1 : (R1 * 4294967296 + y % 4294967296) / B < 4294967296 := Int.ediv_lt_of_lt_mul (by omega) (by omega)
  generalize (R1 * 4294967296 + y % 4294967296) % B = R2 at *
  generalize (R1 * 4294967296 + y % 4294967296) / B = Q2 at *
  have fin := div_of (n := x * 18446744073709551616 + y) (b := B) (q := Q1 * 4294967296 + Q2) (r := R2) (by omega) (by
    have e : (Q1 * 4294967296 + Q2) * B = B * Q1 * 4294967296 + B * Q2 := by grind
    rw [e]
    generalize B * Q1 = u at *
    generalize B * Q2 = v at *
    omega) s0 s1
  refine ⟨hx, ⟨q0, q1⟩, r1, ⟨r0, by omega⟩, ⟨p0, p1⟩, ?_, ?_⟩
  · rw [fin.1]; omega
  · rw [fin.2]
end Go.Proofs.YtceecgklgkiffaaGreatDoor.Ar

/- wide.divHalf, wide.Div -/
namespace Go.Proofs.YtceecgklgkiffaaGreatDoor
open Go.ChangeShapes Go.WideShapes Go.ChangeAt Go.RowKit
open Ar
set_option linter.unusedVariables false

theorem join_same {a b : Int} (hb : H b) (w : World) :
    Calls Tryz.prog 185 #[.int .u64 a, .int .u64 b] w fun e w' => e = .returned (.int .u64 (a % 4294967296 * 4294967296 + b)) ∧ w' = w := by
  refine (join_any hb w).mono ?_
  rintro e w' ⟨_, rfl, rfl, rfl⟩
  exact ⟨rfl, rfl⟩
theorem divHalf_any {t n b : Int} (hb : Big b) (ht : U t) (htb : t < b) (hn : H n) (w : World) :
    Calls Tryz.prog 209 #[.int .u64 t, .int .u64 n, .int .u64 b] w fun e w' => e = .returned (.tuple #[.int .u64 ((t * 4294967296 + n) / b), .int .u64 ((t * 4294967296 + n) % b)]) ∧ w = w' := by
  have hs := half_start hb ht htb hn
  have hu : U b := by unfold Big at hb; unfold U; omega
  have hl := and_half hu
  obtain ⟨g1, g2⟩ := big_halves hb
  have ht0 := ht.1
  have hz : (b / 4294967296 == 0) = false := beq_no (by omega)
  have hquo : IntKind.u64.wrap (t.tdiv (b / 4294967296)) = t / (b / 4294967296) := by
    rw [Int.tdiv_eq_ediv_of_nonneg ht.1, wrapU]
    have h0 : 0 ≤ t / (b / 4294967296) := Int.ediv_nonneg ht.1 (by omega)
    have h1 : t / (b / 4294967296) ≤ t := Int.ediv_le_self _ ht.1
    unfold U at ht
    omega
  have HQ : Hid (IntKind.u64.wrap (t.tdiv (b / 4294967296)) = t / (b / 4294967296)) := hquo
  clear hquo htb
  go_enter Tryz.func209, Tryz.ntmps209
  go_wp2
  go_loop [10, 11] (fun q r => ∃ Q R : Int, q = .int .u64 Q ∧ r = .int .u64 R ∧ HalfInv t n b Q R) (fun q _ => (intOf q).toNat)
  case atStart => exact ⟨_, _, by rw [HQ.out], rfl, hs⟩
  case round =>
    obtain ⟨Q, R, rfl, rfl, hr⟩ := hrel
    clear hs
    have ff := half_fits hr
    have hfb := hr
    obtain ⟨_, _, hR0, hQ0, hQ1, _, hR9⟩ := hfb
    by_cases hR : R < 4294967296
    · have hR' : R ≤ 4294967295 := by omega
      have hj : R % 4294967296 * 4294967296 + n = R * 4294967296 + n := by omega
      by_cases hq : R * 4294967296 + n < Q * (b % 4294967296)
      · obtain ⟨q1, hn'⟩ := half_step hb hn hr hR hq
        clear hr hR
        go_wp2_with (go_at_call 185; refine (join_any hn _).mono ?_; rintro e w' ⟨_, rfl, rfl, rfl⟩)
        go_round
        case rel => exact ⟨_, _, rfl, rfl, hn'⟩
        case measure => simp [intOf]; omega
      · have he := half_end hb hr (half_ok hb hn hr (by omega))
        have HE : Hid (Q = (t * 4294967296 + n) / b) := he
        clear he hr hR
        go_wp2_with (go_at_call 185; refine (join_any hn _).mono ?_; rintro e w' ⟨_, rfl, rfl, rfl⟩)
        go_ret2
        exact ⟨ret_two HE.out (by rw [HE.out]; exact half_rest hb hn), rfl⟩
    · have he := half_end hb hr (half_big hb hn hr (by omega))
      have HE : Hid (Q = (t * 4294967296 + n) / b) := he
      have hR' : 4294967295 < R := by omega
      clear he hr
      go_wp2_with (go_at_call 185; refine (join_any hn _).mono ?_; rintro e w' ⟨_, rfl, rfl, rfl⟩)
      go_ret2
      exact ⟨ret_two HE.out (by rw [HE.out]; exact half_rest hb hn), rfl⟩

/-- what wide.Div answers where it answers -/
def divQ (h l b : Int) : Int := (h * 18446744073709551616 + l) / b
def divR (h l b : Int) : Int := (h * 18446744073709551616 + l) % b
theorem div_zero_any {h l b : Int} (hb : b = 0) (w : World) :
    Calls Tryz.prog 177 #[.int .u64 h, .int .u64 l, .int .u64 b] w fun e w' => e = .returned (.tuple #[.int .u64 0, .int .u64 0, .int .i64 10]) ∧ Gr w w' := by
  have t : (b == 0) = true := beq_of hb
  go_enter Tryz.func177, Tryz.ntmps177
  go_wp2
  go_ret3
  exact ⟨rfl, gr_refl _⟩
theorem div_great_any {h l b : Int} (hb : b ≠ 0) (hh : b ≤ h) (w : World) :
    Calls Tryz.prog 177 #[.int .u64 h, .int .u64 l, .int .u64 b] w fun e w' => e = .returned (.tuple #[.int .u64 0, .int .u64 0, .int .i64 11]) ∧ Gr w w' := by
  have t : (b == 0) = false := beq_no hb
  go_enter Tryz.func177, Tryz.ntmps177
  go_wp2
  go_ret3
  exact ⟨rfl, gr_refl _⟩
theorem div_any {h l b : Int} (uh : U h) (ul : U l) (ub : U b) (hb : b ≠ 0) (hh : h < b) (w : World) :
    Calls Tryz.prog 177 #[.int .u64 h, .int .u64 l, .int .u64 b] w fun e w' => e = .returned (.tuple #[.int .u64 (divQ h l b), .int .u64 (divR h l b), .int .i64 0]) ∧ Gr w w' := by
  have t : (b == 0) = false := beq_no hb
  obtain ⟨s, hs, e, hB, eB⟩ := norm_shift ub hb
  obtain ⟨f1, f2, f3, f4, f5, f6, f7⟩ := div_final uh ul hh (s := s) (by unfold U at uh; omega) hB hs
  have hcl := clampN_of s (by omega)
  have u1 := U_shHi h l s
  have u2 := U_shLo h l s
  have u3 := H_div u2
  have hm := and_half u2
  have u4 := H_mod (shLo h l s)
  obtain ⟨b1, b2⟩ := lenW_bd ub
  have F6 : Hid _ := f6
  have F7 : Hid _ := f7
  clear f6 f7
  go_enter Tryz.func177, Tryz.ntmps177
  go_wp2_with (first | (go_at_call 108; refine (len_any ub _).mono ?_; rintro e w' ⟨rfl, rfl⟩) | (go_at_call 208; refine (shl_any uh ul _ _).mono ?_; rintro e w' ⟨rfl, hg⟩) | (go_at_call 209; refine (divHalf_any hB (by assumption) (by assumption) (by assumption) _).mono ?_; rintro e w' ⟨rfl, rfl⟩) | (go_at_call 185; refine (join_any (by assumption) _).mono ?_; rintro e w' ⟨_, rfl, rfl, rfl⟩))
  go_quiet ((go_at_call 185; exact Calls.quiet_of_same (join_same (by assumption) _)))
  go_wp2
  go_ret3
  exact ⟨ret_three F6.out F7.out rfl, gr_drewN hg _⟩
end Go.Proofs.YtceecgklgkiffaaGreatDoor

/- Division of long numbers: the guess by the highest words, in plain numbers and in lists. -/
namespace Go.Proofs.YtceecgklgkiffaaGreatDoor
open Go.ChangeShapes Go.WideShapes Go.ChangeAt Go.RowKit
open Na Ar
set_option linter.unusedVariables false
namespace Na
/-- the parts of divisor V and of the words R above it -/
structure Kn (P V R v1 v2 uh ul u2 : Int) : Prop where
  p : 0 < P
  v1p : 0 < v1
  v2p : 0 ≤ v2 ∧ v2 < 18446744073709551616
  u2p : 0 ≤ u2
  vlo : v1 * (18446744073709551616 * P) + v2 * P ≤ V
  vhi : V < v1 * (18446744073709551616 * P) + v2 * P + P
  rlo : (uh * 18446744073709551616 + ul) * (18446744073709551616 * P) + u2 * P ≤ R
  rhi : R < (uh * 18446744073709551616 + ul) * (18446744073709551616 * P) + u2 * P + P
  u2h : u2 < 18446744073709551616
theorem Kn.pos {P V R v1 v2 uh ul u2 : Int} (h : Kn P V R v1 v2 uh ul u2) : 0 < V := by
  have a : 0 ≤ v2 * P := Int.mul_nonneg h.v2p.1 (Int.le_of_lt h.p)
  have b : 0 < v1 * (18446744073709551616 * P) := Int.mul_pos h.v1p (by have := h.p; omega)
  have := h.vlo
  omega
/-- the guess is never too small -/
theorem Kn.first {P V R v1 v2 uh ul u2 q r : Int} (h : Kn P V R v1 v2 uh ul u2) (hq : 0 ≤ q) (e : q * v1 + r = uh * 18446744073709551616 + ul) (hr : r < v1) : R < (q + 1) * V := by
  have hp := h.p
  obtain ⟨Z, hZ⟩ : ∃ Z, Z = 18446744073709551616 * P := ⟨_, rfl⟩
  have a := h.vlo
  have b := h.rhi
  have u := h.u2h
  rw [← hZ] at a b
  have c : u2 * P + P ≤ Z := by
    have : (u2 + 1) * P ≤ 18446744073709551616 * P := Int.mul_le_mul_of_nonneg_right (by omega) (by omega)
    rw [Int.add_mul, Int.one_mul] at this
    omega
  have d : 0 ≤ v2 * P := Int.mul_nonneg h.v2p.1 (by omega)
  have e2 : (uh * 18446744073709551616 + ul + 1) * Z ≤ (q + 1) * v1 * Z := Int.mul_le_mul_of_nonneg_right (by rw [Int.add_mul, Int.one_mul]; omega) (by omega)
  rw [Int.add_mul, Int.one_mul, Int.mul_assoc] at e2
  have f : (q + 1) * (v1 * Z) ≤ (q + 1) * V := Int.mul_le_mul_of_nonneg_left (by omega) (by omega)
  omega
/-- what the next words tell to be too great is too great -/
theorem Kn.less {P V R v1 v2 uh ul u2 q r : Int} (h : Kn P V R v1 v2 uh ul u2) (hq : 0 ≤ q) (e : q * v1 + r = uh * 18446744073709551616 + ul) (ht : r * 18446744073709551616 + u2 < q * v2) : R < q * V := by
  have hp := h.p
  have a := h.vlo
  have b := h.rhi
  have f : q * (v1 * (18446744073709551616 * P) + v2 * P) ≤ q * V := Int.mul_le_mul_of_nonneg_left a hq
  have g : (r * 18446744073709551616 + u2 + 1) * P ≤ q * v2 * P := Int.mul_le_mul_of_nonneg_right (by omega) (by omega)
  rw [← e] at b
  have e1 : q * (v1 * (18446744073709551616 * P) + v2 * P) = q * v1 * (18446744073709551616 * P) + q * v2 * P := by rw [Int.mul_add, Int.mul_assoc, Int.mul_assoc]
  rw [e1] at f
  have e2 : (q * v1 + r) * (18446744073709551616 * P) = q * v1 * (18446744073709551616 * P) + r * 18446744073709551616 * P := by rw [Int.add_mul, Int.mul_assoc r]
  rw [e2] at b
  rw [Int.add_mul, Int.add_mul, Int.one_mul] at g
  omega
/-- what they do not is at most one too great -/
theorem Kn.near {P V R v1 v2 uh ul u2 q r : Int} (h : Kn P V R v1 v2 uh ul u2) (hq : 0 ≤ q) (hqb : q < 18446744073709551616) (e : q * v1 + r = uh * 18446744073709551616 + ul) (ht : q * v2 ≤ r * 18446744073709551616 + u2) : q * V < R + V := by
  have hp := h.p
  have a := h.vhi
  have a0 := h.vlo
  have b := h.rlo
  have v1p := h.v1p
  obtain ⟨s, hs⟩ : ∃ s, s = V - (v1 * (18446744073709551616 * P) + v2 * P) := ⟨_, rfl⟩
  have es : V = v1 * (18446744073709551616 * P) + v2 * P + s := by omega
  have f : q * V = q * v1 * (18446744073709551616 * P) + q * v2 * P + q * s := by rw [es, Int.mul_add, Int.mul_add, Int.mul_assoc, Int.mul_assoc]
  have g : q * v2 * P ≤ (r * 18446744073709551616 + u2) * P := Int.mul_le_mul_of_nonneg_right ht (by omega)
  have s1 : q * s ≤ q * P := Int.mul_le_mul_of_nonneg_left (by omega) hq
  have s2 : q * P < 18446744073709551616 * P := Int.mul_lt_mul_of_pos_right hqb hp
  have v0 : 1 * (18446744073709551616 * P) ≤ v1 * (18446744073709551616 * P) := Int.mul_le_mul_of_nonneg_right (by omega) (by omega)
  have d : 0 ≤ v2 * P := Int.mul_nonneg h.v2p.1 (by omega)
  rw [← e] at b
  have e2 : (q * v1 + r) * (18446744073709551616 * P) = q * v1 * (18446744073709551616 * P) + r * 18446744073709551616 * P := by rw [Int.add_mul, Int.mul_assoc r]
  rw [e2] at b
  rw [Int.add_mul] at g
  omega
/-- a rest that is no word any more tells nothing -/
theorem Kn.full {P V R v1 v2 uh ul u2 q r : Int} (h : Kn P V R v1 v2 uh ul u2) (hq : 0 ≤ q) (hqb : q < 18446744073709551616) (hr : 18446744073709551616 ≤ r) : q * v2 ≤ r * 18446744073709551616 + u2 := by
  have v2p := h.v2p
  have a : q * v2 ≤ 18446744073709551616 * v2 := Int.mul_le_mul_of_nonneg_right (by omega) v2p.1
  have := h.u2p
  omega
/-- taken away: it was right -/
theorem take_right {V R W W' Z uh b q : Int} (hR : R = W + Z * uh) (hV : V ≤ Z) (h1 : R < (q + 1) * V) (hw : 0 ≤ W' ∧ W' < Z) (e : W' - Z * b = W - q * V) (hb : b ≤ uh) : W' = R - q * V ∧ 0 ≤ W' ∧ W' < V := by
  rw [Int.add_mul, Int.one_mul] at h1
  have e2 : R - q * V = W' + Z * (uh - b) := by rw [Int.mul_sub]; omega
  by_cases g : uh = b
  · subst g
    rw [Int.sub_self, Int.mul_zero] at e2
    omega
  · have : Z * 1 ≤ Z * (uh - b) := Int.mul_le_mul_of_nonneg_left (by omega) (by omega)
    omega
/-- taken away: it was one too great -/
theorem take_over {V R W W' W2 Z uh b q c : Int} (hR : R = W + Z * uh) (hV : V ≤ Z) (h2 : q * V < R + V) (hw : 0 ≤ W' ∧ W' < Z) (e : W' - Z * b = W - q * V) (hb : uh < b) (hw2 : 0 ≤ W2 ∧ W2 < Z) (e2 : W2 + Z * c = W' + V) (hc : c = 0 ∨ c = 1) :
    W2 = R - (q - 1) * V ∧ 0 ≤ W2 ∧ W2 < V := by
  rw [Int.sub_mul, Int.one_mul]
  have e3 : R - q * V + V = W2 + Z * (c + uh - b) := by
    have : Z * (c + uh - b) = Z * c + Z * uh - Z * b := by rw [Int.mul_sub, Int.mul_add]
    omega
  have e4 : R - q * V = W' + Z * (uh - b) := by rw [Int.mul_sub]; omega
  have neg : Z * (uh - b) ≤ Z * (-1) := Int.mul_le_mul_of_nonneg_left (by omega) (by omega)
  by_cases g : c + uh - b = 0
  · rw [g, Int.mul_zero] at e3
    omega
  · by_cases g2 : 1 ≤ c + uh - b
    · have : Z * 1 ≤ Z * (c + uh - b) := Int.mul_le_mul_of_nonneg_left g2 (by omega)
      omega
    · have : Z * (c + uh - b) ≤ Z * (-1) := Int.mul_le_mul_of_nonneg_left (by omega) (by omega)
      omega
theorem win_succ {us : List Int} {o m : Nat} (h : o + m < us.length) : Na.win us o (m + 1) = Na.win us o m + 18446744073709551616 ^ m * us.getD (o + m) 0 := by
  unfold Na.win num
  rw [take_valB (by rw [List.length_drop]; omega)]
  have : (us.drop o).getD m 0 = us.getD (o + m) 0 := by simp [List.getD_eq_getElem?_getD, List.getElem?_drop]
  rw [this]
theorem win_three {us : List Int} {o k : Nat} (h : o + (k + 2) < us.length) : Na.win us o (k + 3) = Na.win us o k + 18446744073709551616 ^ k * us.getD (o + k) 0 + 18446744073709551616 * 18446744073709551616 ^ k * us.getD (o + (k + 1)) 0 + 18446744073709551616 * 18446744073709551616 * 18446744073709551616 ^ k * us.getD (o + (k + 2)) 0 := by
  have e1 : (18446744073709551616 : Int) ^ (k + 1) = 18446744073709551616 * 18446744073709551616 ^ k := by rw [Int.pow_succ, Int.mul_comm]
  have e2 : (18446744073709551616 : Int) ^ (k + 2) = 18446744073709551616 * 18446744073709551616 * 18446744073709551616 ^ k := by rw [Int.pow_succ, e1, Int.mul_comm, Int.mul_assoc]
  rw [win_succ (o := o) (m := k + 2) h, win_succ (o := o) (m := k + 1) (by omega), win_succ (o := o) (m := k) (by omega), e1, e2]
theorem win_two {us : List Int} {o k : Nat} (h : o + (k + 1) < us.length) : Na.win us o (k + 2) = Na.win us o k + 18446744073709551616 ^ k * us.getD (o + k) 0 + 18446744073709551616 * 18446744073709551616 ^ k * us.getD (o + (k + 1)) 0 := by
  have e1 : (18446744073709551616 : Int) ^ (k + 1) = 18446744073709551616 * 18446744073709551616 ^ k := by rw [Int.pow_succ, Int.mul_comm]
  rw [win_succ (o := o) (m := k + 1) (by omega), win_succ (o := o) (m := k) (by omega), e1]
/-- the parts, of lists: v of k + 2 words, u's words from j on -/
theorem kn_lists {us vs : List Int} {j k : Nat} (hu : Ws us) (hv : Ws vs) (hl : vs.length = k + 2) (hj : j + (k + 2) < us.length) (hv1 : vs.getD (k + 1) 0 ≠ 0) :
    Kn (18446744073709551616 ^ k) (num vs) (Na.win us j (k + 3)) (vs.getD (k + 1) 0) (vs.getD k 0) (us.getD (j + (k + 2)) 0) (us.getD (j + (k + 1)) 0) (us.getD (j + k) 0) := by
  have p := wpow_pos k
  have g1 := hv.getAnyB (k + 1)
  have g2 := hv.getAnyB k
  have g3 := hu.getAnyB (j + k)
  have ev : num vs = Na.win vs 0 (k + 2) := (win_all hl).symm
  have e1 := win_two (us := vs) (o := 0) (k := k) (by omega)
  rw [Nat.zero_add, Nat.zero_add] at e1
  have e2 := win_three (us := us) (o := j) (k := k) hj
  have w1 := win_nonneg hv 0 k
  have w2 := win_lt hv (o := 0) (m := k) (by omega)
  have w3 := win_nonneg hu j k
  have w4 := win_lt hu (o := j) (m := k) (by omega)
  generalize (18446744073709551616 : Int) ^ k = P at *
  generalize vs.getD (k + 1) 0 = a at *
  generalize vs.getD k 0 = b at *
  generalize us.getD (j + (k + 2)) 0 = c at *
  generalize us.getD (j + (k + 1)) 0 = d at *
  generalize us.getD (j + k) 0 = e at *
  have f1 : a * (18446744073709551616 * P) = 18446744073709551616 * P * a := Int.mul_comm _ _
  have f2 : b * P = P * b := Int.mul_comm _ _
  have f3 : e * P = P * e := Int.mul_comm _ _
  have f4 : (c * 18446744073709551616 + d) * (18446744073709551616 * P) = 18446744073709551616 * 18446744073709551616 * P * c + 18446744073709551616 * P * d := by grind
  refine ⟨p, by omega, g2, g3.1, ?_, ?_, ?_, ?_, g3.2⟩
  · rw [ev, e1, f1, f2]; omega
  · rw [ev, e1, f1, f2]; omega
  · rw [e2, f4, f3]; omega
  · rw [e2, f4, f3]; omega
/-- what holds ahead of the guess for the word j of the quotient: U0 the number, shifted -/
structure DvI (U0 : Int) (vs us qs : List Int) (j : Nat) : Prop where
  wu : Ws us
  wq : Ws qs
  sum : num us + num vs * num qs = U0
  low : num us < num vs * 18446744073709551616 ^ j
  zer : ∀ i, i < j → qs.getD i 0 = 0
theorem DvI.top {U0 : Int} {vs us qs : List Int} {j n : Nat} (h : DvI U0 vs us qs (j + 1)) (hj : j + (n + 1) ≤ us.length) : Na.win us j (n + 1) < num vs * 18446744073709551616 := by
  have s := win_split (us := us) (o := j) (m := n + 1) hj
  have l := h.low
  have a := num_nonneg (h.wu.take j)
  have b := num_nonneg (h.wu.drop (j + (n + 1)))
  have p := wpow_pos j
  have c : 0 ≤ 18446744073709551616 ^ (j + (n + 1)) * num (us.drop (j + (n + 1))) := Int.mul_nonneg (Int.le_of_lt (wpow_pos _)) b
  have d : 18446744073709551616 ^ j * Na.win us j (n + 1) < 18446744073709551616 ^ j * (num vs * 18446744073709551616) := by
    have : (18446744073709551616 : Int) ^ j * (num vs * 18446744073709551616) = num vs * 18446744073709551616 ^ (j + 1) := by rw [Int.pow_succ]; grind
    omega
  exact Int.lt_of_mul_lt_mul_left d (Int.le_of_lt p)
/-- one word of the quotient is done -/
theorem DvI.next {U0 q : Int} {vs us qs ts : List Int} {j n : Nat} (h : DvI U0 vs us qs (j + 1)) (hq : 0 ≤ q ∧ q < 18446744073709551616) (hj : j + n < us.length) (hjq : j < qs.length)
    (wt : Ws ts) (lt : ts.length = us.length) (t1 : ts.take j = us.take j) (t2 : ts.drop (j + n) = us.drop (j + n)) (e : Na.win ts j n = Na.win us j (n + 1) - q * num vs) (hlt : Na.win ts j n < num vs) (hvn : num vs ≤ 18446744073709551616 ^ n) :
    DvI U0 vs (ts.set (j + n) 0) (qs.set j q) j := by
  have su := win_split (us := us) (o := j) (m := n) (by omega)
  have st := win_split (us := ts) (o := j) (m := n) (by omega)
  have sw := win_succ (us := us) (o := j) (m := n) hj
  rw [t1, t2] at st
  have g : ts.getD (j + n) 0 = us.getD (j + n) 0 := getD_drop t2
  have n0 := h.wu.getAnyB (j + n)
  have ns : num (ts.set (j + n) 0) = num ts + 18446744073709551616 ^ (j + n) * (0 - ts.getD (j + n) 0) := val_set 0 (by omega)
  have z : qs.getD j 0 = 0 := h.zer j (by omega)
  have nq : num (qs.set j q) = num qs + 18446744073709551616 ^ j * (q - qs.getD j 0) := val_set q hjq
  rw [z, Int.sub_zero] at nq
  have key : num (ts.set (j + n) 0) = num us - 18446744073709551616 ^ j * (q * num vs) := by
    rw [ns, g, st, su]
    rw [e, sw, Int.pow_add]
    generalize (18446744073709551616 : Int) ^ j = P
    generalize (18446744073709551616 : Int) ^ n = Q
    generalize num (us.drop (j + n)) = D
    grind
  refine ⟨wt.set _ (by omega), h.wq.set _ hq, ?_, ?_, ?_⟩
  · rw [key, nq, ← h.sum]
    generalize (18446744073709551616 : Int) ^ j = P
    generalize num vs = V
    grind
  · have a := num_bd (h.wu.take j)
    rw [List.length_take, Nat.min_eq_left (by omega)] at a
    have p := wpow_pos j
    have : num us - 18446744073709551616 ^ j * (q * num vs) = num (us.take j) + 18446744073709551616 ^ j * Na.win ts j n + 18446744073709551616 ^ (j + n + 1) * num (us.drop (j + n + 1)) := by
      have s2 := win_split (us := us) (o := j) (m := n + 1) (by omega)
      rw [s2, e, Int.mul_sub, ← Nat.add_assoc]
      omega
    have dz : num (us.drop (j + n + 1)) = 0 := by
      have b := num_nonneg (h.wu.drop (j + n + 1))
      by_cases hz : num (us.drop (j + n + 1)) = 0
      · exact hz
      · exfalso
        have s2 := win_split (us := us) (o := j) (m := n + 1) (by omega)
        have l := h.low
        have wn := win_nonneg h.wu j (n + 1)
        have tn := num_nonneg (h.wu.take j)
        have m1 : (18446744073709551616 : Int) ^ (j + (n + 1)) * 1 ≤ 18446744073709551616 ^ (j + (n + 1)) * num (us.drop (j + (n + 1))) := Int.mul_le_mul_of_nonneg_left (by rw [← Nat.add_assoc]; omega) (Int.le_of_lt (wpow_pos _))
        have m2 : 0 ≤ 18446744073709551616 ^ j * Na.win us j (n + 1) := Int.mul_nonneg (Int.le_of_lt p) wn
        have m3 : num vs * 18446744073709551616 ^ (j + 1) ≤ 18446744073709551616 ^ n * 18446744073709551616 ^ (j + 1) := Int.mul_le_mul_of_nonneg_right hvn (Int.le_of_lt (wpow_pos _))
        have m4 : (18446744073709551616 : Int) ^ n * 18446744073709551616 ^ (j + 1) = 18446744073709551616 ^ (j + (n + 1)) := by rw [← Int.pow_add]; congr 1; omega
        omega
    rw [key, this, dz, Int.mul_zero, Int.add_zero]
    have m : (18446744073709551616 : Int) ^ j * (Na.win ts j n + 1) ≤ 18446744073709551616 ^ j * num vs := Int.mul_le_mul_of_nonneg_left (by omega) (Int.le_of_lt p)
    rw [Int.mul_add, Int.mul_one] at m
    rw [Int.mul_comm (num vs)]
    omega
  · intro i hi
    rw [List.getD_eq_getElem?_getD, List.getElem?_set_ne (by omega), ← List.getD_eq_getElem?_getD]
    exact h.zer i (by omega)
end Na
end Go.Proofs.YtceecgklgkiffaaGreatDoor

/- Euclid's steps foreseen (Lehmer), common divisors, roots by Newton's steps: in plain numbers. -/
namespace Go.Proofs.YtceecgklgkiffaaGreatDoor
set_option linter.unusedVariables false
namespace Na
/-- so many steps of Euclid's on the top parts x0, y0, and what they come to -/
structure Fs (x0 y0 : Int) (k : Nat) (ua ub va vb x y : Int) : Prop where
  nn : 0 ≤ ua ∧ 0 ≤ ub ∧ 0 ≤ va ∧ 1 ≤ vb
  e1 : x0 = vb * x + ub * y
  e2 : y0 = va * x + ua * y
  dt : ua * vb - ub * va = if k % 2 = 0 then 1 else -1
  st : (k = 0 ∧ ua = 1 ∧ ub = 0 ∧ va = 0 ∧ vb = 1 ∧ y ≤ x) ∨ (1 ≤ k ∧ ua ≤ ub ∧ va ≤ vb ∧ 1 ≤ ub ∧ 1 ≤ va ∧ y < x)
  y0 : 0 ≤ y
theorem fs_start {x0 y0 : Int} (h : 0 ≤ y0) (hl : y0 ≤ x0) : Fs x0 y0 0 1 0 0 1 x0 y0 :=
  ⟨by omega, by omega, by omega, by simp, Or.inl ⟨rfl, rfl, rfl, rfl, rfl, hl⟩, h⟩
theorem Fs.step {x0 y0 : Int} {k : Nat} {ua ub va vb x y : Int} (h : Fs x0 y0 k ua ub va vb x y) (hy : y ≠ 0) :
    Fs x0 y0 (k + 1) va vb (ua + x / y * va) (ub + x / y * vb) y (x % y) := by
  obtain ⟨⟨n1, n2, n3, n4⟩, e1, e2, dt, st, hy0⟩ := h
  have hyp : 0 < y := by omega
  have hm := Int.emod_nonneg x hy
  have hl := Int.emod_lt_of_pos x hyp
  have hd := Int.mul_ediv_add_emod x y
  have hxy : y ≤ x := by rcases st with s | s <;> omega
  have hq : 1 ≤ x / y := by
    rw [Int.le_ediv_iff_mul_le hyp]; omega
  generalize x / y = q at *
  generalize x % y = r at *
  have hqv : 0 ≤ q * va := Int.mul_nonneg (by omega) n3
  have hqw : 1 * vb ≤ q * vb := Int.mul_le_mul_of_nonneg_right hq (by omega)
  refine ⟨⟨n3, by omega, by omega, by omega⟩, ?_, ?_, ?_, Or.inr ⟨by omega, ?_, ?_, by omega, ?_, hl⟩, hm⟩
  · rw [e1, ← hd]; grind
  · rw [e2, ← hd]; grind
  · have : va * (ub + q * vb) - vb * (ua + q * va) = -(ua * vb - ub * va) := by grind
    rw [this, dt]
    split <;> split <;> omega
  · rcases st with ⟨_, s1, s2, s3, s4, _⟩ | ⟨_, s1, s2, _⟩
    · omega
    · exact s2
  · rcases st with ⟨_, s1, s2, s3, s4, _⟩ | ⟨_, s1, s2, _⟩
    · subst s1 s2 s3 s4; omega
    · have : q * va ≤ q * vb := Int.mul_le_mul_of_nonneg_left s2 (by omega)
      omega
  · rcases st with ⟨_, s1, s2, s3, s4, _⟩ | ⟨_, s1, s2, s3, s4, _⟩
    · omega
    · have : 1 * va ≤ q * va := Int.mul_le_mul_of_nonneg_right hq n3
      omega
/-- no factor leaves a word -/
theorem Fs.word {x0 y0 : Int} {k : Nat} {ua ub va vb x y : Int} (h : Fs x0 y0 k ua ub va vb x y) (hx : 1 ≤ x) : vb ≤ x0 ∧ va ≤ y0 := by
  obtain ⟨⟨n1, n2, n3, n4⟩, e1, e2, dt, st, hy0⟩ := h
  have a : vb * 1 ≤ vb * x := Int.mul_le_mul_of_nonneg_left hx (by omega)
  have b : va * 1 ≤ va * x := Int.mul_le_mul_of_nonneg_left hx (by omega)
  have c : 0 ≤ ub * y := Int.mul_nonneg n2 hy0
  have d : 0 ≤ ua * y := Int.mul_nonneg n1 hy0
  omega
theorem Fs.both {x0 y0 : Int} {k : Nat} {ua ub va vb x y : Int} (h : Fs x0 y0 k ua ub va vb x y) (hx : 1 ≤ x) (hy : 1 ≤ y) : vb + ub ≤ x0 := by
  obtain ⟨⟨n1, n2, n3, n4⟩, e1, e2, dt, st, hy0⟩ := h
  have a : vb * 1 ≤ vb * x := Int.mul_le_mul_of_nonneg_left hx (by omega)
  have c : ub * 1 ≤ ub * y := Int.mul_le_mul_of_nonneg_left hy n2
  omega
/-- what the factors make of two numbers -/
structure Crs (k : Nat) (ua ub va vb a b a' b' : Int) : Prop where
  ea : a = vb * a' + ub * b'
  eb : b = va * a' + ua * b'
  ord : b' ≤ a'
  nn : 0 ≤ b'
  sm : a' + b' ≤ a
  da : a' = if k % 2 = 0 then ua * a - ub * b else ub * b - ua * a
  db : b' = if k % 2 = 0 then vb * b - va * a else va * a - vb * b
theorem Fs.course {x0 y0 H α β : Int} {k : Nat} {ua ub va vb x y : Int} (h : Fs x0 y0 k ua ub va vb x y) (hk : 1 ≤ k) (g1 : vb ≤ y) (g2 : vb + ub ≤ x - y) (hH : 0 < H) (ha : 0 ≤ α ∧ α < H) (hb : 0 ≤ β ∧ β < H) :
    ∃ a' b', Crs k ua ub va vb (x0 * H + α) (y0 * H + β) a' b' := by
  obtain ⟨⟨n1, n2, n3, n4⟩, e1, e2, dt, st, hy0⟩ := h
  rcases st with s | ⟨_, s1, s2, s3, s4, s5⟩
  · omega
  · by_cases hp : k % 2 = 0
    · rw [if_pos hp] at dt
      have b0 : (y - va) * H ≤ (vb * (y0 * H + β) - va * (x0 * H + α)) := by
        have m1 : va * α ≤ va * H := Int.mul_le_mul_of_nonneg_left (by omega) n3
        have m2 : 0 ≤ vb * β := Int.mul_nonneg (by omega) hb.1
        have : vb * (y0 * H + β) - va * (x0 * H + α) = (ua * vb - ub * va) * y * H + vb * β - va * α := by rw [e1, e2]; grind
        rw [this, dt, Int.one_mul, Int.sub_mul]; omega
      have b1 : 0 ≤ (y - va) * H := Int.mul_nonneg (by omega) (by omega)
      have ab : (x - y - (ub + vb)) * H ≤ (ua * (x0 * H + α) - ub * (y0 * H + β)) - (vb * (y0 * H + β) - va * (x0 * H + α)) := by
        have m1 : (ub + vb) * β ≤ (ub + vb) * H := Int.mul_le_mul_of_nonneg_left (by omega) (by omega)
        have m2 : 0 ≤ (ua + va) * α := Int.mul_nonneg (by omega) ha.1
        have : (ua * (x0 * H + α) - ub * (y0 * H + β)) - (vb * (y0 * H + β) - va * (x0 * H + α)) = (ua * vb - ub * va) * (x - y) * H + (ua + va) * α - (ub + vb) * β := by rw [e1, e2]; grind
        rw [this, dt, Int.one_mul, Int.sub_mul]; omega
      have ab1 : 0 ≤ (x - y - (ub + vb)) * H := Int.mul_nonneg (by omega) (by omega)
      have ea : x0 * H + α = vb * (ua * (x0 * H + α) - ub * (y0 * H + β)) + ub * (vb * (y0 * H + β) - va * (x0 * H + α)) := by
        have : vb * (ua * (x0 * H + α) - ub * (y0 * H + β)) + ub * (vb * (y0 * H + β) - va * (x0 * H + α)) = (ua * vb - ub * va) * (x0 * H + α) := by grind
        rw [this, dt, Int.one_mul]
      have eb : y0 * H + β = va * (ua * (x0 * H + α) - ub * (y0 * H + β)) + ua * (vb * (y0 * H + β) - va * (x0 * H + α)) := by
        have : va * (ua * (x0 * H + α) - ub * (y0 * H + β)) + ua * (vb * (y0 * H + β) - va * (x0 * H + α)) = (ua * vb - ub * va) * (y0 * H + β) := by grind
        rw [this, dt, Int.one_mul]
      refine ⟨ua * (x0 * H + α) - ub * (y0 * H + β), vb * (y0 * H + β) - va * (x0 * H + α), ea, eb, by omega, by omega, ?_, by rw [if_pos hp], by rw [if_pos hp]⟩
      generalize ua * (x0 * H + α) - ub * (y0 * H + β) = A at *
      generalize vb * (y0 * H + β) - va * (x0 * H + α) = C at *
      have m3 : 1 * A ≤ vb * A := Int.mul_le_mul_of_nonneg_right n4 (by omega)
      have m4 : 1 * C ≤ ub * C := Int.mul_le_mul_of_nonneg_right s3 (by omega)
      omega
    · rw [if_neg hp] at dt
      have b0 : (y - vb) * H ≤ (va * (x0 * H + α) - vb * (y0 * H + β)) := by
        have m1 : vb * β ≤ vb * H := Int.mul_le_mul_of_nonneg_left (by omega) (by omega)
        have m2 : 0 ≤ va * α := Int.mul_nonneg (by omega) ha.1
        have : va * (x0 * H + α) - vb * (y0 * H + β) = -((ua * vb - ub * va) * y * H) + va * α - vb * β := by rw [e1, e2]; grind
        rw [this, dt, Int.sub_mul, Int.neg_mul, Int.neg_mul, Int.one_mul, Int.neg_neg]; omega
      have b1 : 0 ≤ (y - vb) * H := Int.mul_nonneg (by omega) (by omega)
      have ab : (x - y - (ua + va)) * H ≤ (ub * (y0 * H + β) - ua * (x0 * H + α)) - (va * (x0 * H + α) - vb * (y0 * H + β)) := by
        have m1 : (ua + va) * α ≤ (ua + va) * H := Int.mul_le_mul_of_nonneg_left (by omega) (by omega)
        have m2 : 0 ≤ (ub + vb) * β := Int.mul_nonneg (by omega) hb.1
        have : (ub * (y0 * H + β) - ua * (x0 * H + α)) - (va * (x0 * H + α) - vb * (y0 * H + β)) = -((ua * vb - ub * va) * (x - y) * H) + (ub + vb) * β - (ua + va) * α := by rw [e1, e2]; grind
        rw [this, dt, Int.sub_mul, Int.neg_mul, Int.neg_mul, Int.one_mul, Int.neg_neg]; omega
      have ab1 : 0 ≤ (x - y - (ua + va)) * H := Int.mul_nonneg (by omega) (by omega)
      have ea : x0 * H + α = vb * (ub * (y0 * H + β) - ua * (x0 * H + α)) + ub * (va * (x0 * H + α) - vb * (y0 * H + β)) := by
        have : vb * (ub * (y0 * H + β) - ua * (x0 * H + α)) + ub * (va * (x0 * H + α) - vb * (y0 * H + β)) = -((ua * vb - ub * va) * (x0 * H + α)) := by grind
        rw [this, dt, Int.neg_mul, Int.one_mul, Int.neg_neg]
      have eb : y0 * H + β = va * (ub * (y0 * H + β) - ua * (x0 * H + α)) + ua * (va * (x0 * H + α) - vb * (y0 * H + β)) := by
        have : va * (ub * (y0 * H + β) - ua * (x0 * H + α)) + ua * (va * (x0 * H + α) - vb * (y0 * H + β)) = -((ua * vb - ub * va) * (y0 * H + β)) := by grind
        rw [this, dt, Int.neg_mul, Int.one_mul, Int.neg_neg]
      refine ⟨ub * (y0 * H + β) - ua * (x0 * H + α), va * (x0 * H + α) - vb * (y0 * H + β), ea, eb, by omega, by omega, ?_, by rw [if_neg hp], by rw [if_neg hp]⟩
      generalize ub * (y0 * H + β) - ua * (x0 * H + α) = A at *
      generalize va * (x0 * H + α) - vb * (y0 * H + β) = C at *
      have m3 : 1 * A ≤ vb * A := Int.mul_le_mul_of_nonneg_right n4 (by omega)
      have m4 : 1 * C ≤ ub * C := Int.mul_le_mul_of_nonneg_right s3 (by omega)
      omega
theorem Crs.gcd {k : Nat} {ua ub va vb a b a' b' : Int} (h : Crs k ua ub va vb a b a' b') : Int.gcd a' b' = Int.gcd a b := by
  apply Nat.dvd_antisymm
  · refine Int.ofNat_dvd.mp (Int.dvd_coe_gcd ?_ ?_)
    · rw [h.ea]; exact Int.dvd_add (Int.dvd_trans (Int.gcd_dvd_left ..) (Int.dvd_mul_left _ _)) (Int.dvd_trans (Int.gcd_dvd_right ..) (Int.dvd_mul_left _ _))
    · rw [h.eb]; exact Int.dvd_add (Int.dvd_trans (Int.gcd_dvd_left ..) (Int.dvd_mul_left _ _)) (Int.dvd_trans (Int.gcd_dvd_right ..) (Int.dvd_mul_left _ _))
  · have d1 : (Int.gcd a b : Int) ∣ a := Int.gcd_dvd_left ..
    have d2 : (Int.gcd a b : Int) ∣ b := Int.gcd_dvd_right ..
    refine Int.ofNat_dvd.mp (Int.dvd_coe_gcd ?_ ?_)
    · rw [h.da]; split
      · exact Int.dvd_sub (Int.dvd_trans d1 (Int.dvd_mul_left _ _)) (Int.dvd_trans d2 (Int.dvd_mul_left _ _))
      · exact Int.dvd_sub (Int.dvd_trans d2 (Int.dvd_mul_left _ _)) (Int.dvd_trans d1 (Int.dvd_mul_left _ _))
    · rw [h.db]; split
      · exact Int.dvd_sub (Int.dvd_trans d2 (Int.dvd_mul_left _ _)) (Int.dvd_trans d1 (Int.dvd_mul_left _ _))
      · exact Int.dvd_sub (Int.dvd_trans d1 (Int.dvd_mul_left _ _)) (Int.dvd_trans d2 (Int.dvd_mul_left _ _))
theorem gcd_step (a b : Int) : Int.gcd b (a % b) = Int.gcd a b := by
  have e := Int.mul_ediv_add_emod a b
  apply Nat.dvd_antisymm
  · have d1 : (Int.gcd b (a % b) : Int) ∣ b := Int.gcd_dvd_left ..
    have d2 : (Int.gcd b (a % b) : Int) ∣ a % b := Int.gcd_dvd_right ..
    refine Int.ofNat_dvd.mp (Int.dvd_coe_gcd ?_ d1)
    have : (Int.gcd b (a % b) : Int) ∣ b * (a / b) + a % b := Int.dvd_add (Int.dvd_trans d1 (Int.dvd_mul_right _ _)) d2
    rw [e] at this; exact this
  · have d1 : (Int.gcd a b : Int) ∣ a := Int.gcd_dvd_left ..
    have d2 : (Int.gcd a b : Int) ∣ b := Int.gcd_dvd_right ..
    refine Int.ofNat_dvd.mp (Int.dvd_coe_gcd d2 ?_)
    have : (Int.gcd a b : Int) ∣ a - b * (a / b) := Int.dvd_sub d1 (Int.dvd_trans d2 (Int.dvd_mul_right _ _))
    have e2 : a - b * (a / b) = a % b := by omega
    rw [e2] at this; exact this
theorem gcd_twos {a b : Int} (i j : Nat) (ha : a % 2 = 1) (hb : b % 2 = 1) (ha0 : 0 ≤ a) (hb0 : 0 ≤ b) : (Int.gcd (a * 2 ^ i) (b * 2 ^ j) : Int) = (Int.gcd a b : Int) * 2 ^ (min i j) := by
  obtain ⟨m, rfl⟩ := Int.eq_ofNat_of_zero_le ha0
  obtain ⟨n, rfl⟩ := Int.eq_ofNat_of_zero_le hb0
  have e1 : ((m : Int) * 2 ^ i) = ((m * 2 ^ i : Nat) : Int) := by simp
  have e2 : ((n : Int) * 2 ^ j) = ((n * 2 ^ j : Nat) : Int) := by simp
  rw [e1, e2, Int.gcd_natCast_natCast, Int.gcd_natCast_natCast]
  have cm : ∀ k, Nat.Coprime m (2 ^ k) := fun k => Nat.Coprime.pow_right k (by
    rw [Nat.Coprime, Nat.gcd_comm, Nat.gcd_rec]
    have : m % 2 = 1 := by omega
    rw [this]; rfl)
  have cn : ∀ k, Nat.Coprime n (2 ^ k) := fun k => Nat.Coprime.pow_right k (by
    rw [Nat.Coprime, Nat.gcd_comm, Nat.gcd_rec]
    have : n % 2 = 1 := by omega
    rw [this]; rfl)
  have key : Nat.gcd (m * 2 ^ i) (n * 2 ^ j) = Nat.gcd m n * 2 ^ (min i j) := by
    by_cases h : i ≤ j
    · have s : n * 2 ^ j = (n * 2 ^ (j - i)) * 2 ^ i := by rw [Nat.mul_assoc, ← Nat.pow_add, Nat.sub_add_cancel h]
      rw [s, Nat.gcd_mul_right, Nat.min_eq_left h, Nat.Coprime.gcd_mul_right_cancel_right n (cm (j - i)).symm]
    · have s : m * 2 ^ i = (m * 2 ^ (i - j)) * 2 ^ j := by rw [Nat.mul_assoc, ← Nat.pow_add, Nat.sub_add_cancel (by omega)]
      rw [s, Nat.gcd_mul_right, Nat.min_eq_right (by omega), Nat.Coprime.gcd_mul_right_cancel m (cn (i - j)).symm]
  rw [key]; simp
/-- the greatest number whose square is not above -/
def IsRoot (x s : Int) : Prop := 0 ≤ s ∧ s * s ≤ x ∧ x < (s + 1) * (s + 1)
theorem IsRoot.unique {x s t : Int} (h : IsRoot x s) (k : IsRoot x t) : s = t := by
  obtain ⟨a, b, c⟩ := h
  obtain ⟨d, e, f⟩ := k
  by_cases g : s < t
  · have := Int.mul_le_mul (show s + 1 ≤ t by omega) (show s + 1 ≤ t by omega) (by omega) d
    omega
  · by_cases g2 : t < s
    · have := Int.mul_le_mul (show t + 1 ≤ s by omega) (show t + 1 ≤ s by omega) (by omega) a
      omega
    · omega
theorem newton_step {x s : Int} (hx : 0 < x) (hs : 0 < s) (h : x < (s + 1) * (s + 1)) (hq : x / s < s) : 0 < (s + x / s) / 2 ∧ (s + x / s) / 2 < s ∧ x < ((s + x / s) / 2 + 1) * ((s + x / s) / 2 + 1) := by
  have f : x < (x / s + 1) * s := by
    have := Int.mul_ediv_add_emod x s
    have := Int.emod_lt_of_pos x hs
    rw [Int.add_mul, Int.one_mul, Int.mul_comm]; omega
  have q0 : 0 ≤ x / s := Int.ediv_nonneg (by omega) (by omega)
  generalize x / s = q at *
  have hsq : 1 < s + q := by
    by_cases g : 1 < s + q
    · exact g
    · have : s = 1 ∧ q = 0 := by omega
      obtain ⟨rfl, rfl⟩ := this
      omega
  obtain ⟨t, ht⟩ : ∃ t, t = (s + q) / 2 := ⟨_, rfl⟩
  have t1 : s + q ≤ 2 * t + 1 := by omega
  rw [← ht]
  refine ⟨by omega, by omega, ?_⟩
  have a : (s + (q + 1)) * (s + (q + 1)) ≤ (2 * (t + 1)) * (2 * (t + 1)) := Int.mul_le_mul (by omega) (by omega) (by omega) (by omega)
  have b : 4 * ((q + 1) * s) ≤ (s + (q + 1)) * (s + (q + 1)) := by
    have : (s + (q + 1)) * (s + (q + 1)) = 4 * ((q + 1) * s) + (s - (q + 1)) * (s - (q + 1)) := by grind
    have p : 0 ≤ (s - (q + 1)) * (s - (q + 1)) := by
      by_cases g : 0 ≤ s - (q + 1)
      · exact Int.mul_nonneg g g
      · have := Int.mul_nonneg (show 0 ≤ -(s - (q + 1)) by omega) (show 0 ≤ -(s - (q + 1)) by omega)
        rw [Int.neg_mul_neg] at this; exact this
    omega
  have c : (2 * (t + 1)) * (2 * (t + 1)) = 4 * ((t + 1) * (t + 1)) := by grind
  omega
theorem newton_end {x s : Int} (hs : 0 < s) (h : x < (s + 1) * (s + 1)) (hq : s ≤ x / s) : IsRoot x s ∧ ((x % s = 0 ∧ x / s = s) ↔ s * s = x) := by
  have hd := Int.mul_ediv_add_emod x s
  have hm := Int.emod_nonneg x (show s ≠ 0 by omega)
  have l := Int.mul_le_mul_of_nonneg_left hq (show 0 ≤ s by omega)
  refine ⟨⟨by omega, by omega, h⟩, ⟨fun ⟨a, b⟩ => by rw [b, a] at hd; omega, fun e => ?_⟩⟩
  have b : x / s = s := by rw [← e]; exact Int.mul_ediv_cancel _ (by omega)
  rw [b] at hd
  exact ⟨by omega, b⟩
end Na
end Go.Proofs.YtceecgklgkiffaaGreatDoor

/- A function whose body jumps to several labels: what holds at each label, with a measure that every way from one label to the next lowers. -/
namespace Go.Proofs.YtceecgklgkiffaaGreatDoor
set_option linter.unusedVariables false

/-- as Q; by a jump to label l: J l -/
def jumpsTo (J : Nat → Act → World → Prop) (Q : Exit → Act → World → Prop) : Exit → Act → World → Prop
  | .goto l, a, w => J l a w
  | e, a, w => Q e a w

theorem jumpsTo_ret {J : Nat → Act → World → Prop} {Q : Exit → Act → World → Prop} {a : Act} {w : World} : jumpsTo J Q .ret a w = Q .ret a w := rfl
theorem jumpsTo_goto {J : Nat → Act → World → Prop} {Q : Exit → Act → World → Prop} {l : Nat} {a : Act} {w : World} : jumpsTo J Q (.goto l) a w = J l a w := rfl

theorem wp_labels {P : Program} {a : Act} {w : World} {Q : Exit → Act → World → Prop} {c : Code} (J : Nat → Nat → Act → World → Prop)
    (start : c.wp P (jumpsTo (fun l a' w' => ∃ n, J l n a' w') Q) a w)
    (go : ∀ l n a₀ w₀, J l n a₀ w₀ → ∃ rest, findLabel c l = some rest ∧ rest.wp P (jumpsTo (fun l' a' w' => ∃ n', n' < n ∧ J l' n' a' w') Q) a₀ w₀) : (Code.scope c).wp P Q a w := by
  intro b k cs
  have onward : ∀ n l a₀ w₀, J l n a₀ w₀ → ∃ rest, gotoIn l (.inScope c :: k) = some (.code rest :: .inScope c :: k) ∧
      ∃ e a' w', Q e a' w' ∧ Arrives P (lone (b.at a₀ (.code rest :: .inScope c :: k)) cs w₀) b k cs e a' w' := by
    intro n
    induction n using Nat.strongRecOn with
    | _ n ih =>
      intro l a₀ w₀ hJ
      obtain ⟨rest, hf, hw⟩ := go l n a₀ w₀ hJ
      refine ⟨rest, by simp [gotoIn, hf], ?_⟩
      obtain ⟨e, a₁, w₁, hq, harr⟩ := hw b (.inScope c :: k) cs
      cases e with
      | goto l' =>
        obtain ⟨n', hlt, hJ'⟩ := hq
        obtain ⟨rest', hg, e₂, a₂, w₂, hq₂, harr₂⟩ := ih n' hlt l' a₁ w₁ hJ'
        exact ⟨e₂, a₂, w₂, hq₂, .of_steps (harr _ hg) harr₂⟩
      | normal => exact ⟨.normal, a₁, w₁, hq, Steps.trans harr (.one step_inScope)⟩
      | exit id => exact ⟨.exit id, a₁, w₁, hq, fun k' hk => harr k' (by simp [exitTo, hk])⟩
      | ret => exact ⟨_, a₁, w₁, hq, harr⟩
      | panic ch => exact ⟨_, a₁, w₁, hq, harr⟩
      | outgrown => exact ⟨_, a₁, w₁, hq, harr⟩
  obtain ⟨e, a₁, w₁, hq, harr⟩ := start b (.inScope c :: k) cs
  cases e with
  | goto l =>
    obtain ⟨n, hJ⟩ := hq
    obtain ⟨rest, hg, e₂, a₂, w₂, hq₂, harr₂⟩ := onward n l a₁ w₁ hJ
    exact ⟨e₂, a₂, w₂, hq₂, .of_steps (.head step_scope (harr _ hg)) harr₂⟩
  | normal => exact ⟨.normal, a₁, w₁, hq, .head step_scope (Steps.trans harr (.one step_inScope))⟩
  | exit id => exact ⟨.exit id, a₁, w₁, hq, fun k' hk => .head step_scope (harr k' (by simp [exitTo, hk]))⟩
  | ret => exact ⟨_, a₁, w₁, hq, .of_steps (.one step_scope) harr⟩
  | panic ch => exact ⟨_, a₁, w₁, hq, .of_steps (.one step_scope) harr⟩
  | outgrown => exact ⟨_, a₁, w₁, hq, .of_steps (.one step_scope) harr⟩

/-- a frame's slots, one by one -/
theorem slots_all (t : Array Value) {n : Nat} (h : t.size = n) : t = ((List.range n).map (fun i => t.getD i undef)).toArray := by
  apply Array.ext
  · simp [h]
  · intro i h1 h2
    simp [Array.getElem?_eq_getElem h1]
theorem frame_all (a : Act) {n : Nat} (h : a.tmps.size = n) (hd : a.defers = []) : a = { tmps := ((List.range n).map (fun i => a.tmps.getD i undef)).toArray, defers := [] } := by
  cases a with
  | mk t d =>
    simp only at h hd
    subst hd
    exact congrArg (fun q => Act.mk q []) (slots_all t h)
end Go.Proofs.YtceecgklgkiffaaGreatDoor

/- package quot: divide: what holds at its labels. -/
namespace Go.Proofs.YtceecgklgkiffaaGreatDoor
open Go.ChangeShapes Go.WideShapes Go.ChangeAt Go.RowKit
open Na Ar
set_option linter.unusedVariables false

noncomputable def dvScope : Code := match Tryz.f146.body with | some (.seq _ (.scope c)) => c | _ => .skip
/-- the code behind label l -/
noncomputable def dvTail (l : Nat) : Code := match findLabel dvScope l with | some (.seq _ c) => c | _ => .skip
/-- what stays through all of it -/
structure DvP where
  w0 : World
  gq : Nat
  gv : Nat
  gu : Nat
  k : Nat
  J : Nat
  s : Nat
  vs : List Int
  U0 : Int
structure DvOk (p : DvP) : Prop where
  qv : p.gq ≠ p.gv
  qu : p.gq ≠ p.gu
  vu : p.gv ≠ p.gu
  wv : Ws p.vs
  lv : p.vs.length = p.k + 2
  v1 : p.vs.getD (p.k + 1) 0 ≠ 0
  big : p.J + p.k ≤ 4000000
  s63 : p.s ≤ 63
structure DvM (p : DvP) (us qs : List Int) (w : World) : Prop where
  hu : Own .u64 w p.w0.heap.size 22 (.slice (some ⟨p.gu, 0, none⟩) (p.J + p.k + 3) (p.J + p.k + 3)) us
  hq : Own .u64 w p.w0.heap.size 22 (.slice (some ⟨p.gq, 0, none⟩) (p.J + 1) (p.J + 1)) qs
  hv : Own .u64 w p.w0.heap.size 22 (.slice (some ⟨p.gv, 0, none⟩) (p.k + 2) (p.k + 2)) p.vs
  hb : Below p.w0.heap.size p.w0 w
  lu : us.length = p.J + p.k + 3
  lq : qs.length = p.J + 1
structure DvF (p : DvP) (j : Nat) (q r : Int) (a : Act) : Prop where
  sz : a.tmps.size = 174
  df : a.defers = []
  s6 : a.tmps.getD 6 undef = .int .i64 ((p.k : Int) + 2)
  s7 : a.tmps.getD 7 undef = .int .i64 (j : Int)
  s8 : a.tmps.getD 8 undef = .slice (some ⟨p.gq, 0, none⟩) (p.J + 1) (p.J + 1)
  s9 : a.tmps.getD 9 undef = .int .i64 (p.s : Int)
  s10 : a.tmps.getD 10 undef = .slice (some ⟨p.gv, 0, none⟩) (p.k + 2) (p.k + 2)
  s11 : a.tmps.getD 11 undef = .slice (some ⟨p.gu, 0, none⟩) (p.J + p.k + 3) (p.J + p.k + 3)
  s12 : a.tmps.getD 12 undef = .int .u64 q
  s13 : a.tmps.getD 13 undef = .int .u64 r
def dvMeas (l j : Nat) (q : Int) : Nat := j * 18446744073709551626 + (match l with | 0 => 18446744073709551620 | 1 => q.toNat + 2 | 2 => 1 | _ => 0)
def DvW (p : DvP) (l j : Nat) (us qs : List Int) (q r : Int) : Prop :=
  match l with
  | 0 => DvI p.U0 p.vs us qs (j + 1)
  | 1 => DvI p.U0 p.vs us qs (j + 1) ∧ U q ∧ U r ∧ q * p.vs.getD (p.k + 1) 0 + r = us.getD (j + (p.k + 2)) 0 * 18446744073709551616 + us.getD (j + (p.k + 1)) 0 ∧ Na.win us j (p.k + 3) < (q + 1) * num p.vs
  | 2 => DvI p.U0 p.vs us qs (j + 1) ∧ U q ∧ Na.win us j (p.k + 3) < (q + 1) * num p.vs ∧ q * num p.vs < Na.win us j (p.k + 3) + num p.vs
  | _ => U q ∧ Ws us ∧ DvI p.U0 p.vs (us.set (j + (p.k + 2)) 0) (qs.set j q) j
def DvJ (p : DvP) (l m : Nat) (a : Act) (w : World) : Prop :=
  ∃ (j : Nat) (us qs : List Int) (q r : Int), j ≤ p.J ∧ l ≤ 3 ∧ m = dvMeas l j q ∧ DvF p j q r a ∧ DvM p us qs w ∧ DvW p l j us qs q r
/-- the frame, slot by slot -/
theorem dv_frame {p : DvP} {j : Nat} {q r : Int} {a : Act} (h : DvF p j q r a) : ∃ t : Nat → Value, a = { tmps := #[t 0, t 1, t 2, t 3, t 4, t 5, .int .i64 ((p.k : Int) + 2), .int .i64 (j : Int), .slice (some ⟨p.gq, 0, none⟩) (p.J + 1) (p.J + 1), .int .i64 (p.s : Int), .slice (some ⟨p.gv, 0, none⟩) (p.k + 2) (p.k + 2), .slice (some ⟨p.gu, 0, none⟩) (p.J + p.k + 3) (p.J + p.k + 3), .int .u64 q, .int .u64 r, t 14, t 15, t 16, t 17, t 18, t 19, t 20, t 21, t 22, t 23, t 24, t 25, t 26, t 27, t 28, t 29, t 30, t 31, t 32, t 33, t 34, t 35, t 36, t 37, t 38, t 39, t 40, t 41, t 42, t 43, t 44, t 45, t 46, t 47, t 48, t 49, t 50, t 51, t 52, t 53, t 54, t 55, t 56, t 57, t 58, t 59, t 60, t 61, t 62, t 63, t 64, t 65, t 66, t 67, t 68, t 69, t 70, t 71, t 72, t 73, t 74, t 75, t 76, t 77, t 78, t 79, t 80, t 81, t 82, t 83, t 84, t 85, t 86, t 87, t 88, t 89, t 90, t 91, t 92, t 93, t 94, t 95, t 96, t 97, t 98, t 99, t 100, t 101, t 102, t 103, t 104, t 105, t 106, t 107, t 108, t 109, t 110, t 111, t 112, t 113, t 114, t 115, t 116, t 117, t 118, t 119, t 120, t 121, t 122, t 123, t 124, t 125, t 126, t 127, t 128, t 129, t 130, t 131, t 132, t 133, t 134, t 135, t 136, t 137, t 138, t 139, t 140, t 141, t 142, t 143, t 144, t 145, t 146, t 147, t 148, t 149, t 150, t 151, t 152, t 153, t 154, t 155, t 156, t 157, t 158, t 159, t 160, t 161, t 162, t 163, t 164, t 165, t 166, t 167, t 168, t 169, t 170, t 171, t 172, t 173], defers := [] } := by
  refine ⟨fun i => a.tmps.getD i undef, (frame_all a h.sz h.df).trans ?_⟩
  rw [← h.s6, ← h.s7, ← h.s8, ← h.s9, ← h.s10, ← h.s11, ← h.s12, ← h.s13]
  rfl
end Go.Proofs.YtceecgklgkiffaaGreatDoor

/- package quot: divide, from the label next on. -/
namespace Go.Proofs.YtceecgklgkiffaaGreatDoor
open Go.ChangeShapes Go.WideShapes Go.ChangeAt Go.RowKit
open Na Ar
set_option linter.unusedVariables false

/-- what divide answers -/
def DvPost (p : DvP) (e : Ending) (w' : World) : Prop := ∃ v1 v2, e = .returned (.tuple #[v1, v2]) ∧ ∃ c1 c2 A R, v1 = .slice (some ⟨p.gq, 0, none⟩) (words A).length c1 ∧ v2 = .slice (some ⟨p.gu, 0, none⟩) (words R).length c2 ∧
  Own .u64 w' p.w0.heap.size 22 v1 (words A) ∧ Own .u64 w' p.w0.heap.size 22 v2 (words R) ∧ Below p.w0.heap.size p.w0 w' ∧ ∃ S, S + num p.vs * A = p.U0 ∧ 0 ≤ S ∧ 0 ≤ A ∧ S < num p.vs ∧ R = S / 2 ^ p.s
set_option maxHeartbeats 3200000 in
set_option maxRecDepth 100000 in
theorem dv3 {p : DvP} (ok : DvOk p) {N m : Nat} {a : Act} {w : World} (h : DvJ p 3 m a w) (hm : m ≤ N) :
    (dvTail 3).wp Tryz.prog (jumpsTo (fun l a' w' => ∃ n', n' < N ∧ DvJ p l n' a' w') (bodyPost Tryz.prog Tryz.f146 (DvPost p))) a w := by
  obtain ⟨j, us, qs, q, r, hj, _, rfl, hf, hM, hW⟩ := h
  obtain ⟨t, rfl⟩ := dv_frame hf
  clear hf
  have hce := hM.hu.cellAt hM.lu.symm (j := j + (p.k + 2)) (by omega)
  have hfz := hM.hu.frozenAt hM.lu.symm (j + (p.k + 2))
  have hu1 := hM.hu.set hM.lu.symm (j + (p.k + 2)) 0
  have hi1 := (In.refl p.gu (p.gu + 1) w).set1 (j + (p.k + 2)) (.int .u64 0)
  have hq1 := hM.hq.inn hi1 ok.qu
  have hcq := hq1.cellAt hM.lq.symm (j := j) (by omega)
  have hfq := hq1.frozenAt hM.lq.symm j
  conv => arg 2; whnf
  have hjk : ((j : Int) + ((p.k : Int) + 2)).toNat = j + (p.k + 2) := by omega
  have hbig := ok.big
  have hq2 := hq1.set hM.lq.symm j q
  have hi2 := (In.refl p.gq (p.gq + 1) (w.setCell ⟨p.gu, j + (p.k + 2), none⟩ (.int .u64 0))).set1 j (.int .u64 q)
  have hu2 := hu1.inn hi2 ok.qu.symm
  have hv2 := (hM.hv.inn hi1 ok.vu).inn hi2 ok.qv.symm
  have hb2 := below_inn (below_inn hM.hb hi1 hM.hu.base_le (Nat.le_refl _)) hi2 hM.hq.base_le (Nat.le_refl _)
  have lu2 : (us.set (j + (p.k + 2)) 0).length = p.J + p.k + 3 := by rw [List.length_set]; exact hM.lu
  have lq2 : (qs.set j q).length = p.J + 1 := by rw [List.length_set]; exact hM.lq
  obtain ⟨hUq, hwus, hI⟩ := hW
  clear hu1 hq1 hi1 hi2 hM
  by_cases hj0 : j = 0
  · have hsum := hI.sum
    have hlow := hI.low
    have hz : Hid (j = 0) := hj0
    rw [hz.out, Int.pow_zero, Int.mul_one, ← hz.out] at hlow
    have hneg : (j : Int) - 1 < 0 := by omega
    clear hj0
    have hwq := hI.wq
    have hwu := hI.wu
    clear hI
    generalize us.set (j + (p.k + 2)) 0 = us2 at *
    generalize qs.set j q = qs2 at *
    have hsd := shiftDown_in hu2 lu2.symm hwu (by omega) ok.s63
    go_wp2_with fail
    refine hsd.mono ?_
    rintro e w3 ⟨rfl, ts, hts, ltn, wts, hnt, hi3⟩
    have hq3 := hq2.inn hi3 ok.qu
    have hb3 := below_inn hb2 hi3 hu2.base_le (Nat.le_refl _)
    have rq := hq3.rowC lq2.symm
    have rt := hts.rowC ltn.symm
    have tq := trimW_any rq hwq (by omega)
    have tt := trimW_any rt wts (by omega)
    have hq4 := hq3
    rw [← lq2] at hq4
    have cq := hq4.cut (words_le hwq)
    rw [words_take hwq, lq2] at cq
    have ht4 := hts
    rw [← ltn] at ht4
    have ct := ht4.cut (words_le wts)
    rw [words_take wts, ltn] at ct
    have n0 := num_nonneg hwu
    have n1 := num_nonneg hwq
    have HF : Hid (∃ S, S + num p.vs * num qs2 = p.U0 ∧ 0 ≤ S ∧ 0 ≤ num qs2 ∧ S < num p.vs ∧ num ts = S / 2 ^ p.s) := ⟨num us2, hsum, n0, n1, hlow, hnt⟩
    clear hsd hq3 hq4 ht4 rq rt hts hsum hlow hnt hi3 hu2 hv2 hb2 hq2 hcq hfq hce hfz
    go_wp2_with fail
    refine tq.mono ?_
    rintro e w4 ⟨rfl, _, _, _, rfl⟩
    go_wp2_with fail
    refine tt.mono ?_
    rintro e w4 ⟨rfl, _, _, _, rfl⟩
    clear tq tt
    go_wp2
    rw [jumpsTo_ret]
    go_ret2
    exact ⟨_, _, rfl, _, _, _, _, rfl, rfl, cq, ct, hb3, HF.out⟩
  · obtain ⟨i, rfl⟩ : ∃ i, j = i + 1 := ⟨j - 1, by omega⟩
    clear hj0
    go_wp2
    go_step3
    refine ⟨dvMeas 0 i q, ?_, i, _, _, q, r, by omega, by omega, rfl, ⟨rfl, rfl, rfl, ?_, rfl, rfl, rfl, rfl, rfl, rfl⟩, ⟨hu2, hq2, hv2, hb2, lu2, lq2⟩, hI⟩
    · refine Nat.lt_of_lt_of_le ?_ hm
      unfold dvMeas
      simp only
      omega
    · exact congrArg (Value.int .i64) (by omega)
end Go.Proofs.YtceecgklgkiffaaGreatDoor

/- package quot: divide, from the label take on. -/
namespace Go.Proofs.YtceecgklgkiffaaGreatDoor
open Go.ChangeShapes Go.WideShapes Go.ChangeAt Go.RowKit
open Na Ar
set_option linter.unusedVariables false

set_option maxHeartbeats 3200000 in
set_option maxRecDepth 100000 in
theorem dv2 {p : DvP} (ok : DvOk p) {N m : Nat} {a : Act} {w : World} (h : DvJ p 2 m a w) (hm : m ≤ N) :
    (dvTail 2).wp Tryz.prog (jumpsTo (fun l a' w' => ∃ n', n' < N ∧ DvJ p l n' a' w') (bodyPost Tryz.prog Tryz.f146 (DvPost p))) a w := by
  obtain ⟨j, us, qs, q, r, hj, _, rfl, hf, hM, hI, hUq, hg1, hg2⟩ := h
  obtain ⟨t, rfl⟩ := dv_frame hf
  clear hf
  have hbig := ok.big
  have hjk : ((j : Int) + ((p.k : Int) + 2)).toNat = j + (p.k + 2) := by omega
  have hV := num_bd ok.wv
  rw [ok.lv] at hV
  have hwin := win_succ (us := us) (o := j) (m := p.k + 2) (by have := hM.lu; omega)
  -- what TakeTimes leaves, in any world that reads the same
  have htk := fun (n : Nat) => takeTimes_in (o := j) (m := p.k + 2) (M := p.k + 2) (dcap := p.J + p.k + 3 - j) (cap2 := p.k + 2) (x := q) (w := w.drewN n) (hM.hu.later (below_drewN (Below.refl _ _) n)) hM.lu.symm hI.wu ((hM.hv.later (below_drewN (Below.refl _ _) n)).rowC ok.lv.symm).1 (fun _ => off_of ok.vu) ok.wv hUq (Nat.le_refl _) (by omega) (by omega)
  have hc0 := hM.hu.cellAt hM.lu.symm (j := j + (p.k + 2)) (by omega)
  obtain ⟨s, hs⟩ : ∃ s, s = j + (p.k + 2) := ⟨_, rfl⟩
  rw [← hs] at hc0
  rw [← hs] at hwin
  have hUs := hI.wu.getAnyB s
  obtain ⟨uh, huh⟩ : ∃ uh, uh = us.getD s 0 := ⟨_, rfl⟩
  have HUH : Hid (us.getD s 0 = uh) := huh.symm
  rw [← huh] at hc0 hwin hUs
  clear huh
  have hcs : ∀ (d : Int) (ts : List Int) (w3 : World), Own .u64 w3 p.w0.heap.size 22 (.slice (some ⟨p.gu, 0, none⟩) (p.J + p.k + 3) (p.J + p.k + 3)) ts → TakI us p.vs j q (p.k + 2) d ts → w3.cell? ⟨p.gu, s, none⟩ = some (.int .u64 uh) := by
    intro d ts w3 ho ht
    have h := ho.cellAt (hM.lu.symm.trans ht.2.1.symm) (j := s) (by omega)
    have h2 := ht.2.2.2.1
    rw [ok.lv] at h2
    have h3 : ts.getD s 0 = us.getD s 0 := by rw [hs]; exact getD_drop h2
    rw [h, h3, HUH.out]
  have hw : IntKind.i64.wrap ((j : Int) + ((p.k : Int) + 2)) = (s : Int) := by
    have := IntKind.wrap_i64 ((j : Int) + ((p.k : Int) + 2))
    rw [this]; omega
  have k1 : (s : Int) ≤ (p.J : Int) + (p.k : Int) + 3 := by omega
  have k2 : j ≤ s := by omega
  have k3 : ¬ (p.J + p.k + 3 = j) := by omega
  have k4 : s - j = p.k + 2 := by omega
  have k5 : s < p.J + p.k + 3 := by omega
  have k6 : (s : Int) < (p.J : Int) + (p.k : Int) + 3 := by omega
  have HS : Hid (s = j + (p.k + 2)) := hs
  have HLU : Hid (p.J + p.k + 3 = us.length) := hM.lu.symm
  clear hs hjk
  conv => arg 2; whnf
  go_wp2_with fail
  go_region_with (go_at_call 180; refine (htk _).mono ?_; rintro e w3 ⟨d, ts, rfl, hts, hti, hi3⟩; have hc3 := hcs d ts w3 hts hti)
  all_goals
    have hq3 := (hM.hq.later (below_drewN (Below.refl _ _) _)).inn hi3 ok.qu
    have hv3 := (hM.hv.later (below_drewN (Below.refl _ _) _)).inn hi3 ok.vu
    have hb3 := below_inn (below_drewN hM.hb _) hi3 hM.hu.base_le (Nat.le_refl _)
    have hlt3 : ts.length = p.J + p.k + 3 := hti.2.1.trans HLU.out.symm
    have hti' : TakI us p.vs j q p.vs.length d ts := by rw [ok.lv]; exact hti
    have hw1 := hti'.win (by rw [ok.lv, ← HLU.out]; omega)
    have tt1 := hti.2.2.2.2.1
    have tt2 := hti.2.2.2.1
    have wt := hti.1
    rw [ok.lv] at hw1 tt2
    have hn0 := win_nonneg wt j (p.k + 2)
    have hn1 := win_lt wt (o := j) (m := p.k + 2) (by omega)
    have hmz : dvMeas 3 j q < N := by
      refine Nat.lt_of_lt_of_le ?_ hm
      unfold dvMeas; simp only; omega
    clear hti hti' htk hc0 hi3
    by_cases hle : d ≤ uh
    · have hr := take_right (uh := uh) hwin (Int.le_of_lt hV) hg1 ⟨hn0, hn1⟩ hw1 hle
      have hD := hI.next (q := q) (ts := ts) (j := j) (n := p.k + 2) hUq (by rw [← HLU.out]; omega) (by rw [hM.lq]; omega) wt (by rw [hlt3]; exact HLU.out) tt1 tt2 hr.1 hr.2.2 (Int.le_of_lt hV)
      have hlq := hM.lq
      have hdt : decide (d ≤ uh) = true := decide_eq_true hle
      clear hr hwin hw1 hM hI
      go_wp2
      go_step3
      exact ⟨_, hmz, j, ts, qs, q, r, hj, by omega, rfl, ⟨rfl, rfl, rfl, rfl, rfl, rfl, rfl, rfl, rfl, rfl⟩, ⟨hts, hq3, hv3, hb3, hlt3, hlq⟩, hUq, wt, hD⟩
    · have hq1 : 1 ≤ q := by
        by_cases hz : 1 ≤ q
        · exact hz
        · exfalso
          have hq0 : q = 0 := by unfold U at hUq; omega
          rw [hq0, Int.zero_mul, Int.sub_zero] at hw1
          have a1 := win_lt hI.wu (o := j) (m := p.k + 2) (by rw [← HLU.out]; omega)
          have a2 := win_nonneg hI.wu j (p.k + 2)
          have a4 : 18446744073709551616 ^ (p.k + 2) * 1 ≤ 18446744073709551616 ^ (p.k + 2) * d := Int.mul_le_mul_of_nonneg_left (by omega) (Int.le_of_lt (wpow_pos _))
          omega
      have hUq' : U (q - 1) := by unfold U at *; omega
      have hwq : IntKind.u64.wrap (q - 1) = q - 1 := by rw [IntKind.wrap_u64]; unfold U at hUq'; omega
      have hadd := addTo_in (o := j) (m := p.k + 2) (dcap := p.J + p.k + 3 - j) (m2 := p.k + 2) (cap2 := p.k + 2) hts hlt3.symm wt (hv3.rowC ok.lv.symm).1 (fun _ => off_of ok.vu) ok.wv (Nat.le_refl _) (by omega) (by omega)
      have hov := fun W2 c h1 h2 h3 => take_over (uh := uh) (W2 := W2) (c := c) hwin (Int.le_of_lt hV) hg2 ⟨hn0, hn1⟩ hw1 (by omega) h1 h2 h3
      have hD := fun (vs : List Int) a1 a2 a3 a4 a5 a6 => hI.next (q := q - 1) (ts := vs) (j := j) (n := p.k + 2) hUq' (by rw [← HLU.out]; omega) (by rw [hM.lq]; omega) a1 a2 a3 a4 a5 a6 (Int.le_of_lt hV)
      have hlq := hM.lq
      have HTT1 : Hid (ts.take j = us.take j) := tt1
      have HTT2 : Hid (ts.drop (j + (p.k + 2)) = us.drop (j + (p.k + 2))) := tt2
      have hdt : decide (d ≤ uh) = false := decide_eq_false hle
      clear hwin hw1 hM hI tt1 tt2 hg1 hg2 hn0 hn1
      go_wp2_with fail
      refine hadd.mono ?_
      rintro e w4 ⟨c, vs, rfl, hvs, hai, hi4⟩
      have hq4 := hq3.inn hi4 ok.qu
      have hv4 := hv3.inn hi4 ok.vu
      have hb4 := below_inn hb3 hi4 hts.base_le (Nat.le_refl _)
      have hlv4 : vs.length = p.J + p.k + 3 := hai.2.1.trans hlt3
      have hw2 := hai.win (by rw [ok.lv]; exact Nat.le_refl _) (by omega)
      have hr := hov _ c ⟨win_nonneg hai.1 j (p.k + 2), win_lt hai.1 (by omega)⟩ hw2 hai.2.2.1
      have hDD := hD vs hai.1 (by rw [hlv4]; exact HLU.out) (hai.2.2.2.1.trans HTT1.out) (hai.2.2.2.2.1.trans HTT2.out) hr.1 hr.2.2
      have wv := hai.1
      clear hadd hov hD hai hw2 hr hts hq3 hv3 hb3 hi4
      go_wp2
      go_step3
      rename_i hK
      refine hK _ _ (dv3 ok ⟨j, vs, qs, q - 1, r, hj, by omega, rfl, ⟨rfl, rfl, rfl, rfl, rfl, rfl, rfl, rfl, ?_, rfl⟩, ⟨hvs, hq4, hv4, hb4, hlv4, hlq⟩, hUq', wv, hDD⟩ (Nat.le_of_lt hmz))
      first | rfl | exact congrArg (Value.int .u64) hwq
end Go.Proofs.YtceecgklgkiffaaGreatDoor

/- package quot: divide, from the label test on. -/
namespace Go.Proofs.YtceecgklgkiffaaGreatDoor
open Go.ChangeShapes Go.WideShapes Go.ChangeAt Go.RowKit
open Na Ar
set_option linter.unusedVariables false
namespace Na
theorem cmp2_le {a b c d : Int} (ha : U a) (hb : U b) (hc : U c) (hd : U d) : decide (cmp2 (mulHi a b) (mulLo a b) c d ≤ 0) = decide (a * b ≤ c * 18446744073709551616 + d) := by
  rw [decide_eq_decide]
  have u1 := U_mulLo a b
  have u2 := U_mulHi ha hb
  have e : a * b = mulHi a b * 18446744073709551616 + mulLo a b := by unfold mulHi mulLo; omega
  rw [e]
  generalize mulHi a b = x at *
  generalize mulLo a b = y at *
  unfold U at *
  unfold cmp2 ord
  split
  · split
    · omega
    · split <;> omega
  · split
    · omega
    · split <;> omega
end Na
set_option maxHeartbeats 3200000 in
set_option maxRecDepth 100000 in
theorem dv1 {p : DvP} (ok : DvOk p) {N m : Nat} {a : Act} {w : World} (h : DvJ p 1 m a w) (hm : m ≤ N) :
    (dvTail 1).wp Tryz.prog (jumpsTo (fun l a' w' => ∃ n', n' < N ∧ DvJ p l n' a' w') (bodyPost Tryz.prog Tryz.f146 (DvPost p))) a w := by
  obtain ⟨j, us, qs, q, r, hj, _, rfl, hf, hM, hI, hUq, hUr, hqr, hg1⟩ := h
  obtain ⟨t, rfl⟩ := dv_frame hf
  clear hf
  have hbig := ok.big
  have hkn := kn_lists (j := j) hI.wu ok.wv ok.lv (by rw [hM.lu]; omega) ok.v1
  have gv1 : U (p.vs.getD (p.k + 1) 0) := ok.wv.getAnyB _
  have gv2 : U (p.vs.getD p.k 0) := ok.wv.getAnyB _
  have gu2 : U (us.getD (j + p.k) 0) := hI.wu.getAnyB _
  have c1 := hM.hv.cellAt ok.lv.symm (j := p.k) (by omega)
  have c2 := fun (w1 : World) (h : Below w.heap.size w w1) => (hM.hu.later h).cellAt hM.lu.symm (j := j + p.k) (by omega)
  have c3 := fun (w1 : World) (h : Below w.heap.size w w1) => (hM.hv.later h).cellAt ok.lv.symm (j := p.k + 1) (by omega)
  have hless := fun (h : r * 18446744073709551616 + us.getD (j + p.k) 0 < q * p.vs.getD p.k 0) => hkn.less (q := q) (r := r) hUq.1 hqr h
  have hnear := fun (h : q * p.vs.getD p.k 0 ≤ r * 18446744073709551616 + us.getD (j + p.k) 0) => hkn.near (q := q) (r := r) hUq.1 hUq.2 hqr h
  have hcm := cmp2_le hUq gv2 hUr gu2
  have hnear2 : 1 ≤ q → 18446744073709551616 ≤ r + p.vs.getD (p.k + 1) 0 → (q - 1) * num p.vs < Na.win us j (p.k + 3) + num p.vs := fun hq1 h => by
    have e2 : (q - 1) * p.vs.getD (p.k + 1) 0 + (r + p.vs.getD (p.k + 1) 0) = us.getD (j + (p.k + 2)) 0 * 18446744073709551616 + us.getD (j + (p.k + 1)) 0 := by rw [← hqr, Int.sub_mul, Int.one_mul]; omega
    exact hkn.near (by omega) (by have := hUq.2; omega) e2 (hkn.full (by omega) (by have := hUq.2; omega) h)
  have hqpos : r * 18446744073709551616 + us.getD (j + p.k) 0 < q * p.vs.getD p.k 0 → 1 ≤ q := fun h => by
    by_cases hz : 1 ≤ q
    · exact hz
    · exfalso
      have : q = 0 := by have := hUq.1; omega
      rw [this, Int.zero_mul] at h
      have := hUr.1
      have := gu2.1
      omega
  have HQR : Hid (q * p.vs.getD (p.k + 1) 0 + r = us.getD (j + (p.k + 2)) 0 * 18446744073709551616 + us.getD (j + (p.k + 1)) 0) := hqr
  have HV1 : Hid (∃ x, x = p.vs.getD (p.k + 1) 0) := ⟨_, rfl⟩
  generalize hv1 : p.vs.getD (p.k + 1) 0 = v1 at *
  generalize hv2 : p.vs.getD p.k 0 = v2 at *
  generalize hu2 : us.getD (j + p.k) 0 = u2 at *
  have hi1 : ((j : Int) + ((p.k : Int) + 2) - 2).toNat = j + p.k := by omega
  have hi2 : ((j : Int) + (p.k : Int)).toNat = j + p.k := by omega
  clear hqr hkn
  conv => arg 2; whnf
  go_wp2_with fail
  refine (mul_any hUq gv2 _).mono ?_
  rintro e w1 ⟨_, _, rfl, hg, rfl, rfl⟩
  have c2' := c2 w1 hg.2
  have c3' := c3 w1 hg.2
  go_wp2_with fail
  refine (cmp_any _ _ _ _ _).mono ?_
  rintro e w2 ⟨_, rfl, rfl, rfl⟩
  have hM1 : DvM p us qs w1 := ⟨hM.hu.later hg.2, hM.hq.later hg.2, hM.hv.later hg.2, hM.hb.trans (hg.2.mono hM.hb.size), hM.lu, hM.lq⟩
  have hmz : dvMeas 2 j q < N := by
    refine Nat.lt_of_lt_of_le ?_ hm
    unfold dvMeas; simp only; omega
  clear hM c1 c2 c3 hg
  generalize cmp2 (mulHi q v2) (mulLo q v2) r u2 = cc at *
  by_cases hle : q * v2 ≤ r * 18446744073709551616 + u2
  · rw [decide_eq_true hle] at hcm
    have hcc : cc ≤ 0 := of_decide_eq_true hcm
    have hg2 := hnear hle
    clear hnear hless hnear2 hqpos hle
    go_wp2
    go_step3
    exact ⟨_, hmz, j, us, qs, q, r, hj, by omega, rfl, ⟨rfl, rfl, rfl, rfl, rfl, rfl, rfl, rfl, rfl, rfl⟩, hM1, hI, hUq, hg1, hg2⟩
  · rw [decide_eq_false hle] at hcm
    have hcc : ¬ cc ≤ 0 := of_decide_eq_false hcm
    have hq1 := hqpos (by omega)
    have hgl := hless (by omega)
    have hUq' : U (q - 1) := by unfold U at *; omega
    have hwq : IntKind.u64.wrap (q - 1) = q - 1 := by rw [IntKind.wrap_u64]; unfold U at hUq'; omega
    have hg1' : Na.win us j (p.k + 3) < (q - 1 + 1) * num p.vs := by rw [Int.sub_add_cancel]; exact hgl
    have hqr' : Hid ((q - 1) * v1 + (r + v1) = us.getD (j + (p.k + 2)) 0 * 18446744073709551616 + us.getD (j + (p.k + 1)) 0) := by
      show _ = _
      rw [← HQR.out, Int.sub_mul, Int.one_mul]; omega
    have hm2 : dvMeas 2 j (q - 1) < N := by
      refine Nat.lt_of_lt_of_le ?_ hm
      unfold dvMeas; simp only; omega
    have hm1 : dvMeas 1 j (q - 1) < N := by
      refine Nat.lt_of_lt_of_le ?_ hm
      unfold dvMeas; simp only; unfold U at hUq; omega
    have hn2 := hnear2 hq1
    clear hnear hless hnear2 hqpos hle hg1 hgl hcm hmz
    go_wp2_with fail
    refine (add_any hUr gv1 U_zero _).mono ?_
    rintro e w3 ⟨_, _, rfl, rfl, rfl, rfl⟩
    by_cases hov : r + v1 < 18446744073709551616
    · have e1 : addLo r v1 0 = r + v1 := by unfold addLo; unfold U at *; omega
      have e2 : addHi r v1 0 = 0 := by unfold addHi; unfold U at *; omega
      rw [e1, e2]
      have hUr' : U (r + v1) := by unfold U at *; omega
      clear hn2
      go_wp2
      go_step3
      exact ⟨_, hm1, j, us, qs, q - 1, r + v1, hj, by omega, rfl, ⟨rfl, rfl, rfl, rfl, rfl, rfl, rfl, rfl, by first | rfl | exact congrArg (Value.int .u64) hwq, rfl⟩, hM1, hI, hUq', hUr', by rw [hv1]; exact hqr'.out, hg1'⟩
    · have e2 : addHi r v1 0 = 1 := by unfold addHi; unfold U at *; omega
      rw [e2]
      have hg2 := hn2 (by omega)
      clear hn2
      generalize addLo r v1 0 = r2 at *
      go_wp2
      go_step3
      rename_i hK
      exact hK _ _ (dv2 ok ⟨j, us, qs, q - 1, r2, hj, by omega, rfl, ⟨rfl, rfl, rfl, rfl, rfl, rfl, rfl, rfl, by first | rfl | exact congrArg (Value.int .u64) hwq, rfl⟩, hM1, hI, hUq', hg1', hg2⟩ (Nat.le_of_lt hm2))
end Go.Proofs.YtceecgklgkiffaaGreatDoor

/- package quot: divide, from the label guess on. -/
namespace Go.Proofs.YtceecgklgkiffaaGreatDoor
open Go.ChangeShapes Go.WideShapes Go.ChangeAt Go.RowKit
open Na Ar
set_option linter.unusedVariables false
namespace Na
theorem Kn.le {P V R v1 v2 uh ul u2 : Int} (h : Kn P V R v1 v2 uh ul u2) (ht : R < V * 18446744073709551616) (hul : 0 ≤ ul) : uh ≤ v1 := by
  have a := h.vhi
  have b := h.rlo
  have p := h.p
  have v2q := h.v2p
  have u2q := h.u2p
  by_cases g : uh ≤ v1
  · exact g
  · exfalso
    have c : (v1 + 1) * 18446744073709551616 * (18446744073709551616 * P) ≤ (uh * 18446744073709551616 + ul) * (18446744073709551616 * P) := Int.mul_le_mul_of_nonneg_right (by omega) (by omega)
    have d : v2 * P + P ≤ 18446744073709551616 * P := by
      have : (v2 + 1) * P ≤ 18446744073709551616 * P := Int.mul_le_mul_of_nonneg_right (by omega) (by omega)
      rw [Int.add_mul, Int.one_mul] at this; exact this
    have e : (v1 + 1) * 18446744073709551616 * (18446744073709551616 * P) = (v1 * (18446744073709551616 * P) + 18446744073709551616 * P) * 18446744073709551616 := by grind
    have f : V * 18446744073709551616 ≤ (v1 * (18446744073709551616 * P) + 18446744073709551616 * P) * 18446744073709551616 := Int.mul_le_mul_of_nonneg_right (by omega) (by omega)
    have g2 : 0 ≤ u2 * P := Int.mul_nonneg u2q (by omega)
    omega
end Na
theorem divGreat_same {h l b : Int} (hb : b ≠ 0) (hh : b ≤ h) (w : World) :
    Calls Tryz.prog 177 #[.int .u64 h, .int .u64 l, .int .u64 b] w fun e w' => e = .returned (.tuple #[.int .u64 0, .int .u64 0, .int .i64 11]) ∧ w' = w := by
  have t : (b == 0) = false := beq_no hb
  go_enter Tryz.func177, Tryz.ntmps177
  go_wp2
  go_ret3
  exact ⟨rfl, rfl⟩
theorem addSameW {a b c : Int} (ha : U a) (hb : U b) (hc : U c) (w : World) :
    Calls Tryz.prog 151 #[.int .u64 a, .int .u64 b, .int .u64 c] w fun e w' => e = .returned (.tuple #[.int .u64 (addLo a b c), .int .u64 (addHi a b c)]) ∧ w' = w := by
  refine (add_any ha hb hc w).mono ?_
  rintro e w' ⟨x, y, rfl, rfl, rfl, rfl⟩
  exact ⟨rfl, rfl⟩
set_option maxHeartbeats 8000000 in
set_option maxRecDepth 100000 in
theorem dv0a {p : DvP} (ok : DvOk p) {N : Nat} {a : Act} {w : World} {j : Nat} {us qs : List Int} {q r : Int} (hj : j ≤ p.J) (hm : dvMeas 0 j q ≤ N) (hf : DvF p j q r a) (hM : DvM p us qs w) (hI : DvI p.U0 p.vs us qs (j + 1)) (hlt : us.getD (j + (p.k + 2)) 0 < p.vs.getD (p.k + 1) 0) :
    (dvTail 0).wp Tryz.prog (jumpsTo (fun l a' w' => ∃ n', n' < N ∧ DvJ p l n' a' w') (bodyPost Tryz.prog Tryz.f146 (DvPost p))) a w := by
  obtain ⟨t, rfl⟩ := dv_frame hf
  clear hf
  have hbig := ok.big
  have hkn := kn_lists (j := j) hI.wu ok.wv ok.lv (by rw [hM.lu]; omega) ok.v1
  have htop := hI.top (n := p.k + 2) (by rw [hM.lu]; omega)
  have gv1 : U (p.vs.getD (p.k + 1) 0) := ok.wv.getAnyB _
  have hv0 := ok.v1
  have guh : U (us.getD (j + (p.k + 2)) 0) := hI.wu.getAnyB _
  have gul : U (us.getD (j + (p.k + 1)) 0) := hI.wu.getAnyB _
  have hle1 := hkn.le htop gul.1
  have c1 := hM.hu.cellAt hM.lu.symm (j := j + (p.k + 2)) (by omega)
  have c2 := hM.hu.cellAt hM.lu.symm (j := j + (p.k + 1)) (by omega)
  have c3 := hM.hv.cellAt ok.lv.symm (j := p.k + 1) (by omega)
  have hmm : ∀ q' : Int, U q' → dvMeas 1 j q' < N := fun q' hq' => by
    refine Nat.lt_of_lt_of_le ?_ hm
    unfold dvMeas; simp only; unfold U at hq'; omega
  have hm2 : ∀ q' : Int, dvMeas 2 j q' < N := fun q' => by
    refine Nat.lt_of_lt_of_le ?_ hm
    unfold dvMeas; simp only; omega
  have hM1 : ∀ w1, Below w.heap.size w w1 → DvM p us qs w1 := fun w1 hg => ⟨hM.hu.later hg, hM.hq.later hg, hM.hv.later hg, hM.hb.trans (hg.mono hM.hb.size), hM.lu, hM.lq⟩
  generalize hv1 : p.vs.getD (p.k + 1) 0 = v1 at *
  generalize huh : us.getD (j + (p.k + 2)) 0 = uh at *
  generalize hul : us.getD (j + (p.k + 1)) 0 = ul at *
  obtain ⟨s, hs⟩ : ∃ s, s = j + (p.k + 2) := ⟨_, rfl⟩
  obtain ⟨s1, hs1⟩ : ∃ s1, s1 = j + (p.k + 1) := ⟨_, rfl⟩
  rw [← hs] at c1
  rw [← hs1] at c2
  have hw : IntKind.i64.wrap ((j : Int) + ((p.k : Int) + 2)) = (s : Int) := by
    rw [IntKind.wrap_i64]; omega
  have hw1 : IntKind.i64.wrap ((s : Int) - 1) = (s1 : Int) := by
    rw [IntKind.wrap_i64]; omega
  have k5 : s < p.J + p.k + 3 := by omega
  have k6 : (s : Int) < (p.J : Int) + (p.k : Int) + 3 := by omega
  have k7 : s1 < p.J + p.k + 3 := by omega
  have k8 : (s1 : Int) < (p.J : Int) + (p.k : Int) + 3 := by omega
  have k9 : IntKind.i64.wrap ((p.k : Int) + 2 - 1) = ((p.k + 1 : Nat) : Int) := by
    rw [IntKind.wrap_i64]; omega
  clear hs hs1
  conv => arg 2; whnf
  have hdv := fun (n : Nat) => div_any guh gul gv1 hv0 hlt (w.drewN n)
  have eqr : divQ uh ul v1 * v1 + divR uh ul v1 = uh * 18446744073709551616 + ul := by
    have := Int.mul_ediv_add_emod (uh * 18446744073709551616 + ul) v1
    unfold divQ divR; rw [Int.mul_comm]; exact this
  have vp : 0 < v1 := by unfold U at gv1; omega
  have hr0 : 0 ≤ divR uh ul v1 ∧ divR uh ul v1 < v1 := ⟨Int.emod_nonneg _ hv0, Int.emod_lt_of_pos _ vp⟩
  have hUr : U (divR uh ul v1) := by unfold U at *; omega
  have hUq : U (divQ uh ul v1) := by
    unfold U at *
    refine ⟨Int.ediv_nonneg (by omega) (by omega), Int.ediv_lt_of_lt_mul vp ?_⟩
    have : (uh + 1) * 18446744073709551616 ≤ v1 * 18446744073709551616 := Int.mul_le_mul_of_nonneg_right (by omega) (by omega)
    rw [Int.mul_comm 18446744073709551616 v1]
    omega
  have hfi := hkn.first hUq.1 eqr hr0.2
  have hmz := hmm _ hUq
  have HEQ : Hid (divQ uh ul v1 * v1 + divR uh ul v1 = uh * 18446744073709551616 + ul) := eqr
  clear eqr hkn
  generalize divQ uh ul v1 = q1 at *
  generalize divR uh ul v1 = r1 at *
  go_wp2_with fail
  go_region_with (go_at_call 177; refine (hdv _).mono ?_; rintro e w3 ⟨rfl, hg3⟩)
  all_goals
    have hM3 := hM1 w3 ((below_drewN (Below.refl _ _) _).trans hg3.2)
    go_wp2
    go_step3
    exact ⟨_, hmz, j, us, qs, q1, r1, hj, by omega, rfl, ⟨rfl, rfl, rfl, rfl, rfl, rfl, rfl, rfl, rfl, rfl⟩, hM3, hI, hUq, hUr, by rw [hv1, huh, hul]; exact HEQ.out, hfi⟩
end Go.Proofs.YtceecgklgkiffaaGreatDoor

/- package quot: divide, from the label guess on: the guess is held. -/
namespace Go.Proofs.YtceecgklgkiffaaGreatDoor
open Go.ChangeShapes Go.WideShapes Go.ChangeAt Go.RowKit
open Na Ar
set_option linter.unusedVariables false
set_option maxHeartbeats 8000000 in
set_option maxRecDepth 100000 in
theorem dv0b {p : DvP} (ok : DvOk p) {N : Nat} {a : Act} {w : World} {j : Nat} {us qs : List Int} {q r : Int} (hj : j ≤ p.J) (hm : dvMeas 0 j q ≤ N) (hf : DvF p j q r a) (hM : DvM p us qs w) (hI : DvI p.U0 p.vs us qs (j + 1)) (hlt : ¬ us.getD (j + (p.k + 2)) 0 < p.vs.getD (p.k + 1) 0) :
    (dvTail 0).wp Tryz.prog (jumpsTo (fun l a' w' => ∃ n', n' < N ∧ DvJ p l n' a' w') (bodyPost Tryz.prog Tryz.f146 (DvPost p))) a w := by
  obtain ⟨t, rfl⟩ := dv_frame hf
  clear hf
  have hbig := ok.big
  have hkn := kn_lists (j := j) hI.wu ok.wv ok.lv (by rw [hM.lu]; omega) ok.v1
  have htop := hI.top (n := p.k + 2) (by rw [hM.lu]; omega)
  have gv1 : U (p.vs.getD (p.k + 1) 0) := ok.wv.getAnyB _
  have hv0 := ok.v1
  have guh : U (us.getD (j + (p.k + 2)) 0) := hI.wu.getAnyB _
  have gul : U (us.getD (j + (p.k + 1)) 0) := hI.wu.getAnyB _
  have hle1 := hkn.le htop gul.1
  have c1 := hM.hu.cellAt hM.lu.symm (j := j + (p.k + 2)) (by omega)
  have c2 := hM.hu.cellAt hM.lu.symm (j := j + (p.k + 1)) (by omega)
  have c3 := hM.hv.cellAt ok.lv.symm (j := p.k + 1) (by omega)
  have hmm : ∀ q' : Int, U q' → dvMeas 1 j q' < N := fun q' hq' => by
    refine Nat.lt_of_lt_of_le ?_ hm
    unfold dvMeas; simp only; unfold U at hq'; omega
  have hm2 : ∀ q' : Int, dvMeas 2 j q' < N := fun q' => by
    refine Nat.lt_of_lt_of_le ?_ hm
    unfold dvMeas; simp only; omega
  have hM1 : ∀ w1, Below w.heap.size w w1 → DvM p us qs w1 := fun w1 hg => ⟨hM.hu.later hg, hM.hq.later hg, hM.hv.later hg, hM.hb.trans (hg.mono hM.hb.size), hM.lu, hM.lq⟩
  generalize hv1 : p.vs.getD (p.k + 1) 0 = v1 at *
  generalize huh : us.getD (j + (p.k + 2)) 0 = uh at *
  generalize hul : us.getD (j + (p.k + 1)) 0 = ul at *
  obtain ⟨s, hs⟩ : ∃ s, s = j + (p.k + 2) := ⟨_, rfl⟩
  obtain ⟨s1, hs1⟩ : ∃ s1, s1 = j + (p.k + 1) := ⟨_, rfl⟩
  rw [← hs] at c1
  rw [← hs1] at c2
  have hw : IntKind.i64.wrap ((j : Int) + ((p.k : Int) + 2)) = (s : Int) := by
    rw [IntKind.wrap_i64]; omega
  have hw1 : IntKind.i64.wrap ((s : Int) - 1) = (s1 : Int) := by
    rw [IntKind.wrap_i64]; omega
  have k5 : s < p.J + p.k + 3 := by omega
  have k6 : (s : Int) < (p.J : Int) + (p.k : Int) + 3 := by omega
  have k7 : s1 < p.J + p.k + 3 := by omega
  have k8 : (s1 : Int) < (p.J : Int) + (p.k : Int) + 3 := by omega
  have k9 : IntKind.i64.wrap ((p.k : Int) + 2 - 1) = ((p.k + 1 : Nat) : Int) := by
    rw [IntKind.wrap_i64]; omega
  clear hs hs1
  conv => arg 2; whnf
  have hdv := fun (w : World) => divGreat_same (l := ul) hv0 (show v1 ≤ uh by omega) w
  have hwe : Hid (uh = v1) := (by omega : uh = v1)
  have hge : v1 ≤ uh := by omega
  clear hle1 hlt
  go_wp2_with fail
  go_quiet ((go_at_call 177; exact Calls.quiet_of_same (hdv _)))
  have hUm : U 18446744073709551615 := by unfold U; omega
  have hfull := fun h => hkn.full (q := 18446744073709551615) (r := ul + v1) (by omega) (by omega) h
  have heq : (18446744073709551615 : Int) * v1 + (ul + v1) = uh * 18446744073709551616 + ul := by rw [hwe.out]; omega
  have hnear := fun h => hkn.near (q := 18446744073709551615) (r := ul + v1) (by omega) (by omega) heq h
  have hg1 : Na.win us j (p.k + 3) < (18446744073709551615 + 1) * num p.vs := by
    have e : (18446744073709551615 + 1 : Int) * num p.vs = num p.vs * 18446744073709551616 := by omega
    rw [e]; exact htop
  have HEQ : Hid ((18446744073709551615 : Int) * v1 + (ul + v1) = uh * 18446744073709551616 + ul) := heq
  have hadd := fun (w : World) => addSameW gul gv1 U_zero w
  have hm1 := hmm _ hUm
  have hm22 := hm2 18446744073709551615
  clear hkn htop heq hmm hm2 hdv
  go_wp2_with fail
  generalize hW : World.drewN w _ = w1
  have c2' : w1.cell? ⟨p.gu, s1, none⟩ = some (.int .u64 ul) := by rw [← hW]; exact c2
  have c3' : w1.cell? ⟨p.gv, p.k + 1, none⟩ = some (.int .u64 v1) := by rw [← hW]; exact c3
  have hM2 : ∀ w2, Below w1.heap.size w1 w2 → DvM p us qs w2 := fun w2 h => hM1 w2 (by rw [← hW] at h; exact (below_drewN (Below.refl _ _) _).trans h)
  clear c1 c2 c3 hM1 hW hM
  by_cases hov : ul + v1 < 18446744073709551616
  · have e1 : addLo ul v1 0 = ul + v1 := by unfold addLo; unfold U at *; omega
    have e2 : addHi ul v1 0 = 0 := by unfold addHi; unfold U at *; omega
    rw [e1, e2] at hadd
    have hUr' : U (ul + v1) := by unfold U at *; omega
    clear hfull hnear e1 e2
    go_quiet ((go_at_call 151; exact Calls.quiet_of_same (hadd _)))
    go_wp2_with fail
    go_step3
    rename_i hK
    exact hK _ _ (dv1 ok ⟨j, us, qs, 18446744073709551615, ul + v1, hj, by omega, rfl, ⟨rfl, rfl, rfl, rfl, rfl, rfl, rfl, rfl, rfl, rfl⟩, hM2 _ (below_drewN (Below.refl _ _) _), hI, hUm, hUr', by rw [hv1, huh, hul]; exact HEQ.out, hg1⟩ (Nat.le_of_lt hm1))
  · have e2 : addHi ul v1 0 = 1 := by unfold addHi; unfold U at *; omega
    have hg2 := hnear (hfull (by omega))
    rw [e2] at hadd
    clear hfull hnear e2
    generalize addLo ul v1 0 = r2 at *
    go_quiet ((go_at_call 151; exact Calls.quiet_of_same (hadd _)))
    go_wp2_with fail
    go_step3
    exact ⟨_, hm22, j, us, qs, 18446744073709551615, r2, hj, by omega, rfl, ⟨rfl, rfl, rfl, rfl, rfl, rfl, rfl, rfl, rfl, rfl⟩, hM2 _ (below_drewN (Below.refl _ _) _), hI, hUm, hg1, hg2⟩
end Go.Proofs.YtceecgklgkiffaaGreatDoor

/- package quot: divide, from the label guess on: both. -/
namespace Go.Proofs.YtceecgklgkiffaaGreatDoor
open Go.ChangeShapes Go.WideShapes Go.ChangeAt Go.RowKit
open Na Ar
set_option linter.unusedVariables false
theorem dv0 {p : DvP} (ok : DvOk p) {N m : Nat} {a : Act} {w : World} (h : DvJ p 0 m a w) (hm : m ≤ N) :
    (dvTail 0).wp Tryz.prog (jumpsTo (fun l a' w' => ∃ n', n' < N ∧ DvJ p l n' a' w') (bodyPost Tryz.prog Tryz.f146 (DvPost p))) a w := by
  obtain ⟨j, us, qs, q, r, hj, _, rfl, hf, hM, hI⟩ := h
  by_cases hlt : us.getD (j + (p.k + 2)) 0 < p.vs.getD (p.k + 1) 0
  · exact dv0a ok hj hm hf hM hI hlt
  · exact dv0b ok hj hm hf hM hI hlt
end Go.Proofs.YtceecgklgkiffaaGreatDoor

/- package quot: divide. -/
namespace Go.Proofs.YtceecgklgkiffaaGreatDoor
open Go.ChangeShapes Go.WideShapes Go.ChangeAt Go.RowKit
open Na Ar
set_option linter.unusedVariables false
namespace Na
/-- a whole list shifted, nothing lost -/
theorem up_all {r : Nat} {ds us : List Int} {b : Int} (h : UpI ds 0 r ds.length b us) (lt : num ds * 2 ^ r < 18446744073709551616 ^ ds.length) : num us = num ds * 2 ^ r ∧ Ws us ∧ us.length = ds.length := by
  obtain ⟨h1, h2, h3, h4, h5⟩ := h
  rw [List.drop_zero, List.take_of_length_le (Nat.le_refl _), Int.pow_zero, Int.one_mul, Nat.zero_add] at h5
  have e2 : num ds + (2 ^ r - 1) * num ds = num ds * 2 ^ r := by grind
  rw [e2] at h5
  have n0 := num_nonneg h1
  have c0 := cup_nonneg (r := r) h3.1
  have p := wpow_pos ds.length
  have cz : cup r b = 0 := by
    by_cases g : cup r b = 0
    · exact g
    · have : (18446744073709551616 : Int) ^ ds.length * 1 ≤ 18446744073709551616 ^ ds.length * cup r b := Int.mul_le_mul_of_nonneg_left (by omega) (by omega)
      omega
  rw [cz, Int.mul_zero, Int.add_zero] at h5
  exact ⟨h5, h1, h2⟩
/-- the divisor's shift -/
theorem dv_shift {Y : Int} {k : Nat} (hY : 0 < Y) (hl : (words Y).length = k + 2) : ∃ s : Nat, s ≤ 63 ∧ (64 : Int) - lenW ((words Y).getD (k + 1) 0) = (s : Int) ∧ Y * 2 ^ s < 18446744073709551616 ^ (k + 2) ∧ 0 < (words Y).getD (k + 1) 0 := by
  obtain ⟨b1, b2⟩ := bits_list (L := k + 1) hY (by omega)
  have g := (Dg_words Y).getAnyB (k + 1)
  obtain ⟨i, hi, h1, h2, h3⟩ := lenW_pos (x := (words Y).getD (k + 1) 0) g (by omega)
  obtain ⟨b, hb, a1, a2⟩ := bits_some hY
  refine ⟨64 - (i + 1), by omega, by rw [h1]; omega, ?_, b1⟩
  have eb : b + 1 = 64 * (k + 1) + (i + 1) := by rw [hb, h1] at b2; omega
  have p := p2pos (64 - (i + 1))
  have m : Y * 2 ^ (64 - (i + 1)) < 2 ^ (b + 1) * 2 ^ (64 - (i + 1)) := Int.mul_lt_mul_of_pos_right a2 p
  rw [← Int.pow_add, eb] at m
  rw [wpow2]
  have : 64 * (k + 1) + (i + 1) + (64 - (i + 1)) = 64 * (k + 2) := by omega
  rw [this] at m
  exact m
theorem dv_top {vs : List Int} {k : Nat} {Y V : Int} (hv : Ws vs) (hl : vs.length = k + 2) (hV : num vs = V) (hYV : Y ≤ V) (hY : 18446744073709551616 ^ (k + 1) ≤ Y) : vs.getD (k + 1) 0 ≠ 0 := by
  intro h0
  have e := win_succ (us := vs) (o := 0) (m := k + 1) (by omega)
  rw [win_all hl, Nat.zero_add, h0, Int.mul_zero, Int.add_zero] at e
  have := win_lt hv (o := 0) (m := k + 1) (by omega)
  omega
theorem dv_first {X Y : Int} {J k s : Nat} {vs us : List Int} (hX : X < 18446744073709551616 ^ (J + (k + 2))) (hY : 18446744073709551616 ^ (k + 1) ≤ Y) (wv : Ws vs) (wu : Ws us) (ev : num vs = Y * 2 ^ s) (eu : num us = X * 2 ^ s) :
    DvI (X * 2 ^ s) vs us (List.replicate (J + 1) 0) (J + 1) := by
  have z : num (List.replicate (J + 1) (0 : Int)) = 0 := by unfold num; rw [val_zeros]
  refine ⟨wu, Dg_zeros (by omega) _, by rw [z, eu]; omega, ?_, ?_⟩
  · rw [eu, ev]
    have p := p2pos s
    have a : (18446744073709551616 : Int) ^ (k + 1) * 18446744073709551616 ^ (J + 1) ≤ Y * 18446744073709551616 ^ (J + 1) := Int.mul_le_mul_of_nonneg_right hY (Int.le_of_lt (wpow_pos _))
    rw [← Int.pow_add] at a
    have e : k + 1 + (J + 1) = J + (k + 2) := by omega
    rw [e] at a
    have b : X * 2 ^ s < Y * 18446744073709551616 ^ (J + 1) * 2 ^ s := Int.mul_lt_mul_of_pos_right (by omega) p
    have c : Y * 18446744073709551616 ^ (J + 1) * 2 ^ s = Y * 2 ^ s * 18446744073709551616 ^ (J + 1) := by grind
    omega
  · intro i hi
    rw [List.getD_eq_getElem?_getD, List.getElem?_replicate]
    split <;> rfl
theorem dv_last {X Y A S : Int} {s : Nat} (hY : 0 < Y) (h : S + Y * 2 ^ s * A = X * 2 ^ s) (h0 : 0 ≤ S) (h1 : S < Y * 2 ^ s) : A = X / Y ∧ S / 2 ^ s = X % Y := by
  have p := p2pos s
  have hp : 0 < Y * 2 ^ s := Int.mul_pos hY p
  have u := (Int.ediv_emod_unique (a := X * 2 ^ s) (b := Y * 2 ^ s) (r := S) (q := A) hp).mpr ⟨by omega, h0, h1⟩
  rw [Int.mul_ediv_mul_of_pos_left _ _ p] at u
  refine ⟨u.1.symm, ?_⟩
  have e := Int.mul_emod_mul_of_pos X Y p
  rw [Int.mul_comm X, Int.mul_comm Y] at u
  rw [← u.2, e]
  exact Int.mul_ediv_cancel_left _ (by omega)
end Na
/-- two answers in blocks of their own -/
def Apart (v1 v2 : Value) : Prop := ∀ g, v1.ownBlock = some g → v2.ownBlock ≠ some g
def DivPost (w : World) (X Y : Int) (e : Ending) (w' : World) : Prop := ∃ v1 v2, e = .returned (.tuple #[v1, v2]) ∧ Own .u64 w' w.heap.size 22 v1 (words (X / Y)) ∧ Own .u64 w' w.heap.size 22 v2 (words (X % Y)) ∧ Below w.heap.size w w' ∧ Apart v1 v2
structure DvPF (w : World) (X Y : Int) (p : DvP) : Prop where
  ok : DvOk p
  w0 : p.w0 = w
  eu : p.U0 = X * 2 ^ p.s
  ev : num p.vs = Y * 2 ^ p.s
theorem dv_post {w : World} {X Y : Int} {p : DvP} (h : DvPF w X Y p) (hY : 0 < Y) {e : Ending} {w' : World} (hp : DvPost p e w') : DivPost w X Y e w' := by
  obtain ⟨v1, v2, he, c1, c2, A, R, e1, e2, h1, h2, hb, S, q1, q2, q3, q4, q5⟩ := hp
  rw [h.ev, h.eu] at q1
  rw [h.ev] at q4
  obtain ⟨f1, f2⟩ := dv_last hY q1 q2 q4
  rw [h.w0] at h1 h2 hb
  refine ⟨v1, v2, he, by rw [← f1]; exact h1, by rw [← f2, ← q5]; exact h2, hb, ?_⟩
  intro g g1 g2
  rw [e1] at g1
  rw [e2] at g2
  simp only [Value.ownBlock, Option.some.injEq] at g1 g2
  exact h.ok.qu (by omega)
theorem dv_weaken {w : World} {X Y : Int} {p : DvP} (h : DvPF w X Y p) (hY : 0 < Y) {N : Nat} {J : Nat → Act → World → Prop} (hJ : ∀ l a' w', (∃ n', n' < N ∧ DvJ p l n' a' w') → J l a' w') {c : Code} {a₀ : Act} {w₀ : World}
    (hc : c.wp Tryz.prog (jumpsTo (fun l a' w' => ∃ n', n' < N ∧ DvJ p l n' a' w') (bodyPost Tryz.prog Tryz.f146 (DvPost p))) a₀ w₀) :
    c.wp Tryz.prog (jumpsTo J (bodyPost Tryz.prog Tryz.f146 (DivPost w X Y))) a₀ w₀ := by
  refine wp_mono hc ?_
  intro e a' w' hq
  cases e with
  | goto l => exact hJ l a' w' hq
  | normal => exact ⟨hq.1, hq.2.choose, hq.2.choose_spec.1, dv_post h hY hq.2.choose_spec.2⟩
  | ret => exact ⟨hq.1, hq.2.choose, hq.2.choose_spec.1, dv_post h hY hq.2.choose_spec.2⟩
  | exit id => exact hq
  | panic ch => exact ⟨hq.1, dv_post h hY hq.2⟩
  | outgrown => exact dv_post h hY hq
theorem dv_go {w : World} {X Y : Int} (hY : 0 < Y) (l n : Nat) (a₀ : Act) (w₀ : World) (h : ∃ p, DvPF w X Y p ∧ DvJ p l n a₀ w₀) :
    ∃ rest, findLabel dvScope l = some rest ∧ rest.wp Tryz.prog (jumpsTo (fun l' a' w' => ∃ n', n' < n ∧ ∃ p, DvPF w X Y p ∧ DvJ p l' n' a' w') (bodyPost Tryz.prog Tryz.f146 (DivPost w X Y))) a₀ w₀ := by
  obtain ⟨p, hp, hJ⟩ := h
  have hl : l ≤ 3 := by obtain ⟨_, _, _, _, _, _, hl, _⟩ := hJ; exact hl
  have key : ∀ {c : Code}, c.wp Tryz.prog (jumpsTo (fun l a' w' => ∃ n', n' < n ∧ DvJ p l n' a' w') (bodyPost Tryz.prog Tryz.f146 (DvPost p))) a₀ w₀ →
      (Code.seq .skip c).wp Tryz.prog (jumpsTo (fun l' a' w' => ∃ n', n' < n ∧ ∃ p, DvPF w X Y p ∧ DvJ p l' n' a' w') (bodyPost Tryz.prog Tryz.f146 (DivPost w X Y))) a₀ w₀ := fun hc => by
    have h2 := dv_weaken hp hY (J := fun l' a' w' => ∃ n', n' < n ∧ ∃ p, DvPF w X Y p ∧ DvJ p l' n' a' w') (fun l a' w' ⟨n', a, b⟩ => ⟨n', a, p, hp, b⟩) hc
    exact wp_seq (wp_skip h2)
  have h4 : l = 0 ∨ l = 1 ∨ l = 2 ∨ l = 3 := by omega
  rcases h4 with rfl | rfl | rfl | rfl
  · exact ⟨.seq .skip (dvTail 0), rfl, key (dv0 hp.ok hJ (Nat.le_refl _))⟩
  · exact ⟨.seq .skip (dvTail 1), rfl, key (dv1 hp.ok hJ (Nat.le_refl _))⟩
  · exact ⟨.seq .skip (dvTail 2), rfl, key (dv2 hp.ok hJ (Nat.le_refl _))⟩
  · exact ⟨.seq .skip (dvTail 3), rfl, key (dv3 hp.ok hJ (Nat.le_refl _))⟩

theorem Own.kept {k : IntKind} {w w' : World} {base g n cap m : Nat} {e : TypeId} {xs : List Int} (h : Own k w base e (.slice (some ⟨g, 0, none⟩) n cap) xs) (hb : Below m w w') (hg : g < m) : Own k w' base e (.slice (some ⟨g, 0, none⟩) n cap) xs := by
  obtain ⟨h1, h2⟩ := h
  refine ⟨h1, ?_⟩
  rcases h2 with h2 | ⟨g2, c, cur, hv, hb2, hc, r⟩
  · exact Or.inl h2
  · refine Or.inr ⟨g2, c, cur, hv, hb2, ?_, r⟩
    simp only [Value.slice.injEq, Option.some.injEq, Addr.mk.injEq] at hv
    rw [hb.block g2 (by omega)]; exact hc
set_option maxHeartbeats 8000000 in
set_option maxRecDepth 100000 in
theorem divide_any {a b : Option Addr} {J k c1 c2 : Nat} {X Y : Int} {w : World} (hr1 : RowC w a (J + (k + 2)) c1 (words X)) (hr2 : RowC w b (k + 2) c2 (words Y)) (hX : 0 ≤ X) (hY : 0 < Y) (hbig : J + k ≤ 3900000) :
    Calls Tryz.prog 146 #[.slice a (J + (k + 2)) c1, .slice b (k + 2) c2] w (DivPost w X Y) := by
  obtain ⟨i_u64, hi_u64, hz0_u64, hz1_u64, hz2_u64⟩ := info_parts info_u64
  have hsz : (Tryz.prog.info? 22).map (·.size) = some 1 := by rw [hi_u64]; simp [hz1_u64]
  have hXrow := hr1
  have hlx := hr1.1.1
  have hly := hr2.1.1
  have hXb := num_bd (Dg_words X)
  rw [num_words hX, hlx] at hXb
  have hYl := words_ge hY
  rw [hly] at hYl
  obtain ⟨s, hs63, hsl, hsb, hy1⟩ := dv_shift hY hly
  have hYv := num_words (Int.le_of_lt hY)
  have hXv := num_words hX
  have dY := Dg_words Y
  have dX := Dg_words X
  obtain ⟨yb, yo, rfl, hyb, hyc⟩ := hr2.1.at (by omega)
  have gy : U ((words Y).getD (k + 1) 0) := dY.getAnyB _
  have hlen := fun w => len_any gy w
  generalize hyy : (words Y).getD (k + 1) 0 = y1 at *
  have HS : Hid ((64 : Int) - lenW y1 = (s : Int)) := hsl
  have hlb := lenW_bd gy
  generalize lenW y1 = ln at *
  go_enter Tryz.func146, Tryz.ntmps146
  go_wp2_with fail
  refine wp_labels (fun l n a' w' => ∃ p, DvPF w X Y p ∧ DvJ p l n a' w') ?_ (dv_go hY)
  have e7 : (J : Int) + ((k : Int) + 2) - ((k : Int) + 2) = (J : Int) := by omega
  have hJ1 : J + 1 ≤ 12000000 := by omega
  go_wp2_with (at_make; refine wpList_make_full _ rfl _ _ 30 rfl w.heap.size 22 i_u64 (.int .u64 0) 1 Tryz.underlying30 hi_u64 hz0_u64 hz1_u64 .i64 .i64 _ _ (J + 1) rfl rfl (by omega) (by omega) (by rw [hz2_u64]; omega) (by unfold maxLen; omega) (Nat.le_refl _) ?_)
  intro w1 hmade hgr
  have hq1 := own_zeros hmade
  have hb1 : Below w.heap.size w w1 := (Below.refl _ _).grown hgr (Nat.le_refl _) (fun k hk => by cases hk)
  obtain ⟨gq, hgq⟩ : ∃ g, g = w.heap.size := ⟨_, rfl⟩
  have hq1' : Own .u64 w1 w.heap.size 22 (.slice (some ⟨gq, 0, none⟩) (J + 1) (J + 1)) (List.replicate (J + 1) 0) := by rw [hgq]; exact hq1
  rw [← hgq]
  have hqlt := hq1'.lt
  have hcy := (hb1.cell (p := ⟨yb, yo + (k + 1), none⟩) hyb).trans (hyc (k + 1) (by omega))
  rw [hyy] at hcy
  have hik : ((k : Int) + 2 - 1).toNat = k + 1 := by omega
  have hrx1 := hr1.later hb1
  have hnorm := norm_any (hr2.later hb1) dY (by omega)
  rw [hYv, hly] at hnorm
  clear hmade hgr hq1 hyc hr2 hr1 hgq
  go_wp2_with fail
  refine (hlen _).mono ?_
  rintro e w' ⟨rfl, rfl⟩
  go_wp2_with fail
  refine hnorm.mono ?_
  rintro e w2 ⟨gv, rfl, hv2, hb2⟩
  have hq2 := hq1'.later hb2
  have hrx2 := hrx1.later hb2
  have hvb := hv2.base_le
  have hvlt := hv2.lt
  have hB2 := hb1.trans (hb2.mono hb1.size)
  have hN3 : J + (k + 2) + 1 ≤ 12000000 := by omega
  clear hnorm hq1' hrx1 hb2 hcy hlen
  go_wp2_with (at_make; refine wpList_make_full _ rfl _ _ 30 rfl w2.heap.size 22 i_u64 (.int .u64 0) 1 Tryz.underlying30 hi_u64 hz0_u64 hz1_u64 .i64 .i64 _ _ (J + (k + 2) + 1) rfl rfl (by omega) (by omega) (by rw [hz2_u64]; omega) (by unfold maxLen; omega) (Nat.le_refl _) ?_)
  intro w3 hmade hgr
  have hu3 := own_zeros hmade
  have hb3 : Below w2.heap.size w2 w3 := (Below.refl _ _).grown hgr (Nat.le_refl _) (fun k hk => by cases hk)
  obtain ⟨gu, hgu⟩ : ∃ g, g = w2.heap.size := ⟨_, rfl⟩
  have hu3' : Own .u64 w3 gu 22 (.slice (some ⟨gu, 0, none⟩) (J + (k + 2) + 1) (J + (k + 2) + 1)) (List.replicate (J + (k + 2) + 1) 0) := by rw [hgu]; exact hu3
  rw [← hgu]
  rw [← hgu] at hvlt
  have hqlt2 : gq < gu := by have := hq2.lt; omega
  have hq3 := hq2.later hb3
  have hv3 := hv2.later hb3
  have hrx3 := hrx2.later hb3
  have hB3 := hB2.trans (hb3.mono hB2.size)
  have hqv : gq ≠ gv := by omega
  have hwgu : w.heap.size ≤ gu := by have := hB2.size; omega
  have hwgv : w.heap.size ≤ gv := by have := hb1.size; omega
  clear hmade hgr hu3 hq2 hv2 hrx2 hb3 hB2 hgu
  have hsv := shiftUp_in (o := 0) (m := k + 2) (dcap := k + 2) (r := s) hv3 hly.symm dY (by omega) (by omega) hs63
  go_wp2_with fail
  refine hsv.mono ?_
  rintro e w4 ⟨rfl, bv, vs, hv4, hvi, hi4⟩
  rw [← hly] at hvi
  obtain ⟨ev, wv, lv⟩ := up_all hvi (by rw [hYv, hly]; exact hsb)
  rw [hYv] at ev
  rw [hly] at lv
  have hq4 := hq3.inn hi4 hqv
  have hu4 := hu3'.inn hi4 (by omega)
  have hB4 := below_inn hB3 hi4 hwgv (Nat.le_refl _)
  have hrx4 : RowAt .u64 w4 a (J + (k + 2)) (words X) := hrx3.1.inn hi4 (fun h => by
    intro b' off' hab
    obtain ⟨b2, o2, e2, hl2, _⟩ := hXrow.1.at h
    rw [e2] at hab
    simp only [Option.some.injEq, Addr.mk.injEq] at hab
    omega)
  have hulen : J + (k + 2) + 1 = (List.replicate (J + (k + 2) + 1) (0 : Int)).length := by simp
  have HUL : Hid (J + (k + 2) + 1 = (List.replicate (J + (k + 2) + 1) (0 : Int)).length) := hulen
  have hcopy := fun (ops : Array Oper) (rest : List Oper) (oo : Oper) (act : Act) (Q : Exit → Act → World → Prop) hgd d s ho hd hs h => copy_own (P := Tryz.prog) (w := w4) (ops := ops) (rest := rest) (o := oo) (act := act) (Q := Q) hgd d s 30 30 ho 22 Tryz.underlying30 hsz gu 0 (J + (k + 2) + 1) (J + (k + 2) + 1) (J + (k + 2) + 1) (J + (k + 2) + 1) gu 22 _ (words X) hu4 HUL.out a (J + (k + 2)) c1 hrx4 hd hs (by omega) (by omega) h
  have HLX : Hid ((words X).length = J + (k + 2)) := hlx
  clear hsv hq3 hv3 hu3' hi4 hvi hrx3 hB3 hulen hlx hXrow
  go_wp2_with (refine hcopy _ _ _ _ _ rfl _ _ rfl rfl rfl ?_)
  intro w5 hu5 hb5
  have hq5 := hq4.kept hb5 hqlt2
  have hv5 := hv4.kept hb5 hvlt
  have hB5 := hB4.trans (hb5.mono hwgu)
  have hon := over_num (L := J + (k + 2) + 1) (o := 0) (ps := words X) (by rw [HLX.out]; omega)
  have how := over_ws (L := J + (k + 2) + 1) (o := 0) dX
  have hol : (over (List.replicate (J + (k + 2) + 1) (0 : Int)) (words X) 0).length = J + (k + 2) + 1 := by rw [over_length (by rw [HLX.out]; simp)]; simp
  rw [Int.pow_zero, Int.one_mul, hXv] at hon
  have hon1 := hon.1
  generalize over (List.replicate (J + (k + 2) + 1) (0 : Int)) (words X) 0 = xs0 at *
  have hsu := shiftUp_in (o := 0) (m := J + (k + 2) + 1) (dcap := J + (k + 2) + 1) (r := s) hu5 hol.symm how (by omega) (by omega) hs63
  clear hcopy hu4 hq4 hv4 hb5 hrx4 hon
  go_wp2_with fail
  refine hsu.mono ?_
  rintro e w6 ⟨rfl, bu, us, hu6, hui, hi6⟩
  rw [← hol] at hui
  have hps : X * 2 ^ s < 18446744073709551616 ^ (J + (k + 2) + 1) := by
    have p := p2pos s
    have q : (2 : Int) ^ s ≤ 18446744073709551616 := p2mono (show s ≤ 64 by omega)
    have a1 : X * 2 ^ s < 18446744073709551616 ^ (J + (k + 2)) * 2 ^ s := Int.mul_lt_mul_of_pos_right hXb p
    have a2 : (18446744073709551616 : Int) ^ (J + (k + 2)) * 2 ^ s ≤ 18446744073709551616 ^ (J + (k + 2)) * 18446744073709551616 := Int.mul_le_mul_of_nonneg_left q (Int.le_of_lt (wpow_pos _))
    rw [Int.pow_succ]; omega
  obtain ⟨eu, wu, lu⟩ := up_all hui (by rw [hon1, hol]; exact hps)
  rw [hon1] at eu
  rw [hol] at lu
  have hq6 := hq5.inn hi6 (by omega)
  have hv6 := hv5.inn hi6 (by omega)
  have hB6 := below_inn hB5 hi6 hwgu (Nat.le_refl _)
  have hYk : (18446744073709551616 : Int) ^ (k + 1) ≤ Y := hYl
  have hYp : Y ≤ Y * 2 ^ s := by
    have p := p2pos s
    have : Y * 1 ≤ Y * 2 ^ s := Int.mul_le_mul_of_nonneg_left (by omega) (Int.le_of_lt hY)
    omega
  have hI := dv_first (J := J) (k := k) (s := s) hXb hYk wv wu ev eu
  have hv1 := dv_top wv lv ev hYp hYk
  have hpf : DvPF w X Y ⟨w, gq, gv, gu, k, J, s, vs, X * 2 ^ s⟩ := ⟨⟨hqv, by show gq ≠ gu; omega, by show gv ≠ gu; omega, wv, lv, hv1, by show J + k ≤ 4000000; omega, hs63⟩, rfl, rfl, ev⟩
  have hu6' := (hu6.rebase hwgu)
  have hv6' := (hv6.rebase hwgv)
  have hL3 : J + (k + 2) + 1 = J + k + 3 := by omega
  rw [hL3] at hu6' lu
  have hM : DvM ⟨w, gq, gv, gu, k, J, s, vs, X * 2 ^ s⟩ us (List.replicate (J + 1) 0) w6 := ⟨hu6', hq6, hv6', hB6, lu, by simp⟩
  rw [hL3]
  clear hsu hu5 hq5 hv5 hB5 hui hi6 hu6 hv6 hu6' hv6' hq6 hB6 hps
  go_wp2_with fail
  go_step3
  rename_i hK
  refine hK _ _ (dv_weaken hpf hY (fun l a' w' ⟨n', _, h⟩ => ⟨n', _, hpf, h⟩) (dv0 (N := dvMeas 0 J 0) hpf.ok ⟨J, us, _, 0, 0, Nat.le_refl _, by omega, rfl, ⟨rfl, rfl, rfl, rfl, rfl, rfl, rfl, ?_, rfl, rfl⟩, hM, hI⟩ (Nat.le_refl _)))
  rfl
end Go.Proofs.YtceecgklgkiffaaGreatDoor

/- package quot: Small. -/
namespace Go.Proofs.YtceecgklgkiffaaGreatDoor
open Go.ChangeShapes Go.WideShapes Go.ChangeAt Go.RowKit
open Na Ar
set_option linter.unusedVariables false
namespace Na
def SmI (ps : List Int) (d : Int) (k : Nat) (r : Int) (us : List Int) : Prop := Ws us ∧ us.length = ps.length ∧ us.take k = ps.take k ∧ (0 ≤ r ∧ r < d) ∧ num (ps.drop k) = num (us.drop k) * d + r
theorem smI_start {ps : List Int} {d : Int} (h : Ws ps) (hd : 0 < d) : SmI ps d ps.length 0 ps := by
  refine ⟨h, rfl, rfl, by omega, ?_⟩
  rw [List.drop_of_length_le (Nat.le_refl _)]
  simp [num, val]
theorem smI_step {ps us : List Int} {d r : Int} {k : Nat} (h : SmI ps d (k + 1) r us) (hd : U d) (hk : k < us.length) :
    SmI ps d k (divR r (us.getD k 0) d) (us.set k (divQ r (us.getD k 0) d)) ∧ U (divQ r (us.getD k 0) d) := by
  obtain ⟨h1, h2, h3, h4, h5⟩ := h
  have gu := h1.get hk
  have e0 : us.getD k 0 = ps.getD k 0 := getD_take h3
  unfold U at hd
  have hdp : 0 < d := by omega
  have eq := Int.mul_ediv_add_emod (r * 18446744073709551616 + us.getD k 0) d
  have r0 := Int.emod_nonneg (r * 18446744073709551616 + us.getD k 0) (show d ≠ 0 by omega)
  have r1 := Int.emod_lt_of_pos (r * 18446744073709551616 + us.getD k 0) hdp
  have q0 : 0 ≤ (r * 18446744073709551616 + us.getD k 0) / d := Int.ediv_nonneg (by omega) (by omega)
  have q1 : (r * 18446744073709551616 + us.getD k 0) / d < 18446744073709551616 := by
    refine Int.ediv_lt_of_lt_mul hdp ?_
    have : (r + 1) * 18446744073709551616 ≤ d * 18446744073709551616 := Int.mul_le_mul_of_nonneg_right (by omega) (by omega)
    rw [Int.mul_comm 18446744073709551616 d]
    omega
  have hU : U (divQ r (us.getD k 0) d) := ⟨q0, q1⟩
  refine ⟨⟨h1.set _ hU, by rw [List.length_set]; exact h2, ?_, ⟨r0, r1⟩, ?_⟩, hU⟩
  · rw [List.take_set_of_le (Nat.le_refl _)]
    have := congrArg (List.take k) h3
    rw [List.take_take, List.take_take, Nat.min_eq_left (by omega)] at this
    exact this
  · have a : num (ps.drop k) = ps.getD k 0 + 18446744073709551616 * num (ps.drop (k + 1)) := val_drop (by omega)
    have b : num ((us.set k (divQ r (us.getD k 0) d)).drop k) = (us.set k (divQ r (us.getD k 0) d)).getD k 0 + 18446744073709551616 * num ((us.set k (divQ r (us.getD k 0) d)).drop (k + 1)) := val_drop (by rw [List.length_set]; exact hk)
    rw [List.drop_set_of_lt (show k < k + 1 by omega)] at b
    have c : (us.set k (divQ r (us.getD k 0) d)).getD k 0 = divQ r (us.getD k 0) d := by simp [List.getD_eq_getElem?_getD, hk]
    rw [c] at b
    rw [a, b, h5, ← e0]
    unfold divQ divR
    generalize num (us.drop (k + 1)) = X
    generalize us.getD k 0 = y at *
    generalize (r * 18446744073709551616 + y) / d = q at *
    generalize (r * 18446744073709551616 + y) % d = s at *
    have : r * 18446744073709551616 + y = q * d + s := by rw [Int.mul_comm q d]; omega
    grind
theorem smI_done {ps us : List Int} {d r : Int} (h : SmI ps d 0 r us) : num us = num ps / d ∧ r = num ps % d := by
  obtain ⟨h1, h2, h3, h4, h5⟩ := h
  rw [List.drop_zero, List.drop_zero] at h5
  have := Int.ediv_emod_unique (a := num ps) (b := d) (r := r) (q := num us) (by omega)
  have := this.mpr ⟨by rw [h5, Int.mul_comm]; omega, h4.1, h4.2⟩
  exact ⟨this.1.symm, this.2.symm⟩
end Na

set_option maxHeartbeats 3200000 in
set_option maxRecDepth 100000 in
theorem small_any {a : Option Addr} {m c1 : Nat} {xs : List Int} {d : Int} {w : World} (hr1 : RowC w a m c1 xs) (hx : Ws xs) (hm : m ≤ 4000000) (hd : U d) (hd0 : d ≠ 0) :
    Calls Tryz.prog 144 #[.slice a m c1, .int .u64 d] w fun e w' => ∃ v, e = .returned (.tuple #[v, .int .u64 (num xs % d), .int .i64 0]) ∧ Own .u64 w' w.heap.size 22 v (words (num xs / d)) ∧ Below w.heap.size w w' := by
  have p1 := num_nonneg hx
  have hv := num_words p1
  have hw := Dg_words (num xs)
  have hwl := words_le hx
  have hl := hr1.1.1
  have hdp : 0 < d := by unfold U at hd; omega
  have t0 : (d == 0) = false := beq_no hd0
  have hst := smI_start hw hdp
  go_enter Tryz.func144, Tryz.ntmps144
  go_wp2_with fail
  refine (norm_any hr1 hx hm).mono ?_
  rintro e w2 ⟨g, rfl, hown, hb2⟩
  have hV : Hid (num (words (num xs)) = num xs) := hv
  have hlen : (words (num xs)).length ≤ 4000000 := by omega
  generalize words (num xs) = ps at *
  obtain ⟨N, hN⟩ : ∃ N, N = ps.length := ⟨_, rfl⟩
  rw [← hN] at hown hlen hst ⊢
  have HN : Hid (N = ps.length) := hN
  clear hN hr1 hv hwl
  go_wp2
  go_loopw [8, 9] (fun r i wr => ∃ (k : Nat) (I R : Int) (us : List Int), i = .int .i64 I ∧ I = (k : Int) - 1 ∧ r = .int .u64 R ∧ k ≤ N ∧ Own .u64 wr w.heap.size 22 (.slice (some ⟨g, 0, none⟩) N N) us ∧ SmI ps d k R us ∧ Below w.heap.size w wr) (fun _ i _ => (intOf i + 1).toNat)
  case atStart => exact ⟨N, _, 0, ps, rfl, rfl, rfl, Nat.le_refl _, hown, hst, hb2⟩
  case round =>
    obtain ⟨k, I, R, us, rfl, hI, rfl, hk, hou, hinv, hnx⟩ := hrel
    clear hown hst hb2
    have hlu : N = us.length := by rw [hinv.2.1]; exact HN.out
    cases k with
    | zero =>
      have hI' : I < 0 := by omega
      have hdn := smI_done hinv
      rw [hV.out] at hdn
      have HR : Hid (R = num xs % d) := hdn.2
      have hwu := hinv.1
      have hrc := hou.rowC hlu
      have htr := trimW_any hrc hwu (by omega)
      have ho2 := hou
      rw [hlu] at ho2
      have hcut := ho2.cut (words_le hwu)
      rw [words_take hwu] at hcut
      rw [← hlu] at hcut
      rw [hdn.1] at htr hcut
      clear hI hinv hlu hdn hou ho2 hrc hwu
      go_wp2_with fail
      refine htr.mono ?_
      rintro e w' ⟨rfl, _, _, _, rfl⟩
      clear htr
      go_wp2
      go_ret3
      exact ⟨_, by rw [HR.out]; rfl, hcut, hnx⟩
    | succ j =>
      have hI' : I = (j : Int) := by omega
      clear hI
      subst hI'
      have gu : U (us.getD j 0) := hinv.1.getAnyB j
      have gr : U R := by have := hinv.2.2.2.1; unfold U at *; omega
      have hrd := hinv.2.2.2.1.2
      obtain ⟨hstep, hUq⟩ := smI_step hinv hd (by omega)
      have hce := hou.cellAt hlu (j := j) (by omega)
      have hdv := fun w => div_any gr gu hd hd0 hrd w
      have HLU : Hid (N = us.length) := hlu
      have hO := fun (w1 : World) (hh : Below wr.heap.size wr w1) => (hou.later hh).set HLU.out j (divQ R (us.getD j 0) d)
      have hfz := fun (w1 : World) (hh : Below wr.heap.size wr w1) => (hou.later hh).frozenAt HLU.out j
      have hcz := fun (w1 : World) (hh : Below wr.heap.size wr w1) => (hou.later hh).cellAt HLU.out (j := j) (by omega)
      have hgb := hou.base_le
      generalize us.getD j 0 = u at *
      have hjN : j < N := by omega
      clear hinv hou hlu
      go_wp2_with fail
      refine (hdv _).mono ?_
      rintro e w1 ⟨rfl, hg1⟩
      have hO1 := hO w1 hg1.2
      have hfz1 := hfz w1 hg1.2
      have hcz1 := hcz w1 hg1.2
      have hnx1 := hnx.trans (hg1.2.mono hnx.size)
      clear hO hfz hcz hce hnx hg1 hdv
      go_wp2
      go_roundw
      case rel => exact ⟨j, _, _, _, rfl, rfl, rfl, by omega, hO1, hstep, hnx1.setCell hgb _⟩
      case measure => simp [intOf]
/-- by zero -/
theorem smallZero_any {a : Option Addr} {m c1 : Nat} (w : World) :
    Calls Tryz.prog 144 #[.slice a m c1, .int .u64 0] w fun e w' => e = .returned (.tuple #[.slice none 0 0, .int .u64 0, .int .i64 30]) ∧ w = w' := by
  go_enter Tryz.func144, Tryz.ntmps144
  go_wp2
  go_ret3
  exact ⟨rfl, rfl⟩
end Go.Proofs.YtceecgklgkiffaaGreatDoor

/- package quot: DivMod. -/
namespace Go.Proofs.YtceecgklgkiffaaGreatDoor
open Go.ChangeShapes Go.WideShapes Go.ChangeAt Go.RowKit
open Na Ar
set_option linter.unusedVariables false

theorem apart_of {w1 w2 : World} {b1 b2 : Nat} {t1 t2 : TypeId} {v1 v2 : Value} {xs ys : List Int} (h1 : Own .u64 w1 b1 t1 v1 xs) (h2 : Own .u64 w2 b2 t2 v2 ys) (h : w1.heap.size ≤ b2) : Apart v1 v2 := by
  intro g g1 g2
  have a := h1.row.lt g g1
  have b := h2.row.lt g g2
  omega
theorem apart_nil {v2 : Value} : Apart (.slice none 0 0) v2 := by
  intro g g1
  simp [Value.ownBlock] at g1
theorem words_two {N : Int} (h : 18446744073709551616 ≤ N) : 2 ≤ (words N).length := by
  rcases words_cases (N := N) (by omega) with ⟨e, _⟩ | ⟨_, e, _⟩ | ⟨_, e⟩
  · omega
  · omega
  · exact e

set_option maxHeartbeats 3200000 in
set_option maxRecDepth 100000 in
theorem divMod_any {a b : Option Addr} {m n c1 c2 : Nat} {xs ys : List Int} {w : World} (hr1 : RowC w a m c1 xs) (hr2 : RowC w b n c2 ys) (hx : Ws xs) (hy : Ws ys) (hm : m ≤ 3800000) (hn : n ≤ 3800000) (hY : 0 < num ys) :
    Calls Tryz.prog 104 #[.slice a m c1, .slice b n c2] w fun e w' => ∃ v1 v2, e = .returned (.tuple #[v1, v2, .int .i64 0]) ∧ Own .u64 w' w.heap.size 22 v1 (words (num xs / num ys)) ∧ Own .u64 w' w.heap.size 22 v2 (words (num xs % num ys)) ∧ Below w.heap.size w w' ∧ Apart v1 v2 := by
  have p1 := num_nonneg hx
  have v1 := num_words p1
  have v2 := num_words (Int.le_of_lt hY)
  have d1 := Dg_words (num xs)
  have d2 := Dg_words (num ys)
  go_enter Tryz.func104, Tryz.ntmps104
  go_wp2_with fail
  refine (trim_any hr1 hx (by omega)).mono ?_
  rintro e w' ⟨rfl, r1, _, l1, rfl⟩
  go_wp2_with fail
  refine (trim_any hr2 hy (by omega)).mono ?_
  rintro e w' ⟨rfl, r2, _, l2, rfl⟩
  clear hr1 hr2
  have hword := natWord_any r2 d2 (by omega)
  rw [v2] at hword
  obtain ⟨X, hX⟩ : ∃ X, X = num xs := ⟨_, rfl⟩
  obtain ⟨Y, hYe⟩ : ∃ Y, Y = num ys := ⟨_, rfl⟩
  have HX : Hid (num xs = X) := hX.symm
  have HY : Hid (num ys = Y) := hYe.symm
  rw [← hX] at v1 d1 r1 p1 l1 ⊢
  rw [← hYe] at v2 d2 r2 hY l2 hword ⊢
  clear hX hYe
  by_cases h1 : Y < 18446744073709551616
  · have e1 : wordV Y = Y := by unfold wordV; rw [if_pos h1]
    have e2 : wordB Y = true := decide_eq_true h1
    rw [e1, e2] at hword
    have hsm := fun (w1 : World) (h : Below w.heap.size w w1) => small_any (d := Y) (r1.later h) d1 (by omega) ⟨by omega, h1⟩ (by omega)
    rw [v1] at hsm
    have hrem : 0 ≤ X % Y ∧ X % Y < 18446744073709551616 := by
      have := Int.emod_nonneg X (show Y ≠ 0 by omega)
      have := Int.emod_lt_of_pos X hY
      omega
    have hfr := fun w1 => natFrom_any hrem w1
    generalize (words X).length = lx at *
    generalize (words Y).length = ly at *
    clear e1 e2
    go_wp2_with fail
    refine hword.mono ?_
    rintro e w1 ⟨rfl, hb1⟩
    go_wp2_with fail
    refine (hsm w1 hb1).mono ?_
    rintro e w2 ⟨q, rfl, hq, hb2⟩
    have hB2 := hb1.trans (hb2.mono hb1.size)
    clear hword hsm
    obtain ⟨R, hR⟩ : ∃ R, R = X % Y := ⟨_, rfl⟩
    have HR : Hid (X % Y = R) := hR.symm
    rw [← hR] at hfr hrem ⊢
    clear hR
    go_wp2_with fail
    refine (hfr w2).mono ?_
    rintro e w3 ⟨r, rfl, hr, hb3⟩
    have hq3 := (hq.later hb3).wider hb1.size
    have hr3 := hr.wider hB2.size
    have hap := apart_of hq hr (Nat.le_refl _)
    have hB3 := hB2.trans (hb3.mono hB2.size)
    clear hfr hb2 hb3
    go_wp2
    go_ret3
    exact ⟨_, _, rfl, by rw [HX.out, HY.out]; exact hq3, by rw [HX.out, HY.out, HR.out]; exact hr3, hB3, hap⟩
  · have e1 : wordV Y = 0 := by unfold wordV; rw [if_neg h1]
    have e2 : wordB Y = false := decide_eq_false h1
    rw [e1, e2] at hword
    have hcmp := fun (w1 : World) (h : Below w.heap.size w w1) => natCmp_any (r1.later h) (r2.later h) d1 d2 (by omega) (by omega)
    rw [v1, v2] at hcmp
    have hly := words_two (N := Y) (by omega)
    by_cases hlt : X < Y
    · have ho := ordN_lt hlt
      rw [ho] at hcmp
      have q0 : Hid (words (X / Y) = []) := by
        show _ = _
        rw [Int.ediv_eq_zero_of_lt p1 hlt]
        exact List.length_eq_zero_iff.mp ((words_nil (Int.le_refl _)).mpr rfl)
      have q1 : Hid (X % Y = X) := Int.emod_eq_of_lt p1 hlt
      have hno := fun (w1 : World) (h : Below w.heap.size w w1) => natNorm_any (r1.later h) d1 (by omega)
      rw [v1] at hno
      generalize (words X).length = lx at *
      generalize (words Y).length = ly at *
      clear e1 e2 ho
      go_wp2_with fail
      refine hword.mono ?_
      rintro e w1 ⟨rfl, hb1⟩
      go_wp2_with fail
      refine (hcmp w1 hb1).mono ?_
      rintro e w2 ⟨rfl, hb2⟩
      have hB2 := hb1.trans (hb2.mono hb1.size)
      clear hcmp hword
      go_wp2_with fail
      refine (hno w2 hB2).mono ?_
      rintro e w3 ⟨r, rfl, hr, hb3⟩
      have hr3 := hr.wider hB2.size
      have hB3 := hB2.trans (hb3.mono hB2.size)
      clear hno
      go_wp2
      go_ret3
      exact ⟨_, _, rfl, by rw [HX.out, HY.out, q0.out]; exact own_nil _ _ _ _, by rw [HX.out, HY.out, q1.out]; exact hr3, hB3, apart_nil⟩
    · have ho : ¬ ordN X Y < 0 := by
        unfold ordN; rw [if_neg hlt]; split <;> omega
      have hll : (words Y).length ≤ (words X).length := words_mono (Int.le_of_lt hY) (by omega)
      obtain ⟨k, hk⟩ : ∃ k, (words Y).length = k + 2 := ⟨(words Y).length - 2, by omega⟩
      obtain ⟨J, hJ⟩ : ∃ J, (words X).length = J + (k + 2) := ⟨(words X).length - (k + 2), by omega⟩
      rw [hk] at r2 l2 hll hly hword hcmp ⊢
      rw [hJ] at r1 l1 hll hcmp ⊢
      have hdv := fun (w1 : World) (h : Below w.heap.size w w1) => divide_any (r1.later h) (r2.later h) p1 hY (by omega)
      generalize ordN X Y = o at *
      clear e1 e2 hk hJ
      go_wp2_with fail
      refine hword.mono ?_
      rintro e w1 ⟨rfl, hb1⟩
      go_wp2_with fail
      refine (hcmp w1 hb1).mono ?_
      rintro e w2 ⟨rfl, hb2⟩
      have hB2 := hb1.trans (hb2.mono hb1.size)
      clear hcmp hword
      go_wp2_with fail
      refine (hdv w2 hB2).mono ?_
      rintro e w3 ⟨q, r, rfl, hq, hr, hb3, hap⟩
      have hq3 := hq.wider hB2.size
      have hr3 := hr.wider hB2.size
      have hB3 := hB2.trans (hb3.mono hB2.size)
      clear hdv
      go_wp2
      go_ret3
      exact ⟨_, _, rfl, by rw [HX.out, HY.out]; exact hq3, by rw [HX.out, HY.out]; exact hr3, hB3, hap⟩

set_option maxHeartbeats 3200000 in
set_option maxRecDepth 100000 in
/-- by zero -/
theorem divModZero_any {a b : Option Addr} {m n c1 c2 : Nat} {xs ys : List Int} {w : World} (hr1 : RowC w a m c1 xs) (hr2 : RowC w b n c2 ys) (hx : Ws xs) (hy : Ws ys) (hm : m ≤ 3800000) (hn : n ≤ 3800000) (hY : num ys = 0) :
    Calls Tryz.prog 104 #[.slice a m c1, .slice b n c2] w fun e w' => ∃ v1 v2, e = .returned (.tuple #[v1, v2, .int .i64 30]) ∧ Own .u64 w' w.heap.size 22 v1 [] ∧ Own .u64 w' w.heap.size 22 v2 [] ∧ Below w.heap.size w w' ∧ Apart v1 v2 := by
  have d2 := Dg_words (num ys)
  have v2 := num_words (num_nonneg hy)
  have w0 : Hid (words 0 = []) := List.length_eq_zero_iff.mp ((words_nil (Int.le_refl _)).mpr rfl)
  go_enter Tryz.func104, Tryz.ntmps104
  go_wp2_with fail
  refine (trim_any hr1 hx (by omega)).mono ?_
  rintro e w' ⟨rfl, r1, _, l1, rfl⟩
  go_wp2_with fail
  refine (trim_any hr2 hy (by omega)).mono ?_
  rintro e w' ⟨rfl, r2, _, l2, rfl⟩
  clear hr1 hr2
  have hword := natWord_any r2 d2 (by omega)
  rw [v2, hY] at hword
  have e1 : wordV 0 = 0 := rfl
  have e2 : wordB 0 = true := rfl
  rw [e1, e2] at hword
  have hfr := fun w1 => natFrom_any (v := 0) (by omega) w1
  rw [w0.out] at hfr
  rw [hY]
  generalize (words (num xs)).length = lx at *
  generalize (words 0).length = ly at *
  clear e1 e2 r1 r2
  go_wp2_with fail
  refine hword.mono ?_
  rintro e w1 ⟨rfl, hb1⟩
  go_wp2_with fail
  refine (smallZero_any w1).mono ?_
  rintro e w2 ⟨rfl, rfl⟩
  clear hword
  go_wp2_with fail
  refine (hfr w1).mono ?_
  rintro e w3 ⟨r, rfl, hr, hb3⟩
  have hr3 := hr.wider hb1.size
  have hB3 := hb1.trans (hb3.mono hb1.size)
  clear hfr
  go_wp2
  go_ret3
  exact ⟨_, _, rfl, own_nil _ _ _ _, hr3, hB3, apart_nil⟩
end Go.Proofs.YtceecgklgkiffaaGreatDoor

/- package quot: Pow. -/
namespace Go.Proofs.YtceecgklgkiffaaGreatDoor
open Go.ChangeShapes Go.WideShapes Go.ChangeAt Go.RowKit
open Na Ar
set_option linter.unusedVariables false
namespace Na
theorem and_oneI (x : Int) : bits .and .i64 x 1 = x % 2 := by
  have h : (BitVec.ofInt 64 1).toNat = 2 ^ 1 - 1 := by decide
  have e : (BitVec.ofInt 64 x &&& BitVec.ofInt 64 1).toNat = (x % ((2 ^ 64 : Nat) : Int)).toNat % 2 ^ 1 := by
    rw [BitVec.toNat_and, BitVec.toNat_ofInt, h, Nat.and_two_pow_sub_one_eq_mod]
  show IntKind.i64.wrap ((BitVec.ofInt 64 x &&& BitVec.ofInt 64 1).toNat : Nat) = _
  rw [e, IntKind.wrap_i64]
  omega
theorem half_div (n j : Nat) : n / 2 ^ j = 2 * (n / 2 ^ (j + 1)) + n / 2 ^ j % 2 := by
  have : n / 2 ^ (j + 1) = n / 2 ^ j / 2 := by rw [Nat.pow_succ, Nat.div_div_eq_div_mul]
  rw [this]; omega
theorem ipow_pos {X : Int} (h : 1 ≤ X) (n : Nat) : 1 ≤ X ^ n := by
  induction n with
  | zero => simp
  | succ n ih =>
    rw [Int.pow_succ]
    have := Int.mul_le_mul_of_nonneg_left h (show 0 ≤ X ^ n by omega)
    omega
theorem ipow_mono {X : Int} (h : 1 ≤ X) {a b : Nat} (hab : a ≤ b) : X ^ a ≤ X ^ b := by
  obtain ⟨c, rfl⟩ : ∃ c, b = a + c := ⟨b - a, by omega⟩
  rw [Int.pow_add]
  have p := ipow_pos h a
  have := Int.mul_le_mul_of_nonneg_left (ipow_pos h c) (show 0 ≤ X ^ a by omega)
  omega
theorem ipow_base {X Y : Int} (h0 : 0 ≤ X) (h : X ≤ Y) (n : Nat) : X ^ n ≤ Y ^ n := by
  induction n with
  | zero => simp
  | succ n ih =>
    rw [Int.pow_succ, Int.pow_succ]
    exact Int.mul_le_mul ih h h0 (Int.le_trans (Int.pow_nonneg h0) ih)
theorem res_above {A B : Int} (hA : 0 ≤ A) (h : A ≤ B) (hh : resE A ≠ 0) : resE B = 21 ∧ resL B = [] ∧ resE A = 21 ∧ resL A = [] := by
  have l : 4096 < (words A).length := by
    unfold resE at hh
    by_cases g : (words A).length ≤ 4096
    · rw [if_pos g] at hh; exact absurd rfl hh
    · omega
  have m := words_mono hA h
  have a := res_huge (N := A) l
  have b := res_huge (N := B) (by omega)
  exact ⟨b.2, b.1, a.2, a.1⟩
theorem res_ok {A : Int} (h : resE A = 0) : resL A = words A ∧ (words A).length ≤ 4096 := by
  unfold resE at h
  by_cases g : (words A).length ≤ 4096
  · exact ⟨(res_fits g).1, g⟩
  · rw [if_neg g] at h; omega
end Na
set_option maxHeartbeats 3200000 in
set_option maxRecDepth 100000 in
theorem raise_any {a : Option Addr} {m c1 : Nat} {xs : List Int} {w : World} (hr1 : RowC w a m c1 xs) (hx : Ws xs) (hm : m ≤ 4000000) (h1 : 1 ≤ num xs) (n : Nat) (hn : 0 < n) (hn9 : n ≤ 4611686018427387904) :
    Calls Tryz.prog 184 #[.slice a m c1, .int .i64 (n : Int)] w fun e w' => ∃ v, e = .returned (.tuple #[v, .int .i64 (resE (num xs ^ n))]) ∧ Own .u64 w' w.heap.size 22 v (resL (num xs ^ n)) ∧ Below w.heap.size w w' := by
  have hU : U (n : Int) := by unfold U; omega
  have hlen := fun w => len_any hU w
  obtain ⟨K, hK64, hKe, hK1, hK2⟩ := lenW_pos hU (by omega)
  rw [hKe] at hlen
  have hfr := natFrom_any (v := 1) (by omega) w
  go_enter Tryz.func184, Tryz.ntmps184
  go_wp2_with fail
  refine hfr.mono ?_
  rintro e w1 ⟨o, rfl, ho, hb1⟩
  go_wp2_with fail
  refine (hlen _).mono ?_
  rintro e w' ⟨rfl, rfl⟩
  clear hfr hlen
  have hz : Hid (n / 2 ^ (K + 1) = 0) := Nat.div_eq_of_lt (by have := Int.ofNat_lt.mp (show ((n : Nat) : Int) < ((2 ^ (K + 1) : Nat) : Int) by rw [p2cast]; exact hK2); exact this)
  have h0 : Hid (resL (num xs ^ (n / 2 ^ (K + 1))) = words 1 ∧ resE (num xs ^ (n / 2 ^ (K + 1))) = 0) := by
    show _ ∧ _
    rw [hz.out, Int.pow_zero]
    exact res_fits (by have := words_len1 (v := 1) (by omega); omega)
  go_wp2
  go_loopw [6, 7, 8] (fun o e i wr => ∃ (k : Nat) (I E : Int), i = .int .i64 I ∧ I = (k : Int) - 1 ∧ e = .int .i64 E ∧ Hid (E = resE (num xs ^ (n / 2 ^ k))) ∧ k ≤ K + 1 ∧ Own .u64 wr w.heap.size 22 o (resL (num xs ^ (n / 2 ^ k))) ∧ Below w.heap.size w wr) (fun _ _ i _ => (intOf i + 1).toNat)
  case atStart => exact ⟨K + 1, _, 0, rfl, by omega, rfl, h0.out.2.symm, Nat.le_refl _, by rw [h0.out.1]; exact ho, hb1⟩
  case round =>
    obtain ⟨k, I, E, rfl, hI, rfl, hE, hk, hou, hnx⟩ := hrel
    clear ho hb1 hz h0
    by_cases hk0 : k = 0
    · have e1 : Hid (n / 2 ^ k = n) := by show _ = _; rw [hk0]; simp
      rw [e1.out] at hou
      have E1 : Hid (E = resE (num xs ^ n)) := by have := hE.out; rw [e1.out] at this; exact this
      have hneg : I < 0 := by omega
      clear hI hE
      go_wp2
      go_ret2
      exact ⟨_, by rw [← E1.out]; rfl, hou, hnx⟩
    · by_cases hE0 : E = 0
      · obtain ⟨j, rfl⟩ : ∃ j, k = j + 1 := ⟨k - 1, by omega⟩
        have hI' : I = (j : Int) := by omega
        clear hI hk0
        subst hI'
        have hE1 := hE.out
        rw [hE0] at hE1
        obtain ⟨el, eb⟩ := res_ok hE1.symm
        rw [el] at hou
        subst hE0
        obtain ⟨P, hP⟩ : ∃ P, P = num xs ^ (n / 2 ^ (j + 1)) := ⟨_, rfl⟩
        have HP : Hid (num xs ^ (n / 2 ^ (j + 1)) = P) := hP.symm
        rw [← hP] at hou eb
        have hP0 : 1 ≤ P := by rw [hP]; exact ipow_pos h1 _
        obtain ⟨oa, oc, rfl, hor⟩ := hou.readsC
        have hPn := num_words (show 0 ≤ P by omega)
        have dP := Dg_words P
        have hmul := natMul_any hor hor dP dP (by omega) (by omega)
        rw [hPn] at hmul
        have hj64 : j < 64 := by omega
        have hhd := half_div n j
        have hand := and_oneI ((n : Int) / 2 ^ j)
        have hcn : ((n : Int) / 2 ^ j) % 2 = ((n / 2 ^ j % 2 : Nat) : Int) := by
          rw [Int.natCast_emod, Int.natCast_ediv, p2cast]; rfl
        rw [hcn] at hand
        have hPP : P * P = num xs ^ (2 * (n / 2 ^ (j + 1))) := by rw [← HP.out, Nat.two_mul, Int.pow_add]
        have hPP0 : 1 ≤ P * P := by rw [hPP]; exact ipow_pos h1 _
        clear hP hE1 hE el hcn
        by_cases hb : n / 2 ^ j % 2 = 1
        · rw [hb] at hand hhd
          have hand1 : bits BinOp.and IntKind.i64 ((n : Int) / 2 ^ j) 1 = 1 := hand
          have HQ : Hid (num xs ^ (n / 2 ^ j) = P * P * num xs) := by show _ = _; rw [hhd, Int.pow_add, Int.pow_one, ← hPP]
          have hQ := res_above (A := P * P) (B := P * P * num xs) (by omega) (by have := Int.mul_le_mul_of_nonneg_left h1 (show 0 ≤ P * P by omega); omega)
          have hok := fun h => res_ok (A := P * P) h
          have hPPn := num_words (show 0 ≤ P * P by omega)
          have dPP := Dg_words (P * P)
          have hrx := hr1
          clear hand hhd hPP
          generalize P * P = PP at *
          by_cases hz : resE PP = 0
          · obtain ⟨el, eb2⟩ := hok hz
            rw [hz, el] at hmul
            clear hQ hok
            go_wp2_with fail
            refine hmul.mono ?_
            rintro e w2 ⟨v, rfl, hv, hb2⟩
            obtain ⟨va, vc, rfl, hvr⟩ := hv.readsC
            have hB2 := hnx.trans (hb2.mono hnx.size)
            have hm2 := natMul_any hvr (hr1.later hB2) dPP hx (by omega) hm
            rw [hPPn] at hm2
            clear hmul hou hor hv hvr
            generalize (words PP).length = lp at *
            generalize (words P).length = lq at *
            go_wp2_with fail
            refine hm2.mono ?_
            rintro e w3 ⟨v3, rfl, hv3, hb3⟩
            have hv4 := hv3.wider hB2.size
            have hB3 := hB2.trans (hb3.mono hB2.size)
            clear hm2 hv3
            go_wp2
            go_roundw
            case rel => exact ⟨j, _, _, rfl, rfl, rfl, (by rw [HQ.out] : _ = _), by omega, by rw [HQ.out]; exact hv4, hB3⟩
            case measure => simp [intOf]
          · obtain ⟨x1, x2, x3, x4⟩ := hQ hz
            rw [x3, x4] at hmul
            have X1 : Hid (resE (PP * num xs) = 21) := x1
            have X2 : Hid (resL (PP * num xs) = []) := x2
            clear hok x1 x2 x3 x4 hQ
            generalize (words P).length = lq at *
            go_wp2_with fail
            refine hmul.mono ?_
            rintro e w2 ⟨v, rfl, hv, hb2⟩
            have hB2 := hnx.trans (hb2.mono hnx.size)
            have hv4 := hv.wider hnx.size
            clear hmul hou hor hv
            go_wp2
            go_roundw
            case rel => exact ⟨j, _, _, rfl, rfl, rfl, (by rw [HQ.out, X1.out] : _ = _), by omega, by rw [HQ.out, X2.out]; exact hv4, hB2⟩
            case measure => simp [intOf]
        · have hb0 : n / 2 ^ j % 2 = 0 := by omega
          rw [hb0] at hand hhd
          have hand1 : bits BinOp.and IntKind.i64 ((n : Int) / 2 ^ j) 1 = 0 := hand
          have HQ : Hid (num xs ^ (n / 2 ^ j) = P * P) := by show _ = _; rw [hhd, Nat.add_zero, ← hPP]
          clear hand hhd hPP
          generalize P * P = PP at *
          obtain ⟨E2, hE2⟩ : ∃ E2, E2 = resE PP := ⟨_, rfl⟩
          rw [← hE2] at hmul
          have HE2 : Hid (E2 = resE PP) := hE2
          clear hE2
          generalize (words P).length = lq at *
          go_wp2_with fail
          refine hmul.mono ?_
          rintro e w2 ⟨v, rfl, hv, hb2⟩
          have hB2 := hnx.trans (hb2.mono hnx.size)
          have hv4 := hv.wider hnx.size
          clear hmul hou hor hv
          go_wp2
          go_roundw
          case rel => exact ⟨j, _, _, rfl, rfl, rfl, (by rw [HQ.out]; exact HE2.out : _ = _), by omega, by rw [HQ.out]; exact hv4, hB2⟩
          case measure => simp [intOf]
      · have hx := res_above (A := num xs ^ (n / 2 ^ k)) (B := num xs ^ n) (by have := ipow_pos h1 (n / 2 ^ k); omega) (ipow_mono h1 (Nat.div_le_self _ _)) (by rw [← hE.out]; exact hE0)
        obtain ⟨x1, x2, x3, x4⟩ := hx
        have X1 : Hid (resE (num xs ^ n) = 21) := x1
        have X2 : Hid (resL (num xs ^ n) = []) := x2
        rw [x4] at hou
        have hE2 : E = 21 := by rw [hE.out]; exact x3
        subst hE2
        clear x1 x2 x3 x4 hE hE0
        have hI0 : 0 ≤ I := by omega
        go_wp2
        go_ret2
        exact ⟨_, by rw [X1.out]; rfl, by rw [X2.out]; exact hou, hnx⟩

/-- what Pow answers: its error, its list -/
def powE (X n : Int) : Int := if n < 0 then 31 else resE (X ^ n.toNat)
def powL (X n : Int) : List Int := if n < 0 then [] else resL (X ^ n.toNat)
namespace Na
theorem pow_small {X : Int} (h0 : 0 ≤ X) (h : bitsN X ≤ 1) {n : Nat} (hn : n ≠ 0) : X ^ n = X ∧ (words X).length ≤ 1 := by
  have hX : X = 0 ∨ X = 1 := by
    by_cases hz : X = 0
    · exact Or.inl hz
    · obtain ⟨b, hb, a1, a2⟩ := bits_some (N := X) (by omega)
      have : b = 0 := by omega
      subst this
      right
      simp at a1 a2
      omega
  rcases hX with rfl | rfl
  · exact ⟨Int.zero_pow hn, words_len1 (by omega)⟩
  · exact ⟨Int.one_pow, words_len1 (by omega)⟩
theorem pow_huge {X : Int} {b n : Nat} (h : 2 ^ b ≤ X) (hn : 262144 ≤ b * n) : 4096 < (words (X ^ n)).length := by
  have p := p2pos b
  have a : (2 : Int) ^ (b * n) ≤ X ^ n := by
    rw [Int.pow_mul]
    exact ipow_base (by omega) h n
  have c : (2 : Int) ^ 262144 ≤ 2 ^ (b * n) := p2mono hn
  have d : 4096 < (words (X ^ n)).length := by
    refine dig_len_ge ?_
    rw [wpow2]
    have : 64 * 4096 = 262144 := by omega
    rw [this]
    omega
  exact d
end Na
set_option maxHeartbeats 3200000 in
set_option maxRecDepth 100000 in
theorem pow_any {a : Option Addr} {m c1 : Nat} {xs : List Int} {w : World} (hr1 : RowC w a m c1 xs) (hx : Ws xs) (hm : m ≤ 4000000) (n : Int) (h0 : -9223372036854775808 ≤ n) (hn9 : n ≤ 9223372036854775807) :
    Calls Tryz.prog 149 #[.slice a m c1, .int .i64 n] w fun e w' => ∃ v, e = .returned (.tuple #[v, .int .i64 (powE (num xs) n)]) ∧ Own .u64 w' w.heap.size 22 v (powL (num xs) n) ∧ Below w.heap.size w w' := by
  by_cases hneg : n < 0
  · have E1 : Hid (powE (num xs) n = 31) := if_pos hneg
    have E2 : Hid (powL (num xs) n = []) := if_pos hneg
    go_enter Tryz.func149, Tryz.ntmps149
    go_wp2
    go_ret2
    exact ⟨_, by rw [E1.out]; rfl, by rw [E2.out]; exact own_nil _ _ _ _, Below.refl _ _⟩
  · obtain ⟨t, rfl⟩ : ∃ t : Nat, n = (t : Int) := ⟨n.toNat, by omega⟩
    have E1 : Hid (powE (num xs) (t : Int) = resE (num xs ^ t)) := by show _ = _; unfold powE; rw [if_neg hneg]; simp
    have E2 : Hid (powL (num xs) (t : Int) = resL (num xs ^ t)) := by show _ = _; unfold powL; rw [if_neg hneg]; simp
    clear hneg h0
    by_cases ht : t = 0
    · have o1 := res_fits (N := 1) (by have := words_len1 (v := 1) (by omega); omega)
      have F1 : Hid (powE (num xs) (t : Int) = 0) := by show _ = _; rw [E1.out, ht, Int.pow_zero]; exact o1.2
      have F2 : Hid (powL (num xs) (t : Int) = words 1) := by show _ = _; rw [E2.out, ht, Int.pow_zero]; exact o1.1
      have t0 : ((t : Int) == 0) = true := by simp [ht]
      have hfr := natFrom_any (v := 1) (by omega) w
      clear o1 ht E1 E2
      go_enter Tryz.func149, Tryz.ntmps149
      go_wp2_with fail
      refine hfr.mono ?_
      rintro e w1 ⟨v, rfl, hv, hb1⟩
      clear hfr
      go_wp2
      go_ret2
      exact ⟨_, by rw [F1.out]; rfl, by rw [F2.out]; exact hv, hb1⟩
    · have t0 : ((t : Int) == 0) = false := by simp; omega
      have p1 := num_nonneg hx
      have hbit := natBits_any hr1 hx hm
      have l1 := hr1.1.1
      have hble := bits_le (N := num xs) (k := xs.length) p1 (num_bd hx)
      have hbn := bits_nonneg (num xs)
      by_cases hb1 : bitsN (num xs) ≤ 1
      · obtain ⟨s1, s2⟩ := pow_small p1 hb1 ht
        have o1 := res_fits (N := num xs) (by omega)
        have F1 : Hid (powE (num xs) (t : Int) = 0) := by show _ = _; rw [E1.out, s1]; exact o1.2
        have F2 : Hid (powL (num xs) (t : Int) = words (num xs)) := by show _ = _; rw [E2.out, s1]; exact o1.1
        have hno := fun (w1 : World) (h : Below w.heap.size w w1) => natNorm_any (hr1.later h) hx hm
        clear o1 s1 s2 E1 E2 hr1 ht
        generalize bitsN (num xs) = q at *
        go_enter Tryz.func149, Tryz.ntmps149
        go_wp2_with fail
        refine hbit.mono ?_
        rintro e w1 ⟨rfl, hw1⟩
        go_wp2_with fail
        refine (hno w1 hw1).mono ?_
        rintro e w2 ⟨v, rfl, hv, hw2⟩
        have hv2 := hv.wider hw1.size
        have hB2 := hw1.trans (hw2.mono hw1.size)
        clear hbit hno hv
        go_wp2
        go_ret2
        exact ⟨_, by rw [F1.out]; rfl, by rw [F2.out]; exact hv2, hB2⟩
      · have hX1 : 1 ≤ num xs := by
          by_cases g : num xs = 0
          · rw [g, bits_none] at hb1; omega
          · omega
        obtain ⟨b, hb, a1, a2⟩ := bits_some (N := num xs) (by omega)
        rw [hb] at hbit hble hb1
        have hbb : 1 ≤ b := by omega
        by_cases hbig : (262143 : Int) / (b : Int) < (t : Int)
        · have hbt : 262144 ≤ b * t := by
            have h2 : (262143 : Int) < (t : Int) * (b : Int) := by
              have := Int.lt_mul_of_ediv_lt (a := 262143) (c := (b : Int)) (b := (t : Int)) (by omega) hbig
              exact this
            have h3 : ((b * t : Nat) : Int) = (t : Int) * (b : Int) := by rw [Int.natCast_mul, Int.mul_comm]
            omega
          have E := res_huge (N := num xs ^ t) (pow_huge a1 hbt)
          have F1 : Hid (powE (num xs) (t : Int) = 21) := by show _ = _; rw [E1.out]; exact E.2
          have F2 : Hid (powL (num xs) (t : Int) = []) := by show _ = _; rw [E2.out]; exact E.1
          clear E E1 E2 hr1 ht hbt a1 a2 hb
          have hd9 : (262143 : Int) / ((b : Int) + 1 - 1) < (t : Int) := by rw [Int.add_sub_cancel]; exact hbig
          go_enter Tryz.func149, Tryz.ntmps149
          go_wp2_with fail
          refine hbit.mono ?_
          rintro e w1 ⟨rfl, hw1⟩
          go_wp2
          go_ret2
          exact ⟨_, by rw [F1.out]; rfl, by rw [F2.out]; exact own_nil _ _ _ _, hw1⟩
        · have htle : t ≤ 262143 := by
            have h3 : (262143 : Int) / (b : Int) ≤ 262143 := Int.ediv_le_self _ (by omega)
            omega
          have hra := fun (w1 : World) (h : Below w.heap.size w w1) => raise_any (hr1.later h) hx hm hX1 t (by omega) (by omega)
          have hd9 : ¬ (262143 : Int) / ((b : Int) + 1 - 1) < (t : Int) := by rw [Int.add_sub_cancel]; exact hbig
          clear hr1 ht a1 a2 hb
          go_enter Tryz.func149, Tryz.ntmps149
          go_wp2_with fail
          refine hbit.mono ?_
          rintro e w1 ⟨rfl, hw1⟩
          go_wp2_with fail
          refine (hra w1 hw1).mono ?_
          rintro e w2 ⟨v, rfl, hv, hw2⟩
          have hv2 := hv.wider hw1.size
          have hB2 := hw1.trans (hw2.mono hw1.size)
          clear hbit hra hv
          go_wp2
          go_ret2
          exact ⟨_, by rw [E1.out]; rfl, by rw [E2.out]; exact hv2, hB2⟩
end Go.Proofs.YtceecgklgkiffaaGreatDoor
