/- Plain numbers: division of two words by one. -/
import Derived.Test.YthjfjpdgjhidfabGreatBaseA
namespace Go.Proofs.YthjfjpdgjhidfabGreat.Ar
open Go.RowKit
set_option linter.unusedVariables false

/-- quotient and rest, told by what they are -/
theorem div_of {n b q r : Int} (hb : 0 < b) (h : n = q * b + r) (h0 : 0 ≤ r) (h1 : r < b) : n / b = q ∧ n % b = r := by
  have e : n = r + b * q := by rw [h, Int.mul_comm]; omega
  constructor
  · rw [e, Int.add_mul_ediv_left _ _ (by omega), Int.ediv_eq_zero_of_lt h0 h1]; omega
  · rw [e, Int.add_mul_emod_self_left, Int.emod_eq_of_lt h0 h1]

/-- the loop of wide.divHalf: q is never too small, and goes with r -/
def HalfInv (t n b Q R : Int) : Prop := Q * (b / 4294967296) + R = t ∧ (t * 4294967296 + n) / b ≤ Q ∧ 0 ≤ R ∧ 0 ≤ Q ∧ Q ≤ 4294967297 ∧ (4294967296 ≤ R → Q ≤ 4294967296) ∧ R < 9223372036854775808
/-- what a divisor of wide.divHalf is -/
def Big (b : Int) : Prop := 9223372036854775808 ≤ b ∧ b < 18446744073709551616
theorem big_halves {b : Int} (h : Big b) : 2147483648 ≤ b / 4294967296 ∧ b / 4294967296 < 4294967296 := by unfold Big at h; omega
theorem half_start {t n b : Int} (hb : Big b) (ht : U t) (htb : t < b) (hn : H n) : HalfInv t n b (t / (b / 4294967296)) (t % (b / 4294967296)) := by
  obtain ⟨g1, g2⟩ := big_halves hb
  unfold U H Big at *
  have e := Int.mul_ediv_add_emod t (b / 4294967296)
  have r0 : 0 ≤ t % (b / 4294967296) := Int.emod_nonneg _ (by omega)
  have r1 : t % (b / 4294967296) < b / 4294967296 := Int.emod_lt_of_pos _ (by omega)
  have q0 : 0 ≤ t / (b / 4294967296) := Int.ediv_nonneg ht.1 (by omega)
  refine ⟨by rw [Int.mul_comm]; exact e, ?_, r0, q0, ?_, by omega, by omega⟩
  · -- the true quotient's product with the divisor's higher half is not above t
    have d0 : 0 ≤ (t * 4294967296 + n) / b := Int.ediv_nonneg (by omega) (by omega)
    have d1 : (t * 4294967296 + n) / b * b ≤ t * 4294967296 + n := Int.ediv_mul_le _ (by omega)
    refine Int.le_ediv_of_mul_le (by omega) ?_
    generalize (t * 4294967296 + n) / b = d at *
    have e2 : d * b = d * (b / 4294967296) * 4294967296 + d * (b % 4294967296) := by
      have : b = b / 4294967296 * 4294967296 + b % 4294967296 := by omega
      have e3 : d * b = d * (b / 4294967296 * 4294967296 + b % 4294967296) := by rw [← this]
      rw [e3, Int.mul_add, Int.mul_assoc]
    have e4 : 0 ≤ d * (b % 4294967296) := Int.mul_nonneg d0 (by omega)
    generalize d * (b / 4294967296) = x at *
    generalize d * (b % 4294967296) = y at *
    omega
  · -- t is below b, b is below (2^32 + 1) times its higher half and as much again
    have : t / (b / 4294967296) < 4294967298 := by
      refine Int.ediv_lt_of_lt_mul (by omega) ?_
      omega
    omega
theorem half_big {t n b Q R : Int} (hb : Big b) (hn : H n) (h : HalfInv t n b Q R) (hR : 4294967296 ≤ R) : Q * b ≤ t * 4294967296 + n := by
  obtain ⟨h1, h2, h3, h4, h5, h6, h7⟩ := h
  have hq := h6 hR
  unfold H Big at *
  have e2 : Q * b = Q * (b / 4294967296) * 4294967296 + Q * (b % 4294967296) := by
    have : b = b / 4294967296 * 4294967296 + b % 4294967296 := by omega
    have e3 : Q * b = Q * (b / 4294967296 * 4294967296 + b % 4294967296) := by rw [← this]
    rw [e3, Int.mul_add, Int.mul_assoc]
  have e4 : Q * (b % 4294967296) ≤ 4294967296 * 4294967295 := Int.mul_le_mul hq (by omega) (by omega) (by omega)
  generalize Q * (b / 4294967296) = x at *
  generalize Q * (b % 4294967296) = y at *
  omega
theorem half_ok {t n b Q R : Int} (hb : Big b) (hn : H n) (h : HalfInv t n b Q R) (hq : Q * (b % 4294967296) ≤ R * 4294967296 + n) : Q * b ≤ t * 4294967296 + n := by
  obtain ⟨h1, h2, h3, h4, h5, h6, h7⟩ := h
  unfold H Big at *
  have e2 : Q * b = Q * (b / 4294967296) * 4294967296 + Q * (b % 4294967296) := by
    have : b = b / 4294967296 * 4294967296 + b % 4294967296 := by omega
    have e3 : Q * b = Q * (b / 4294967296 * 4294967296 + b % 4294967296) := by rw [← this]
    rw [e3, Int.mul_add, Int.mul_assoc]
  generalize Q * (b / 4294967296) = x at *
  generalize Q * (b % 4294967296) = y at *
  omega
theorem half_step {t n b Q R : Int} (hb : Big b) (hn : H n) (h : HalfInv t n b Q R) (hR : R < 4294967296) (hq : R * 4294967296 + n < Q * (b % 4294967296)) :
    1 ≤ Q ∧ HalfInv t n b (Q - 1) (R + b / 4294967296) := by
  obtain ⟨h1, h2, h3, h4, h5, h6, h7⟩ := h
  obtain ⟨g1, g2⟩ := big_halves hb
  have hQ : 1 ≤ Q := by
    by_cases e : Q = 0
    · subst e; unfold H at hn; omega
    · omega
  refine ⟨hQ, ?_, ?_, by omega, by omega, by omega, by omega, by omega⟩
  · rw [Int.sub_mul]; omega
  · have hlt : t * 4294967296 + n < Q * b := by
      have e2 : Q * b = Q * (b / 4294967296) * 4294967296 + Q * (b % 4294967296) := by
        have : b = b / 4294967296 * 4294967296 + b % 4294967296 := by omega
        have e3 : Q * b = Q * (b / 4294967296 * 4294967296 + b % 4294967296) := by rw [← this]
        rw [e3, Int.mul_add, Int.mul_assoc]
      generalize Q * (b / 4294967296) = x at *
      generalize Q * (b % 4294967296) = y at *
      omega
    have := Int.ediv_lt_of_lt_mul (by unfold Big at hb; omega) hlt
    omega
theorem half_end {t n b Q R : Int} (hb : Big b) (h : HalfInv t n b Q R) (hq : Q * b ≤ t * 4294967296 + n) : Q = (t * 4294967296 + n) / b := by
  have := h.2.1
  have h2 : Q ≤ (t * 4294967296 + n) / b := Int.le_ediv_of_mul_le (by unfold Big at hb; omega) hq
  omega
/-- q times the divisor's lower half fits a word -/
theorem half_fits {t n b Q R : Int} (h : HalfInv t n b Q R) : IntKind.u64.wrap (Q * (b % 4294967296)) = Q * (b % 4294967296) := by
  obtain ⟨h1, h2, h3, h4, h5, h6, h7⟩ := h
  have a1 : 0 ≤ Q * (b % 4294967296) := Int.mul_nonneg h4 (by omega)
  have a2 : Q * (b % 4294967296) ≤ 4294967297 * 4294967295 := Int.mul_le_mul h5 (by omega) (by omega) (by omega)
  rw [wrapU]; omega
theorem half_rest {t n b : Int} (hb : Big b) (hn : H n) : IntKind.u64.wrap (t % 4294967296 * 4294967296 + n - IntKind.u64.wrap ((t * 4294967296 + n) / b * b)) = (t * 4294967296 + n) % b := by
  unfold Big H at *
  have e := Int.mul_ediv_add_emod (t * 4294967296 + n) b
  have r0 : 0 ≤ (t * 4294967296 + n) % b := Int.emod_nonneg _ (by omega)
  have r1 : (t * 4294967296 + n) % b < b := Int.emod_lt_of_pos _ (by omega)
  rw [Int.mul_comm b] at e
  rw [wrapU, wrapU]
  generalize (t * 4294967296 + n) / b * b = x at *
  generalize (t * 4294967296 + n) % b = y at *
  omega
theorem norm_shift {b : Int} (ub : U b) (hb : b ≠ 0) : ∃ s : Nat, s < 64 ∧ 64 - lenW b = s ∧ Big (b * 2 ^ s) ∧ IntKind.u64.wrap (b * 2 ^ s) = b * 2 ^ s := by
  obtain ⟨j, hj, e, l1, l2⟩ := lenW_pos ub hb
  refine ⟨63 - j, by omega, by omega, ?_⟩
  have p := pow_pos (63 - j)
  have e1 : (2 : Int) ^ j * 2 ^ (63 - j) = 9223372036854775808 := by
    rw [← Int.pow_add]
    have : j + (63 - j) = 63 := by omega
    rw [this]; rfl
  have e2 : (2 : Int) ^ (j + 1) * 2 ^ (63 - j) = 18446744073709551616 := by
    rw [Int.pow_succ]
    have : (2 : Int) ^ j * 2 * 2 ^ (63 - j) = 2 * (2 ^ j * 2 ^ (63 - j)) := by grind
    rw [this, e1]; rfl
  have m1 : (2 : Int) ^ j * 2 ^ (63 - j) ≤ b * 2 ^ (63 - j) := Int.mul_le_mul_of_nonneg_right l1 (by omega)
  have m2 : b * 2 ^ (63 - j) < 2 ^ (j + 1) * 2 ^ (63 - j) := Int.mul_lt_mul_of_pos_right l2 p
  rw [e1] at m1
  rw [e2] at m2
  refine ⟨⟨m1, m2⟩, ?_⟩
  rw [wrapU]; omega
theorem div_final {h l b : Int} {s : Nat} (uh : U h) (ul : U l) (hh : h < b) (hb0 : 0 < b) (hB : Big (b * 2 ^ s)) (hs : s < 64) :
    shHi h l s < b * 2 ^ s ∧
    H ((shHi h l s * 4294967296 + shLo h l s / 4294967296) / (b * 2 ^ s)) ∧
    (shHi h l s * 4294967296 + shLo h l s / 4294967296) % (b * 2 ^ s) < b * 2 ^ s ∧ U ((shHi h l s * 4294967296 + shLo h l s / 4294967296) % (b * 2 ^ s)) ∧
    H (((shHi h l s * 4294967296 + shLo h l s / 4294967296) % (b * 2 ^ s) * 4294967296 + shLo h l s % 4294967296) / (b * 2 ^ s)) ∧
    (shHi h l s * 4294967296 + shLo h l s / 4294967296) / (b * 2 ^ s) % 4294967296 * 4294967296 + ((shHi h l s * 4294967296 + shLo h l s / 4294967296) % (b * 2 ^ s) * 4294967296 + shLo h l s % 4294967296) / (b * 2 ^ s) = (h * 18446744073709551616 + l) / b ∧
    ((shHi h l s * 4294967296 + shLo h l s / 4294967296) % (b * 2 ^ s) * 4294967296 + shLo h l s % 4294967296) % (b * 2 ^ s) / 2 ^ s = (h * 18446744073709551616 + l) % b := by
  have p := pow_pos s
  have n1 : (h * 18446744073709551616 + l) * 2 ^ s < b * 2 ^ s * 18446744073709551616 := by
    have : (h * 18446744073709551616 + l) * 2 ^ s < (b * 18446744073709551616) * 2 ^ s := Int.mul_lt_mul_of_pos_right (by unfold U at *; omega) p
    have e : b * 18446744073709551616 * 2 ^ s = b * 2 ^ s * 18446744073709551616 := by grind
    omega
  have n0 : 0 ≤ (h * 18446744073709551616 + l) * 2 ^ s := Int.mul_nonneg (by unfold U at *; omega) (by omega)
  have eN : (h * 18446744073709551616 + l) * 2 ^ s = shHi h l s * 18446744073709551616 + shLo h l s := by
    unfold shHi shLo Big at *
    generalize (h * 18446744073709551616 + l) * 2 ^ s = T at *
    omega
  have uhi := U_shHi h l s
  have ulo := U_shLo h l s
  have eq1 : (h * 18446744073709551616 + l) * 2 ^ s / (b * 2 ^ s) = (h * 18446744073709551616 + l) / b := Int.mul_ediv_mul_of_pos_left _ _ p
  have eq2 : (h * 18446744073709551616 + l) * 2 ^ s % (b * 2 ^ s) = (h * 18446744073709551616 + l) % b * 2 ^ s := mul_mod_right _ _ p
  have eq3 : (h * 18446744073709551616 + l) % b * 2 ^ s / 2 ^ s = (h * 18446744073709551616 + l) % b := Int.mul_ediv_cancel _ (by omega)
  rw [eN] at n1 n0 eq1 eq2
  rw [← eq1, ← eq3, ← eq2]
  generalize shHi h l s = x at *
  generalize shLo h l s = y at *
  generalize (2 : Int) ^ s = P at *
  generalize b * P = B at *
  clear eq1 eq2 eq3 eN
  unfold Big U at *
  have hx : x < B := by omega
  have r0 : 0 ≤ (x * 4294967296 + y / 4294967296) % B := Int.emod_nonneg _ (by omega)
  have r1 : (x * 4294967296 + y / 4294967296) % B < B := Int.emod_lt_of_pos _ (by omega)
  have d1 := Int.mul_ediv_add_emod (x * 4294967296 + y / 4294967296) B
  have q0 : 0 ≤ (x * 4294967296 + y / 4294967296) / B := Int.ediv_nonneg (by omega) (by omega)
  have q1 : (x * 4294967296 + y / 4294967296) / B < 4294967296 := Int.ediv_lt_of_lt_mul (by omega) (by omega)
  generalize (x * 4294967296 + y / 4294967296) % B = R1 at *
  generalize (x * 4294967296 + y / 4294967296) / B = Q1 at *
  have s0 : 0 ≤ (R1 * 4294967296 + y % 4294967296) % B := Int.emod_nonneg _ (by omega)
  have s1 : (R1 * 4294967296 + y % 4294967296) % B < B := Int.emod_lt_of_pos _ (by omega)
  have d2 := Int.mul_ediv_add_emod (R1 * 4294967296 + y % 4294967296) B
  have p0 : 0 ≤ (R1 * 4294967296 + y % 4294967296) / B := Int.ediv_nonneg (by omega) (by omega)
  have p1 : (R1 * 4294967296 + y % 4294967296) / B < 4294967296 := Int.ediv_lt_of_lt_mul (by omega) (by omega)
  generalize (R1 * 4294967296 + y % 4294967296) % B = R2 at *
  generalize (R1 * 4294967296 + y % 4294967296) / B = Q2 at *
  have fin := div_of (n := x * 18446744073709551616 + y) (b := B) (q := Q1 * 4294967296 + Q2) (r := R2) (by omega) (by
    have e : (Q1 * 4294967296 + Q2) * B = B * Q1 * 4294967296 + B * Q2 := by grind
    rw [e]
    generalize B * Q1 = u at *
    generalize B * Q2 = v at *
    omega) s0 s1
  refine ⟨hx, ⟨q0, q1⟩, r1, ⟨r0, by omega⟩, ⟨p0, p1⟩, ?_, ?_⟩
  · rw [fin.1]; omega
  · rw [fin.2]
end Go.Proofs.YthjfjpdgjhidfabGreat.Ar
