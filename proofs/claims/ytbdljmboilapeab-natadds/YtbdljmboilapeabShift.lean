/- Plain numbers: shifts of two words. -/
import Derived.Test.YtbdljmboilapeabBits
namespace Go.Proofs.Ytbdljmboilapeab.Ar
open Go.RowKit
set_option linter.unusedVariables false

def shHi (a b : Int) (k : Nat) : Int := (a * 18446744073709551616 + b) * 2 ^ k / 18446744073709551616 % 18446744073709551616
def shLo (a b : Int) (k : Nat) : Int := (a * 18446744073709551616 + b) * 2 ^ k % 18446744073709551616
def srHi (a b : Int) (k : Nat) : Int := (a * 18446744073709551616 + b) / 2 ^ k / 18446744073709551616
def srLo (a b : Int) (k : Nat) : Int := (a * 18446744073709551616 + b) / 2 ^ k % 18446744073709551616
def srLost (a b : Int) (k : Nat) : Bool := decide ((a * 18446744073709551616 + b) % 2 ^ k ≠ 0)
def clampN (n : Int) : Nat := if n ≤ 0 then 0 else if 128 ≤ n then 128 else n.toNat
theorem clampN_le (n : Int) : clampN n ≤ 128 := by unfold clampN; split <;> (try split) <;> omega
theorem clampN_of (k : Nat) (h : k ≤ 128) : clampN (k : Int) = k := by
  unfold clampN; split
  · omega
  · split <;> omega

theorem U_shHi (a b : Int) (k : Nat) : U (shHi a b k) := by unfold U shHi; omega
theorem U_shLo (a b : Int) (k : Nat) : U (shLo a b k) := by unfold U shLo; omega
theorem U_srLo (a b : Int) (k : Nat) : U (srLo a b k) := by unfold U srLo; omega
theorem U_srHi {a b : Int} (ha : U a) (hb : U b) (k : Nat) : U (srHi a b k) := by
  unfold U at *
  have p := pow_pos k
  have h1 : 0 ≤ (a * 18446744073709551616 + b) / 2 ^ k := Int.ediv_nonneg (by omega) (by omega)
  have h2 : (a * 18446744073709551616 + b) / 2 ^ k ≤ a * 18446744073709551616 + b := Int.ediv_le_self _ (by omega)
  unfold srHi
  generalize (a * 18446744073709551616 + b) / 2 ^ k = q at *
  omega

theorem mul_mod_right (a b : Int) {c : Int} (hc : 0 < c) : a * c % (b * c) = a % b * c := by
  rw [Int.mul_comm a c, Int.mul_comm b c, Int.mul_emod_mul_of_pos a b hc, Int.mul_comm]
theorem pow_split {k : Nat} (h : k ≤ 64) : (2 : Int) ^ (64 - k) * 2 ^ k = 18446744073709551616 := by
  rw [← Int.pow_add, Nat.sub_add_cancel h]; rfl
theorem pow_more {k : Nat} (h : 64 ≤ k) : (2 : Int) ^ k = 2 ^ (k - 64) * 18446744073709551616 := by
  rw [← p64, ← Int.pow_add, Nat.sub_add_cancel h]
/-- what stands above 2^k and what stands below it, laid together -/
theorem or_parts {x y : Int} {k : Nat} (hk : k ≤ 64) (hy0 : 0 ≤ y) (hy : y < 2 ^ k) : bits .or .u64 (IntKind.u64.wrap (x * 2 ^ k)) y = x * 2 ^ k % 18446744073709551616 + y := by
  have p := pow_pos k
  have c := pow_cast k
  have hp : (2 : Int) ^ k ≤ 18446744073709551616 := by
    have : 2 ^ k ≤ 2 ^ 64 := Nat.pow_le_pow_right (by omega) hk
    omega
  rw [wrapU]
  have h : 0 ≤ x * 2 ^ k % 18446744073709551616 ∧ x * 2 ^ k % 18446744073709551616 < 18446744073709551616 := by omega
  rw [u64_or _ _ h.1 h.2 hy0 (by omega)]
  have hm : (x * 2 ^ k % 18446744073709551616) % 2 ^ k = 0 := by
    have d : (2 : Int) ^ k ∣ 18446744073709551616 := ⟨2 ^ (64 - k), by rw [Int.mul_comm]; exact (pow_split hk).symm⟩
    rw [Int.emod_emod_of_dvd _ d]; exact Int.mul_emod_left _ _
  have hm' : (x * 2 ^ k % 18446744073709551616).toNat % 2 ^ k = 0 := by
    have : (((x * 2 ^ k % 18446744073709551616).toNat % 2 ^ k : Nat) : Int) = 0 := by
      rw [Int.natCast_emod, c, Int.toNat_of_nonneg h.1]; exact hm
    omega
  have : ((x * 2 ^ k % 18446744073709551616).toNat ||| y.toNat) = (x * 2 ^ k % 18446744073709551616).toNat + y.toNat := nat_join k _ _ hm' (by omega)
  rw [this]; omega
theorem div_lt_pow {b : Int} {k : Nat} (hb : U b) (hk : k ≤ 64) : 0 ≤ b / 2 ^ (64 - k) ∧ b / 2 ^ (64 - k) < 2 ^ k := by
  unfold U at hb
  have p := pow_pos (64 - k)
  refine ⟨Int.ediv_nonneg hb.1 (by omega), Int.ediv_lt_of_lt_mul p ?_⟩
  rw [Int.mul_comm, pow_split hk]; exact hb.2

theorem shl_lo {a b : Int} (k : Nat) : IntKind.u64.wrap (b * 2 ^ k) = shLo a b k := by
  rw [wrapU]; unfold shLo
  have e : (a * 18446744073709551616 + b) * 2 ^ k = a * 2 ^ k * 18446744073709551616 + b * 2 ^ k := by grind
  rw [e]
  generalize a * 2 ^ k = s
  generalize b * 2 ^ k = t
  omega
theorem shl_hi {a b : Int} {k : Nat} (hb : U b) (hk : k ≤ 64) : bits .or .u64 (IntKind.u64.wrap (a * 2 ^ k)) (b / 2 ^ (64 - k)) = shHi a b k := by
  obtain ⟨h1, h2⟩ := div_lt_pow hb hk
  rw [or_parts hk h1 h2]
  unfold shHi
  have e : (a * 18446744073709551616 + b) * 2 ^ k = a * 2 ^ k * 18446744073709551616 + b * 2 ^ k := by grind
  have e2 : b * 2 ^ k / 18446744073709551616 = b / 2 ^ (64 - k) := by
    rw [← pow_split hk]; exact Int.mul_ediv_mul_of_pos_left _ _ (pow_pos k)
  have e3 : (a * 18446744073709551616 + b) * 2 ^ k / 18446744073709551616 = a * 2 ^ k + b / 2 ^ (64 - k) := by
    rw [e, ← e2]
    generalize a * 2 ^ k = s
    generalize b * 2 ^ k = t
    omega
  rw [e3]
  have hm : (a * 2 ^ k % 18446744073709551616) + 2 ^ k ≤ 18446744073709551616 := by
    have d := pow_split hk
    have : a * 2 ^ k % 18446744073709551616 = a % 2 ^ (64 - k) * 2 ^ k := by
      rw [← d]; exact mul_mod_right _ _ (pow_pos k)
    rw [this]
    have l : a % 2 ^ (64 - k) < 2 ^ (64 - k) := Int.emod_lt_of_pos _ (pow_pos _)
    have m : (a % 2 ^ (64 - k) + 1) * 2 ^ k ≤ 2 ^ (64 - k) * 2 ^ k := Int.mul_le_mul_of_nonneg_right (by omega) (Int.le_of_lt (pow_pos k))
    rw [d] at m
    have : (a % 2 ^ (64 - k) + 1) * 2 ^ k = a % 2 ^ (64 - k) * 2 ^ k + 2 ^ k := by grind
    omega
  generalize a * 2 ^ k = s at *
  generalize b / 2 ^ (64 - k) = t at *
  generalize (2 : Int) ^ k = P at *
  omega
theorem shl_hi_big {a b : Int} {k : Nat} (hk : 64 ≤ k) : IntKind.u64.wrap (b * 2 ^ (k - 64)) = shHi a b k := by
  rw [wrapU]; unfold shHi
  rw [pow_more hk]
  have e : (a * 18446744073709551616 + b) * (2 ^ (k - 64) * 18446744073709551616) = (a * 2 ^ (k - 64) * 18446744073709551616 + b * 2 ^ (k - 64)) * 18446744073709551616 := by grind
  rw [e]
  generalize a * 2 ^ (k - 64) = s
  generalize b * 2 ^ (k - 64) = t
  omega
theorem shl_lo_big {a b : Int} {k : Nat} (hk : 64 ≤ k) : 0 = shLo a b k := by
  unfold shLo
  rw [pow_more hk, ← Int.mul_assoc]
  generalize (a * 18446744073709551616 + b) * 2 ^ (k - 64) = t
  omega

theorem shr_hi {a b : Int} (hb : U b) (k : Nat) : a / 2 ^ k = srHi a b k := by
  unfold srHi
  have p := pow_pos k
  rw [Int.ediv_ediv_of_nonneg (by omega), Int.mul_comm (2 ^ k), ← Int.ediv_ediv_of_nonneg (by omega)]
  have : (a * 18446744073709551616 + b) / 18446744073709551616 = a := by unfold U at hb; omega
  rw [this]
theorem shr_div {a b : Int} {k : Nat} (hk : k ≤ 64) : (a * 18446744073709551616 + b) / 2 ^ k = a * 2 ^ (64 - k) + b / 2 ^ k := by
  have p := pow_pos k
  have e : a * 18446744073709551616 + b = b + a * 2 ^ (64 - k) * 2 ^ k := by rw [Int.mul_assoc, pow_split hk]; omega
  rw [e, Int.add_mul_ediv_right _ _ (by omega)]
  omega
theorem div_lt_pow' {b : Int} {k : Nat} (hb : U b) (hk : k ≤ 64) : 0 ≤ b / 2 ^ k ∧ b / 2 ^ k < 2 ^ (64 - k) := by
  unfold U at hb
  have p := pow_pos k
  refine ⟨Int.ediv_nonneg hb.1 (by omega), Int.ediv_lt_of_lt_mul p ?_⟩
  rw [pow_split hk]; exact hb.2
theorem shr_lo {a b : Int} {k : Nat} (hb : U b) (hk : k ≤ 64) : bits .or .u64 (IntKind.u64.wrap (a * 2 ^ (64 - k))) (b / 2 ^ k) = srLo a b k := by
  obtain ⟨h1, h2⟩ := div_lt_pow' hb hk
  rw [or_parts (by omega) h1 h2]
  unfold srLo
  rw [shr_div hk]
  have d : (2 : Int) ^ k * 2 ^ (64 - k) = 18446744073709551616 := by rw [Int.mul_comm]; exact pow_split hk
  have hm : (a * 2 ^ (64 - k) % 18446744073709551616) + 2 ^ (64 - k) ≤ 18446744073709551616 := by
    have : a * 2 ^ (64 - k) % 18446744073709551616 = a % 2 ^ k * 2 ^ (64 - k) := by
      rw [← d]; exact mul_mod_right _ _ (pow_pos _)
    rw [this]
    have l : a % 2 ^ k < 2 ^ k := Int.emod_lt_of_pos _ (pow_pos _)
    have m : (a % 2 ^ k + 1) * 2 ^ (64 - k) ≤ 2 ^ k * 2 ^ (64 - k) := Int.mul_le_mul_of_nonneg_right (by omega) (Int.le_of_lt (pow_pos _))
    rw [d] at m
    have : (a % 2 ^ k + 1) * 2 ^ (64 - k) = a % 2 ^ k * 2 ^ (64 - k) + 2 ^ (64 - k) := by grind
    omega
  generalize a * 2 ^ (64 - k) = s at *
  generalize b / 2 ^ k = t at *
  generalize (2 : Int) ^ (64 - k) = P at *
  omega
theorem lost_low {b : Int} {k : Nat} (hk : k ≤ 64) : IntKind.u64.wrap (b * 2 ^ (64 - k)) = 0 ↔ b % 2 ^ k = 0 := by
  have d : (2 : Int) ^ k * 2 ^ (64 - k) = 18446744073709551616 := by rw [Int.mul_comm]; exact pow_split hk
  have p := pow_pos (64 - k)
  have e : b * 2 ^ (64 - k) % 18446744073709551616 = b % 2 ^ k * 2 ^ (64 - k) := by
    rw [← d]; exact mul_mod_right _ _ p
  rw [wrapU, e]
  constructor
  · intro h
    rcases Int.mul_eq_zero.mp h with h | h
    · exact h
    · omega
  · intro h; rw [h]; simp
theorem mod_low {a b : Int} {k : Nat} (hk : k ≤ 64) : (a * 18446744073709551616 + b) % 2 ^ k = b % 2 ^ k := by
  have e : a * 18446744073709551616 + b = b + 2 ^ k * (a * 2 ^ (64 - k)) := by
    have h : (2 : Int) ^ k * (a * 2 ^ (64 - k)) = a * (2 ^ (64 - k) * 2 ^ k) := by grind
    rw [h, pow_split hk]; omega
  rw [e, Int.add_mul_emod_self_left]
theorem shr_lost {a b : Int} {k : Nat} (hk : k ≤ 64) : (IntKind.u64.wrap (b * 2 ^ (64 - k)) != 0) = srLost a b k := by
  unfold srLost
  rw [mod_low hk, Bool.eq_iff_iff]
  have := lost_low (b := b) hk
  simp
  omega
theorem shr_hi_big {a b : Int} {k : Nat} (ha : U a) (hb : U b) (hk : 64 ≤ k) : 0 = srHi a b k := by
  unfold srHi
  have p := pow_pos (k - 64)
  rw [pow_more hk, Int.mul_comm (2 ^ (k - 64)), ← Int.ediv_ediv_of_nonneg (by omega)]
  have e : (a * 18446744073709551616 + b) / 18446744073709551616 = a := by unfold U at hb; omega
  rw [e]
  have u := U_div_pow ha (k - 64)
  unfold U at u
  omega
theorem shr_lo_big {a b : Int} {k : Nat} (ha : U a) (hb : U b) (hk : 64 ≤ k) : a / 2 ^ (k - 64) = srLo a b k := by
  unfold srLo
  have p := pow_pos (k - 64)
  rw [pow_more hk, Int.mul_comm (2 ^ (k - 64)), ← Int.ediv_ediv_of_nonneg (by omega)]
  have e : (a * 18446744073709551616 + b) / 18446744073709551616 = a := by unfold U at hb; omega
  rw [e]
  have u := U_div_pow ha (k - 64)
  unfold U at u
  omega
theorem mod_big {a b : Int} {k : Nat} (hb : U b) (hk : 64 ≤ k) : (a * 18446744073709551616 + b) % 2 ^ k = a % 2 ^ (k - 64) * 18446744073709551616 + b := by
  have p := pow_pos (k - 64)
  have h1 := Int.mul_ediv_add_emod a (2 ^ (k - 64))
  have h2 : 0 ≤ a % 2 ^ (k - 64) := Int.emod_nonneg _ (by omega)
  have h3 : a % 2 ^ (k - 64) < 2 ^ (k - 64) := Int.emod_lt_of_pos _ p
  have e : a * 18446744073709551616 + b = (a % 2 ^ (k - 64) * 18446744073709551616 + b) + 2 ^ k * (a / 2 ^ (k - 64)) := by
    rw [pow_more hk]
    have : (2 : Int) ^ (k - 64) * 18446744073709551616 * (a / 2 ^ (k - 64)) = 2 ^ (k - 64) * (a / 2 ^ (k - 64)) * 18446744073709551616 := by grind
    omega
  rw [e, Int.add_mul_emod_self_left]
  unfold U at hb
  refine Int.emod_eq_of_lt (by omega) ?_
  rw [pow_more hk]
  omega
theorem shr_lost_big {a b : Int} {k : Nat} (hb : U b) (hk : 64 ≤ k) (hk' : k ≤ 128) : ((b != 0) || (IntKind.u64.wrap (a * 2 ^ (128 - k)) != 0)) = srLost a b k := by
  unfold srLost
  rw [mod_big hb hk, Bool.eq_iff_iff]
  have h := lost_low (b := a) (k := k - 64) (by omega)
  have e : 64 - (k - 64) = 128 - k := by omega
  rw [e] at h
  have h2 : 0 ≤ a % 2 ^ (k - 64) := Int.emod_nonneg _ (by have := pow_pos (k - 64); omega)
  unfold U at hb
  simp
  omega
end Go.Proofs.Ytbdljmboilapeab.Ar
