/- Plain numbers: patterns of binary64. -/
import Derived.Test.YtndeimdfklhaiaaGreatDoorBaseA
namespace Go.Proofs.YtndeimdfklhaiaaGreatDoor.Ar
open Go.RowKit
set_option linter.unusedVariables false

/-- the pattern without its sign -/
def mg (b : Int) : Int := b % 9223372036854775808
/-- the exponent field -/
def ef (b : Int) : Int := b % 9223372036854775808 / 4503599627370496
/-- the fraction -/
def fr (b : Int) : Int := b % 4503599627370496
theorem U_63 : U 9223372036854775808 := by unfold U; omega
theorem size_bits {b : Int} (h : U b) : bits .andNot .u64 b 9223372036854775808 = mg b := by
  rw [andNot_and h U_63]
  unfold U at h
  have e0 : (18446744073709551615 - 9223372036854775808 : Int) = 9223372036854775807 := rfl
  rw [e0, u64_and b _ h.1 h.2 (by omega) (by omega)]
  have : (b.toNat &&& (9223372036854775807 : Int).toNat) = b.toNat % 9223372036854775808 := Nat.and_two_pow_sub_one_eq_mod b.toNat 63
  rw [this]; unfold mg; omega
theorem frac_bits {b : Int} (h : U b) : bits .and .u64 b 4503599627370495 = fr b := by
  unfold U at h
  rw [u64_and b _ h.1 h.2 (by omega) (by omega)]
  have : (b.toNat &&& (4503599627370495 : Int).toNat) = b.toNat % 4503599627370496 := Nat.and_two_pow_sub_one_eq_mod b.toNat 52
  rw [this]; unfold fr; omega
theorem sign_and {b : Int} (h : U b) : bits .and .u64 b 9223372036854775808 = b / 9223372036854775808 * 9223372036854775808 := by
  have ht := top_and h U_63
  have hu := U_bits_and h U_63
  have hm : bits .and .u64 b 9223372036854775808 % 9223372036854775808 = 0 := by
    unfold U at h
    rw [u64_and b _ h.1 h.2 (by omega) (by omega)]
    have e : (b.toNat &&& (9223372036854775808 : Int).toNat) % 2 ^ 63 = (b.toNat % 2 ^ 63) &&& ((9223372036854775808 : Int).toNat % 2 ^ 63) := Nat.and_mod_two_pow
    have e2 : ((9223372036854775808 : Int).toNat % 2 ^ 63) = 0 := rfl
    rw [e2, Nat.and_zero] at e
    have e3 : (2 : Nat) ^ 63 = 9223372036854775808 := rfl
    rw [e3] at e
    omega
  have e1 : top 9223372036854775808 = 1 := rfl
  rw [e1, Int.mul_one] at ht
  unfold top at ht
  unfold U at *
  omega
theorem sign_ne {b : Int} (h : U b) : (bits .and .u64 b 9223372036854775808 != 0) = decide (9223372036854775808 ≤ b) := by
  rw [sign_and h, Bool.eq_iff_iff]
  unfold U at h
  simp
  omega
theorem sign_or {b : Int} (h : U b) (hb : b < 9223372036854775808) : bits .or .u64 b 9223372036854775808 = b + 9223372036854775808 := by
  have ht := top_or h U_63
  have hu := U_bits_or h U_63
  have hm : bits .or .u64 b 9223372036854775808 % 9223372036854775808 = b := by
    unfold U at h
    rw [u64_or b _ h.1 h.2 (by omega) (by omega)]
    have e : (b.toNat ||| (9223372036854775808 : Int).toNat) % 2 ^ 63 = (b.toNat % 2 ^ 63) ||| ((9223372036854775808 : Int).toNat % 2 ^ 63) := Nat.or_mod_two_pow
    have e2 : ((9223372036854775808 : Int).toNat % 2 ^ 63) = 0 := rfl
    rw [e2, Nat.or_zero] at e
    have e3 : (2 : Nat) ^ 63 = 9223372036854775808 := rfl
    rw [e3] at e
    omega
  have e1 : top 9223372036854775808 = 1 := rfl
  rw [e1, Int.mul_one] at ht
  unfold top at ht
  unfold U at *
  omega
/-- the other sign -/
def negW (b : Int) : Int := if b < 9223372036854775808 then b + 9223372036854775808 else b - 9223372036854775808
theorem sign_xor {b : Int} (h : U b) : bits .xor .u64 b 9223372036854775808 = negW b := by
  have ht := top_xor h U_63
  have hu := U_bits_xor h U_63
  have hm : bits .xor .u64 b 9223372036854775808 % 9223372036854775808 = b % 9223372036854775808 := by
    unfold U at h
    rw [u64_xor b _ h.1 h.2 (by omega) (by omega)]
    have e : (b.toNat ^^^ (9223372036854775808 : Int).toNat) % 2 ^ 63 = (b.toNat % 2 ^ 63) ^^^ ((9223372036854775808 : Int).toNat % 2 ^ 63) := Nat.xor_mod_two_pow
    have e2 : ((9223372036854775808 : Int).toNat % 2 ^ 63) = 0 := rfl
    rw [e2, Nat.xor_zero] at e
    have e3 : (2 : Nat) ^ 63 = 9223372036854775808 := rfl
    rw [e3] at e
    omega
  have e1 : top 9223372036854775808 = 1 := rfl
  rw [e1, Int.mul_one] at ht
  unfold top at ht
  unfold negW
  unfold U at *
  split <;> omega
theorem U_negW {b : Int} (h : U b) : U (negW b) := by unfold U at *; unfold negW; split <;> omega
theorem hid_or {b : Int} (h0 : 0 ≤ b) (hb : b < 4503599627370496) : bits .or .u64 b 4503599627370496 = 4503599627370496 + b := by
  rw [u64_or b _ h0 (by omega) (by omega) (by omega), Nat.or_comm]
  have : ((4503599627370496 : Int).toNat ||| b.toNat) = (4503599627370496 : Int).toNat + b.toNat := nat_join 52 _ _ (by decide) (by omega)
  rw [this]; omega
theorem field_and {b : Int} (h : U b) : bits .and .u64 (b / 4503599627370496) 2047 = ef b := by
  unfold U at h
  rw [u64_and _ _ (by omega) (by omega) (by omega) (by omega)]
  have : ((b / 4503599627370496).toNat &&& (2047 : Int).toNat) = (b / 4503599627370496).toNat % 2048 := Nat.and_two_pow_sub_one_eq_mod _ 11
  rw [this]; unfold ef; omega

theorem mg_bd (b : Int) : 0 ≤ mg b ∧ mg b < 9223372036854775808 := by unfold mg; omega
theorem ef_bd (b : Int) : 0 ≤ ef b ∧ ef b ≤ 2047 := by unfold ef; omega
theorem fr_bd (b : Int) : 0 ≤ fr b ∧ fr b < 4503599627370496 := by unfold fr; omega
theorem U_mg (b : Int) : U (mg b) := by unfold U mg; omega
theorem U_fr (b : Int) : U (fr b) := by unfold U fr; omega
theorem mg_parts (b : Int) : mg b = ef b * 4503599627370496 + fr b := by unfold mg ef fr; omega
theorem ef_negW {b : Int} (h : U b) : ef (negW b) = ef b := by unfold U at h; unfold negW ef; split <;> omega
theorem fr_negW {b : Int} (h : U b) : fr (negW b) = fr b := by unfold U at h; unfold negW fr; split <;> omega
theorem mg_negW {b : Int} (h : U b) : mg (negW b) = mg b := by unfold U at h; unfold negW mg; split <;> omega
theorem negW_negW {b : Int} (h : U b) : negW (negW b) = b := by unfold U at h; unfold negW; split <;> split <;> omega

/-! ### what the functions answer -/
def clsW (b : Int) : Int := if ef b = 2047 then (if fr b = 0 then 3 else 4) else if ef b = 0 then (if fr b = 0 then 0 else 1) else 2
def fiE (b : Int) : Int := if ef b = 2047 then 60 else 0
def spS (b : Int) : Bool := if ef b = 2047 then false else decide (9223372036854775808 ≤ b)
def spM (b : Int) : Int := if ef b = 2047 then 0 else if ef b = 0 then fr b else 4503599627370496 + fr b
def spX (b : Int) : Int := if ef b = 2047 then 0 else if ef b = 0 then -1074 else ef b - 1075
def rk0 (b : Int) : Int := if b < 9223372036854775808 then b else -(b - 9223372036854775808)
def rkW (b : Int) : Int := if ef b = 2047 then 0 else rk0 b
def atE (r : Int) : Int := if r < -9218868437227405311 then 62 else if 9218868437227405311 < r then 62 else 0
def atW (r : Int) : Int := if r < -9218868437227405311 then 0 else if 9218868437227405311 < r then 0 else if r < 0 then 9223372036854775808 - r else r
def nxE (b : Int) : Int := if ef b = 2047 then 60 else if b = 9218868437227405311 then 62 else 0
def nxW (b : Int) : Int := if ef b = 2047 then 0 else if b = 9218868437227405311 then 0 else if b < 9223372036854775808 then b + 1 else if b = 9223372036854775808 then 1 else b - 1
def pvW (b : Int) : Int := if nxE (negW b) = 0 then negW (nxW (negW b)) else 0
def cmE (a b : Int) : Int := if ef a = 2047 then 60 else if ef b = 2047 then 60 else 0
def cmW (a b : Int) : Int := if ef a = 2047 then 0 else if ef b = 2047 then 0 else ord (rk0 a) (rk0 b)
def sgB (s : Bool) : Int := if s = true then 9223372036854775808 else 0
theorem U_spM (b : Int) : U (spM b) := by
  have := fr_bd b
  unfold U spM; split
  · omega
  · split <;> omega
theorem U_nxW {b : Int} (h : U b) : U (nxW b) := by unfold U at *; unfold nxW; repeat' split <;> omega
end Go.Proofs.YtndeimdfklhaiaaGreatDoor.Ar
