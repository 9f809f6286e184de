import Derived.WalkKit
import Derived.OpenShut
import Derived.Laws.BitsAllLaws
import Derived.Test.YtceecgklgkiffaaGreatDoorRows
import Derived.ProofKit
import Derived.ShutString
import Derived.WalkLawsBesides
import Derived.WalkSpells
import Derived.Deep.QuietTactic
import Derived.BigQuiet
import Derived.ChangeOld
import Derived.Below
import Derived.OwnWalk
/- Plain numbers, no Go in sight: words of 64 bits as whole numbers between 0 and 2^64. -/
namespace Go.Proofs.YtceecgklgkiffaaGreatDoor.Ar
open Go.RowKit
set_option linter.unusedVariables false

/-- a word -/
def U (a : Int) : Prop := 0 ≤ a ∧ a < 18446744073709551616
/-- half a word -/
def H (a : Int) : Prop := 0 ≤ a ∧ a < 4294967296

theorem U_of {a : Int} (h : (Lit.int .u64 a).wf = true) : U a := by
  have := bounds_u64 h
  unfold U; omega

def addLo (a b c : Int) : Int := (a + b + c % 2) % 18446744073709551616
def addHi (a b c : Int) : Int := (a + b + c % 2) / 18446744073709551616
def subLo (a b c : Int) : Int := (a - b - c % 2) % 18446744073709551616
def subHi (a b c : Int) : Int := -((a - b - c % 2) / 18446744073709551616)
def mulLo (a b : Int) : Int := a * b % 18446744073709551616
def mulHi (a b : Int) : Int := a * b / 18446744073709551616

theorem U_addLo (a b c : Int) : U (addLo a b c) := by unfold U addLo; omega
theorem U_addHi {a b c : Int} (ha : U a) (hb : U b) : U (addHi a b c) := by unfold U at *; unfold addHi; omega
theorem U_subLo (a b c : Int) : U (subLo a b c) := by unfold U subLo; omega
theorem U_subHi {a b c : Int} (ha : U a) (hb : U b) : U (subHi a b c) := by unfold U at *; unfold subHi; omega
theorem U_mulLo (a b : Int) : U (mulLo a b) := by unfold U mulLo; omega
theorem U_mulHi {a b : Int} (ha : U a) (hb : U b) : U (mulHi a b) := by
  unfold U at *; unfold mulHi
  have h1 : 0 ≤ a * b := Int.mul_nonneg ha.1 hb.1
  have h2 : a * b ≤ 18446744073709551615 * 18446744073709551615 := Int.mul_le_mul (by omega) (by omega) hb.1 (by omega)
  omega

theorem wrapU (n : Int) : IntKind.u64.wrap n = n % 18446744073709551616 := IntKind.wrap_u64 n

/-! ### bits -/
theorem and_one {c : Int} (h : U c) : bits .and .u64 c 1 = c % 2 := by
  unfold U at h
  rw [u64_and c 1 h.1 h.2 (by omega) (by omega)]
  have : (c.toNat &&& (1 : Int).toNat) = c.toNat % 2 := nat_mask1 _
  rw [this]; omega
theorem and_half {c : Int} (h : U c) : bits .and .u64 c 4294967295 = c % 4294967296 := by
  unfold U at h
  rw [u64_and c _ h.1 h.2 (by omega) (by omega)]
  have : (c.toNat &&& (4294967295 : Int).toNat) = c.toNat % 4294967296 := nat_mask32 _
  rw [this]; omega
theorem U_bits_and {a b : Int} (ha : U a) (hb : U b) : U (bits .and .u64 a b) := by
  unfold U at *
  rw [u64_and a b ha.1 ha.2 hb.1 hb.2]
  have := @Nat.and_le_left a.toNat b.toNat
  omega
theorem U_bits_or {a b : Int} (ha : U a) (hb : U b) : U (bits .or .u64 a b) := by
  unfold U at *
  rw [u64_or a b ha.1 ha.2 hb.1 hb.2]
  have := @Nat.or_lt_two_pow a.toNat b.toNat 64 (by omega) (by omega)
  omega
theorem U_bits_xor {a b : Int} (ha : U a) (hb : U b) : U (bits .xor .u64 a b) := by
  unfold U at *
  rw [u64_xor a b ha.1 ha.2 hb.1 hb.2]
  have := @Nat.xor_lt_two_pow a.toNat b.toNat 64 (by omega) (by omega)
  omega
theorem U_bits_andNot {a b : Int} (ha : U a) (hb : U b) : U (bits .andNot .u64 a b) := by
  unfold U at *
  rw [u64_andNot a b ha.1 ha.2 hb.1 hb.2]
  have := @Nat.and_le_left a.toNat (18446744073709551615 - b.toNat)
  omega
/-- the highest bit -/
def top (a : Int) : Int := a / 9223372036854775808
theorem top_01 {a : Int} (h : U a) : top a = 0 ∨ top a = 1 := by unfold U at h; unfold top; omega
theorem div_63 (x : Nat) : x / 9223372036854775808 = x / 2 ^ 63 := rfl
theorem top_and {a b : Int} (ha : U a) (hb : U b) : top (bits .and .u64 a b) = top a * top b := by
  have h1 := top_01 ha
  have h2 := top_01 hb
  unfold U at *
  rw [u64_and a b ha.1 ha.2 hb.1 hb.2]
  have h : (a.toNat &&& b.toNat) / 2 ^ 63 = a.toNat / 2 ^ 63 &&& b.toNat / 2 ^ 63 := Nat.and_div_two_pow
  have e1 : ((a.toNat / 2 ^ 63 : Nat) : Int) = top a := by unfold top; omega
  have e2 : ((b.toNat / 2 ^ 63 : Nat) : Int) = top b := by unfold top; omega
  have e3 : top ((a.toNat &&& b.toNat : Nat) : Int) = (((a.toNat &&& b.toNat) / 2 ^ 63 : Nat) : Int) := by unfold top; omega
  rw [e3, h]
  rcases h1 with h1 | h1 <;> rcases h2 with h2 | h2 <;> rw [h1] at e1 ⊢ <;> rw [h2] at e2 ⊢
  · have e1' : a.toNat / 2 ^ 63 = 0 := by omega
    rw [e1']; simp
  · have e1' : a.toNat / 2 ^ 63 = 0 := by omega
    rw [e1']; simp
  · have e2' : b.toNat / 2 ^ 63 = 0 := by omega
    rw [e2']; simp
  · have e1' : a.toNat / 2 ^ 63 = 1 := by omega
    have e2' : b.toNat / 2 ^ 63 = 1 := by omega
    rw [e1', e2']; rfl
theorem top_or {a b : Int} (ha : U a) (hb : U b) : top (bits .or .u64 a b) = top a + top b - top a * top b := by
  have h1 := top_01 ha
  have h2 := top_01 hb
  unfold U at *
  rw [u64_or a b ha.1 ha.2 hb.1 hb.2]
  have h : (a.toNat ||| b.toNat) / 2 ^ 63 = a.toNat / 2 ^ 63 ||| b.toNat / 2 ^ 63 := Nat.or_div_two_pow
  have e1 : ((a.toNat / 2 ^ 63 : Nat) : Int) = top a := by unfold top; omega
  have e2 : ((b.toNat / 2 ^ 63 : Nat) : Int) = top b := by unfold top; omega
  have e3 : top ((a.toNat ||| b.toNat : Nat) : Int) = (((a.toNat ||| b.toNat) / 2 ^ 63 : Nat) : Int) := by unfold top; omega
  rw [e3, h]
  rcases h1 with h1 | h1 <;> rcases h2 with h2 | h2 <;> rw [h1] at e1 ⊢ <;> rw [h2] at e2 ⊢
  · have e1' : a.toNat / 2 ^ 63 = 0 := by omega
    have e2' : b.toNat / 2 ^ 63 = 0 := by omega
    rw [e1', e2']; rfl
  · have e1' : a.toNat / 2 ^ 63 = 0 := by omega
    have e2' : b.toNat / 2 ^ 63 = 1 := by omega
    rw [e1', e2']; rfl
  · have e1' : a.toNat / 2 ^ 63 = 1 := by omega
    have e2' : b.toNat / 2 ^ 63 = 0 := by omega
    rw [e1', e2']; rfl
  · have e1' : a.toNat / 2 ^ 63 = 1 := by omega
    have e2' : b.toNat / 2 ^ 63 = 1 := by omega
    rw [e1', e2']; rfl
theorem top_xor {a b : Int} (ha : U a) (hb : U b) : top (bits .xor .u64 a b) = top a + top b - 2 * (top a * top b) := by
  have h1 := top_01 ha
  have h2 := top_01 hb
  unfold U at *
  rw [u64_xor a b ha.1 ha.2 hb.1 hb.2]
  have h : (a.toNat ^^^ b.toNat) / 2 ^ 63 = a.toNat / 2 ^ 63 ^^^ b.toNat / 2 ^ 63 := Nat.xor_div_two_pow
  have e1 : ((a.toNat / 2 ^ 63 : Nat) : Int) = top a := by unfold top; omega
  have e2 : ((b.toNat / 2 ^ 63 : Nat) : Int) = top b := by unfold top; omega
  have e3 : top ((a.toNat ^^^ b.toNat : Nat) : Int) = (((a.toNat ^^^ b.toNat) / 2 ^ 63 : Nat) : Int) := by unfold top; omega
  rw [e3, h]
  rcases h1 with h1 | h1 <;> rcases h2 with h2 | h2 <;> rw [h1] at e1 ⊢ <;> rw [h2] at e2 ⊢
  · have e1' : a.toNat / 2 ^ 63 = 0 := by omega
    have e2' : b.toNat / 2 ^ 63 = 0 := by omega
    rw [e1', e2']; rfl
  · have e1' : a.toNat / 2 ^ 63 = 0 := by omega
    have e2' : b.toNat / 2 ^ 63 = 1 := by omega
    rw [e1', e2']; rfl
  · have e1' : a.toNat / 2 ^ 63 = 1 := by omega
    have e2' : b.toNat / 2 ^ 63 = 0 := by omega
    rw [e1', e2']; rfl
  · have e1' : a.toNat / 2 ^ 63 = 1 := by omega
    have e2' : b.toNat / 2 ^ 63 = 1 := by omega
    rw [e1', e2']; rfl
theorem andNot_and {a b : Int} (ha : U a) (hb : U b) : bits .andNot .u64 a b = bits .and .u64 a (18446744073709551615 - b) := by
  unfold U at *
  rw [u64_andNot a b ha.1 ha.2 hb.1 hb.2, u64_and a _ ha.1 ha.2 (by omega) (by omega)]
  have : (18446744073709551615 - b).toNat = 18446744073709551615 - b.toNat := by omega
  rw [this]
theorem top_not {b : Int} (hb : U b) : top (18446744073709551615 - b) = 1 - top b := by unfold U at hb; unfold top; omega
theorem U_not {b : Int} (hb : U b) : U (18446744073709551615 - b) := by unfold U at *; omega
theorem top_andNot {a b : Int} (ha : U a) (hb : U b) : top (bits .andNot .u64 a b) = top a * (1 - top b) := by
  rw [andNot_and ha hb, top_and ha (U_not hb), top_not hb]

/-! ### wide.Add, wide.Sub -/
theorem add_lo {a b c : Int} (hc : U c) : IntKind.u64.wrap (IntKind.u64.wrap (a + b) + bits .and .u64 c 1) = addLo a b c := by
  rw [and_one hc, wrapU, wrapU]; unfold addLo; omega
theorem add_hi {a b c : Int} (ha : U a) (hb : U b) :
    bits .or .u64 (bits .and .u64 a b) (bits .andNot .u64 (bits .or .u64 a b) (addLo a b c)) / 9223372036854775808 = addHi a b c := by
  show top _ = _
  rw [top_or (U_bits_and ha hb) (U_bits_andNot (U_bits_or ha hb) (U_addLo ..)), top_and ha hb, top_andNot (U_bits_or ha hb) (U_addLo ..), top_or ha hb]
  have h1 := top_01 ha
  have h2 := top_01 hb
  have h3 := top_01 (U_addLo a b c)
  rcases h1 with h1 | h1 <;> rcases h2 with h2 | h2 <;> rcases h3 with h3 | h3 <;> rw [h1, h2, h3] <;> unfold top addLo at * <;> unfold U at * <;> unfold addHi <;> omega
theorem sub_lo {a b c : Int} (hc : U c) : IntKind.u64.wrap (IntKind.u64.wrap (a - b) - bits .and .u64 c 1) = subLo a b c := by
  rw [and_one hc, wrapU, wrapU]; unfold subLo; omega
theorem addLo_lt (a b c : Int) : 0 ≤ addLo a b c ∧ addLo a b c < 18446744073709551616 := U_addLo a b c
theorem U_wrap (n : Int) : U (IntKind.u64.wrap n) := by rw [wrapU]; unfold U; omega
theorem U_zero : U 0 := by unfold U; omega
theorem U_one : U 1 := by unfold U; omega
theorem max_u64 : IntKind.u64.max = 18446744073709551615 := by decide
theorem sub_hi {a b c : Int} (ha : U a) (hb : U b) :
    bits .or .u64 (bits .andNot .u64 b a) (bits .and .u64 (bits .xor .u64 IntKind.u64.max (bits .xor .u64 a b)) (subLo a b c)) / 9223372036854775808 = subHi a b c := by
  show top _ = _
  have hm : U IntKind.u64.max := by rw [max_u64]; unfold U; omega
  have hx := U_bits_xor ha hb
  have hy := U_bits_xor hm hx
  have hs := U_subLo a b c
  rw [top_or (U_bits_andNot hb ha) (U_bits_and hy hs), top_andNot hb ha, top_and hy hs, top_xor hm hx, top_xor ha hb]
  have hmt : top IntKind.u64.max = 1 := by rw [max_u64]; rfl
  rw [hmt]
  have h1 := top_01 ha
  have h2 := top_01 hb
  have h3 := top_01 hs
  rcases h1 with h1 | h1 <;> rcases h2 with h2 | h2 <;> rcases h3 with h3 | h3 <;> rw [h1, h2, h3] <;> unfold top subLo at * <;> unfold U at * <;> unfold subHi <;> omega

/-! ### halves -/
theorem or_join {x y : Int} (hy : H y) : bits .or .u64 (IntKind.u64.wrap (x * 4294967296)) y = x % 4294967296 * 4294967296 + y := by
  unfold H at hy
  rw [wrapU]
  have e : x * 4294967296 % 18446744073709551616 = x % 4294967296 * 4294967296 := by omega
  rw [e, u64_or _ _ (by omega) (by omega) (by omega) (by omega)]
  have : ((x % 4294967296 * 4294967296).toNat ||| y.toNat) = (x % 4294967296 * 4294967296).toNat + y.toNat :=
    nat_join 32 _ _ (by omega) (by omega)
  rw [this]; omega
theorem H_div {x : Int} (h : U x) : H (x / 4294967296) := by unfold U at h; unfold H; omega
theorem H_mod (x : Int) : H (x % 4294967296) := by unfold H; omega
theorem H_zero : H 0 := by unfold H; omega
theorem half_mul {x y : Int} (hx : H x) (hy : H y) : 0 ≤ x * y ∧ x * y ≤ 18446744065119617025 := by
  unfold H at *
  have h1 : 0 ≤ x * y := Int.mul_nonneg hx.1 hy.1
  have h2 : x * y ≤ 4294967295 * 4294967295 := Int.mul_le_mul (by omega) (by omega) hy.1 (by omega)
  omega
theorem mul_halves (a b : Int) : a * b = (a % 4294967296) * (b % 4294967296) + ((a % 4294967296) * (b / 4294967296) + (a / 4294967296) * (b % 4294967296)) * 4294967296 + (a / 4294967296) * (b / 4294967296) * 18446744073709551616 := by
  have ea : a = a % 4294967296 + a / 4294967296 * 4294967296 := by omega
  have eb : b = b % 4294967296 + b / 4294967296 * 4294967296 := by omega
  generalize a % 4294967296 = a0 at *
  generalize a / 4294967296 = a1 at *
  generalize b % 4294967296 = b0 at *
  generalize b / 4294967296 = b1 at *
  subst ea eb
  grind
theorem mul_hi {a b : Int} (ha : U a) (hb : U b) :
    IntKind.u64.wrap (IntKind.u64.wrap (IntKind.u64.wrap (a / 4294967296 * (b / 4294967296)) +
      IntKind.u64.wrap (IntKind.u64.wrap (IntKind.u64.wrap (bits .and .u64 a 4294967295 * (b / 4294967296))) +
        IntKind.u64.wrap (IntKind.u64.wrap (bits .and .u64 a 4294967295 * bits .and .u64 b 4294967295) + bits .and .u64 0 4294967295) / 4294967296) / 4294967296) +
      IntKind.u64.wrap (IntKind.u64.wrap (a / 4294967296 * bits .and .u64 b 4294967295) +
        bits .and .u64 (IntKind.u64.wrap (IntKind.u64.wrap (IntKind.u64.wrap (bits .and .u64 a 4294967295 * (b / 4294967296))) +
          IntKind.u64.wrap (IntKind.u64.wrap (bits .and .u64 a 4294967295 * bits .and .u64 b 4294967295) + bits .and .u64 0 4294967295) / 4294967296)) 4294967295) / 4294967296) = mulHi a b := by
  rw [and_half ha, and_half hb, and_half U_zero, and_half (U_wrap _)]
  simp only [wrapU]
  have h00 := half_mul (H_mod a) (H_mod b)
  have h01 := half_mul (H_mod a) (H_div hb)
  have h10 := half_mul (H_div ha) (H_mod b)
  have h11 := half_mul (H_div ha) (H_div hb)
  have e := mul_halves a b
  unfold mulHi
  rw [e]
  generalize a % 4294967296 * (b % 4294967296) = p00 at *
  generalize a % 4294967296 * (b / 4294967296) = p01 at *
  generalize a / 4294967296 * (b % 4294967296) = p10 at *
  generalize a / 4294967296 * (b / 4294967296) = p11 at *
  clear e ha hb
  omega
theorem mul_lo {a b : Int} (ha : U a) (hb : U b) :
    bits .or .u64 (IntKind.u64.wrap (IntKind.u64.wrap (IntKind.u64.wrap (a / 4294967296 * bits .and .u64 b 4294967295) +
      bits .and .u64 (IntKind.u64.wrap (IntKind.u64.wrap (IntKind.u64.wrap (bits .and .u64 a 4294967295 * (b / 4294967296))) +
        IntKind.u64.wrap (IntKind.u64.wrap (bits .and .u64 a 4294967295 * bits .and .u64 b 4294967295) + bits .and .u64 0 4294967295) / 4294967296)) 4294967295) * 4294967296))
      (bits .or .u64 (IntKind.u64.wrap (IntKind.u64.wrap (IntKind.u64.wrap (bits .and .u64 a 4294967295 * bits .and .u64 b 4294967295) + bits .and .u64 0 4294967295) * 4294967296)) 0 / 4294967296) = mulLo a b := by
  rw [or_join (H_div (U_bits_or (U_wrap _) U_zero)), or_join H_zero, and_half ha, and_half hb, and_half U_zero, and_half (U_wrap _)]
  simp only [wrapU]
  have h00 := half_mul (H_mod a) (H_mod b)
  have h01 := half_mul (H_mod a) (H_div hb)
  have h10 := half_mul (H_div ha) (H_mod b)
  have h11 := half_mul (H_div ha) (H_div hb)
  have e := mul_halves a b
  unfold mulLo
  rw [e]
  generalize a % 4294967296 * (b % 4294967296) = p00 at *
  generalize a % 4294967296 * (b / 4294967296) = p01 at *
  generalize a / 4294967296 * (b % 4294967296) = p10 at *
  generalize a / 4294967296 * (b / 4294967296) = p11 at *
  clear e ha hb
  omega
/-- a product is its two words -/
theorem mul_split (a b : Int) : a * b = mulHi a b * 18446744073709551616 + mulLo a b := by unfold mulHi mulLo; omega

/-! ### order -/
def ord (a b : Int) : Int := if a < b then -1 else if b < a then 1 else 0
def cmp2 (a b c d : Int) : Int := if a = c then ord b d else ord a c

/-! ### wide.Mul3 -/
def m3a (h l b : Int) : Int := (h * 18446744073709551616 + l) * b / 340282366920938463463374607431768211456
def m3b (h l b : Int) : Int := (h * 18446744073709551616 + l) * b / 18446744073709551616 % 18446744073709551616
def m3c (h l b : Int) : Int := (h * 18446744073709551616 + l) * b % 18446744073709551616
theorem word_mul {x y : Int} (hx : U x) (hy : U y) : 0 ≤ x * y ∧ x * y ≤ 340282366920938463426481119284349108225 := by
  unfold U at *
  have h1 : 0 ≤ x * y := Int.mul_nonneg hx.1 hy.1
  have h2 : x * y ≤ 18446744073709551615 * 18446744073709551615 := Int.mul_le_mul (by omega) (by omega) hy.1 (by omega)
  omega
theorem m3_split (h l b : Int) : (h * 18446744073709551616 + l) * b = h * b * 18446744073709551616 + l * b := by grind
theorem m3_c (h l b : Int) : mulLo l b = m3c h l b := by
  unfold mulLo m3c; rw [m3_split]; generalize h * b = p; generalize l * b = q; omega
theorem m3_b (h l b : Int) : addLo (mulLo h b) (mulHi l b) 0 = m3b h l b := by
  unfold addLo mulLo mulHi m3b; rw [m3_split]; generalize h * b = p; generalize l * b = q; omega
theorem m3_a {h l b : Int} (hh : U h) (hl : U l) (hb : U b) : IntKind.u64.wrap (mulHi h b + addHi (mulLo h b) (mulHi l b) 0) = m3a h l b := by
  have b1 := word_mul hh hb
  have b2 := word_mul hl hb
  rw [wrapU]
  unfold addHi mulLo mulHi m3a; rw [m3_split]; generalize h * b = p at *; generalize l * b = q at *; omega
theorem U_m3a {h l b : Int} (hh : U h) (hl : U l) (hb : U b) : U (m3a h l b) := by
  rw [← m3_a hh hl hb]; exact U_wrap _
theorem U_m3b (h l b : Int) : U (m3b h l b) := by unfold U m3b; omega
theorem U_m3c (h l b : Int) : U (m3c h l b) := by unfold U m3c; omega
end Go.Proofs.YtceecgklgkiffaaGreatDoor.Ar

/- What each call of package wide answers: its contract, for every argument. -/
namespace Go.Proofs.YtceecgklgkiffaaGreatDoor
open Go.ChangeShapes Go.WideShapes Go.ChangeAt Go.RowKit
open Ar
set_option linter.unusedVariables false

/-- the world has at most new blocks, and draws -/
def Gr (w w' : World) : Prop := Grown w w' ∧ Below w.heap.size w w'
theorem gr_refl (w : World) : Gr w w := ⟨Grown.refl _, Below.refl _ _⟩
theorem gr_trans {a b c : World} (h : Gr a b) (k : Gr b c) : Gr a c :=
  ⟨⟨World.keptBut_trans h.1.1 k.1.1, fun x => (k.1.2.1 x).trans (h.1.2.1 x), Nat.le_trans h.1.2.2 k.1.2.2⟩, h.2.trans (k.2.mono h.2.size)⟩
theorem gr_alloc {a b : World} (h : Gr a b) (c : Array Value) (t : TypeId) : Gr a (b.alloc (.cells c t)) := ⟨h.1.alloc c t, h.2.alloc h.2.size _⟩
theorem gr_drewN {a b : World} (h : Gr a b) (n : Nat) : Gr a (b.drewN n) := ⟨h.1, ⟨h.2.os, h.2.tape, h.2.output, h.2.size, h.2.block⟩⟩

theorem ret_bool {p : Bool} (h : p = true) : Ending.returned (.bool p) = .returned (.bool true) := by rw [h]
theorem ret_int {k : IntKind} {a b : Int} (h : a = b) : Ending.returned (.int k a) = .returned (.int k b) := by rw [h]
theorem ret_two {k l : IntKind} {a b c d : Int} (h : a = b) (h' : c = d) : Ending.returned (.tuple #[.int k a, .int l c]) = .returned (.tuple #[.int k b, .int l d]) := by rw [h, h']
theorem ret_three {k l m : IntKind} {a b c d e f : Int} (h : a = b) (h' : c = d) (h'' : e = f) : Ending.returned (.tuple #[.int k a, .int l c, .int m e]) = .returned (.tuple #[.int k b, .int l d, .int m f]) := by rw [h, h', h'']
theorem ret_iib {k l : IntKind} {a b c d : Int} {p q : Bool} (h : a = b) (h' : c = d) (h'' : p = q) : Ending.returned (.tuple #[.int k a, .int l c, .bool p]) = .returned (.tuple #[.int k b, .int l d, .bool q]) := by rw [h, h', h'']
theorem beq_of {a b : Int} (h : a = b) : (a == b) = true := by rw [h]; exact beq_self_eq_true _
theorem bne_of {a b : Int} (h : a = b) : (a != b) = false := by rw [h]; simp
theorem beq_no {a b : Int} (h : a ≠ b) : (a == b) = false := by simpa using h
theorem bne_yes {a b : Int} (h : a ≠ b) : (a != b) = true := by simpa using h

theorem add_any {a b c : Int} (ha : U a) (hb : U b) (hc : U c) (w : World) :
    Calls Tryz.prog 151 #[.int .u64 a, .int .u64 b, .int .u64 c] w fun e w' => ∃ x y, e = .returned (.tuple #[.int .u64 x, .int .u64 y]) ∧ w = w' ∧ x = addLo a b c ∧ y = addHi a b c := by
  go_enter Tryz.func151, Tryz.ntmps151
  go_wp2
  go_ret2
  refine ⟨_, _, rfl, rfl, ?_, ?_⟩
  · exact add_lo hc
  · rw [add_lo hc]; exact add_hi ha hb

theorem sub_any {a b c : Int} (ha : U a) (hb : U b) (hc : U c) (w : World) :
    Calls Tryz.prog 188 #[.int .u64 a, .int .u64 b, .int .u64 c] w fun e w' => ∃ x y, e = .returned (.tuple #[.int .u64 x, .int .u64 y]) ∧ w = w' ∧ x = subLo a b c ∧ y = subHi a b c := by
  go_enter Tryz.func188, Tryz.ntmps188
  go_wp2
  go_ret2
  refine ⟨_, _, rfl, rfl, ?_, ?_⟩
  · exact sub_lo hc
  · rw [sub_lo hc]; exact sub_hi ha hb

theorem join_any {a b : Int} (hb : H b) (w : World) :
    Calls Tryz.prog 185 #[.int .u64 a, .int .u64 b] w fun e w' => ∃ x, e = .returned (.int .u64 x) ∧ w = w' ∧ x = a % 4294967296 * 4294967296 + b := by
  go_enter Tryz.func185, Tryz.ntmps185
  go_wp2
  go_ret
  exact ⟨_, rfl, rfl, or_join hb⟩

theorem mul_any {a b : Int} (ha : U a) (hb : U b) (w : World) :
    Calls Tryz.prog 150 #[.int .u64 a, .int .u64 b] w fun e w' => ∃ x y, e = .returned (.tuple #[.int .u64 x, .int .u64 y]) ∧ Gr w w' ∧ x = mulHi a b ∧ y = mulLo a b := by
  go_enter Tryz.func150, Tryz.ntmps150
  go_wp2
  refine wp_loop_rounds 3 ?_
  rw [rounds_succ]
  go_wp2
  rw [rounds_succ]
  go_wp2
  rw [rounds_succ]
  go_wp2
  go_ret2
  exact ⟨_, _, rfl, gr_alloc (gr_refl _) _ _, mul_hi ha hb, mul_lo ha hb⟩

theorem order_any (a b : Int) (w : World) :
    Calls Tryz.prog 210 #[.int .u64 a, .int .u64 b] w fun e w' => ∃ x, e = .returned (.int .i64 x) ∧ w = w' ∧ x = ord a b := by
  go_enter Tryz.func210, Tryz.ntmps210
  go_wp2
  all_goals go_ret
  · exact ⟨_, rfl, rfl, by unfold ord; rw [if_pos (by assumption)]⟩
  · exact ⟨_, rfl, rfl, by unfold ord; rw [if_neg (by omega), if_pos (by assumption)]⟩
  · exact ⟨_, rfl, rfl, by unfold ord; rw [if_neg (by omega), if_neg (by omega)]⟩

theorem cmp_any (a b c d : Int) (w : World) :
    Calls Tryz.prog 179 #[.int .u64 a, .int .u64 b, .int .u64 c, .int .u64 d] w fun e w' => ∃ x, e = .returned (.int .i64 x) ∧ w = w' ∧ x = cmp2 a b c d := by
  by_cases h : a = c
  · have h' : (a != c) = false := by simp [h]
    go_enter Tryz.func179, Tryz.ntmps179
    go_wp2_with (go_at_call 210; refine (order_any _ _ _).mono ?_; rintro e w' ⟨_, rfl, rfl, rfl⟩)
    go_ret
    exact ⟨_, rfl, rfl, by unfold cmp2; rw [if_pos h]⟩
  · have h' : (a != c) = true := by simp [h]
    go_enter Tryz.func179, Tryz.ntmps179
    go_wp2_with (go_at_call 210; refine (order_any _ _ _).mono ?_; rintro e w' ⟨_, rfl, rfl, rfl⟩)
    go_ret
    exact ⟨_, rfl, rfl, by unfold cmp2; rw [if_neg h]⟩

theorem mul3_any {a b c : Int} (ha : U a) (hb : U b) (hc : U c) (w : World) :
    Calls Tryz.prog 140 #[.int .u64 a, .int .u64 b, .int .u64 c] w fun e w' => ∃ x y z, e = .returned (.tuple #[.int .u64 x, .int .u64 y, .int .u64 z]) ∧ Gr w w' ∧ x = m3a a b c ∧ y = m3b a b c ∧ z = m3c a b c := by
  go_enter Tryz.func140, Tryz.ntmps140
  go_wp2_with (first | (go_at_call 150; refine (mul_any (by assumption) (by assumption) _).mono ?_; rintro e w' ⟨_, _, rfl, hg, rfl, rfl⟩) | (go_at_call 151; refine (add_any (U_mulLo _ _) (U_mulHi (by assumption) (by assumption)) U_zero _).mono ?_; rintro e w' ⟨_, _, rfl, rfl, rfl, rfl⟩))
  go_ret3
  refine ⟨_, _, _, rfl, ?_, m3_a ha hb hc, m3_b a b c, m3_c a b c⟩
  exact gr_trans (by assumption) (by assumption)
end Go.Proofs.YtceecgklgkiffaaGreatDoor

/- Plain numbers: how many bits a word has, and how many zeros at its low end. -/
namespace Go.Proofs.YtceecgklgkiffaaGreatDoor.Ar
open Go.RowKit
set_option linter.unusedVariables false

def lenW (x : Int) : Int := if x ≤ 0 then 0 else (Nat.log2 x.toNat : Int) + 1
theorem pow_cast (k : Nat) : ((2 ^ k : Nat) : Int) = (2 : Int) ^ k := by simp
theorem pow_pos (k : Nat) : 0 < (2 : Int) ^ k := by rw [← pow_cast]; exact Int.natCast_pos.mpr (Nat.two_pow_pos k)
theorem lenW_eq {x : Int} {k : Nat} (h1 : 2 ^ k ≤ x) (h2 : x < 2 ^ (k + 1)) : lenW x = k + 1 := by
  have p := pow_pos k
  unfold lenW
  rw [if_neg (by omega)]
  have e : x.toNat.log2 = k := by
    rw [Nat.log2_eq_iff (by omega)]
    have a1 := pow_cast k
    have a2 := pow_cast (k + 1)
    omega
  rw [e]
theorem lenW_zero : lenW 0 = 0 := rfl
theorem div_pow_one {x : Int} {k : Nat} (h : x / 2 ^ k = 1) : 2 ^ k ≤ x ∧ x < 2 ^ (k + 1) := by
  have p := pow_pos k
  have e : (2 : Int) ^ (k + 1) = 2 ^ k * 2 := Int.pow_succ _ _
  have h1 := Int.mul_ediv_self_le (x := x) (k := 2 ^ k) (by omega)
  have h2 := Int.lt_mul_ediv_self_add (x := x) (k := 2 ^ k) p
  rw [h] at h1 h2
  omega
def LenInv (x0 X N S : Int) : Prop := ∃ k : Nat, N = k ∧ X = x0 / 2 ^ k ∧ (k = 0 ∨ 1 ≤ X) ∧ 0 ≤ X ∧
  ((S = 32 ∧ X < 18446744073709551616 ∧ k = 0) ∨ (S = 16 ∧ X < 4294967296 ∧ k ≤ 32) ∨ (S = 8 ∧ X < 65536 ∧ k ≤ 48) ∨ (S = 4 ∧ X < 256 ∧ k ≤ 56) ∨ (S = 2 ∧ X < 16 ∧ k ≤ 60) ∨ (S = 1 ∧ X < 4 ∧ k ≤ 62) ∨ (S = 0 ∧ X < 2 ∧ k ≤ 63))
theorem len_start {x : Int} (h : U x) : LenInv x x 0 32 := by
  unfold U at h
  exact ⟨0, rfl, by simp, by omega, by omega, by omega⟩
theorem div_add (x : Int) (k s : Nat) : x / 2 ^ k / 2 ^ s = x / 2 ^ (k + s) := by
  rw [Int.pow_add, Int.ediv_ediv_of_nonneg (Int.le_of_lt (pow_pos k))]
/-- the six steps of Len: how far, and by what is divided -/
def LenStep (s : Nat) (c : Int) : Prop := (s = 32 ∧ c = 4294967296) ∨ (s = 16 ∧ c = 65536) ∨ (s = 8 ∧ c = 256) ∨ (s = 4 ∧ c = 16) ∨ (s = 2 ∧ c = 4) ∨ (s = 1 ∧ c = 2)
theorem len_pow {s : Nat} {c : Int} (h : LenStep s c) : c = 2 ^ s := by
  rcases h with ⟨rfl, rfl⟩ | ⟨rfl, rfl⟩ | ⟨rfl, rfl⟩ | ⟨rfl, rfl⟩ | ⟨rfl, rfl⟩ | ⟨rfl, rfl⟩ <;> rfl
theorem len_yes {x0 X N : Int} {s : Nat} {c : Int} (hs : LenStep s c) (h : LenInv x0 X N s) (hq : X / c ≠ 0) : LenInv x0 (X / c) (N + s) ((s / 2 : Nat) : Int) := by
  obtain ⟨k, rfl, hX, h1, h2, h3⟩ := h
  have hd : X / c = x0 / 2 ^ (k + s) := by rw [hX, len_pow hs, div_add]
  refine ⟨k + s, by omega, hd, ?_, ?_, ?_⟩
  · clear hX hd
    rcases hs with ⟨rfl, rfl⟩ | ⟨rfl, rfl⟩ | ⟨rfl, rfl⟩ | ⟨rfl, rfl⟩ | ⟨rfl, rfl⟩ | ⟨rfl, rfl⟩ <;> rcases h3 with h3 | h3 | h3 | h3 | h3 | h3 | h3 <;> omega
  · clear hX hd
    rcases hs with ⟨rfl, rfl⟩ | ⟨rfl, rfl⟩ | ⟨rfl, rfl⟩ | ⟨rfl, rfl⟩ | ⟨rfl, rfl⟩ | ⟨rfl, rfl⟩ <;> rcases h3 with h3 | h3 | h3 | h3 | h3 | h3 | h3 <;> omega
  · clear hX hd
    rcases hs with ⟨rfl, rfl⟩ | ⟨rfl, rfl⟩ | ⟨rfl, rfl⟩ | ⟨rfl, rfl⟩ | ⟨rfl, rfl⟩ | ⟨rfl, rfl⟩ <;> rcases h3 with h3 | h3 | h3 | h3 | h3 | h3 | h3 <;> omega
theorem len_no {x0 X N : Int} {s : Nat} {c : Int} (hs : LenStep s c) (h : LenInv x0 X N s) (hq : X / c = 0) : LenInv x0 X N ((s / 2 : Nat) : Int) := by
  obtain ⟨k, rfl, hX, h1, h2, h3⟩ := h
  refine ⟨k, rfl, hX, h1, h2, ?_⟩
  clear hX
  rcases hs with ⟨rfl, rfl⟩ | ⟨rfl, rfl⟩ | ⟨rfl, rfl⟩ | ⟨rfl, rfl⟩ | ⟨rfl, rfl⟩ | ⟨rfl, rfl⟩ <;> rcases h3 with h3 | h3 | h3 | h3 | h3 | h3 | h3 <;> omega
theorem len_end {x0 X N : Int} (h : LenInv x0 X N 0) : N + X = lenW x0 := by
  obtain ⟨k, rfl, hX, h1, h2, h3⟩ := h
  have h4 : X < 2 := by omega
  by_cases e : X = 0
  · have : k = 0 := by omega
    subst this
    have : x0 = 0 := by simp at hX; omega
    subst this; subst e; rfl
  · have e1 : X = 1 := by omega
    have := div_pow_one (x := x0) (k := k) (by omega)
    rw [lenW_eq this.1 this.2, e1]
theorem len_bd {x0 X N S : Int} (h : LenInv x0 X N S) : 0 ≤ N ∧ N ≤ 63 ∧ 0 ≤ X := by
  obtain ⟨k, rfl, hX, h1, h2, h3⟩ := h
  clear hX; omega
theorem len_steps {x0 X N S : Int} (h : LenInv x0 X N S) : S = 32 ∨ S = 16 ∨ S = 8 ∨ S = 4 ∨ S = 2 ∨ S = 1 ∨ S = 0 := by
  obtain ⟨k, rfl, hX, h1, h2, h3⟩ := h
  clear hX; omega
theorem len_last {x0 X N : Int} (h : LenInv x0 X N 0) : X < 2 := by
  obtain ⟨k, rfl, hX, h1, h2, h3⟩ := h
  clear hX; omega
theorem lenW_bd {x : Int} (h : U x) : 0 ≤ lenW x ∧ lenW x ≤ 64 := by
  unfold lenW; split
  · omega
  · unfold U at h
    have : x.toNat.log2 < 64 := (Nat.log2_lt (by omega)).mpr (by omega)
    omega
/-- of a word that is not 0: its highest bit's place -/
theorem lenW_pos {x : Int} (h : U x) (h0 : x ≠ 0) : ∃ k : Nat, k < 64 ∧ lenW x = k + 1 ∧ 2 ^ k ≤ x ∧ x < 2 ^ (k + 1) := by
  unfold U at h
  have a := (Nat.log2_eq_iff (n := x.toNat) (k := x.toNat.log2) (by omega)).mp rfl
  have a1 := pow_cast x.toNat.log2
  have a2 := pow_cast (x.toNat.log2 + 1)
  have h1 : (2 : Int) ^ x.toNat.log2 ≤ x := by omega
  have h2 : x < (2 : Int) ^ (x.toNat.log2 + 1) := by omega
  exact ⟨x.toNat.log2, (Nat.log2_lt (by omega)).mpr (by omega), lenW_eq h1 h2, h1, h2⟩

/-! ### zeros at the low end -/
theorem low_bit (k m : Nat) (hk : k < 64) (h : 2 ^ (k + 1) * m + 2 ^ k < 2 ^ 64) :
    (2 ^ (k + 1) * m + 2 ^ k) &&& (2 ^ 64 - (2 ^ (k + 1) * m + 2 ^ k)) = 2 ^ k := by
  have hp := Nat.two_pow_pos k
  have hs : 2 ^ (k + 1) = 2 ^ k * 2 := Nat.pow_succ ..
  have hx : 2 ^ (k + 1) * m + 2 ^ k = 2 ^ (k + 1) * m + (2 ^ k - 1) + 1 := by omega
  apply Nat.eq_of_testBit_eq
  intro j
  rw [Nat.testBit_and]
  have e2 : (2 ^ 64 - (2 ^ (k + 1) * m + 2 ^ k)).testBit j = (decide (j < 64) && !(2 ^ (k + 1) * m + (2 ^ k - 1)).testBit j) := by
    rw [hx]; exact Nat.testBit_two_pow_sub_succ (by omega) j
  rw [e2, Nat.testBit_two_pow_mul_add _ (by omega), Nat.testBit_two_pow_mul_add _ (by omega), Nat.testBit_two_pow, Nat.testBit_two_pow_sub_one]
  by_cases hj : j < k + 1
  · simp only [if_pos hj]
    by_cases e : k = j
    · subst e; simp; omega
    · simp [e]
  · simp only [if_neg hj]
    have : ¬ k = j := by omega
    cases m.testBit (j - (k + 1)) <;> simp [this]
theorem odd_part (n : Nat) (h : n ≠ 0) : ∃ k m : Nat, n = 2 ^ (k + 1) * m + 2 ^ k := by
  induction n using Nat.strongRecOn with
  | _ n ih =>
    by_cases o : n % 2 = 1
    · exact ⟨0, n / 2, by simp; omega⟩
    · obtain ⟨k, m, e⟩ := ih (n / 2) (by omega) (by omega)
      refine ⟨k + 1, m, ?_⟩
      have e1 : 2 ^ (k + 1 + 1) = 2 ^ (k + 1) * 2 := Nat.pow_succ ..
      have e2 : 2 ^ (k + 1) = 2 ^ k * 2 := Nat.pow_succ ..
      have e3 : 2 ^ (k + 1 + 1) * m = 2 * (2 ^ (k + 1) * m) := by rw [e1]; grind
      omega
def zerosW (x : Int) : Int := if x = 0 then 64 else lenW (bits .and .u64 x (IntKind.u64.wrap (-x))) - 1
theorem zerosW_pos {x : Int} (h : U x) (h0 : x ≠ 0) : ∃ k m : Nat, k < 64 ∧ zerosW x = k ∧ x = 2 ^ (k + 1) * m + 2 ^ k ∧ bits .and .u64 x (IntKind.u64.wrap (-x)) = 2 ^ k := by
  unfold U at h
  obtain ⟨k, m, e⟩ := odd_part x.toNat (by omega)
  have hk : k < 64 := by
    have : 2 ^ k < 2 ^ 64 := by
      have : 2 ^ k ≤ x.toNat := by rw [e]; exact Nat.le_add_left _ _
      omega
    exact (Nat.pow_lt_pow_iff_right (by omega)).mp this
  have hw : IntKind.u64.wrap (-x) = 18446744073709551616 - x := by rw [wrapU]; omega
  have hb : bits .and .u64 x (IntKind.u64.wrap (-x)) = 2 ^ k := by
    rw [hw, u64_and x _ h.1 h.2 (by omega) (by omega)]
    have : (18446744073709551616 - x).toNat = 2 ^ 64 - x.toNat := by omega
    rw [this, e, low_bit k m hk (by omega)]
    exact pow_cast k
  refine ⟨k, m, hk, ?_, ?_, hb⟩
  · unfold zerosW
    rw [if_neg h0, hb, lenW_eq (Int.le_refl _) ?_]
    · omega
    · have := pow_pos k
      rw [Int.pow_succ]; omega
  · have c1 := pow_cast (k + 1)
    have c2 := pow_cast k
    have : x = ((2 ^ (k + 1) * m + 2 ^ k : Nat) : Int) := by rw [← e]; omega
    rw [this, Int.natCast_add, Int.natCast_mul, c1, c2]
theorem zerosW_bd {x : Int} (h : U x) : 0 ≤ zerosW x ∧ zerosW x ≤ 64 := by
  by_cases h0 : x = 0
  · subst h0; exact ⟨by decide, by decide⟩
  · obtain ⟨k, m, hk, e, _⟩ := zerosW_pos h h0
    omega

/-! ### powers of two, a bit at a time -/
theorem p64 : (2 : Int) ^ 64 = 18446744073709551616 := rfl
theorem p128 : (2 : Int) ^ 128 = 340282366920938463463374607431768211456 := rfl
theorem U_div_pow {x : Int} (h : U x) (k : Nat) : U (x / 2 ^ k) := by
  unfold U at *
  have p := pow_pos k
  have h1 : 0 ≤ x / 2 ^ k := Int.ediv_nonneg h.1 (by omega)
  have h2 : x / 2 ^ k ≤ x := Int.ediv_le_self _ h.1
  omega
theorem emod_succ (x : Int) (k : Nat) : x % 2 ^ (k + 1) = x % 2 ^ k + x / 2 ^ k % 2 * 2 ^ k := by
  have p := pow_pos k
  have e : (2 : Int) ^ (k + 1) = 2 ^ k * 2 := Int.pow_succ _ _
  have h1 := Int.mul_ediv_add_emod x (2 ^ k)
  have h2 : 0 ≤ x % 2 ^ k := Int.emod_nonneg _ (by omega)
  have h3 : x % 2 ^ k < 2 ^ k := Int.emod_lt_of_pos _ p
  have h4 : x / 2 ^ k = 2 * (x / 2 ^ k / 2) + x / 2 ^ k % 2 := by omega
  have h6 : x = (x % 2 ^ k + x / 2 ^ k % 2 * 2 ^ k) + 2 ^ (k + 1) * (x / 2 ^ k / 2) := by
    rw [e]
    generalize x / 2 ^ k / 2 = q at *
    generalize x / 2 ^ k % 2 = b at *
    generalize x / 2 ^ k = y at *
    generalize x % 2 ^ k = r at *
    generalize (2 : Int) ^ k = P at *
    subst h4
    rw [← h1]; grind
  have h7 : 0 ≤ x / 2 ^ k % 2 := by omega
  have h8 : x / 2 ^ k % 2 ≤ 1 := by omega
  have h9 : 0 ≤ x % 2 ^ k + x / 2 ^ k % 2 * 2 ^ k ∧ x % 2 ^ k + x / 2 ^ k % 2 * 2 ^ k < 2 ^ (k + 1) := by
    rw [e]
    generalize x / 2 ^ k % 2 = b at *
    have hb : b = 0 ∨ b = 1 := by omega
    rcases hb with rfl | rfl <;> omega
  have h10 : x % 2 ^ (k + 1) = ((x % 2 ^ k + x / 2 ^ k % 2 * 2 ^ k) + 2 ^ (k + 1) * (x / 2 ^ k / 2)) % 2 ^ (k + 1) := by rw [← h6]
  rw [h10, Int.add_mul_emod_self_left]
  exact Int.emod_eq_of_lt h9.1 h9.2
theorem pow_lt {k : Nat} (h : k < 64) : (2 : Int) ^ k ≤ 9223372036854775808 := by
  have := pow_cast k
  have : 2 ^ k ≤ 2 ^ 63 := Nat.pow_le_pow_right (by omega) (by omega)
  omega
theorem or_low {S d : Int} {k : Nat} (hk : k < 64) (h1 : 0 ≤ S) (h2 : S < 2 ^ k) (h3 : d = 0 ∨ d = 1) : bits .or .u64 S (IntKind.u64.wrap (d * 2 ^ k)) = S + d * 2 ^ k := by
  have p := pow_pos k
  have q := pow_lt hk
  have c := pow_cast k
  have hb : 0 ≤ d * 2 ^ k ∧ d * 2 ^ k < 18446744073709551616 := by rcases h3 with rfl | rfl <;> omega
  have hw : IntKind.u64.wrap (d * 2 ^ k) = d * 2 ^ k := by rw [wrapU]; omega
  rw [hw, u64_or _ _ h1 (by omega) hb.1 hb.2, Nat.or_comm]
  have hd : (d * 2 ^ k).toNat % 2 ^ k = 0 := by
    rcases h3 with rfl | rfl
    · simp
    · have : (1 * (2 : Int) ^ k).toNat = 2 ^ k := by omega
      rw [this]; exact Nat.mod_self _
  have : (d * 2 ^ k).toNat ||| S.toNat = (d * 2 ^ k).toNat + S.toNat := nat_join k _ _ hd (by omega)
  rw [this]; omega
def AddInv (a b c0 : Int) (k : Nat) (C S : Int) : Prop := a % 2 ^ k + b % 2 ^ k + c0 = C * 2 ^ k + S ∧ 0 ≤ S ∧ S < 2 ^ k ∧ (C = 0 ∨ C = 1)
theorem add_start (a b c : Int) : AddInv a b (c % 2) 0 (c % 2) 0 := by
  refine ⟨?_, by omega, by decide, by omega⟩
  simp [Int.emod_one]
theorem add_step {a b c0 C S : Int} {k : Nat} (ha : U a) (hb : U b) (hk : k < 64) (h : AddInv a b c0 k C S) :
    AddInv a b c0 (k + 1) (IntKind.u64.wrap (IntKind.u64.wrap (bits .and .u64 (a / 2 ^ k) 1 + bits .and .u64 (b / 2 ^ k) 1) + C) / 2)
      (bits .or .u64 S (IntKind.u64.wrap (bits .and .u64 (IntKind.u64.wrap (IntKind.u64.wrap (bits .and .u64 (a / 2 ^ k) 1 + bits .and .u64 (b / 2 ^ k) 1) + C)) 1 * 2 ^ k))) := by
  obtain ⟨h1, h2, h3, h4⟩ := h
  have p := pow_pos k
  have e : (2 : Int) ^ (k + 1) = 2 ^ k * 2 := Int.pow_succ _ _
  rw [and_one (U_wrap _), or_low hk h2 h3 (by omega), and_one (U_div_pow ha k), and_one (U_div_pow hb k)]
  have ea := emod_succ a k
  have eb := emod_succ b k
  unfold AddInv
  rw [ea, eb, e, wrapU, wrapU]
  have a1 : a / 2 ^ k % 2 = 0 ∨ a / 2 ^ k % 2 = 1 := by omega
  have b1 : b / 2 ^ k % 2 = 0 ∨ b / 2 ^ k % 2 = 1 := by omega
  generalize a / 2 ^ k % 2 = x at *
  generalize b / 2 ^ k % 2 = y at *
  generalize a % 2 ^ k = r at *
  generalize b % 2 ^ k = s at *
  generalize (2 : Int) ^ k = P at *
  clear ea eb e ha hb
  rcases a1 with rfl | rfl <;> rcases b1 with rfl | rfl <;> rcases h4 with rfl | rfl <;> refine ⟨?_, ?_, ?_, ?_⟩ <;> simp <;> omega
theorem add_end {a b c C S : Int} (ha : U a) (hb : U b) (h : AddInv a b (c % 2) 64 C S) : S = addLo a b c ∧ C = addHi a b c := by
  obtain ⟨h1, h2, h3, h4⟩ := h
  rw [p64] at *
  unfold U at *
  unfold addLo addHi
  omega
theorem xor_max {b : Int} (hb : U b) : bits .xor .u64 IntKind.u64.max b = 18446744073709551615 - b := by
  unfold U at hb
  rw [max_u64, u64_xor _ _ (by omega) (by omega) hb.1 hb.2]
  have h : ((18446744073709551615 : Int).toNat ^^^ b.toNat) = 2 ^ 64 - (b.toNat + 1) := by
    apply Nat.eq_of_testBit_eq
    intro j
    have e1 : (18446744073709551615 : Int).toNat = 2 ^ 64 - 1 := rfl
    rw [Nat.testBit_xor, e1, Nat.testBit_two_pow_sub_one, Nat.testBit_two_pow_sub_succ (by omega)]
    by_cases hj : j < 64
    · simp [hj]
    · have : b.toNat.testBit j = false := Nat.testBit_lt_two_pow (Nat.lt_of_lt_of_le (show b.toNat < 2 ^ 64 by omega) (Nat.pow_le_pow_right (by omega) (by omega)))
      simp [hj, this]
  rw [h]; omega
theorem sub_of_add {a b c : Int} (ha : U a) (hb : U b) (hc : U c) :
    addLo a (bits .xor .u64 IntKind.u64.max b) (IntKind.u64.wrap (1 - bits .and .u64 c 1)) = subLo a b c ∧
    IntKind.u64.wrap (1 - addHi a (bits .xor .u64 IntKind.u64.max b) (IntKind.u64.wrap (1 - bits .and .u64 c 1))) = subHi a b c := by
  rw [xor_max hb, and_one hc, wrapU, wrapU]
  unfold U at *
  unfold addLo subLo addHi subHi
  omega
end Go.Proofs.YtceecgklgkiffaaGreatDoor.Ar

/- wide.Len, wide.Zeros -/
namespace Go.Proofs.YtceecgklgkiffaaGreatDoor
open Go.ChangeShapes Go.WideShapes Go.ChangeAt Go.RowKit
open Ar
set_option linter.unusedVariables false

set_option maxHeartbeats 1000000 in
set_option maxRecDepth 100000 in
theorem len_any {x : Int} (hx : U x) (w : World) :
    Calls Tryz.prog 108 #[.int .u64 x] w fun e w' => e = .returned (.int .i64 (lenW x)) ∧ w = w' := by
  have hi := len_start hx
  go_enter Tryz.func108, Tryz.ntmps108
  go_wp2
  go_loop [0, 3, 4] (fun v n s => ∃ X N S : Int, v = .int .u64 X ∧ n = .int .i64 N ∧ s = .int .i64 S ∧ LenInv x X N S) (fun _ _ s => (intOf s).toNat)
  case atStart => exact ⟨x, 0, 32, rfl, rfl, rfl, hi⟩
  case round =>
    obtain ⟨X, N, S, rfl, rfl, rfl, hr⟩ := hrel
    clear hi
    have bd := len_bd hr
    have st := len_steps hr
    obtain ⟨b1, b2, b3⟩ := bd
    rcases st with rfl | rfl | rfl | rfl | rfl | rfl | rfl
    · have hy := fun h => len_yes (s := 32) (Or.inl ⟨rfl, rfl⟩) hr h
      have hn := fun h => len_no (s := 32) (Or.inl ⟨rfl, rfl⟩) hr h
      clear hr
      by_cases q : X / 4294967296 = 0
      · have q' : (X / 4294967296 != 0) = false := bne_of q
        replace hn := hn q
        clear hy q
        go_wp2
        go_round
        case rel => exact ⟨X, N, _, rfl, rfl, rfl, hn⟩
        case measure => simp [intOf]
      · have q' : (X / 4294967296 != 0) = true := bne_yes q
        replace hy := hy q
        clear hn q
        go_wp2
        go_round
        case rel => exact ⟨_, _, _, rfl, rfl, rfl, hy⟩
        case measure => simp [intOf]
    · have hy := fun h => len_yes (s := 16) (Or.inr (Or.inl ⟨rfl, rfl⟩)) hr h
      have hn := fun h => len_no (s := 16) (Or.inr (Or.inl ⟨rfl, rfl⟩)) hr h
      clear hr
      by_cases q : X / 65536 = 0
      · have q' : (X / 65536 != 0) = false := bne_of q
        replace hn := hn q
        clear hy q
        go_wp2
        go_round
        case rel => exact ⟨X, N, _, rfl, rfl, rfl, hn⟩
        case measure => simp [intOf]
      · have q' : (X / 65536 != 0) = true := bne_yes q
        replace hy := hy q
        clear hn q
        go_wp2
        go_round
        case rel => exact ⟨_, _, _, rfl, rfl, rfl, hy⟩
        case measure => simp [intOf]
    · have hy := fun h => len_yes (s := 8) (Or.inr (Or.inr (Or.inl ⟨rfl, rfl⟩))) hr h
      have hn := fun h => len_no (s := 8) (Or.inr (Or.inr (Or.inl ⟨rfl, rfl⟩))) hr h
      clear hr
      by_cases q : X / 256 = 0
      · have q' : (X / 256 != 0) = false := bne_of q
        replace hn := hn q
        clear hy q
        go_wp2
        go_round
        case rel => exact ⟨X, N, _, rfl, rfl, rfl, hn⟩
        case measure => simp [intOf]
      · have q' : (X / 256 != 0) = true := bne_yes q
        replace hy := hy q
        clear hn q
        go_wp2
        go_round
        case rel => exact ⟨_, _, _, rfl, rfl, rfl, hy⟩
        case measure => simp [intOf]
    · have hy := fun h => len_yes (s := 4) (Or.inr (Or.inr (Or.inr (Or.inl ⟨rfl, rfl⟩)))) hr h
      have hn := fun h => len_no (s := 4) (Or.inr (Or.inr (Or.inr (Or.inl ⟨rfl, rfl⟩)))) hr h
      clear hr
      by_cases q : X / 16 = 0
      · have q' : (X / 16 != 0) = false := bne_of q
        replace hn := hn q
        clear hy q
        go_wp2
        go_round
        case rel => exact ⟨X, N, _, rfl, rfl, rfl, hn⟩
        case measure => simp [intOf]
      · have q' : (X / 16 != 0) = true := bne_yes q
        replace hy := hy q
        clear hn q
        go_wp2
        go_round
        case rel => exact ⟨_, _, _, rfl, rfl, rfl, hy⟩
        case measure => simp [intOf]
    · have hy := fun h => len_yes (s := 2) (Or.inr (Or.inr (Or.inr (Or.inr (Or.inl ⟨rfl, rfl⟩))))) hr h
      have hn := fun h => len_no (s := 2) (Or.inr (Or.inr (Or.inr (Or.inr (Or.inl ⟨rfl, rfl⟩))))) hr h
      clear hr
      by_cases q : X / 4 = 0
      · have q' : (X / 4 != 0) = false := bne_of q
        replace hn := hn q
        clear hy q
        go_wp2
        go_round
        case rel => exact ⟨X, N, _, rfl, rfl, rfl, hn⟩
        case measure => simp [intOf]
      · have q' : (X / 4 != 0) = true := bne_yes q
        replace hy := hy q
        clear hn q
        go_wp2
        go_round
        case rel => exact ⟨_, _, _, rfl, rfl, rfl, hy⟩
        case measure => simp [intOf]
    · have hy := fun h => len_yes (s := 1) (Or.inr (Or.inr (Or.inr (Or.inr (Or.inr ⟨rfl, rfl⟩))))) hr h
      have hn := fun h => len_no (s := 1) (Or.inr (Or.inr (Or.inr (Or.inr (Or.inr ⟨rfl, rfl⟩))))) hr h
      clear hr
      by_cases q : X / 2 = 0
      · have q' : (X / 2 != 0) = false := bne_of q
        replace hn := hn q
        clear hy q
        go_wp2
        go_round
        case rel => exact ⟨X, N, _, rfl, rfl, rfl, hn⟩
        case measure => simp [intOf]
      · have q' : (X / 2 != 0) = true := bne_yes q
        replace hy := hy q
        clear hn q
        go_wp2
        go_round
        case rel => exact ⟨_, _, _, rfl, rfl, rfl, hy⟩
        case measure => simp [intOf]
    · have hl := len_last hr
      go_wp2
      go_ret
      exact ⟨ret_int (len_end hr), rfl⟩

theorem zeros_any {x : Int} (hx : U x) (w : World) :
    Calls Tryz.prog 142 #[.int .u64 x] w fun e w' => ∃ n, e = .returned (.int .i64 n) ∧ w = w' ∧ n = zerosW x := by
  by_cases h : x = 0
  · have h' : (x == 0) = true := beq_of h
    go_enter Tryz.func142, Tryz.ntmps142
    go_wp2
    go_ret
    exact ⟨_, rfl, rfl, by unfold zerosW; rw [if_pos h]⟩
  · have h' : (x == 0) = false := beq_no h
    have hu : U (bits .and .u64 x (IntKind.u64.wrap (-x))) := U_bits_and hx (U_wrap _)
    obtain ⟨b1, b2⟩ := lenW_bd hu
    go_enter Tryz.func142, Tryz.ntmps142
    go_wp2_with (go_at_call 108; refine (len_any hu _).mono ?_; rintro e w' ⟨rfl, rfl⟩)
    go_ret
    exact ⟨_, rfl, rfl, by unfold zerosW; rw [if_neg h]⟩
end Go.Proofs.YtceecgklgkiffaaGreatDoor

/- Plain numbers: shifts of two words. -/
namespace Go.Proofs.YtceecgklgkiffaaGreatDoor.Ar
open Go.RowKit
set_option linter.unusedVariables false

def shHi (a b : Int) (k : Nat) : Int := (a * 18446744073709551616 + b) * 2 ^ k / 18446744073709551616 % 18446744073709551616
def shLo (a b : Int) (k : Nat) : Int := (a * 18446744073709551616 + b) * 2 ^ k % 18446744073709551616
def srHi (a b : Int) (k : Nat) : Int := (a * 18446744073709551616 + b) / 2 ^ k / 18446744073709551616
def srLo (a b : Int) (k : Nat) : Int := (a * 18446744073709551616 + b) / 2 ^ k % 18446744073709551616
def srLost (a b : Int) (k : Nat) : Bool := decide ((a * 18446744073709551616 + b) % 2 ^ k ≠ 0)
def clampN (n : Int) : Nat := if n ≤ 0 then 0 else if 128 ≤ n then 128 else n.toNat
theorem clampN_le (n : Int) : clampN n ≤ 128 := by unfold clampN; split <;> (try split) <;> omega
theorem clampN_of (k : Nat) (h : k ≤ 128) : clampN (k : Int) = k := by
  unfold clampN; split
  · omega
  · split <;> omega

theorem U_shHi (a b : Int) (k : Nat) : U (shHi a b k) := by unfold U shHi; omega
theorem U_shLo (a b : Int) (k : Nat) : U (shLo a b k) := by unfold U shLo; omega
theorem U_srLo (a b : Int) (k : Nat) : U (srLo a b k) := by unfold U srLo; omega
theorem U_srHi {a b : Int} (ha : U a) (hb : U b) (k : Nat) : U (srHi a b k) := by
  unfold U at *
  have p := pow_pos k
  have h1 : 0 ≤ (a * 18446744073709551616 + b) / 2 ^ k := Int.ediv_nonneg (by omega) (by omega)
  have h2 : (a * 18446744073709551616 + b) / 2 ^ k ≤ a * 18446744073709551616 + b := Int.ediv_le_self _ (by omega)
  unfold srHi
  generalize (a * 18446744073709551616 + b) / 2 ^ k = q at *
  omega

theorem mul_mod_right (a b : Int) {c : Int} (hc : 0 < c) : a * c % (b * c) = a % b * c := by
  rw [Int.mul_comm a c, Int.mul_comm b c, Int.mul_emod_mul_of_pos a b hc, Int.mul_comm]
theorem pow_split {k : Nat} (h : k ≤ 64) : (2 : Int) ^ (64 - k) * 2 ^ k = 18446744073709551616 := by
  rw [← Int.pow_add, Nat.sub_add_cancel h]; rfl
theorem pow_more {k : Nat} (h : 64 ≤ k) : (2 : Int) ^ k = 2 ^ (k - 64) * 18446744073709551616 := by
  rw [← p64, ← Int.pow_add, Nat.sub_add_cancel h]
/-- what stands above 2^k and what stands below it, laid together -/
theorem or_parts {x y : Int} {k : Nat} (hk : k ≤ 64) (hy0 : 0 ≤ y) (hy : y < 2 ^ k) : bits .or .u64 (IntKind.u64.wrap (x * 2 ^ k)) y = x * 2 ^ k % 18446744073709551616 + y := by
  have p := pow_pos k
  have c := pow_cast k
  have hp : (2 : Int) ^ k ≤ 18446744073709551616 := by
    have : 2 ^ k ≤ 2 ^ 64 := Nat.pow_le_pow_right (by omega) hk
    omega
  rw [wrapU]
  have h : 0 ≤ x * 2 ^ k % 18446744073709551616 ∧ x * 2 ^ k % 18446744073709551616 < 18446744073709551616 := by omega
  rw [u64_or _ _ h.1 h.2 hy0 (by omega)]
  have hm : (x * 2 ^ k % 18446744073709551616) % 2 ^ k = 0 := by
    have d : (2 : Int) ^ k ∣ 18446744073709551616 := ⟨2 ^ (64 - k), by rw [Int.mul_comm]; exact (pow_split hk).symm⟩
    rw [Int.emod_emod_of_dvd _ d]; exact Int.mul_emod_left _ _
  have hm' : (x * 2 ^ k % 18446744073709551616).toNat % 2 ^ k = 0 := by
    have : (((x * 2 ^ k % 18446744073709551616).toNat % 2 ^ k : Nat) : Int) = 0 := by
      rw [Int.natCast_emod, c, Int.toNat_of_nonneg h.1]; exact hm
    omega
  have : ((x * 2 ^ k % 18446744073709551616).toNat ||| y.toNat) = (x * 2 ^ k % 18446744073709551616).toNat + y.toNat := nat_join k _ _ hm' (by omega)
  rw [this]; omega
theorem div_lt_pow {b : Int} {k : Nat} (hb : U b) (hk : k ≤ 64) : 0 ≤ b / 2 ^ (64 - k) ∧ b / 2 ^ (64 - k) < 2 ^ k := by
  unfold U at hb
  have p := pow_pos (64 - k)
  refine ⟨Int.ediv_nonneg hb.1 (by omega), Int.ediv_lt_of_lt_mul p ?_⟩
  rw [Int.mul_comm, pow_split hk]; exact hb.2

theorem shl_lo {a b : Int} (k : Nat) : IntKind.u64.wrap (b * 2 ^ k) = shLo a b k := by
  rw [wrapU]; unfold shLo
  have e : (a * 18446744073709551616 + b) * 2 ^ k = a * 2 ^ k * 18446744073709551616 + b * 2 ^ k := by grind
  rw [e]
  generalize a * 2 ^ k = s
  generalize b * 2 ^ k = t
  omega
theorem shl_hi {a b : Int} {k : Nat} (hb : U b) (hk : k ≤ 64) : bits .or .u64 (IntKind.u64.wrap (a * 2 ^ k)) (b / 2 ^ (64 - k)) = shHi a b k := by
  obtain ⟨h1, h2⟩ := div_lt_pow hb hk
  rw [or_parts hk h1 h2]
  unfold shHi
  have e : (a * 18446744073709551616 + b) * 2 ^ k = a * 2 ^ k * 18446744073709551616 + b * 2 ^ k := by grind
  have e2 : b * 2 ^ k / 18446744073709551616 = b / 2 ^ (64 - k) := by
    rw [← pow_split hk]; exact Int.mul_ediv_mul_of_pos_left _ _ (pow_pos k)
  have e3 : (a * 18446744073709551616 + b) * 2 ^ k / 18446744073709551616 = a * 2 ^ k + b / 2 ^ (64 - k) := by
    rw [e, ← e2]
    generalize a * 2 ^ k = s
    generalize b * 2 ^ k = t
    omega
  rw [e3]
  have hm : (a * 2 ^ k % 18446744073709551616) + 2 ^ k ≤ 18446744073709551616 := by
    have d := pow_split hk
    have : a * 2 ^ k % 18446744073709551616 = a % 2 ^ (64 - k) * 2 ^ k := by
      rw [← d]; exact mul_mod_right _ _ (pow_pos k)
    rw [this]
    have l : a % 2 ^ (64 - k) < 2 ^ (64 - k) := Int.emod_lt_of_pos _ (pow_pos _)
    have m : (a % 2 ^ (64 - k) + 1) * 2 ^ k ≤ 2 ^ (64 - k) * 2 ^ k := Int.mul_le_mul_of_nonneg_right (by omega) (Int.le_of_lt (pow_pos k))
    rw [d] at m
    have : (a % 2 ^ (64 - k) + 1) * 2 ^ k = a % 2 ^ (64 - k) * 2 ^ k + 2 ^ k := by grind
    omega
  generalize a * 2 ^ k = s at *
  generalize b / 2 ^ (64 - k) = t at *
  generalize (2 : Int) ^ k = P at *
  omega
theorem shl_hi_big {a b : Int} {k : Nat} (hk : 64 ≤ k) : IntKind.u64.wrap (b * 2 ^ (k - 64)) = shHi a b k := by
  rw [wrapU]; unfold shHi
  rw [pow_more hk]
  have e : (a * 18446744073709551616 + b) * (2 ^ (k - 64) * 18446744073709551616) = (a * 2 ^ (k - 64) * 18446744073709551616 + b * 2 ^ (k - 64)) * 18446744073709551616 := by grind
  rw [e]
  generalize a * 2 ^ (k - 64) = s
  generalize b * 2 ^ (k - 64) = t
  omega
theorem shl_lo_big {a b : Int} {k : Nat} (hk : 64 ≤ k) : 0 = shLo a b k := by
  unfold shLo
  rw [pow_more hk, ← Int.mul_assoc]
  generalize (a * 18446744073709551616 + b) * 2 ^ (k - 64) = t
  omega

theorem shr_hi {a b : Int} (hb : U b) (k : Nat) : a / 2 ^ k = srHi a b k := by
  unfold srHi
  have p := pow_pos k
  rw [Int.ediv_ediv_of_nonneg (by omega), Int.mul_comm (2 ^ k), ← Int.ediv_ediv_of_nonneg (by omega)]
  have : (a * 18446744073709551616 + b) / 18446744073709551616 = a := by unfold U at hb; omega
  rw [this]
theorem shr_div {a b : Int} {k : Nat} (hk : k ≤ 64) : (a * 18446744073709551616 + b) / 2 ^ k = a * 2 ^ (64 - k) + b / 2 ^ k := by
  have p := pow_pos k
  have e : a * 18446744073709551616 + b = b + a * 2 ^ (64 - k) * 2 ^ k := by rw [Int.mul_assoc, pow_split hk]; omega
  rw [e, Int.add_mul_ediv_right _ _ (by omega)]
  omega
theorem div_lt_pow' {b : Int} {k : Nat} (hb : U b) (hk : k ≤ 64) : 0 ≤ b / 2 ^ k ∧ b / 2 ^ k < 2 ^ (64 - k) := by
  unfold U at hb
  have p := pow_pos k
  refine ⟨Int.ediv_nonneg hb.1 (by omega), Int.ediv_lt_of_lt_mul p ?_⟩
  rw [pow_split hk]; exact hb.2
theorem shr_lo {a b : Int} {k : Nat} (hb : U b) (hk : k ≤ 64) : bits .or .u64 (IntKind.u64.wrap (a * 2 ^ (64 - k))) (b / 2 ^ k) = srLo a b k := by
  obtain ⟨h1, h2⟩ := div_lt_pow' hb hk
  rw [or_parts (by omega) h1 h2]
  unfold srLo
  rw [shr_div hk]
  have d : (2 : Int) ^ k * 2 ^ (64 - k) = 18446744073709551616 := by rw [Int.mul_comm]; exact pow_split hk
  have hm : (a * 2 ^ (64 - k) % 18446744073709551616) + 2 ^ (64 - k) ≤ 18446744073709551616 := by
    have : a * 2 ^ (64 - k) % 18446744073709551616 = a % 2 ^ k * 2 ^ (64 - k) := by
      rw [← d]; exact mul_mod_right _ _ (pow_pos _)
    rw [this]
    have l : a % 2 ^ k < 2 ^ k := Int.emod_lt_of_pos _ (pow_pos _)
    have m : (a % 2 ^ k + 1) * 2 ^ (64 - k) ≤ 2 ^ k * 2 ^ (64 - k) := Int.mul_le_mul_of_nonneg_right (by omega) (Int.le_of_lt (pow_pos _))
    rw [d] at m
    have : (a % 2 ^ k + 1) * 2 ^ (64 - k) = a % 2 ^ k * 2 ^ (64 - k) + 2 ^ (64 - k) := by grind
    omega
  generalize a * 2 ^ (64 - k) = s at *
  generalize b / 2 ^ k = t at *
  generalize (2 : Int) ^ (64 - k) = P at *
  omega
theorem lost_low {b : Int} {k : Nat} (hk : k ≤ 64) : IntKind.u64.wrap (b * 2 ^ (64 - k)) = 0 ↔ b % 2 ^ k = 0 := by
  have d : (2 : Int) ^ k * 2 ^ (64 - k) = 18446744073709551616 := by rw [Int.mul_comm]; exact pow_split hk
  have p := pow_pos (64 - k)
  have e : b * 2 ^ (64 - k) % 18446744073709551616 = b % 2 ^ k * 2 ^ (64 - k) := by
    rw [← d]; exact mul_mod_right _ _ p
  rw [wrapU, e]
  constructor
  · intro h
    rcases Int.mul_eq_zero.mp h with h | h
    · exact h
    · omega
  · intro h; rw [h]; simp
theorem mod_low {a b : Int} {k : Nat} (hk : k ≤ 64) : (a * 18446744073709551616 + b) % 2 ^ k = b % 2 ^ k := by
  have e : a * 18446744073709551616 + b = b + 2 ^ k * (a * 2 ^ (64 - k)) := by
    have h : (2 : Int) ^ k * (a * 2 ^ (64 - k)) = a * (2 ^ (64 - k) * 2 ^ k) := by grind
    rw [h, pow_split hk]; omega
  rw [e, Int.add_mul_emod_self_left]
theorem shr_lost {a b : Int} {k : Nat} (hk : k ≤ 64) : (IntKind.u64.wrap (b * 2 ^ (64 - k)) != 0) = srLost a b k := by
  unfold srLost
  rw [mod_low hk, Bool.eq_iff_iff]
  have := lost_low (b := b) hk
  simp
  omega
theorem shr_hi_big {a b : Int} {k : Nat} (ha : U a) (hb : U b) (hk : 64 ≤ k) : 0 = srHi a b k := by
  unfold srHi
  have p := pow_pos (k - 64)
  rw [pow_more hk, Int.mul_comm (2 ^ (k - 64)), ← Int.ediv_ediv_of_nonneg (by omega)]
  have e : (a * 18446744073709551616 + b) / 18446744073709551616 = a := by unfold U at hb; omega
  rw [e]
  have u := U_div_pow ha (k - 64)
  unfold U at u
  omega
theorem shr_lo_big {a b : Int} {k : Nat} (ha : U a) (hb : U b) (hk : 64 ≤ k) : a / 2 ^ (k - 64) = srLo a b k := by
  unfold srLo
  have p := pow_pos (k - 64)
  rw [pow_more hk, Int.mul_comm (2 ^ (k - 64)), ← Int.ediv_ediv_of_nonneg (by omega)]
  have e : (a * 18446744073709551616 + b) / 18446744073709551616 = a := by unfold U at hb; omega
  rw [e]
  have u := U_div_pow ha (k - 64)
  unfold U at u
  omega
theorem mod_big {a b : Int} {k : Nat} (hb : U b) (hk : 64 ≤ k) : (a * 18446744073709551616 + b) % 2 ^ k = a % 2 ^ (k - 64) * 18446744073709551616 + b := by
  have p := pow_pos (k - 64)
  have h1 := Int.mul_ediv_add_emod a (2 ^ (k - 64))
  have h2 : 0 ≤ a % 2 ^ (k - 64) := Int.emod_nonneg _ (by omega)
  have h3 : a % 2 ^ (k - 64) < 2 ^ (k - 64) := Int.emod_lt_of_pos _ p
  have e : a * 18446744073709551616 + b = (a % 2 ^ (k - 64) * 18446744073709551616 + b) + 2 ^ k * (a / 2 ^ (k - 64)) := by
    rw [pow_more hk]
    have : (2 : Int) ^ (k - 64) * 18446744073709551616 * (a / 2 ^ (k - 64)) = 2 ^ (k - 64) * (a / 2 ^ (k - 64)) * 18446744073709551616 := by grind
    omega
  rw [e, Int.add_mul_emod_self_left]
  unfold U at hb
  refine Int.emod_eq_of_lt (by omega) ?_
  rw [pow_more hk]
  omega
theorem shr_lost_big {a b : Int} {k : Nat} (hb : U b) (hk : 64 ≤ k) (hk' : k ≤ 128) : ((b != 0) || (IntKind.u64.wrap (a * 2 ^ (128 - k)) != 0)) = srLost a b k := by
  unfold srLost
  rw [mod_big hb hk, Bool.eq_iff_iff]
  have h := lost_low (b := a) (k := k - 64) (by omega)
  have e : 64 - (k - 64) = 128 - k := by omega
  rw [e] at h
  have h2 : 0 ≤ a % 2 ^ (k - 64) := Int.emod_nonneg _ (by have := pow_pos (k - 64); omega)
  unfold U at hb
  simp
  omega
end Go.Proofs.YtceecgklgkiffaaGreatDoor.Ar

/- wide.Shl, wide.Shr -/
namespace Go.Proofs.YtceecgklgkiffaaGreatDoor
open Go.ChangeShapes Go.WideShapes Go.ChangeAt Go.RowKit
open Ar
set_option linter.unusedVariables false

theorem within_any (n : Int) (w : World) :
    Calls Tryz.prog 176 #[.int .i64 n] w fun e w' => e = .returned (.int .i64 (clampN n)) ∧ w = w' := by
  by_cases h0 : n ≤ 0
  · have e : clampN n = 0 := by unfold clampN; rw [if_pos h0]
    rw [e]
    by_cases h : n = 0
    · subst h
      go_enter Tryz.func176, Tryz.ntmps176
      go_wp2
      go_ret
      exact ⟨rfl, rfl⟩
    · have h' : n < 0 := by omega
      clear h h0
      go_enter Tryz.func176, Tryz.ntmps176
      go_wp2
      go_ret
      exact ⟨rfl, rfl⟩
  · by_cases h1 : 128 < n
    · have e : clampN n = 128 := by unfold clampN; rw [if_neg h0, if_pos (by omega)]
      rw [e]
      go_enter Tryz.func176, Tryz.ntmps176
      go_wp2
      go_ret
      exact ⟨rfl, rfl⟩
    · have e : (clampN n : Int) = n := by
        unfold clampN; rw [if_neg h0]; split <;> omega
      rw [e]
      go_enter Tryz.func176, Tryz.ntmps176
      go_wp2
      all_goals go_ret
      all_goals exact ⟨rfl, rfl⟩

theorem shl_any {a b : Int} (ha : U a) (hb : U b) (n : Int) (w : World) :
    Calls Tryz.prog 208 #[.int .u64 a, .int .u64 b, .int .i64 n] w fun e w' => e = .returned (.tuple #[.int .u64 (shHi a b (clampN n)), .int .u64 (shLo a b (clampN n))]) ∧ Gr w w' := by
  have hw := fun w => within_any n w
  have hk := clampN_le n
  generalize clampN n = k at *
  by_cases h : 64 ≤ k
  · go_enter Tryz.func208, Tryz.ntmps208
    go_wp2_with (go_at_call 176; refine (hw _).mono ?_; rintro e w' ⟨rfl, rfl⟩)
    go_ret2
    exact ⟨ret_two (shl_hi_big h) (shl_lo_big h), gr_refl _⟩
  · go_enter Tryz.func208, Tryz.ntmps208
    go_wp2_with (go_at_call 176; refine (hw _).mono ?_; rintro e w' ⟨rfl, rfl⟩)
    go_quiet (fail)
    go_wp2
    go_ret2
    exact ⟨ret_two (shl_hi hb (by omega)) (shl_lo k), gr_drewN (gr_refl _) _⟩

theorem shr_any {a b : Int} (ha : U a) (hb : U b) (n : Int) (w : World) :
    Calls Tryz.prog 141 #[.int .u64 a, .int .u64 b, .int .i64 n] w fun e w' => e = .returned (.tuple #[.int .u64 (srHi a b (clampN n)), .int .u64 (srLo a b (clampN n)), .bool (srLost a b (clampN n))]) ∧ Gr w w' := by
  have hw := fun w => within_any n w
  have hk := clampN_le n
  generalize clampN n = k at *
  by_cases h : 64 ≤ k
  · have hl := shr_lost_big (a := a) hb h hk
    by_cases hz : b = 0
    · have hz' : (b != 0) = false := bne_of hz
      rw [hz', Bool.false_or] at hl
      have HL : Hid ((IntKind.u64.wrap (a * 2 ^ (128 - k)) != 0) = srLost a b k) := hl
      clear hl hz
      go_enter Tryz.func141, Tryz.ntmps141
      go_wp2_with (go_at_call 176; refine (hw _).mono ?_; rintro e w' ⟨rfl, rfl⟩)
      go_quiet (fail)
      go_wp2
      go_ret3
      exact ⟨ret_iib (shr_hi_big ha hb h) (shr_lo_big ha hb h) HL.out, gr_drewN (gr_refl _) _⟩
    · have hz' : (b != 0) = true := bne_yes hz
      rw [hz', Bool.true_or] at hl
      have HL : Hid (true = srLost a b k) := hl
      clear hl hz
      go_enter Tryz.func141, Tryz.ntmps141
      go_wp2_with (go_at_call 176; refine (hw _).mono ?_; rintro e w' ⟨rfl, rfl⟩)
      go_quiet (fail)
      go_wp2
      go_ret3
      exact ⟨ret_iib (shr_hi_big ha hb h) (shr_lo_big ha hb h) HL.out, gr_drewN (gr_refl _) _⟩
  · go_enter Tryz.func141, Tryz.ntmps141
    go_wp2_with (go_at_call 176; refine (hw _).mono ?_; rintro e w' ⟨rfl, rfl⟩)
    go_quiet (fail)
    go_wp2
    go_ret3
    exact ⟨ret_iib (shr_hi hb k) (shr_lo hb (by omega)) (shr_lost (by omega)), gr_drewN (gr_refl _) _⟩
end Go.Proofs.YtceecgklgkiffaaGreatDoor

/- Slices of integers: what a call is told of one that came in, and of one that it has made. -/
namespace Go.Proofs.YtceecgklgkiffaaGreatDoor
open Go.ChangeShapes Go.WideShapes Go.ChangeAt Go.RowKit
set_option linter.unusedVariables false

/-- a slice (its address, its length) reads as these numbers -/
def RowAt (k : IntKind) (w : World) (a : Option Addr) (n : Nat) (xs : List Int) : Prop :=
  xs.length = n ∧ (n = 0 ∨ ∃ b off, a = some ⟨b, off, none⟩ ∧ b < w.heap.size ∧ ∀ i, i < n → w.cell? ⟨b, off + i, none⟩ = some (.int k (xs.getD i 0)))
theorem RowAt.later {k : IntKind} {w w' : World} {a : Option Addr} {n : Nat} {xs : List Int} (h : RowAt k w a n xs) (hb : Below w.heap.size w w') : RowAt k w' a n xs := by
  obtain ⟨h1, h2⟩ := h
  refine ⟨h1, ?_⟩
  rcases h2 with h2 | ⟨b, off, ha, hlt, hc⟩
  · exact Or.inl h2
  · exact Or.inr ⟨b, off, ha, Nat.lt_of_lt_of_le hlt hb.size, fun i hi => (hb.cell (p := ⟨b, off + i, none⟩) hlt).trans (hc i hi)⟩
theorem RowAt.at {k : IntKind} {w : World} {a : Option Addr} {n : Nat} {xs : List Int} (h : RowAt k w a n xs) (hn : 0 < n) :
    ∃ b off, a = some ⟨b, off, none⟩ ∧ b < w.heap.size ∧ ∀ i, i < n → w.cell? ⟨b, off + i, none⟩ = some (.int k (xs.getD i 0)) := by
  rcases h.2 with h2 | h2
  · omega
  · exact h2
theorem owned_row {k : IntKind} {w : World} {base : Nat} {e : TypeId} {v : Value} {n : Nat} {xs : List Int} (h : w.ownsRow base e 1 v n (xs.map (Value.int k))) :
    ∃ a cap, v = .slice a n cap ∧ n ≤ cap ∧ RowAt k w a n xs := by
  obtain ⟨h1, h2⟩ := h
  simp only [List.length_map, Nat.mul_one] at h1
  rcases h2 with ⟨rfl, rfl⟩ | ⟨g, cap, cur, rfl, hb, hg, hn, hm, hs, ht⟩
  · exact ⟨none, 0, rfl, Nat.le_refl _, h1, Or.inl rfl⟩
  · refine ⟨_, cap, rfl, hn, h1, Or.inr ⟨g, 0, rfl, ?_, ?_⟩⟩
    · by_cases hlt : g < w.heap.size
      · exact hlt
      · simp [Array.getElem?_eq_none (Nat.le_of_not_lt hlt)] at hg
    · intro i hi
      simp only [Nat.mul_one] at ht
      have e : cur[i]? = some (.int k (xs.getD i 0)) := by
        have h3 : (cur.toList.take n)[i]? = (xs.map (Value.int k))[i]? := by rw [ht]
        rw [List.getElem?_take_of_lt hi, Array.getElem?_toList] at h3
        rw [h3, List.getElem?_map]
        have : i < xs.length := by omega
        simp [List.getElem?_eq_getElem this, List.getD_eq_getElem?_getD]
      simp [World.cell?, hg, e]
/-- behind an append to a row of the call's own: below its base nothing has turned -/
theorem grow_below {w wr w1 : World} {base n : Nat} {e : TypeId} {v : Value} {ys : List Value} {o : Obj} (hB : base ≤ wr.heap.size) (hown : wr.ownsRow base e 1 v n ys) (hnx : Below base w wr) (hg : (wr.alloc o).grownBy w1 v.ownBlock) : Below base w w1 :=
  (hnx.alloc hB o).grown hg (by simp; omega) (fun k hk => (hown.lt k hk).1)
theorem take_next {xs : List Int} {k : Nat} (h : k < xs.length) : xs.take (k + 1) = xs.take k ++ [xs.getD k 0] := by
  rw [List.take_succ_eq_append_getElem h]
  simp [List.getD_eq_getElem?_getD, List.getElem?_eq_getElem h]
/-- a slice that the call has made (its block is base or beyond), and its numbers -/
def Own (k : IntKind) (w : World) (base : Nat) (e : TypeId) (v : Value) (xs : List Int) : Prop := w.ownsRow base e 1 v xs.length (xs.map (Value.int k))
theorem Own.row {k : IntKind} {w : World} {base : Nat} {e : TypeId} {v : Value} {xs : List Int} (h : Own k w base e v xs) : w.ownsRow base e 1 v xs.length (xs.map (Value.int k)) := h
theorem own_nil (k : IntKind) (w : World) (base : Nat) (e : TypeId) : Own k w base e (.slice none 0 0) [] := World.ownsRow_nil _ _ _ _
theorem own_next {w1 : World} {base : Nat} {e : TypeId} {k : IntKind} {v : Value} {n : Nat} {xs : List Int} {x : Int} (h : w1.ownsRow base e 1 v (n + 1) (xs.map (Value.int k) ++ [.int k x])) (hn : n = xs.length) : Own k w1 base e v (xs ++ [x]) := by
  subst hn; unfold Own; rw [List.map_append, List.length_append]; exact h
theorem Own.read {k : IntKind} {w : World} {base : Nat} {e : TypeId} {v : Value} {xs : List Int} (h : Own k w base e v xs) : ∃ a cap, v = .slice a xs.length cap ∧ xs.length ≤ cap ∧ RowAt k w a xs.length xs := owned_row h
theorem one_new {wr : World} {e : TypeId} {v : Value} : ∀ j u, ([v] : List Value)[j]? = some u → (wr.alloc (.cells #[v] e)).cell? ((⟨wr.heap.size, 0, none⟩ : Addr).add j) = some u := by
  intro j u hj
  match j, hj with
  | 0, hj => simp at hj; subst hj; simp [Addr.add]
theorem one_cell {k : IntKind} {x : Int} : ∀ u ∈ [Value.int k x], u.oneCell' = true := by
  intro u hu; simp at hu; subst hu; rfl
theorem Own.wider {k : IntKind} {w : World} {base base' : Nat} {e : TypeId} {v : Value} {xs : List Int} (h : Own k w base e v xs) (hb : base' ≤ base) : Own k w base' e v xs := by
  obtain ⟨h1, h2⟩ := h
  refine ⟨h1, ?_⟩
  rcases h2 with h2 | ⟨g, c, cur, hv, hg, r⟩
  · exact Or.inl h2
  · exact Or.inr ⟨g, c, cur, hv, Nat.le_trans hb hg, r⟩
theorem Own.later {k : IntKind} {w w' : World} {base : Nat} {e : TypeId} {v : Value} {xs : List Int} (h : Own k w base e v xs) (hb : Below w.heap.size w w') : Own k w' base e v xs := by
  obtain ⟨h1, h2⟩ := h
  refine ⟨h1, ?_⟩
  rcases h2 with h2 | ⟨g, c, cur, hv, hg, hc, r⟩
  · exact Or.inl h2
  · refine Or.inr ⟨g, c, cur, hv, hg, ?_, r⟩
    have hlt : g < w.heap.size := by
      by_cases hlt : g < w.heap.size
      · exact hlt
      · simp [Array.getElem?_eq_none (Nat.le_of_not_lt hlt)] at hc
    rw [hb.block g hlt]; exact hc
theorem Own.cap {k : IntKind} {w : World} {base : Nat} {e : TypeId} {a : Option Addr} {n cap : Nat} {xs : List Int} (h : Own k w base e (.slice a n cap) xs) : cap ≤ maxLen := by
  obtain ⟨h1, h2⟩ := h
  rcases h2 with ⟨hv, h0⟩ | ⟨g, c, cur, hv, hb, hg, hn, hc, hs, ht⟩
  · simp only [Value.slice.injEq] at hv; unfold maxLen; omega
  · simp only [Value.slice.injEq] at hv; omega
/-- what is made reads, with room that fits -/
theorem Own.reads {k : IntKind} {w : World} {base : Nat} {e : TypeId} {v : Value} {xs : List Int} (h : Own k w base e v xs) : ∃ a cap, v = .slice a xs.length cap ∧ xs.length ≤ cap ∧ cap ≤ maxLen ∧ RowAt k w a xs.length xs := by
  obtain ⟨a, cap, rfl, hc, hr⟩ := h.read
  exact ⟨a, cap, rfl, hc, h.cap, hr⟩
end Go.Proofs.YtceecgklgkiffaaGreatDoor

/- The helpers of plumblaw02: cut, same, told. -/
namespace Go.Proofs.YtceecgklgkiffaaGreatDoor
open Go.ChangeShapes Go.WideShapes Go.ChangeAt Go.RowKit
set_option linter.unusedVariables false

theorem info_u64 : (Tryz.prog.info? 22).map (fun i => (i.zero, i.size, i.bytes)) = some (some (.int .u64 0), 1, 8) := by kernel_rfl
theorem info_int : (Tryz.prog.info? 3).map (fun i => (i.zero, i.size, i.bytes)) = some (some (.int .i64 0), 1, 8) := by kernel_rfl

end Go.Proofs.YtceecgklgkiffaaGreatDoor

/- plumblaw02.same, told. -/
namespace Go.Proofs.YtceecgklgkiffaaGreatDoor
open Go.ChangeShapes Go.WideShapes Go.ChangeAt Go.RowKit
set_option linter.unusedVariables false

theorem ret_bool' {p q : Bool} (h : p = q) : Ending.returned (.bool p) = .returned (.bool q) := by rw [h]
theorem same_take {xs ys : List Int} {k : Nat} (h : xs.take k = ys.take k) (hx : k < xs.length) (hy : k < ys.length) (he : xs.getD k 0 = ys.getD k 0) : xs.take (k + 1) = ys.take (k + 1) := by
  rw [take_next hx, take_next hy, h, he]
end Go.Proofs.YtceecgklgkiffaaGreatDoor

/- Plain numbers: lists of digits in a base, the lowest first. -/
namespace Go.Proofs.YtceecgklgkiffaaGreatDoor.Na
set_option linter.unusedVariables false

/-- the number of a list of digits -/
def val (B : Int) : List Int → Int
  | [] => 0
  | x :: xs => x + B * val B xs
/-- each is a digit -/
def Dg (B : Int) (xs : List Int) : Prop := ∀ x ∈ xs, 0 ≤ x ∧ x < B
/-- without zeros at the high end -/
def strip : List Int → List Int
  | [] => []
  | x :: xs => if strip xs = [] ∧ x = 0 then [] else x :: strip xs
/-- the digits of a number, the highest not 0 -/
def dig (B : Nat) (n : Nat) : List Int :=
  if h : n = 0 ∨ B < 2 then [] else ((n % B : Nat) : Int) :: dig B (n / B)
termination_by n
decreasing_by exact Nat.div_lt_self (by omega) (by omega)

theorem val_nil (B : Int) : val B [] = 0 := rfl
theorem val_cons (B x : Int) (xs : List Int) : val B (x :: xs) = x + B * val B xs := rfl
theorem Dg.tail {B x : Int} {xs : List Int} (h : Dg B (x :: xs)) : Dg B xs := fun y hy => h y (List.mem_cons_of_mem _ hy)
theorem Dg.head {B x : Int} {xs : List Int} (h : Dg B (x :: xs)) : 0 ≤ x ∧ x < B := h x List.mem_cons_self
theorem Dg.append {B : Int} {xs ys : List Int} (h : Dg B xs) (k : Dg B ys) : Dg B (xs ++ ys) := fun z hz => by
  rcases List.mem_append.mp hz with hz | hz
  · exact h z hz
  · exact k z hz
theorem Dg.one {B x : Int} (h : 0 ≤ x ∧ x < B) : Dg B [x] := fun y hy => by simp at hy; subst hy; exact h
theorem Dg.nil (B : Int) : Dg B [] := fun y hy => by simp at hy
theorem Dg.take {B : Int} {xs : List Int} (h : Dg B xs) (k : Nat) : Dg B (xs.take k) := fun y hy => h y (List.mem_of_mem_take hy)
theorem Dg.drop {B : Int} {xs : List Int} (h : Dg B xs) (k : Nat) : Dg B (xs.drop k) := fun y hy => h y (List.mem_of_mem_drop hy)
theorem Dg.get {B : Int} {xs : List Int} (h : Dg B xs) {i : Nat} (hi : i < xs.length) : 0 ≤ xs.getD i 0 ∧ xs.getD i 0 < B := by
  have e : xs.getD i 0 = xs[i] := by simp [List.getD_eq_getElem?_getD, List.getElem?_eq_getElem hi]
  rw [e]; exact h _ (List.getElem_mem hi)
theorem val_nonneg {B : Int} (hB : 0 ≤ B) {xs : List Int} (h : Dg B xs) : 0 ≤ val B xs := by
  induction xs with
  | nil => exact Int.le_refl _
  | cons x xs ih =>
    rw [val_cons]
    have h1 := h.head
    have h2 := Int.mul_nonneg hB (ih h.tail)
    omega
theorem dig_zero (B : Nat) : dig B 0 = [] := by unfold dig; simp
theorem dig_step {B n : Nat} (hB : 2 ≤ B) (hn : n ≠ 0) : dig B n = ((n % B : Nat) : Int) :: dig B (n / B) := by
  rw [dig, dif_neg (by omega)]
theorem dig_nil {B n : Nat} (hB : 2 ≤ B) : dig B n = [] ↔ n = 0 := by
  constructor
  · intro h
    by_cases e : n = 0
    · exact e
    · rw [dig_step hB e] at h; simp at h
  · intro h; rw [h, dig_zero]
/-- digits without zeros at the high end are the number's -/
theorem strip_dig {B : Nat} (hB : 2 ≤ B) {xs : List Int} (h : Dg B xs) : strip xs = dig B (val B xs).toNat := by
  induction xs with
  | nil => simp [strip, val, dig_zero]
  | cons x xs ih =>
    have i := ih h.tail
    have h1 := h.head
    have v0 := val_nonneg (B := (B : Int)) (by omega) h.tail
    have m0 : 0 ≤ (B : Int) * val B xs := Int.mul_nonneg (by omega) v0
    rw [val_cons]
    unfold strip
    by_cases e : x + (B : Int) * val B xs = 0
    · have x0 : x = 0 := by omega
      have y0 : (B : Int) * val B xs = 0 := by omega
      have v : val B xs = 0 := by
        rcases Int.mul_eq_zero.mp y0 with q | q
        · omega
        · exact q
      rw [e, i, v]
      simp [dig_zero, x0]
    · have n0 : (x + (B : Int) * val B xs).toNat ≠ 0 := by omega
      have d1 : (x + (B : Int) * val B xs) / B = val B xs := by
        rw [Int.add_mul_ediv_left _ _ (by omega), Int.ediv_eq_zero_of_lt h1.1 h1.2]; omega
      have d2 : (x + (B : Int) * val B xs) % B = x := by
        rw [Int.add_mul_emod_self_left, Int.emod_eq_of_lt h1.1 h1.2]
      have c1 : (((x + (B : Int) * val B xs).toNat / B : Nat) : Int) = val B xs := by
        rw [Int.natCast_ediv, Int.toNat_of_nonneg (by omega), d1]
      have c2 : (((x + (B : Int) * val B xs).toNat % B : Nat) : Int) = x := by
        rw [Int.natCast_emod, Int.toNat_of_nonneg (by omega), d2]
      have c3 : (x + (B : Int) * val B xs).toNat / B = (val B xs).toNat := by omega
      rw [dig_step hB n0, c2, c3, ← i]
      have ne : ¬ (strip xs = [] ∧ x = 0) := by
        rintro ⟨s, x0⟩
        rw [i, dig_nil hB] at s
        have : val B xs = 0 := by omega
        rw [this] at e
        simp [x0] at e
      rw [if_neg ne]
theorem val_append (B : Int) (xs ys : List Int) : val B (xs ++ ys) = val B xs + B ^ xs.length * val B ys := by
  induction xs with
  | nil => simp [val]
  | cons x xs ih =>
    rw [List.cons_append, val_cons, val_cons, ih, List.length_cons, Int.pow_succ, Int.mul_add]
    have : B * (B ^ xs.length * val B ys) = B ^ xs.length * B * val B ys := by grind
    omega
theorem strip_length (xs : List Int) : (strip xs).length ≤ xs.length := by
  induction xs with
  | nil => exact Nat.le_refl _
  | cons x xs ih =>
    unfold strip; split
    · simp
    · simp; exact ih
theorem strip_val (B : Int) (xs : List Int) : val B (strip xs) = val B xs := by
  induction xs with
  | nil => rfl
  | cons x xs ih =>
    rw [val_cons]
    unfold strip; split
    · rename_i h
      rw [h.1, val_nil] at ih
      rw [h.2, ← ih, val_nil]; simp
    · rw [val_cons, ih]
theorem strip_zero_end (xs : List Int) : strip (xs ++ [0]) = strip xs := by
  induction xs with
  | nil => simp [strip]
  | cons x xs ih => rw [List.cons_append]; unfold strip; rw [ih]
theorem strip_end (xs : List Int) (x : Int) (h : x ≠ 0) : strip (xs ++ [x]) = xs ++ [x] := by
  induction xs with
  | nil => simp [strip, h]
  | cons y ys ih =>
    rw [List.cons_append]; unfold strip; rw [ih]
    rw [if_neg]
    simp
theorem val_dig {B : Nat} (hB : 2 ≤ B) (n : Nat) : val B (dig B n) = n := by
  induction n using Nat.strongRecOn with
  | _ n ih =>
    by_cases e : n = 0
    · subst e; rw [dig_zero]; rfl
    · rw [dig_step hB e, val_cons, ih (n / B) (Nat.div_lt_self (by omega) hB)]
      have := Nat.mod_add_div n B
      have h2 : (((n % B + B * (n / B) : Nat)) : Int) = (n : Int) := by rw [this]
      rw [Int.natCast_add, Int.natCast_mul] at h2
      exact h2
theorem Dg_dig {B : Nat} (hB : 2 ≤ B) (n : Nat) : Dg B (dig B n) := by
  induction n using Nat.strongRecOn with
  | _ n ih =>
    by_cases e : n = 0
    · subst e; rw [dig_zero]; exact Dg.nil _
    · rw [dig_step hB e]
      intro x hx
      rcases List.mem_cons.mp hx with hx | hx
      · subst hx
        have := Nat.mod_lt n (show 0 < B by omega)
        omega
      · exact ih (n / B) (Nat.div_lt_self (by omega) hB) x hx
end Go.Proofs.YtceecgklgkiffaaGreatDoor.Na

/- plumbref02: digits of base 65536. -/
namespace Go.Proofs.YtceecgklgkiffaaGreatDoor
open Go.ChangeShapes Go.WideShapes Go.ChangeAt Go.RowKit
open Na
set_option linter.unusedVariables false

namespace Na
theorem take_strip {xs : List Int} {m : Nat} (hm : m ≤ xs.length) (hz : strip xs = strip (xs.take m)) (hl : m = 0 ∨ xs.getD (m - 1) 0 ≠ 0) : strip xs = xs.take m := by
  rw [hz]
  rcases hl with h | h
  · subst h; rfl
  · by_cases e : m = 0
    · subst e; rfl
    · have hs : xs.take m = xs.take (m - 1) ++ [xs.getD (m - 1) 0] := by
        have := take_next (xs := xs) (k := m - 1) (by omega)
        rw [Nat.sub_add_cancel (by omega)] at this
        exact this
      rw [hs]; exact strip_end _ _ h
theorem val_drop {B : Int} {xs : List Int} {i : Nat} (h : i < xs.length) : val B (xs.drop i) = xs.getD i 0 + B * val B (xs.drop (i + 1)) := by
  rw [List.drop_eq_getElem_cons h, val_cons]
  simp [List.getD_eq_getElem?_getD, List.getElem?_eq_getElem h]
def OutInv (xs : List Int) (i : Nat) (es : List Int) : Prop := Dg 65536 es ∧ es.length = 4 * i ∧ val 65536 es + 65536 ^ (4 * i) * val 18446744073709551616 (xs.drop i) = val 18446744073709551616 xs
def DigInv (xs : List Int) (i j : Nat) (W : Int) (es : List Int) : Prop := Dg 65536 es ∧ es.length = 4 * i + j ∧ 0 ≤ W ∧ W < 65536 ^ (4 - j) ∧
  val 65536 es + 65536 ^ (4 * i + j) * (W + 65536 ^ (4 - j) * val 18446744073709551616 (xs.drop (i + 1))) = val 18446744073709551616 xs
theorem dig_start (xs : List Int) : OutInv xs 0 [] := ⟨Dg.nil _, rfl, by simp [val]⟩
theorem dig_enter {xs es : List Int} {i : Nat} (h : OutInv xs i es) (hi : i < xs.length) (hx : Dg 18446744073709551616 xs) : DigInv xs i 0 (xs.getD i 0) es := by
  obtain ⟨h1, h2, h3⟩ := h
  have g := hx.get hi
  refine ⟨h1, h2, g.1, g.2, ?_⟩
  rw [val_drop hi] at h3
  exact h3
theorem dig_round {xs es : List Int} {i j : Nat} {W : Int} (h : DigInv xs i j W es) (hj : j < 4) : DigInv xs i (j + 1) (W / 65536) (es ++ [W % 65536]) := by
  obtain ⟨h1, h2, h3, h4, h5⟩ := h
  have e : (65536 : Int) ^ (4 - j) = 65536 ^ (4 - (j + 1)) * 65536 := by
    have : 4 - j = (4 - (j + 1)) + 1 := by omega
    rw [this, Int.pow_succ]
  refine ⟨h1.append (Dg.one (by omega)), by rw [List.length_append, h2]; simp; omega, by omega, ?_, ?_⟩
  · rw [e] at h4
    exact Int.ediv_lt_of_lt_mul (by omega) h4
  · rw [val_append, h2, ← h5, e]
    have e2 : (65536 : Int) ^ (4 * i + (j + 1)) = 65536 ^ (4 * i + j) * 65536 := by rw [← Nat.add_assoc, Int.pow_succ]
    have e3 : W = W % 65536 + 65536 * (W / 65536) := by omega
    rw [e2]
    have e4 : val 65536 [W % 65536] = W % 65536 := by simp [val]
    rw [e4]
    generalize val 18446744073709551616 (xs.drop (i + 1)) = V
    generalize (65536 : Int) ^ (4 * i + j) = P
    generalize (65536 : Int) ^ (4 - (j + 1)) = Q
    generalize W % 65536 = r at *
    generalize W / 65536 = q at *
    subst e3
    grind
theorem dig_bd {xs es : List Int} {i j : Nat} {W : Int} (h : DigInv xs i j W es) : W < 18446744073709551616 := by
  obtain ⟨h1, h2, h3, h4, h5⟩ := h
  have hj : 4 - j = 0 ∨ 4 - j = 1 ∨ 4 - j = 2 ∨ 4 - j = 3 ∨ 4 - j = 4 := by omega
  rcases hj with e | e | e | e | e <;> rw [e] at h4 <;> simp at h4 <;> omega
theorem dig_leave {xs es : List Int} {i : Nat} {W : Int} (h : DigInv xs i 4 W es) : OutInv xs (i + 1) es := by
  obtain ⟨h1, h2, h3, h4, h5⟩ := h
  have w0 : W = 0 := by simp at h4; omega
  subst w0
  refine ⟨h1, by omega, ?_⟩
  have e : 4 * (i + 1) = 4 * i + 4 := by omega
  rw [e]
  simpa using h5
theorem dig_done {xs es : List Int} {n : Nat} (h : OutInv xs n es) (hn : xs.length = n) : strip es = dig 65536 (val 18446744073709551616 xs).toNat := by
  obtain ⟨h1, h2, h3⟩ := h
  rw [List.drop_of_length_le (by omega), val_nil] at h3
  have e : val 65536 es = val 18446744073709551616 xs := by omega
  rw [← e]
  exact strip_dig (B := 65536) (by omega) h1
end Na
theorem Own.cut {k : IntKind} {w : World} {base : Nat} {e : TypeId} {a : Option Addr} {cap : Nat} {xs : List Int} (h : Own k w base e (.slice a xs.length cap) xs) {m : Nat} (hm : m ≤ xs.length) : Own k w base e (.slice a m cap) (xs.take m) := by
  obtain ⟨h1, h2⟩ := h
  have hl : (xs.take m).length = m := by rw [List.length_take]; omega
  unfold Own
  rw [hl]
  refine ⟨by rw [List.length_map, hl]; omega, ?_⟩
  rcases h2 with ⟨hv, h0⟩ | ⟨g, c, cur, hv, hb, hg, hn, hc, hs, ht⟩
  · have m0 : m = 0 := by omega
    simp only [Value.slice.injEq] at hv
    obtain ⟨ha, hz, hc⟩ := hv
    subst m0 ha hc
    exact Or.inl ⟨rfl, rfl⟩
  · simp only [Value.slice.injEq] at hv
    obtain ⟨ha, hz, hc'⟩ := hv
    subst ha hc'
    refine Or.inr ⟨g, cap, cur, rfl, hb, hg, by omega, hc, hs, ?_⟩
    rw [List.map_take, ← ht, List.take_take]
    simp only [Nat.mul_one]
    rw [Nat.min_eq_left hm]

theorem own_cap {k : IntKind} {w : World} {base : Nat} {e : TypeId} {a : Option Addr} {n cap : Nat} {xs : List Int} (h : Own k w base e (.slice a n cap) xs) : cap ≤ maxLen := by
  obtain ⟨h1, h2⟩ := h
  rcases h2 with ⟨hv, h0⟩ | ⟨g, c, cur, hv, hb, hg, hn, hc, hs, ht⟩
  · simp only [Value.slice.injEq] at hv; unfold maxLen; omega
  · simp only [Value.slice.injEq] at hv; omega
end Go.Proofs.YtceecgklgkiffaaGreatDoor

/- plumbref02.words, carried, told. -/
namespace Go.Proofs.YtceecgklgkiffaaGreatDoor
open Go.ChangeShapes Go.WideShapes Go.ChangeAt Go.RowKit
open Na
set_option linter.unusedVariables false

namespace Na
/-- four digits, from the j-th on -/
def chunk (es : List Int) (i j : Nat) : Int := val 65536 ((es.drop (i + j)).take (4 - j))
theorem chunk_end (es : List Int) (i : Nat) : chunk es i 4 = 0 := by simp [chunk, val]
theorem chunk_in {es : List Int} {i j : Nat} (hj : j < 4) (h : i + j < es.length) : chunk es i j = es.getD (i + j) 0 + 65536 * chunk es i (j + 1) := by
  unfold chunk
  have e : 4 - j = (4 - (j + 1)) + 1 := by omega
  rw [List.drop_eq_getElem_cons h, e, List.take_succ_cons, val_cons]
  have : i + j + 1 = i + (j + 1) := by omega
  rw [this]
  simp [List.getD_eq_getElem?_getD, List.getElem?_eq_getElem h]
theorem chunk_out {es : List Int} {i j : Nat} (h : es.length ≤ i + j) : chunk es i j = 0 := by
  unfold chunk
  rw [List.drop_of_length_le h]; simp [val]
theorem chunk_bd {es : List Int} (he : Dg 65536 es) (i j : Nat) (hj : j ≤ 4) : 0 ≤ chunk es i j ∧ chunk es i j < 65536 ^ (4 - j) := by
  obtain ⟨m, hm⟩ : ∃ m, m = 4 - j := ⟨_, rfl⟩
  induction m generalizing j with
  | zero =>
    have : j = 4 := by omega
    subst this; rw [chunk_end]; simp
  | succ m ih =>
    have i1 := ih (j + 1) (by omega) (by omega)
    have e : (65536 : Int) ^ (4 - j) = 65536 ^ (4 - (j + 1)) * 65536 := by
      have : 4 - j = (4 - (j + 1)) + 1 := by omega
      rw [this, Int.pow_succ]
    by_cases h : i + j < es.length
    · rw [chunk_in (by omega) h, e]
      have g := he.get h
      omega
    · rw [chunk_out (by omega), e]
      generalize (65536 : Int) ^ (4 - (j + 1)) = P at *
      omega
theorem val_chunk (es : List Int) (i : Nat) : val 65536 (es.drop i) = chunk es i 0 + 18446744073709551616 * val 65536 (es.drop (i + 4)) := by
  unfold chunk
  have e : es.drop i = (es.drop (i + 0)).take 4 ++ es.drop (i + 4) := by
    have h := (List.take_append_drop 4 (es.drop i)).symm
    rw [List.drop_drop] at h
    exact h
  have e2 := congrArg (val 65536) e
  rw [val_append] at e2
  rw [e2]
  by_cases h : i + 4 ≤ es.length
  · have l : ((es.drop (i + 0)).take 4).length = 4 := by rw [List.length_take, List.length_drop]; omega
    rw [l]; rfl
  · rw [List.drop_of_length_le (by omega : es.length ≤ i + 4), val_nil]; simp
def WordInv (es : List Int) (p : Nat) (ws : List Int) : Prop := Dg 18446744073709551616 ws ∧ ws.length = p ∧
  val 18446744073709551616 ws + 18446744073709551616 ^ p * val 65536 (es.drop (4 * p)) = val 65536 es ∧ (p = 0 ∨ (4 * (p - 1) < es.length ∧ ∃ zs, ws = zs ++ [chunk es (4 * (p - 1)) 0]))
theorem word_start (es : List Int) : WordInv es 0 [] := ⟨Dg.nil _, rfl, by simp [val], Or.inl rfl⟩
theorem word_next {es ws : List Int} {p : Nat} (he : Dg 65536 es) (h : WordInv es p ws) (hp : 4 * p < es.length) : WordInv es (p + 1) (ws ++ [chunk es (4 * p) 0]) := by
  obtain ⟨h1, h2, h3, h4⟩ := h
  have bd := chunk_bd he (4 * p) 0 (by omega)
  refine ⟨h1.append (Dg.one bd), by rw [List.length_append, h2]; rfl, ?_, Or.inr ⟨hp, ws, rfl⟩⟩
  rw [val_append, h2, ← h3, val_chunk es (4 * p)]
  have e : 4 * (p + 1) = 4 * p + 4 := by omega
  rw [e, Int.pow_succ]
  have e1 : val 18446744073709551616 [chunk es (4 * p) 0] = chunk es (4 * p) 0 := by simp [val]
  rw [e1]
  generalize chunk es (4 * p) 0 = c
  generalize val 65536 (es.drop (4 * p + 4)) = v
  generalize (18446744073709551616 : Int) ^ p = P
  grind
theorem strip_last (xs : List Int) : strip xs = [] ∨ ∃ zs x, strip xs = zs ++ [x] ∧ x ≠ 0 := by
  induction xs with
  | nil => exact Or.inl rfl
  | cons x xs ih =>
    unfold strip
    split
    · exact Or.inl rfl
    · rename_i h
      right
      rcases ih with e | ⟨zs, y, e, hy⟩
      · rw [e]; exact ⟨[], x, rfl, fun hx => h ⟨e, hx⟩⟩
      · rw [e]; exact ⟨x :: zs, y, rfl, hy⟩
theorem val_end_pos {zs : List Int} {x : Int} (h : Dg 65536 (zs ++ [x])) (hx : x ≠ 0) : 0 < val 65536 (zs ++ [x]) := by
  rw [val_append]
  have h1 : Dg 65536 zs := fun y hy => h y (List.mem_append_left _ hy)
  have h2 := h x (List.mem_append_right _ (by simp))
  have v := val_nonneg (B := 65536) (by omega) h1
  have e : val 65536 [x] = x := by simp [val]
  rw [e]
  have p : 0 < (65536 : Int) ^ zs.length := Int.pow_pos (by omega)
  have := Int.mul_pos p (show 0 < x by omega)
  omega
theorem word_done {ds es ws : List Int} {p : Nat} (hs : es = strip ds) (he : Dg 65536 es) (h : WordInv es p ws) (hp : es.length ≤ 4 * p) :
    ws = dig 18446744073709551616 (val 65536 es).toNat := by
  obtain ⟨h1, h2, h3, h4⟩ := h
  rw [List.drop_of_length_le hp, val_nil] at h3
  have hv : val 18446744073709551616 ws = val 65536 es := by omega
  have sd := strip_dig (B := 18446744073709551616) (by omega) h1
  have hv' : val ((18446744073709551616 : Nat) : Int) ws = val 65536 es := hv
  rw [hv'] at sd
  rw [← sd]
  rcases h4 with h4 | ⟨hlt, zs, hz⟩
  · have : ws = [] := List.length_eq_zero_iff.mp (by omega)
    rw [this]; rfl
  · rw [hz]
    have hc : chunk es (4 * (p - 1)) 0 = val 65536 (es.drop (4 * (p - 1))) := by
      unfold chunk
      rw [List.take_of_length_le (by rw [List.length_drop]; omega)]; rfl
    have hne : chunk es (4 * (p - 1)) 0 ≠ 0 := by
      rw [hc]
      rcases strip_last ds with e | ⟨ys, y, e, hy⟩
      · rw [← hs] at e; rw [e] at hlt; simp at hlt
      · rw [← hs] at e
        have hl : 4 * (p - 1) ≤ ys.length := by rw [e, List.length_append] at hlt; simp at hlt; omega
        have hd : es.drop (4 * (p - 1)) = ys.drop (4 * (p - 1)) ++ [y] := by rw [e, List.drop_append_of_le_length hl]
        have := val_end_pos (zs := ys.drop (4 * (p - 1))) (x := y) (by rw [← hd]; exact he.drop _) hy
        rw [hd]; omega
    exact (strip_end _ _ hne).symm
end Na

end Go.Proofs.YtceecgklgkiffaaGreatDoor

/- plumbref02: told, Norm, carried, plus, Add, Sum .. -/
namespace Go.Proofs.YtceecgklgkiffaaGreatDoor
open Go.ChangeShapes Go.WideShapes Go.ChangeAt Go.RowKit
open Na
set_option linter.unusedVariables false

namespace Na
/-- the words of a number -/
def words (N : Int) : List Int := dig 18446744073709551616 N.toNat
/-- the digits of a number -/
def digs (N : Int) : List Int := dig 65536 N.toNat
/-- what is answered of a number: its words, unless there are more than 4096; and the error -/
def resL (N : Int) : List Int := if (words N).length ≤ 4096 then words N else []
def resE (N : Int) : Int := if (words N).length ≤ 4096 then 0 else 21
theorem Dg_words (N : Int) : Dg 18446744073709551616 (words N) := Dg_dig (B := 18446744073709551616) (by omega) _
theorem Dg_digs (N : Int) : Dg 65536 (digs N) := Dg_dig (B := 65536) (by omega) _
theorem val_digs {N : Int} (h : 0 ≤ N) : val 65536 (digs N) = N := by
  have := val_dig (B := 65536) (by omega) N.toNat
  unfold digs
  have e : val 65536 (dig 65536 N.toNat) = ((N.toNat : Nat) : Int) := this
  rw [e]; omega
theorem val_words {N : Int} (h : 0 ≤ N) : val 18446744073709551616 (words N) = N := by
  have := val_dig (B := 18446744073709551616) (by omega) N.toNat
  unfold words
  have e : val 18446744073709551616 (dig 18446744073709551616 N.toNat) = ((N.toNat : Nat) : Int) := this
  rw [e]; omega
/-- a number that is below a power has no more digits -/
theorem dig_length {B : Nat} (hB : 2 ≤ B) {n k : Nat} (h : n < B ^ k) : (dig B n).length ≤ k := by
  induction k generalizing n with
  | zero => simp at h; subst h; rw [dig_zero]; simp
  | succ k ih =>
    by_cases e : n = 0
    · subst e; rw [dig_zero]; simp
    · rw [dig_step hB e, List.length_cons]
      have : n / B < B ^ k := by
        rw [Nat.div_lt_iff_lt_mul (by omega), ← Nat.pow_succ]; exact h
      have := ih this
      omega
theorem val_lt {B : Int} (hB : 0 < B) {xs : List Int} (h : Dg B xs) : val B xs < B ^ xs.length := by
  induction xs with
  | nil => simp [val]
  | cons x xs ih =>
    have i := ih h.tail
    have g := h.head
    rw [val_cons, List.length_cons, Int.pow_succ, Int.mul_comm _ B]
    have : B * (val B xs + 1) ≤ B * B ^ xs.length := Int.mul_le_mul_of_nonneg_left (by omega) (by omega)
    rw [Int.mul_add] at this
    omega
end Na

end Go.Proofs.YtceecgklgkiffaaGreatDoor

/- plumbref02: carried, plus, compare. -/
namespace Go.Proofs.YtceecgklgkiffaaGreatDoor
open Go.ChangeShapes Go.WideShapes Go.ChangeAt Go.RowKit
open Na
set_option linter.unusedVariables false

namespace Na
/-- numbers from 0 on, none above L -/
def Bd (L : Int) (xs : List Int) : Prop := ∀ x ∈ xs, 0 ≤ x ∧ x ≤ L
theorem Bd.get {L : Int} {xs : List Int} (h : Bd L xs) {i : Nat} (hi : i < xs.length) : 0 ≤ xs.getD i 0 ∧ xs.getD i 0 ≤ L := by
  have e : xs.getD i 0 = xs[i] := by simp [List.getD_eq_getElem?_getD, List.getElem?_eq_getElem hi]
  rw [e]; exact h _ (List.getElem_mem hi)
theorem Bd.val_nonneg {L B : Int} (hB : 0 ≤ B) {xs : List Int} (h : Bd L xs) : 0 ≤ val B xs := by
  induction xs with
  | nil => exact Int.le_refl _
  | cons x xs ih =>
    rw [val_cons]
    have h1 := h x List.mem_cons_self
    have h2 := Int.mul_nonneg hB (ih (fun y hy => h y (List.mem_cons_of_mem _ hy)))
    omega
theorem Bd.one {L x : Int} (h : 0 ≤ x ∧ x ≤ L) : Bd L [x] := fun y hy => by simp at hy; subst hy; exact h
theorem Bd.append {L : Int} {xs ys : List Int} (h : Bd L xs) (k : Bd L ys) : Bd L (xs ++ ys) := fun z hz => by
  rcases List.mem_append.mp hz with hz | hz
  · exact h z hz
  · exact k z hz
theorem Bd.nil (L : Int) : Bd L [] := fun y hy => by simp at hy
def CarInv (ds : List Int) (i : Nat) (C : Int) (es : List Int) : Prop := Dg 65536 es ∧ es.length = i ∧ 0 ≤ C ∧ C ≤ 281474976710656 ∧
  val 65536 es + 65536 ^ i * (C + val 65536 (ds.drop i)) = val 65536 ds
theorem car_start (ds : List Int) : CarInv ds 0 0 [] := ⟨Dg.nil _, rfl, by omega, by omega, by simp [val]⟩
theorem car_step {ds es : List Int} {i : Nat} {C x : Int} (h : CarInv ds i C es) (hx : 0 ≤ x ∧ x ≤ 281474976710656) (hd : val 65536 (ds.drop i) = x + 65536 * val 65536 (ds.drop (i + 1))) :
    CarInv ds (i + 1) ((C + x) / 65536) (es ++ [(C + x) % 65536]) := by
  obtain ⟨h1, h2, h3, h4, h5⟩ := h
  refine ⟨h1.append (Dg.one (by omega)), by rw [List.length_append, h2]; rfl, by omega, by omega, ?_⟩
  rw [val_append, h2, ← h5, hd, Int.pow_succ]
  have e4 : val 65536 [(C + x) % 65536] = (C + x) % 65536 := by simp [val]
  have e3 : C + x = (C + x) % 65536 + 65536 * ((C + x) / 65536) := by omega
  rw [e4]
  generalize val 65536 (ds.drop (i + 1)) = V
  generalize (65536 : Int) ^ i = P
  generalize (C + x) % 65536 = r at *
  generalize (C + x) / 65536 = q at *
  have e5 : C = r + 65536 * q - x := by omega
  subst e5
  grind
theorem drop_step {ds : List Int} {i : Nat} : val 65536 (ds.drop i) = ds.getD i 0 + 65536 * val 65536 (ds.drop (i + 1)) := by
  by_cases h : i < ds.length
  · exact val_drop h
  · rw [List.drop_of_length_le (by omega), List.drop_of_length_le (by omega)]
    have : ds.getD i 0 = 0 := by simp [List.getD_eq_getElem?_getD, List.getElem?_eq_none (Nat.le_of_not_lt h)]
    rw [this]; rfl
theorem car_done {ds es : List Int} {i : Nat} (h : CarInv ds i 0 es) (hi : ds.length ≤ i) : strip es = digs (val 65536 ds) := by
  obtain ⟨h1, h2, h3, h4, h5⟩ := h
  rw [List.drop_of_length_le hi, val_nil] at h5
  have e : val 65536 es = val 65536 ds := by simpa using h5
  unfold digs
  rw [← e]
  exact strip_dig (B := 65536) (by omega) h1
/-- beyond the digits what is carried melts away -/
def Melts (n k : Nat) (C : Int) : Prop := n ≤ k → C * 65536 ^ (k - n) ≤ 281474976710656
theorem melts_small {n k : Nat} {C : Int} (h : Melts n k C) (hC : 0 < C) : k ≤ n + 3 := by
  by_cases hk : n + 4 ≤ k
  · have g := h (by omega)
    have e : (65536 : Int) ^ (k - n) = 65536 ^ (k - n - 4) * 18446744073709551616 := by
      have : k - n = (k - n - 4) + 4 := by omega
      rw [this, Int.pow_add]; simp
    have p : 0 < (65536 : Int) ^ (k - n - 4) := Int.pow_pos (by omega)
    rw [e] at g
    have q := Int.mul_pos hC p
    have r : C * (65536 ^ (k - n - 4) * 18446744073709551616) = C * 65536 ^ (k - n - 4) * 18446744073709551616 := by rw [Int.mul_assoc]
    rw [r] at g
    omega
  · omega
theorem melts_next {n k : Nat} {C : Int} (h : Melts n k C) (hk : n ≤ k) (h0 : 0 ≤ C) : Melts n (k + 1) (C / 65536) := by
  intro _
  have g := h hk
  have e : (65536 : Int) ^ (k + 1 - n) = 65536 ^ (k - n) * 65536 := by
    have : k + 1 - n = (k - n) + 1 := by omega
    rw [this, Int.pow_succ]
  rw [e]
  have p : 0 < (65536 : Int) ^ (k - n) := Int.pow_pos (by omega)
  have r : C / 65536 * (65536 ^ (k - n) * 65536) = C / 65536 * 65536 * 65536 ^ (k - n) := by grind
  have s : C / 65536 * 65536 * 65536 ^ (k - n) ≤ C * 65536 ^ (k - n) := Int.mul_le_mul_of_nonneg_right (by omega) (by omega)
  omega
theorem melts_below {n k : Nat} {C : Int} (hk : k < n) (hC : C ≤ 281474976710656) : Melts n (k + 1) C := by
  intro h
  have : k + 1 - n = 0 := by omega
  rw [this]; simp; exact hC
end Na

end Go.Proofs.YtceecgklgkiffaaGreatDoor

/- plumbref02: plus, compare. -/
namespace Go.Proofs.YtceecgklgkiffaaGreatDoor
open Go.ChangeShapes Go.WideShapes Go.ChangeAt Go.RowKit
open Na
set_option linter.unusedVariables false

namespace Na
def PlusInv (xs ys : List Int) (k : Nat) (fs : List Int) : Prop := Bd 131070 fs ∧ fs.length = k ∧ val 65536 fs + 65536 ^ k * (val 65536 (xs.drop k) + val 65536 (ys.drop k)) = val 65536 xs + val 65536 ys
theorem plus_start (xs ys : List Int) : PlusInv xs ys 0 [] := ⟨Bd.nil _, rfl, by simp [val]⟩
theorem getD_out {xs : List Int} {k : Nat} (h : xs.length ≤ k) : xs.getD k 0 = 0 := by simp [List.getD_eq_getElem?_getD, List.getElem?_eq_none h]
theorem Dg.getAny {xs : List Int} (h : Dg 65536 xs) (k : Nat) : 0 ≤ xs.getD k 0 ∧ xs.getD k 0 ≤ 65535 := by
  by_cases hk : k < xs.length
  · have := h.get hk; omega
  · rw [getD_out (by omega)]; omega
theorem plus_step {xs ys fs : List Int} {k : Nat} (hx : Dg 65536 xs) (hy : Dg 65536 ys) (h : PlusInv xs ys k fs) : PlusInv xs ys (k + 1) (fs ++ [xs.getD k 0 + ys.getD k 0]) := by
  obtain ⟨h1, h2, h3⟩ := h
  have gx := hx.getAny k
  have gy := hy.getAny k
  refine ⟨h1.append (Bd.one (by omega)), by rw [List.length_append, h2]; rfl, ?_⟩
  rw [val_append, h2, ← h3, drop_step (ds := xs) (i := k), drop_step (ds := ys) (i := k), Int.pow_succ]
  have e4 : val 65536 [xs.getD k 0 + ys.getD k 0] = xs.getD k 0 + ys.getD k 0 := by simp [val]
  rw [e4]
  generalize val 65536 (xs.drop (k + 1)) = V
  generalize val 65536 (ys.drop (k + 1)) = U
  generalize (65536 : Int) ^ k = P
  grind
theorem plus_done {xs ys fs : List Int} {k : Nat} (h : PlusInv xs ys k fs) (hx : xs.length ≤ k) (hy : ys.length ≤ k) : val 65536 fs = val 65536 xs + val 65536 ys := by
  obtain ⟨h1, h2, h3⟩ := h
  rw [List.drop_of_length_le hx, List.drop_of_length_le hy, val_nil] at h3
  simpa using h3
end Na

end Go.Proofs.YtceecgklgkiffaaGreatDoor

/- plumbref02: compare, Cmp. -/
namespace Go.Proofs.YtceecgklgkiffaaGreatDoor
open Go.ChangeShapes Go.WideShapes Go.ChangeAt Go.RowKit
open Na
set_option linter.unusedVariables false

namespace Na
def ordN (a b : Int) : Int := if a < b then -1 else if b < a then 1 else 0
theorem ordN_lt {a b : Int} (h : a < b) : ordN a b = -1 := by unfold ordN; rw [if_pos h]
theorem ordN_gt {a b : Int} (h : b < a) : ordN a b = 1 := by unfold ordN; rw [if_neg (by omega), if_pos h]
theorem ordN_eq {a b : Int} (h : a = b) : ordN a b = 0 := by unfold ordN; rw [if_neg (by omega), if_neg (by omega)]
theorem dig_last {B : Nat} (hB : 2 ≤ B) (n : Nat) (h : n ≠ 0) : ∃ zs x, dig B n = zs ++ [x] ∧ x ≠ 0 := by
  induction n using Nat.strongRecOn with
  | _ n ih =>
    rw [dig_step hB h]
    by_cases e : n / B = 0
    · rw [e, dig_zero]
      refine ⟨[], _, rfl, ?_⟩
      have : n % B = n := Nat.mod_eq_of_lt ((Nat.div_eq_zero_iff_lt (by omega)).mp e)
      omega
    · obtain ⟨zs, x, hz, hx⟩ := ih (n / B) (Nat.div_lt_self (by omega) hB) e
      exact ⟨_ :: zs, x, by rw [hz]; rfl, hx⟩
theorem dig_ge {N : Int} (h : 0 < N) : (65536 : Int) ^ ((digs N).length - 1) ≤ N := by
  obtain ⟨zs, x, hz, hx⟩ := dig_last (B := 65536) (by omega) N.toNat (by omega)
  have hz' : digs N = zs ++ [x] := hz
  have dg := Dg_digs N
  have v := val_digs (N := N) (by omega)
  rw [hz'] at dg v ⊢
  have gx := dg x (List.mem_append_right _ (by simp))
  have gz : Dg 65536 zs := fun y hy => dg y (List.mem_append_left _ hy)
  have v0 := val_nonneg (B := 65536) (by omega) gz
  rw [val_append] at v
  have e : val 65536 [x] = x := by simp [val]
  rw [e] at v
  have l : (zs ++ [x]).length - 1 = zs.length := by simp
  rw [l]
  have p : 0 < (65536 : Int) ^ zs.length := Int.pow_pos (by omega)
  have m : (65536 : Int) ^ zs.length * 1 ≤ 65536 ^ zs.length * x := Int.mul_le_mul_of_nonneg_left (by omega) (by omega)
  omega
theorem len_lt {A B : Int} (hA : 0 ≤ A) (hB : 0 ≤ B) (h : (digs A).length < (digs B).length) : A < B := by
  have hb : 0 < B := by
    by_cases e : B = 0
    · subst e; simp [digs, dig_zero] at h
    · omega
  have g := dig_ge hb
  have l := val_lt (B := 65536) (by omega) (Dg_digs A)
  rw [val_digs hA] at l
  have m : (65536 : Int) ^ (digs A).length ≤ 65536 ^ ((digs B).length - 1) := by
    have c1 : ((65536 ^ (digs A).length : Nat) : Int) = (65536 : Int) ^ (digs A).length := by simp
    have c2 : ((65536 ^ ((digs B).length - 1) : Nat) : Int) = (65536 : Int) ^ ((digs B).length - 1) := by simp
    have : 65536 ^ (digs A).length ≤ 65536 ^ ((digs B).length - 1) := Nat.pow_le_pow_right (by omega) (by omega)
    omega
  omega
theorem val_at {xs : List Int} {i : Nat} (h : i < xs.length) : val 65536 xs = val 65536 (xs.take i) + 65536 ^ i * (xs.getD i 0 + 65536 * val 65536 (xs.drop (i + 1))) := by
  have e := congrArg (val 65536) (List.take_append_drop i xs).symm
  rw [val_append, List.length_take, Nat.min_eq_left (by omega), val_drop h] at e
  exact e
theorem digit_lt {xs ys : List Int} {i : Nat} (hx : Dg 65536 xs) (hy : Dg 65536 ys) (h1 : i < xs.length) (h2 : i < ys.length) (hd : xs.drop (i + 1) = ys.drop (i + 1)) (h : xs.getD i 0 < ys.getD i 0) : val 65536 xs < val 65536 ys := by
  rw [val_at h1, val_at h2, hd]
  have a := val_lt (B := 65536) (by omega) (hx.take i)
  rw [List.length_take, Nat.min_eq_left (by omega)] at a
  have b := val_nonneg (B := 65536) (by omega) (hy.take i)
  have p : 0 < (65536 : Int) ^ i := Int.pow_pos (by omega)
  generalize val 65536 (ys.drop (i + 1)) = V
  have m : (65536 : Int) ^ i * (xs.getD i 0 + 65536 * V + 1) ≤ 65536 ^ i * (ys.getD i 0 + 65536 * V) := Int.mul_le_mul_of_nonneg_left (by omega) (by omega)
  rw [Int.mul_add, Int.mul_one] at m
  omega
theorem drop_next {xs ys : List Int} {i : Nat} (h1 : i < xs.length) (h2 : i < ys.length) (hd : xs.drop (i + 1) = ys.drop (i + 1)) (h : xs.getD i 0 = ys.getD i 0) : xs.drop i = ys.drop i := by
  rw [List.drop_eq_getElem_cons h1, List.drop_eq_getElem_cons h2, hd]
  have e1 : xs.getD i 0 = xs[i] := by simp [List.getD_eq_getElem?_getD, List.getElem?_eq_getElem h1]
  have e2 : ys.getD i 0 = ys[i] := by simp [List.getD_eq_getElem?_getD, List.getElem?_eq_getElem h2]
  rw [← e1, ← e2, h]
end Na

theorem ret_i {k : IntKind} {a b : Int} (h : a = b) : Ending.returned (.int k a) = .returned (.int k b) := by rw [h]
end Go.Proofs.YtceecgklgkiffaaGreatDoor

/- plumbref02: Cmp, Add, Sub, From, Word. -/
namespace Go.Proofs.YtceecgklgkiffaaGreatDoor
open Go.ChangeShapes Go.WideShapes Go.ChangeAt Go.RowKit
open Na
set_option linter.unusedVariables false

namespace Na
/-- the number of a list of words -/
def num (xs : List Int) : Int := val 18446744073709551616 xs
/-- a list of words -/
abbrev Ws (xs : List Int) : Prop := Dg 18446744073709551616 xs
theorem num_nonneg {xs : List Int} (h : Ws xs) : 0 ≤ num xs := val_nonneg (B := 18446744073709551616) (by omega) h
theorem digs_len_lt {N : Int} {k : Nat} (h0 : 0 ≤ N) (h : N < 65536 ^ k) : (digs N).length ≤ k := by
  refine dig_length (by omega) ?_
  have c : ((65536 ^ k : Nat) : Int) = (65536 : Int) ^ k := by simp
  omega
theorem num_lt {xs : List Int} (h : Ws xs) : num xs < 65536 ^ (4 * xs.length) := by
  have l := val_lt (by omega) h
  have e : (65536 : Int) ^ (4 * xs.length) = 18446744073709551616 ^ xs.length := by rw [Int.pow_mul]; rfl
  rw [e]; exact l
theorem digs_len {xs : List Int} (h : Ws xs) : (digs (num xs)).length ≤ 4 * xs.length := digs_len_lt (num_nonneg h) (num_lt h)
theorem pow_mono {a b : Nat} (h : a ≤ b) : (65536 : Int) ^ a ≤ 65536 ^ b := by
  have c1 : ((65536 ^ a : Nat) : Int) = (65536 : Int) ^ a := by simp
  have c2 : ((65536 ^ b : Nat) : Int) = (65536 : Int) ^ b := by simp
  have : 65536 ^ a ≤ 65536 ^ b := Nat.pow_le_pow_right (by omega) h
  omega
theorem add_lt {A B : Int} {p q : Nat} (hA : A < 65536 ^ p) (hB : B < 65536 ^ q) : A + B < 65536 ^ (p + q + 1) := by
  have m1 := pow_mono (show p ≤ p + q by omega)
  have m2 := pow_mono (show q ≤ p + q by omega)
  rw [Int.pow_succ]
  have p0 : 0 < (65536 : Int) ^ (p + q) := Int.pow_pos (by omega)
  omega
end Na

end Go.Proofs.YtceecgklgkiffaaGreatDoor

/- plumbref02: Sub, From, Word. -/
namespace Go.Proofs.YtceecgklgkiffaaGreatDoor
open Go.ChangeShapes Go.WideShapes Go.ChangeAt Go.RowKit
open Na
set_option linter.unusedVariables false

namespace Na
def subE (A B : Int) : Int := if A < B then 20 else resE (A - B)
def subL (A B : Int) : List Int := if A < B then [] else resL (A - B)
def SubInv (xs ys : List Int) (k : Nat) (lent : Int) (fs : List Int) : Prop := Dg 65536 fs ∧ fs.length = k ∧ (lent = 0 ∨ lent = 1) ∧ val 65536 fs + 65536 ^ k * (val 65536 (xs.drop k) - val 65536 (ys.drop k) - lent) = val 65536 xs - val 65536 ys
theorem sub_start (xs ys : List Int) : SubInv xs ys 0 0 [] := ⟨Dg.nil _, rfl, Or.inl rfl, by simp [val]⟩
theorem sub_step {xs ys fs : List Int} {k : Nat} {lent v l2 : Int} (hx : Dg 65536 xs) (hy : Dg 65536 ys) (h : SubInv xs ys k lent fs) (hv : 0 ≤ v ∧ v < 65536) (hl : l2 = 0 ∨ l2 = 1) (e : xs.getD k 0 - lent - ys.getD k 0 = v - 65536 * l2) :
    SubInv xs ys (k + 1) l2 (fs ++ [v]) := by
  obtain ⟨h1, h2, h3, h4⟩ := h
  refine ⟨h1.append (Dg.one hv), by rw [List.length_append, h2]; rfl, hl, ?_⟩
  rw [val_append, h2, ← h4, drop_step (ds := xs) (i := k), drop_step (ds := ys) (i := k), Int.pow_succ]
  have e4 : val 65536 [v] = v := by simp [val]
  rw [e4]
  generalize val 65536 (xs.drop (k + 1)) = V
  generalize val 65536 (ys.drop (k + 1)) = U
  generalize (65536 : Int) ^ k = P
  generalize xs.getD k 0 = x at *
  generalize ys.getD k 0 = y at *
  have : x = v - 65536 * l2 + lent + y := by omega
  subst this
  grind
theorem sub_done {xs ys fs : List Int} {k : Nat} {lent : Int} (h : SubInv xs ys k lent fs) (hx : xs.length ≤ k) (hy : ys.length ≤ k) (hle : val 65536 ys ≤ val 65536 xs) : val 65536 fs = val 65536 xs - val 65536 ys := by
  obtain ⟨h1, h2, h3, h4⟩ := h
  rw [List.drop_of_length_le hx, List.drop_of_length_le hy, val_nil] at h4
  have l := val_lt (B := 65536) (by omega) h1
  rw [h2] at l
  rcases h3 with rfl | rfl
  · simpa using h4
  · have : (65536 : Int) ^ k * (0 - 0 - 1) = - 65536 ^ k := by grind
    rw [this] at h4
    omega
end Na

end Go.Proofs.YtceecgklgkiffaaGreatDoor

/- plumbref02: Word, Bits, Bit, Zeros. -/
namespace Go.Proofs.YtceecgklgkiffaaGreatDoor
open Go.ChangeShapes Go.WideShapes Go.ChangeAt Go.RowKit
open Na
set_option linter.unusedVariables false

namespace Na
def wordV (N : Int) : Int := if N < 18446744073709551616 then N else 0
def wordB (N : Int) : Bool := decide (N < 18446744073709551616)
theorem words_cases {N : Int} (h : 0 ≤ N) : (N = 0 ∧ words N = []) ∨ (0 < N ∧ N < 18446744073709551616 ∧ words N = [N]) ∨ (18446744073709551616 ≤ N ∧ 2 ≤ (words N).length) := by
  unfold words
  by_cases e : N = 0
  · subst e; exact Or.inl ⟨rfl, dig_zero _⟩
  · rw [dig_step (by omega) (by omega)]
    by_cases l : N < 18446744073709551616
    · right; left
      have e1 : N.toNat / 18446744073709551616 = 0 := by omega
      have e2 : ((N.toNat % 18446744073709551616 : Nat) : Int) = N := by omega
      rw [e1, dig_zero, e2]
      exact ⟨by omega, l, rfl⟩
    · right; right
      refine ⟨by omega, ?_⟩
      rw [dig_step (by omega) (by omega)]
      simp
end Na

theorem ret_ib {k : IntKind} {a b : Int} {p q : Bool} (h : a = b) (h' : p = q) : Ending.returned (.tuple #[.int k a, .bool p]) = .returned (.tuple #[.int k b, .bool q]) := by rw [h, h']
end Go.Proofs.YtceecgklgkiffaaGreatDoor

/- plumbref02.Mul: as by hand. -/
namespace Go.Proofs.YtceecgklgkiffaaGreatDoor
open Go.ChangeShapes Go.WideShapes Go.ChangeAt Go.RowKit
open Na
set_option linter.unusedVariables false

theorem Own.cellAt {k : IntKind} {w : World} {base g cap n : Nat} {e : TypeId} {xs : List Int} (h : Own k w base e (.slice (some ⟨g, 0, none⟩) n cap) xs) (hn : n = xs.length) {j : Nat} (hj : j < n) : w.cell? ⟨g, j, none⟩ = some (.int k (xs.getD j 0)) := by
  subst hn
  have := World.ownsRow.cellAt h.row j (by omega)
  rw [this, List.getElem?_map]
  simp [List.getElem?_eq_getElem hj, List.getD_eq_getElem?_getD]
theorem Own.frozenAt {k : IntKind} {w : World} {base g cap n : Nat} {e : TypeId} {xs : List Int} (h : Own k w base e (.slice (some ⟨g, 0, none⟩) n cap) xs) (hn : n = xs.length) (j : Nat) : w.frozen? ⟨g, j, none⟩ = false := by
  subst hn; exact World.ownsRow.frozenAt h.row j
theorem Own.set {k : IntKind} {w : World} {base g cap n : Nat} {e : TypeId} {xs : List Int} (h : Own k w base e (.slice (some ⟨g, 0, none⟩) n cap) xs) (hn : n = xs.length) (j : Nat) (x : Int) : Own k (w.setCell ⟨g, j, none⟩ (.int k x)) base e (.slice (some ⟨g, 0, none⟩) n cap) (xs.set j x) := by
  subst hn
  have := (World.ownsRow.stored h.row j (.int k x)).1
  unfold Own
  rw [List.length_set, List.map_set]; exact this
theorem Own.base_le {k : IntKind} {w : World} {base g cap n : Nat} {e : TypeId} {xs : List Int} (h : Own k w base e (.slice (some ⟨g, 0, none⟩) n cap) xs) : base ≤ g := by
  rcases h.2 with ⟨h', _⟩ | ⟨g', cap', cur, h', hb, _⟩
  · simp at h'
  · simp only [Value.slice.injEq, Option.some.injEq, Addr.mk.injEq] at h'
    omega
theorem own_zeros {k : IntKind} {w : World} {base : Nat} {e : TypeId} {v : Value} {n : Nat} (h : w.ownsRow base e 1 v n (madeCells #[Value.int k 0] n).toList) : Own k w base e v (List.replicate n 0) := by
  unfold Own
  rw [List.length_replicate, List.map_replicate, ← toList_madeCells_one]
  exact h

namespace Na
theorem val_set {B : Int} {xs : List Int} {j : Nat} (x : Int) (h : j < xs.length) : val B (xs.set j x) = val B xs + B ^ j * (x - xs.getD j 0) := by
  induction xs generalizing j with
  | nil => simp at h
  | cons y ys ih =>
    cases j with
    | zero => simp [val, List.getD_eq_getElem?_getD]; omega
    | succ i =>
      rw [List.set_cons_succ, val_cons, val_cons, ih (by simpa using h), Int.pow_succ]
      have : (y :: ys).getD (i + 1) 0 = ys.getD i 0 := by simp [List.getD_eq_getElem?_getD]
      rw [this]
      generalize ys.getD i 0 = z
      generalize val B ys = V
      generalize B ^ i = P
      grind
theorem Dg.set {B x : Int} {xs : List Int} (h : Dg B xs) (j : Nat) (hx : 0 ≤ x ∧ x < B) : Dg B (xs.set j x) := fun y hy => by
  rcases List.mem_or_eq_of_mem_set hy with q | q
  · exact h y q
  · subst q; exact hx
theorem val_zeros (B : Int) (n : Nat) : val B (List.replicate n 0) = 0 := by
  induction n with
  | zero => rfl
  | succ n ih => rw [List.replicate_succ, val_cons, ih]; simp
theorem Dg_zeros {B : Int} (hB : 0 < B) (n : Nat) : Dg B (List.replicate n 0) := fun y hy => by
  have := List.eq_of_mem_replicate hy
  subst this; omega
/-- behind i digits of the first -/
def MulInv (ps qs : List Int) (i : Nat) (ds : List Int) : Prop := Dg 65536 ds ∧ ds.length = ps.length + qs.length ∧ val 65536 ds = val 65536 (ps.take i) * val 65536 qs
/-- behind k digits of the second, c carried -/
def RowInv (ps qs : List Int) (i k : Nat) (c : Int) (ds : List Int) : Prop := Dg 65536 ds ∧ ds.length = ps.length + qs.length ∧ 0 ≤ c ∧ c ≤ 65535 ∧ k ≤ qs.length + 1 ∧
  val 65536 ds + 65536 ^ (i + k) * c = val 65536 (ps.take i) * val 65536 qs + 65536 ^ i * (ps.getD i 0 * val 65536 (qs.take k))
theorem mul_start (ps qs : List Int) : MulInv ps qs 0 (List.replicate (ps.length + qs.length) 0) :=
  ⟨Dg_zeros (by omega) _, by simp, by rw [val_zeros]; simp [val]⟩
theorem row_start {ps qs ds : List Int} {i : Nat} (h : MulInv ps qs i ds) : RowInv ps qs i 0 0 ds := by
  obtain ⟨h1, h2, h3⟩ := h
  exact ⟨h1, h2, by omega, by omega, by omega, by simp [h3, val]⟩
theorem take_val {xs : List Int} {k : Nat} (h : k < xs.length) : val 65536 (xs.take (k + 1)) = val 65536 (xs.take k) + 65536 ^ k * xs.getD k 0 := by
  rw [take_next h, val_append, List.length_take, Nat.min_eq_left (by omega)]
  simp [val]
theorem row_step {ps qs ds : List Int} {i k : Nat} {c v : Int} (h : RowInv ps qs i k c ds) (hi : i + k < ds.length) (hk : k < qs.length) (hp : 0 ≤ ps.getD i 0 ∧ ps.getD i 0 ≤ 65535) (hq : 0 ≤ qs.getD k 0 ∧ qs.getD k 0 ≤ 65535)
    (hv : v = ds.getD (i + k) 0 + c + ps.getD i 0 * qs.getD k 0) : RowInv ps qs i (k + 1) (v / 65536) (ds.set (i + k) (v % 65536)) := by
  obtain ⟨h1, h2, h3, h4, h5, h6⟩ := h
  have g := h1.get hi
  have m0 : 0 ≤ ps.getD i 0 * qs.getD k 0 := Int.mul_nonneg hp.1 hq.1
  have m1 : ps.getD i 0 * qs.getD k 0 ≤ 65535 * 65535 := Int.mul_le_mul hp.2 hq.2 hq.1 (by omega)
  refine ⟨h1.set _ (by omega), by rw [List.length_set]; exact h2, by omega, by omega, by omega, ?_⟩
  rw [val_set _ hi, take_val hk]
  have e : (65536 : Int) ^ (i + (k + 1)) = 65536 ^ (i + k) * 65536 := by rw [← Nat.add_assoc, Int.pow_succ]
  have e2 : (65536 : Int) ^ (i + k) = 65536 ^ i * 65536 ^ k := Int.pow_add ..
  have e3 : v = v % 65536 + 65536 * (v / 65536) := by omega
  rw [e]
  have h7 : 65536 ^ i * (ps.getD i 0 * (val 65536 (qs.take k) + 65536 ^ k * qs.getD k 0)) = 65536 ^ i * (ps.getD i 0 * val 65536 (qs.take k)) + 65536 ^ (i + k) * (ps.getD i 0 * qs.getD k 0) := by rw [e2]; grind
  rw [h7]
  generalize (65536 : Int) ^ (i + k) = P at *
  generalize v % 65536 = r at *
  generalize v / 65536 = q at *
  generalize ds.getD (i + k) 0 = d at *
  generalize ps.getD i 0 * qs.getD k 0 = pq at *
  have h8 : P * (r - d) + P * 65536 * q = P * c + P * pq := by
    have : r + 65536 * q = d + c + pq := by omega
    have h9 : r = d + c + pq - 65536 * q := by omega
    subst h9; grind
  omega
theorem row_last {ps qs ds : List Int} {i k : Nat} {c v : Int} (h : RowInv ps qs i k c ds) (hi : i + k < ds.length) (hk : k = qs.length) (hv : v = ds.getD (i + k) 0 + c) : RowInv ps qs i (k + 1) (v / 65536) (ds.set (i + k) (v % 65536)) := by
  obtain ⟨h1, h2, h3, h4, h5, h6⟩ := h
  have g := h1.get hi
  refine ⟨h1.set _ (by omega), by rw [List.length_set]; exact h2, by omega, by omega, by omega, ?_⟩
  have t : qs.take (k + 1) = qs.take k := by rw [List.take_of_length_le (by omega), List.take_of_length_le (by omega)]
  rw [val_set _ hi, t, ← h6]
  have e : (65536 : Int) ^ (i + (k + 1)) = 65536 ^ (i + k) * 65536 := by rw [← Nat.add_assoc, Int.pow_succ]
  rw [e]
  generalize (65536 : Int) ^ (i + k) = P at *
  generalize ds.getD (i + k) 0 = d at *
  have e3 : v = v % 65536 + 65536 * (v / 65536) := by omega
  generalize v % 65536 = r at *
  generalize v / 65536 = q at *
  have h9 : r = d + c - 65536 * q := by omega
  subst h9; grind
/-- the whole of a row -/
theorem row_total {ps qs ds : List Int} {i k : Nat} {c : Int} (h : RowInv ps qs i k c ds) (hi : i < ps.length) (hk : qs.length ≤ k) : val 65536 ds + 65536 ^ (i + k) * c = val 65536 (ps.take (i + 1)) * val 65536 qs := by
  obtain ⟨h1, h2, h3, h4, h5, h6⟩ := h
  rw [h6, List.take_of_length_le hk, take_val hi]
  grind
theorem row_fits {ps qs ds : List Int} {i k : Nat} {c : Int} (hp : Dg 65536 ps) (hq : Dg 65536 qs) (h : RowInv ps qs i k c ds) (hi : i < ps.length) (hk : qs.length ≤ k) (hc : 0 < c) : k = qs.length := by
  have t := row_total h hi hk
  have v0 := val_nonneg (B := 65536) (by omega) h.1
  have l1 := val_lt (B := 65536) (by omega) (hp.take (i + 1))
  rw [List.length_take, Nat.min_eq_left (by omega)] at l1
  have l2 := val_lt (B := 65536) (by omega) hq
  have n1 := val_nonneg (B := 65536) (by omega) (hp.take (i + 1))
  have n2 := val_nonneg (B := 65536) (by omega) hq
  have m : val 65536 (ps.take (i + 1)) * val 65536 qs < 65536 ^ (i + 1) * 65536 ^ qs.length := by
    have p : 0 < (65536 : Int) ^ (i + 1) := Int.pow_pos (by omega)
    have a := Int.mul_le_mul_of_nonneg_right (Int.le_of_lt l1) n2
    have b := Int.mul_lt_mul_of_pos_left l2 p
    omega
  rw [← Int.pow_add] at m
  have q : (65536 : Int) ^ (i + k) * 1 ≤ 65536 ^ (i + k) * c := Int.mul_le_mul_of_nonneg_left (by omega) (Int.le_of_lt (Int.pow_pos (by omega)))
  by_cases g : k = qs.length
  · exact g
  · have := pow_mono (show i + 1 + qs.length ≤ i + k by omega)
    omega
theorem row_done {ps qs ds : List Int} {i k : Nat} (h : RowInv ps qs i k 0 ds) (hi : i < ps.length) (hk : qs.length ≤ k) : MulInv ps qs (i + 1) ds := by
  have t := row_total h hi hk
  exact ⟨h.1, h.2.1, by simpa using t⟩
theorem mul_done {ps qs ds : List Int} (h : MulInv ps qs ps.length ds) : val 65536 ds = val 65536 ps * val 65536 qs := by
  have := h.2.2
  rw [List.take_of_length_le (Nat.le_refl _)] at this
  exact this
theorem dig_len_ge {N : Int} {k : Nat} (h : 18446744073709551616 ^ k ≤ N) : k < (words N).length := by
  have n0 : 0 ≤ N := Int.le_trans (Int.le_of_lt (Int.pow_pos (by omega))) h
  have l := val_lt (B := 18446744073709551616) (by omega) (Dg_words N)
  rw [val_words n0] at l
  by_cases g : k < (words N).length
  · exact g
  · have c1 : ((18446744073709551616 ^ (words N).length : Nat) : Int) = (18446744073709551616 : Int) ^ (words N).length := by simp
    have c2 : ((18446744073709551616 ^ k : Nat) : Int) = (18446744073709551616 : Int) ^ k := by simp
    have : 18446744073709551616 ^ (words N).length ≤ 18446744073709551616 ^ k := Nat.pow_le_pow_right (by omega) (by omega)
    omega
theorem mul_huge {A B : Int} (hA : 0 < A) (hB : 0 < B) (h : 16385 < (digs A).length + (digs B).length) : 4096 < (words (A * B)).length := by
  refine dig_len_ge ?_
  have a := dig_ge hA
  have b := dig_ge hB
  have pa : 0 < (65536 : Int) ^ ((digs A).length - 1) := Int.pow_pos (by omega)
  have pb : 0 < (65536 : Int) ^ ((digs B).length - 1) := Int.pow_pos (by omega)
  have m : (65536 : Int) ^ ((digs A).length - 1) * 65536 ^ ((digs B).length - 1) ≤ A * B := Int.mul_le_mul a b (by omega) (by omega)
  rw [← Int.pow_add] at m
  have e : (18446744073709551616 : Int) ^ 4096 = 65536 ^ (4 * 4096) := by rw [Int.pow_mul]; rfl
  rw [e]
  have := pow_mono (show 4 * 4096 ≤ (digs A).length - 1 + ((digs B).length - 1) by omega)
  omega
end Na
end Go.Proofs.YtceecgklgkiffaaGreatDoor

/- plumbref02.Mul: the walk. -/
namespace Go.Proofs.YtceecgklgkiffaaGreatDoor
open Go.ChangeShapes Go.WideShapes Go.ChangeAt Go.RowKit
open Na
set_option linter.unusedVariables false

namespace Na
theorem digs_nil {A : Int} (h : 0 ≤ A) : (digs A).length = 0 ↔ A = 0 := by
  rw [List.length_eq_zero_iff]
  unfold digs
  rw [dig_nil (by omega)]
  omega
theorem res_zero {N : Int} (h : N = 0) : resL N = [] ∧ resE N = 0 := by
  subst h
  have : words 0 = [] := dig_zero _
  unfold resL resE
  rw [this]
  exact ⟨rfl, rfl⟩
theorem res_huge {N : Int} (h : 4096 < (words N).length) : resL N = [] ∧ resE N = 21 := by
  unfold resL resE
  rw [if_neg (by omega), if_neg (by omega)]
  exact ⟨rfl, rfl⟩
end Na

end Go.Proofs.YtceecgklgkiffaaGreatDoor

/- plumbref02.Shl -/
namespace Go.Proofs.YtceecgklgkiffaaGreatDoor
open Go.ChangeShapes Go.WideShapes Go.ChangeAt Go.RowKit
open Na
set_option linter.unusedVariables false

namespace Na
def shlE (N n : Int) : Int := if n < 0 then 22 else resE (N * 2 ^ n.toNat)
def shlL (N n : Int) : List Int := if n < 0 then [] else resL (N * 2 ^ n.toNat)
def ShlI (ps : List Int) (s i : Nat) (f : Int) (fs : List Int) : Prop := Bd 281474976710656 fs ∧ fs.length = s + i ∧ val 65536 fs = 65536 ^ s * (f * val 65536 (ps.take i))
theorem shl_begin (ps : List Int) (s : Nat) (f : Int) : ShlI ps s 0 f (List.replicate s 0) :=
  ⟨fun y hy => by have := List.eq_of_mem_replicate hy; subst this; omega, by simp, by rw [val_zeros]; simp [val]⟩
theorem shl_more {ps fs : List Int} {s i : Nat} {f : Int} (h : ShlI ps s i f fs) (hi : i < ps.length) (hp : 0 ≤ ps.getD i 0 ∧ ps.getD i 0 ≤ 65535) (hf : 0 ≤ f ∧ f ≤ 32768) : ShlI ps s (i + 1) f (fs ++ [ps.getD i 0 * f]) := by
  obtain ⟨h1, h2, h3⟩ := h
  have m0 : 0 ≤ ps.getD i 0 * f := Int.mul_nonneg hp.1 hf.1
  have m1 : ps.getD i 0 * f ≤ 65535 * 32768 := Int.mul_le_mul hp.2 hf.2 hf.1 (by omega)
  refine ⟨h1.append (Bd.one (by omega)), by rw [List.length_append, h2]; simp; omega, ?_⟩
  rw [val_append, h2, h3, take_val hi, Int.pow_add]
  have e4 : val 65536 [ps.getD i 0 * f] = ps.getD i 0 * f := by simp [val]
  rw [e4]
  generalize val 65536 (ps.take i) = V
  generalize (65536 : Int) ^ s = P
  generalize (65536 : Int) ^ i = Q
  generalize ps.getD i 0 = x
  grind
theorem shl_whole {ps fs : List Int} {t : Nat} (h : ShlI ps (t / 16) ps.length (2 ^ (t % 16)) fs) : val 65536 fs = val 65536 ps * 2 ^ t := by
  have := h.2.2
  rw [List.take_of_length_le (Nat.le_refl _)] at this
  rw [this]
  have e : (2 : Int) ^ t = 65536 ^ (t / 16) * 2 ^ (t % 16) := by
    have e1 : (65536 : Int) = 2 ^ 16 := rfl
    rw [e1, ← Int.pow_mul, ← Int.pow_add]
    congr 1; omega
  rw [e]
  grind
theorem pow2_small {k : Nat} (h : k ≤ 15) : 0 ≤ (2 : Int) ^ k ∧ (2 : Int) ^ k ≤ 32768 := by
  have c : ((2 ^ k : Nat) : Int) = (2 : Int) ^ k := by simp
  have l : 2 ^ k ≤ 2 ^ 15 := Nat.pow_le_pow_right (by omega) h
  rw [← c]
  exact ⟨Int.natCast_nonneg _, Int.ofNat_le.mpr l⟩
theorem shl_huge {A : Int} {t k : Nat} (hA : 0 < A) (h : 64 * k ≤ t) : k < (words (A * 2 ^ t)).length := by
  refine dig_len_ge ?_
  have e : (18446744073709551616 : Int) ^ k = 2 ^ (64 * k) := by rw [Int.pow_mul]; rfl
  rw [e]
  have c1 : ((2 ^ (64 * k) : Nat) : Int) = (2 : Int) ^ (64 * k) := by simp
  have c2 : ((2 ^ t : Nat) : Int) = (2 : Int) ^ t := by simp
  have l : 2 ^ (64 * k) ≤ 2 ^ t := Nat.pow_le_pow_right (by omega) h
  have l' := Int.ofNat_le.mpr l
  rw [c1, c2] at l'
  have p : 0 ≤ (2 : Int) ^ t := Int.le_of_lt (Int.pow_pos (by omega))
  have m : 1 * (2 : Int) ^ t ≤ A * 2 ^ t := Int.mul_le_mul_of_nonneg_right (by omega) p
  rw [Int.one_mul] at m
  exact Int.le_trans l' m
theorem shl_len {A : Int} {t n1 : Nat} (h0 : 0 ≤ A) (h : A < 65536 ^ n1) : (digs (A * 2 ^ t)).length ≤ n1 + t := by
  refine digs_len_lt (Int.mul_nonneg h0 (Int.le_of_lt (Int.pow_pos (by omega)))) ?_
  rw [Int.pow_add]
  have p2 : 0 < (2 : Int) ^ t := Int.pow_pos (by omega)
  have p3 : 0 < (65536 : Int) ^ n1 := Int.pow_pos (by omega)
  have l : (2 : Int) ^ t ≤ 65536 ^ t := by
    have c1 : ((2 ^ t : Nat) : Int) = (2 : Int) ^ t := by simp
    have c2 : ((65536 ^ t : Nat) : Int) = (65536 : Int) ^ t := by simp
    have q : 2 ^ t ≤ 65536 ^ t := Nat.pow_le_pow_left (by omega) t
    rw [← c1, ← c2]; exact Int.ofNat_le.mpr q
  have a := Int.mul_lt_mul_of_pos_right h p2
  have b := Int.mul_le_mul_of_nonneg_left l (Int.le_of_lt p3)
  omega
end Na

end Go.Proofs.YtceecgklgkiffaaGreatDoor

/- plumbref02: Bits, Bit, Zeros. -/
namespace Go.Proofs.YtceecgklgkiffaaGreatDoor
open Go.ChangeShapes Go.WideShapes Go.ChangeAt Go.RowKit
open Na
set_option linter.unusedVariables false

namespace Na
/-- how many bits -/
def bitsN (N : Int) : Int := if N ≤ 0 then 0 else (Nat.log2 N.toNat : Int) + 1
theorem p2pos (k : Nat) : 0 < (2 : Int) ^ k := Int.pow_pos (by omega)
theorem p2cast (k : Nat) : ((2 ^ k : Nat) : Int) = (2 : Int) ^ k := by simp
theorem bitsN_eq {N : Int} {k : Nat} (h1 : 2 ^ k ≤ N) (h2 : N < 2 ^ (k + 1)) : bitsN N = k + 1 := by
  have p := p2pos k
  unfold bitsN
  rw [if_neg (by omega)]
  have e : N.toNat.log2 = k := by
    rw [Nat.log2_eq_iff (by omega)]
    have a1 := p2cast k
    have a2 := p2cast (k + 1)
    omega
  rw [e]
theorem p16 (q : Nat) : (65536 : Int) ^ q = 2 ^ (16 * q) := by rw [Int.pow_mul]; rfl
/-- the highest digit tells the bits -/
theorem bits_top {zs : List Int} {x : Int} {k : Nat} (hz : Dg 65536 zs) (h1 : 2 ^ k ≤ x) (h2 : x < 2 ^ (k + 1)) : bitsN (val 65536 (zs ++ [x])) = 16 * zs.length + k + 1 := by
  have e : val 65536 (zs ++ [x]) = val 65536 zs + 2 ^ (16 * zs.length) * x := by rw [val_append, p16]; simp [val]
  rw [e]
  have v0 := val_nonneg (B := 65536) (by omega) hz
  have v1 := val_lt (B := 65536) (by omega) hz
  rw [p16] at v1
  have p := p2pos (16 * zs.length)
  have a : (2 : Int) ^ (16 * zs.length) * 2 ^ k ≤ 2 ^ (16 * zs.length) * x := Int.mul_le_mul_of_nonneg_left h1 (by omega)
  have b : (2 : Int) ^ (16 * zs.length) * (x + 1) ≤ 2 ^ (16 * zs.length) * 2 ^ (k + 1) := Int.mul_le_mul_of_nonneg_left (by omega) (by omega)
  rw [← Int.pow_add] at a b
  rw [Int.mul_add, Int.mul_one] at b
  have := bitsN_eq (N := val 65536 zs + 2 ^ (16 * zs.length) * x) (k := 16 * zs.length + k) (by omega) (by rw [Nat.add_assoc]; omega)
  rw [this]; omega
def BitI (x : Int) (k : Nat) (v : Int) : Prop := v = x / 2 ^ k ∧ (k = 0 ∨ 2 ^ (k - 1) ≤ x)
theorem bit_start (x : Int) : BitI x 0 x := ⟨by simp, Or.inl rfl⟩
theorem bit_step {x v : Int} {k : Nat} (h : BitI x k v) (hv : 0 < v) : BitI x (k + 1) (v / 2) := by
  obtain ⟨h1, h2⟩ := h
  have p := p2pos k
  refine ⟨?_, Or.inr ?_⟩
  · rw [h1, Int.pow_succ, Int.ediv_ediv_of_nonneg (by omega)]
  · simp only [Nat.add_sub_cancel]
    have a := Int.mul_ediv_self_le (x := x) (k := 2 ^ k) (by omega)
    rw [← h1] at a
    have b : (2 : Int) ^ k * 1 ≤ 2 ^ k * v := Int.mul_le_mul_of_nonneg_left (by omega) (by omega)
    omega
theorem bit_small {x v : Int} {k : Nat} (h : BitI x k v) (hx : x ≤ 65535) : k ≤ 16 := by
  rcases h.2 with h2 | h2
  · omega
  · by_cases g : 17 ≤ k
    · have c := p2cast (k - 1)
      have l : 2 ^ 16 ≤ 2 ^ (k - 1) := Nat.pow_le_pow_right (by omega) (by omega)
      have l' := Int.ofNat_le.mpr l
      rw [c] at l'
      have : ((2 ^ 16 : Nat) : Int) = 65536 := rfl
      omega
    · omega
theorem bit_end {x v : Int} {k : Nat} (h : BitI x k v) (hx : 0 < x) (hv : ¬ 0 < v) : ∃ j : Nat, k = j + 1 ∧ 2 ^ j ≤ x ∧ x < 2 ^ (j + 1) := by
  obtain ⟨h1, h2⟩ := h
  have p := p2pos k
  have b := Int.lt_mul_ediv_self_add (x := x) (k := 2 ^ k) p
  have v0 : 0 ≤ v := by rw [h1]; exact Int.ediv_nonneg (by omega) (by omega)
  have vz : v = 0 := by omega
  rw [← h1, vz] at b
  rcases h2 with h2 | h2
  · subst h2; simp at b; omega
  · have hk : k ≠ 0 := by
      intro e; subst e; simp at b; omega
    refine ⟨k - 1, by omega, h2, ?_⟩
    have : k - 1 + 1 = k := by omega
    rw [this]; omega
/-- bit i -/
def bitN (N i : Int) : Int := if i < 0 then 0 else N / 2 ^ i.toNat % 2
theorem bit_out {N : Int} {L t : Nat} (h0 : 0 ≤ N) (h : N < 65536 ^ L) (ht : L ≤ t / 16) : N / 2 ^ t = 0 := by
  rw [p16] at h
  have l : 2 ^ (16 * L) ≤ 2 ^ t := Nat.pow_le_pow_right (by omega) (by omega)
  have l' := Int.ofNat_le.mpr l
  rw [p2cast, p2cast] at l'
  exact Int.ediv_eq_zero_of_lt h0 (by omega)
theorem bit_in {ps : List Int} {t : Nat} (hp : Dg 65536 ps) (h : t / 16 < ps.length) : val 65536 ps / 2 ^ t % 2 = ps.getD (t / 16) 0 / 2 ^ (t % 16) % 2 := by
  rw [val_at h]
  have e : (2 : Int) ^ t = 65536 ^ (t / 16) * 2 ^ (t % 16) := by
    rw [p16, ← Int.pow_add]
    congr 1; omega
  have v0 := val_nonneg (B := 65536) (by omega) (hp.take (t / 16))
  have v1 := val_lt (B := 65536) (by omega) (hp.take (t / 16))
  rw [List.length_take, Nat.min_eq_left (by omega)] at v1
  have p : 0 < (65536 : Int) ^ (t / 16) := Int.pow_pos (by omega)
  rw [e, ← Int.ediv_ediv_of_nonneg (by omega), Int.add_mul_ediv_left _ _ (by omega), Int.ediv_eq_zero_of_lt v0 v1, Int.zero_add]
  have r : (65536 : Int) = 2 ^ (t % 16) * (2 ^ (15 - t % 16) * 2) := by
    rw [← Int.pow_succ, ← Int.pow_add]
    have : t % 16 + (15 - t % 16 + 1) = 16 := by omega
    rw [Nat.succ_eq_add_one, this]; rfl
  have q := p2pos (t % 16)
  have e2 : ps.getD (t / 16) 0 + 65536 * val 65536 (ps.drop (t / 16 + 1)) = ps.getD (t / 16) 0 + 2 ^ (t % 16) * ((2 ^ (15 - t % 16) * 2) * val 65536 (ps.drop (t / 16 + 1))) := by
    rw [← Int.mul_assoc, ← r]
  rw [e2, Int.add_mul_ediv_left _ _ (by omega)]
  have e3 : (2 : Int) ^ (15 - t % 16) * 2 * val 65536 (ps.drop (t / 16 + 1)) = 2 * (2 ^ (15 - t % 16) * val 65536 (ps.drop (t / 16 + 1))) := by grind
  rw [e3]
  omega
end Na

end Go.Proofs.YtceecgklgkiffaaGreatDoor

/- plumbref02: Zeros. -/
namespace Go.Proofs.YtceecgklgkiffaaGreatDoor
open Go.ChangeShapes Go.WideShapes Go.ChangeAt Go.RowKit
open Na
set_option linter.unusedVariables false

namespace Na
def ctz (n : Nat) : Nat := if h : n = 0 ∨ n % 2 = 1 then 0 else ctz (n / 2) + 1
termination_by n
decreasing_by omega
def zerosN (N : Int) : Int := (ctz N.toNat : Int)
theorem ctz_odd (m : Nat) : ctz (2 * m + 1) = 0 := by unfold ctz; rw [dif_pos (by omega)]
theorem ctz_pow (k m : Nat) : ctz (2 ^ k * (2 * m + 1)) = k := by
  induction k with
  | zero => rw [Nat.pow_zero, Nat.one_mul]; exact ctz_odd m
  | succ k ih =>
    have e : 2 ^ (k + 1) * (2 * m + 1) = 2 * (2 ^ k * (2 * m + 1)) := by rw [Nat.pow_succ]; grind
    have p : 0 < 2 ^ k * (2 * m + 1) := Nat.mul_pos (Nat.two_pow_pos k) (by omega)
    rw [e, ctz, dif_neg (by omega)]
    have d : 2 * (2 ^ k * (2 * m + 1)) / 2 = 2 ^ k * (2 * m + 1) := by omega
    rw [d, ih]
theorem zerosN_eq {N u : Int} {k : Nat} (h : N = 2 ^ k * u) (hu : 0 < u) (ho : u % 2 = 1) : zerosN N = k := by
  obtain ⟨m, hm⟩ : ∃ m : Nat, u = 2 * (m : Int) + 1 := ⟨(u / 2).toNat, by omega⟩
  have e : N.toNat = 2 ^ k * (2 * m + 1) := by
    have c := p2cast k
    have : N = ((2 ^ k * (2 * m + 1) : Nat) : Int) := by rw [h, hm, Int.natCast_mul, c]; rfl
    omega
  unfold zerosN
  rw [e, ctz_pow]
theorem zerosN_zero : zerosN 0 = 0 := by unfold zerosN; rw [show (0 : Int).toNat = 0 from rfl, ctz]; simp
def ZeI (x : Int) (k : Nat) (v : Int) : Prop := x = 2 ^ k * v ∧ 0 < v
theorem ze_start {x : Int} (h : 0 < x) : ZeI x 0 x := ⟨by simp, h⟩
theorem ze_step {x v : Int} {k : Nat} (h : ZeI x k v) (he : v % 2 = 0) : ZeI x (k + 1) (v / 2) := by
  obtain ⟨h1, h2⟩ := h
  refine ⟨?_, by omega⟩
  rw [h1, Int.pow_succ, Int.mul_assoc]
  have : 2 * (v / 2) = v := by omega
  rw [this]
theorem ze_small {x v : Int} {k : Nat} (h : ZeI x k v) (hx : x ≤ 65535) : k ≤ 15 := by
  by_cases g : 16 ≤ k
  · have l : 2 ^ 16 ≤ 2 ^ k := Nat.pow_le_pow_right (by omega) g
    have l' : (65536 : Int) ≤ 2 ^ k := by rw [← p2cast]; exact Int.ofNat_le.mpr l
    have p := p2pos k
    have m : (2 : Int) ^ k * 1 ≤ 2 ^ k * v := Int.mul_le_mul_of_nonneg_left (by have := h.2; omega) (by omega)
    rw [← h.1, Int.mul_one] at m
    generalize (2 : Int) ^ k = P at *
    omega
  · omega
theorem ze_end {ps : List Int} {x v : Int} {i k : Nat} (hp : Dg 65536 ps) (hi : i < ps.length) (hz : val 65536 (ps.take i) = 0) (hx : ps.getD i 0 = x) (h : ZeI x k v) (ho : v % 2 = 1) (hk : k ≤ 15) : zerosN (val 65536 ps) = 16 * i + k := by
  have e := val_at hi
  rw [hz, hx, Int.zero_add, h.1] at e
  have V0 := val_nonneg (B := 65536) (by omega) (hp.drop (i + 1))
  generalize val 65536 (ps.drop (i + 1)) = V at *
  have r : (65536 : Int) = 2 ^ k * (2 * 2 ^ (15 - k)) := by
    have : (2 : Int) * 2 ^ (15 - k) = 2 ^ (16 - k) := by
      have : 16 - k = (15 - k) + 1 := by omega
      rw [this, Int.pow_succ, Int.mul_comm]
    rw [this, ← Int.pow_add]
    have : k + (16 - k) = 16 := by omega
    rw [this]; rfl
  have e2 : 2 ^ k * v + 65536 * V = 2 ^ k * (v + 2 * (2 ^ (15 - k) * V)) := by
    have : (65536 : Int) * V = 2 ^ k * (2 * 2 ^ (15 - k)) * V := by rw [← r]
    rw [this]; grind
  rw [e2, p16, ← Int.mul_assoc, ← Int.pow_add] at e
  have w0 : 0 ≤ (2 : Int) ^ (15 - k) * V := Int.mul_nonneg (Int.le_of_lt (p2pos _)) V0
  have := zerosN_eq e (by have := h.2; omega) (by omega)
  rw [this]; omega
theorem ze_skip {ps : List Int} {i : Nat} (hi : i < ps.length) (hz : val 65536 (ps.take i) = 0) (hx : ps.getD i 0 = 0) : val 65536 (ps.take (i + 1)) = 0 := by
  rw [take_val hi, hz, hx]; simp
end Na

end Go.Proofs.YtceecgklgkiffaaGreatDoor

/- plumbref02: Shr. -/
namespace Go.Proofs.YtceecgklgkiffaaGreatDoor
open Go.ChangeShapes Go.WideShapes Go.ChangeAt Go.RowKit
open Na
set_option linter.unusedVariables false

namespace Na
def shrE (N n : Int) : Int := if n < 0 then 22 else resE (N / 2 ^ n.toNat)
def shrL (N n : Int) : List Int := if n < 0 then [] else resL (N / 2 ^ n.toNat)
def shrB (N n : Int) : Bool := if n < 0 then false else if resE (N / 2 ^ n.toNat) = 0 then decide (N % 2 ^ n.toNat ≠ 0) else false
/-- the sixteen powers of two that a digit is shifted by -/
def Pw (f : Int) : Prop := f = 1 ∨ f = 2 ∨ f = 4 ∨ f = 8 ∨ f = 16 ∨ f = 32 ∨ f = 64 ∨ f = 128 ∨ f = 256 ∨ f = 512 ∨ f = 1024 ∨ f = 2048 ∨ f = 4096 ∨ f = 8192 ∨ f = 16384 ∨ f = 32768
theorem pw_of {k : Nat} (h : k ≤ 15) : Pw (2 ^ k) := by
  have : k = 0 ∨ k = 1 ∨ k = 2 ∨ k = 3 ∨ k = 4 ∨ k = 5 ∨ k = 6 ∨ k = 7 ∨ k = 8 ∨ k = 9 ∨ k = 10 ∨ k = 11 ∨ k = 12 ∨ k = 13 ∨ k = 14 ∨ k = 15 := by omega
  rcases this with rfl | rfl | rfl | rfl | rfl | rfl | rfl | rfl | rfl | rfl | rfl | rfl | rfl | rfl | rfl | rfl <;> unfold Pw <;> decide
theorem pw_digit {f x y : Int} (hf : Pw f) (hx : 0 ≤ x ∧ x ≤ 65535) (hy : 0 ≤ y ∧ y ≤ 65535) :
    0 ≤ y % f * (65536 / f) ∧ y % f * (65536 / f) ≤ 65535 ∧ 0 ≤ x / f + y % f * (65536 / f) ∧ x / f + y % f * (65536 / f) < 65536 ∧ f * (x / f + y % f * (65536 / f)) = x - x % f + 65536 * (y % f) := by
  rcases hf with rfl | rfl | rfl | rfl | rfl | rfl | rfl | rfl | rfl | rfl | rfl | rfl | rfl | rfl | rfl | rfl <;> simp <;> omega
theorem pw_one {f x : Int} (hf : Pw f) (hx : 0 ≤ x ∧ x ≤ 65535) : 0 ≤ x / f ∧ x / f < 65536 ∧ f * (x / f) = x - x % f ∧ 0 ≤ x % f ∧ x % f < f ∧ 1 ≤ f ∧ f ≤ 32768 := by
  rcases hf with rfl | rfl | rfl | rfl | rfl | rfl | rfl | rfl | rfl | rfl | rfl | rfl | rfl | rfl | rfl | rfl <;> omega
def ShrI (ps : List Int) (f : Int) (k j : Nat) (fs : List Int) : Prop := Dg 65536 fs ∧ fs.length = j ∧ f * val 65536 fs + ps.getD k 0 % f = val 65536 ((ps.drop k).take j) + 65536 ^ j * (ps.getD (k + j) 0 % f)
theorem sr_start (ps : List Int) (f : Int) (k : Nat) : ShrI ps f k 0 [] := ⟨Dg.nil _, rfl, by simp [val]⟩
theorem drop_take_val {ps : List Int} {k j : Nat} (h : k + j < ps.length) : val 65536 ((ps.drop k).take (j + 1)) = val 65536 ((ps.drop k).take j) + 65536 ^ j * ps.getD (k + j) 0 := by
  rw [take_val (by rw [List.length_drop]; omega)]
  have : (ps.drop k).getD j 0 = ps.getD (k + j) 0 := by simp [List.getD_eq_getElem?_getD, List.getElem?_drop]
  rw [this]
theorem sr_next {ps fs : List Int} {f v : Int} {k j : Nat} (h : ShrI ps f k j fs) (hlt : k + j < ps.length) (hv : 0 ≤ v ∧ v < 65536) (e : f * v = ps.getD (k + j) 0 - ps.getD (k + j) 0 % f + 65536 * (ps.getD (k + j + 1) 0 % f)) : ShrI ps f k (j + 1) (fs ++ [v]) := by
  obtain ⟨h1, h2, h3⟩ := h
  refine ⟨h1.append (Dg.one hv), by rw [List.length_append, h2]; rfl, ?_⟩
  rw [val_append, h2, drop_take_val hlt, Int.pow_succ, ← Nat.add_assoc]
  have e4 : val 65536 [v] = v := by simp [val]
  rw [e4, Int.mul_add]
  have e5 : f * (65536 ^ j * v) = 65536 ^ j * (f * v) := by grind
  rw [e5, e]
  generalize (65536 : Int) ^ j = P at *
  generalize ps.getD (k + j) 0 = x at *
  generalize x % f = r at *
  generalize ps.getD (k + j + 1) 0 % f = s at *
  generalize ps.getD k 0 % f = u at *
  generalize val 65536 ((ps.drop k).take j) = V at *
  have e6 : P * (x - r + 65536 * s) = P * x - P * r + P * 65536 * s := by grind
  rw [e6]
  have e7 : P * 65536 * s = P * 65536 * s := rfl
  generalize P * 65536 * s = Z at *
  generalize P * x = X at *
  generalize P * r = R at *
  omega
theorem sr_whole {ps fs : List Int} {f : Int} {k j : Nat} (h : ShrI ps f k j fs) (hj : k + j = ps.length) (hf : 0 < f) (hr : 0 ≤ ps.getD k 0 % f ∧ ps.getD k 0 % f < f) : val 65536 fs = val 65536 (ps.drop k) / f := by
  obtain ⟨h1, h2, h3⟩ := h
  rw [List.take_of_length_le (by rw [List.length_drop]; omega), getD_out (by omega : ps.length ≤ k + j)] at h3
  have e : val 65536 (ps.drop k) = f * val 65536 fs + ps.getD k 0 % f := by simpa using h3.symm
  rw [e, Int.add_comm, Int.add_mul_ediv_left _ _ (by omega), Int.ediv_eq_zero_of_lt hr.1 hr.2]
  omega
theorem sr_split {ps : List Int} {t : Nat} (hp : Dg 65536 ps) (h : t / 16 < ps.length) : val 65536 ps / 2 ^ t = val 65536 (ps.drop (t / 16)) / 2 ^ (t % 16) ∧
    val 65536 ps % 2 ^ t = val 65536 (ps.take (t / 16)) + 65536 ^ (t / 16) * (ps.getD (t / 16) 0 % 2 ^ (t % 16)) := by
  have e : (2 : Int) ^ t = 65536 ^ (t / 16) * 2 ^ (t % 16) := by
    rw [p16, ← Int.pow_add]
    congr 1; omega
  have v0 := val_nonneg (B := 65536) (by omega) (hp.take (t / 16))
  have v1 := val_lt (B := 65536) (by omega) (hp.take (t / 16))
  rw [List.length_take, Nat.min_eq_left (by omega)] at v1
  have p : 0 < (65536 : Int) ^ (t / 16) := Int.pow_pos (by omega)
  have q := p2pos (t % 16)
  have ev : val 65536 ps = val 65536 (ps.take (t / 16)) + 65536 ^ (t / 16) * val 65536 (ps.drop (t / 16)) := by
    rw [val_at h, val_drop h]
  have ed := val_drop (B := 65536) h
  have pw := pw_of (show t % 16 ≤ 15 by omega)
  have r : ∃ z : Int, (65536 : Int) = 2 ^ (t % 16) * z := by
    rcases pw with g | g | g | g | g | g | g | g | g | g | g | g | g | g | g | g <;> rw [g] <;> first | exact ⟨65536, rfl⟩ | exact ⟨32768, rfl⟩ | exact ⟨16384, rfl⟩ | exact ⟨8192, rfl⟩ | exact ⟨4096, rfl⟩ | exact ⟨2048, rfl⟩ | exact ⟨1024, rfl⟩ | exact ⟨512, rfl⟩ | exact ⟨256, rfl⟩ | exact ⟨128, rfl⟩ | exact ⟨64, rfl⟩ | exact ⟨32, rfl⟩ | exact ⟨16, rfl⟩ | exact ⟨8, rfl⟩ | exact ⟨4, rfl⟩ | exact ⟨2, rfl⟩
  obtain ⟨z, hz⟩ := r
  have em : val 65536 (ps.drop (t / 16)) % 2 ^ (t % 16) = ps.getD (t / 16) 0 % 2 ^ (t % 16) := by
    rw [ed]
    have : (65536 : Int) * val 65536 (ps.drop (t / 16 + 1)) = 2 ^ (t % 16) * (z * val 65536 (ps.drop (t / 16 + 1))) := by rw [← Int.mul_assoc, ← hz]
    rw [this, Int.add_mul_emod_self_left]
  constructor
  · rw [ev, e, ← Int.ediv_ediv_of_nonneg (by omega), Int.add_mul_ediv_left _ _ (by omega), Int.ediv_eq_zero_of_lt v0 v1, Int.zero_add]
  · rw [← em, e]
    have hD := Int.mul_ediv_add_emod (val 65536 (ps.drop (t / 16))) (2 ^ (t % 16))
    have m0 : 0 ≤ val 65536 (ps.drop (t / 16)) % 2 ^ (t % 16) := Int.emod_nonneg _ (by omega)
    have m1 : val 65536 (ps.drop (t / 16)) % 2 ^ (t % 16) < 2 ^ (t % 16) := Int.emod_lt_of_pos _ q
    have split : val 65536 ps = (val 65536 (ps.take (t / 16)) + 65536 ^ (t / 16) * (val 65536 (ps.drop (t / 16)) % 2 ^ (t % 16))) + 65536 ^ (t / 16) * 2 ^ (t % 16) * (val 65536 (ps.drop (t / 16)) / 2 ^ (t % 16)) := by
      rw [ev]
      generalize val 65536 (ps.drop (t / 16)) / 2 ^ (t % 16) = Y at *
      generalize val 65536 (ps.drop (t / 16)) % 2 ^ (t % 16) = Z at *
      generalize (2 : Int) ^ (t % 16) = F at *
      generalize (65536 : Int) ^ (t / 16) = P at *
      rw [← hD]; grind
    rw [split, Int.add_mul_emod_self_left]
    have up : (65536 : Int) ^ (t / 16) * (val 65536 (ps.drop (t / 16)) % 2 ^ (t % 16) + 1) ≤ 65536 ^ (t / 16) * 2 ^ (t % 16) := Int.mul_le_mul_of_nonneg_left (by omega) (by omega)
    have lo : 0 ≤ (65536 : Int) ^ (t / 16) * (val 65536 (ps.drop (t / 16)) % 2 ^ (t % 16)) := Int.mul_nonneg (by omega) m0
    rw [Int.mul_add, Int.mul_one] at up
    exact Int.emod_eq_of_lt (by omega) (by omega)
/-- is one of the first digits not 0? -/
def lostD (ps : List Int) (i : Nat) : Bool := decide (val 65536 (ps.take i) ≠ 0)
theorem lost_next {ps : List Int} {i : Nat} (hp : Dg 65536 ps) (h : i < ps.length) : lostD ps (i + 1) = (lostD ps i || (ps.getD i 0 != 0)) := by
  unfold lostD
  rw [take_val h, Bool.eq_iff_iff]
  have v0 := val_nonneg (B := 65536) (by omega) (hp.take i)
  have g := hp.getAny i
  have p : 0 < (65536 : Int) ^ i := Int.pow_pos (by omega)
  have q : 0 ≤ (65536 : Int) ^ i * ps.getD i 0 := Int.mul_nonneg (by omega) g.1
  have z : (65536 : Int) ^ i * ps.getD i 0 = 0 ↔ ps.getD i 0 = 0 := by
    constructor
    · intro h
      rcases Int.mul_eq_zero.mp h with h | h
      · omega
      · exact h
    · intro h; rw [h]; simp
  generalize (65536 : Int) ^ i * ps.getD i 0 = Z at *
  generalize ps.getD i 0 = x at *
  generalize val 65536 (ps.take i) = V at *
  simp
  omega
theorem lost_all {ps : List Int} {t : Nat} (hp : Dg 65536 ps) (h : t / 16 < ps.length) : decide (val 65536 ps % 2 ^ t ≠ 0) = (lostD ps (t / 16) || (ps.getD (t / 16) 0 % 2 ^ (t % 16) != 0)) := by
  rw [(sr_split hp h).2]
  unfold lostD
  rw [Bool.eq_iff_iff]
  have v0 := val_nonneg (B := 65536) (by omega) (hp.take (t / 16))
  have g := pw_one (pw_of (show t % 16 ≤ 15 by omega)) (hp.getAny (t / 16))
  have p : 0 < (65536 : Int) ^ (t / 16) := Int.pow_pos (by omega)
  have q : 0 ≤ (65536 : Int) ^ (t / 16) * (ps.getD (t / 16) 0 % 2 ^ (t % 16)) := Int.mul_nonneg (by omega) g.2.2.2.1
  have z : (65536 : Int) ^ (t / 16) * (ps.getD (t / 16) 0 % 2 ^ (t % 16)) = 0 ↔ ps.getD (t / 16) 0 % 2 ^ (t % 16) = 0 := by
    constructor
    · intro h
      rcases Int.mul_eq_zero.mp h with h | h
      · omega
      · exact h
    · intro h; rw [h]; simp
  generalize (65536 : Int) ^ (t / 16) * (ps.getD (t / 16) 0 % 2 ^ (t % 16)) = Z at *
  generalize ps.getD (t / 16) 0 % 2 ^ (t % 16) = x at *
  generalize val 65536 (ps.take (t / 16)) = V at *
  simp
  omega
theorem shr_out {N : Int} {L t : Nat} (h0 : 0 ≤ N) (h : N < 65536 ^ L) (ht : L ≤ t / 16) : N / 2 ^ t = 0 ∧ N % 2 ^ t = N := by
  refine ⟨bit_out h0 h ht, ?_⟩
  rw [p16] at h
  have l : 2 ^ (16 * L) ≤ 2 ^ t := Nat.pow_le_pow_right (by omega) (by omega)
  have l' := Int.ofNat_le.mpr l
  rw [p2cast, p2cast] at l'
  exact Int.emod_eq_of_lt h0 (by omega)
end Na

theorem ret_vbi {v : Value} {k : IntKind} {p q : Bool} {a b : Int} (h : p = q) (h' : a = b) : Ending.returned (.tuple #[v, .bool p, .int k a]) = .returned (.tuple #[v, .bool q, .int k b]) := by rw [h, h']
end Go.Proofs.YtceecgklgkiffaaGreatDoor

/- plumbref02: Sum. -/
namespace Go.Proofs.YtceecgklgkiffaaGreatDoor
open Go.ChangeShapes Go.WideShapes Go.ChangeAt Go.RowKit
open Na
set_option linter.unusedVariables false

/-- a slice of lists of words reads as these -/
def RowsAt (w : World) (a : Option Addr) (n : Nat) (xss : List (List Int)) : Prop :=
  xss.length = n ∧ (n = 0 ∨ ∃ b off, a = some ⟨b, off, none⟩ ∧ b < w.heap.size ∧ ∀ i, i < n → ∃ ai ci, w.cell? ⟨b, off + i, none⟩ = some (.slice ai (xss.getD i []).length ci) ∧ RowAt .u64 w ai (xss.getD i []).length (xss.getD i []))
namespace Na
/-- the sum of all -/
def sumN (xss : List (List Int)) : Int := (xss.map num).sum
theorem sum_next {xss : List (List Int)} {k : Nat} (h : k < xss.length) : sumN (xss.take (k + 1)) = sumN (xss.take k) + num (xss.getD k []) := by
  unfold sumN
  rw [List.take_succ_eq_append_getElem h, List.map_append, List.sum_append]
  simp [List.getD_eq_getElem?_getD, List.getElem?_eq_getElem h]
/-- each is a list of words, none too long -/
def Wss (xss : List (List Int)) : Prop := ∀ xs ∈ xss, Ws xs ∧ xs.length ≤ 4000000
theorem Wss.get {xss : List (List Int)} (h : Wss xss) {k : Nat} (hk : k < xss.length) : Ws (xss.getD k []) ∧ (xss.getD k []).length ≤ 4000000 := by
  have e : xss.getD k [] = xss[k] := by simp [List.getD_eq_getElem?_getD, List.getElem?_eq_getElem hk]
  rw [e]; exact h _ (List.getElem_mem hk)
def Wss0 (xss : List (List Int)) : Prop := ∀ xs ∈ xss, Ws xs ∧ xs.length ≤ 10000
theorem Wss0.get {xss : List (List Int)} (h : Wss0 xss) {k : Nat} (hk : k < xss.length) : Ws (xss.getD k []) ∧ (xss.getD k []).length ≤ 10000 := by
  have e : xss.getD k [] = xss[k] := by simp [List.getD_eq_getElem?_getD, List.getElem?_eq_getElem hk]
  rw [e]; exact h _ (List.getElem_mem hk)
theorem Wss0.big {xss : List (List Int)} (h : Wss0 xss) : Wss xss := fun y hy => ⟨(h y hy).1, by have := (h y hy).2; omega⟩
theorem sum_bd {xss : List (List Int)} (h : Wss0 xss) {k : Nat} (hk : k ≤ xss.length) : 0 ≤ sumN (xss.take k) ∧ sumN (xss.take k) < 65536 ^ (40000 + k) := by
  induction k with
  | zero =>
    have e : sumN (xss.take 0) = 0 := rfl
    rw [e]
    exact ⟨Int.le_refl _, Int.pow_pos (by omega)⟩
  | succ k ih =>
    have i := ih (by omega)
    have g := h.get (k := k) (by omega)
    have n0 := num_nonneg g.1
    have n1 := num_lt g.1
    have m1 := pow_mono (show 4 * (xss.getD k []).length ≤ 40000 + k by omega)
    rw [sum_next (by omega), ← Nat.add_assoc, Int.pow_succ]
    generalize (65536 : Int) ^ (40000 + k) = P at *
    generalize (65536 : Int) ^ (4 * (xss.getD k []).length) = Q at *
    omega
end Na

end Go.Proofs.YtceecgklgkiffaaGreatDoor

/- plumblaw02: told; what a law wants of its arguments. -/
namespace Go.Proofs.YtceecgklgkiffaaGreatDoor
open Go.ChangeShapes Go.WideShapes Go.ChangeAt Go.RowKit
open Na
set_option linter.unusedVariables false

namespace Na
theorem resL_len (N : Int) : (resL N).length ≤ 4096 := by unfold resL; split <;> simp_all
theorem shlL_len (N n : Int) : (shlL N n).length ≤ 4096 := by unfold shlL; split; · simp
                                                              · exact resL_len _
theorem shrL_len (N n : Int) : (shrL N n).length ≤ 4096 := by unfold shrL; split; · simp
                                                              · exact resL_len _
theorem subL_len (A B : Int) : (subL A B).length ≤ 4096 := by unfold subL; split; · simp
                                                              · exact resL_len _
end Na

namespace Na
theorem words_len {xs : List Int} (h : Ws xs) : (words (num xs)).length ≤ xs.length := by
  refine dig_length (by omega) ?_
  have l := val_lt (by omega) h
  have c : ((18446744073709551616 ^ xs.length : Nat) : Int) = (18446744073709551616 : Int) ^ xs.length := by simp
  have n0 := num_nonneg h
  have l2 : num xs < 18446744073709551616 ^ xs.length := l
  omega
theorem wordV_bd {N : Int} (h : 0 ≤ N) : 0 ≤ wordV N ∧ wordV N < 18446744073709551616 := by unfold wordV; split <;> omega
theorem words_len1 {v : Int} (h : 0 ≤ v ∧ v < 18446744073709551616) : (words v).length ≤ 1 := by
  have e : num [v] = v := by simp [num, val]
  have := words_len (xs := [v]) (Dg.one h)
  rw [e] at this
  simpa using this
end Na
theorem wss_three {X Y Z : List Int} (h1 : Ws X ∧ X.length ≤ 4000000) (h2 : Ws Y ∧ Y.length ≤ 4000000) (h3 : Ws Z ∧ Z.length ≤ 4000000) : Wss [X, Y, Z] := by
  intro q hq
  simp at hq
  rcases hq with e | e | e
  · rw [e]; exact h1
  · rw [e]; exact h2
  · rw [e]; exact h3
theorem wss0_three {X Y Z : List Int} (h1 : Ws X ∧ X.length ≤ 10000) (h2 : Ws Y ∧ Y.length ≤ 10000) (h3 : Ws Z ∧ Z.length ≤ 10000) : Wss0 [X, Y, Z] := by
  intro q hq
  simp at hq
  rcases hq with e | e | e
  · rw [e]; exact h1
  · rw [e]; exact h2
  · rw [e]; exact h3
theorem alloc_below {w : World} (o : Obj) : Below w.heap.size w (w.alloc o) := (Below.refl _ _).alloc (Nat.le_refl _) o
/-- three lists laid into one slice -/
theorem rows_three {w : World} {a b c : Option Addr} {n m k c1 c2 c3 : Nat} {xs ys zs : List Int} (t : TypeId) (h1 : RowAt .u64 w a n xs) (h2 : RowAt .u64 w b m ys) (h3 : RowAt .u64 w c k zs) :
    RowsAt (w.alloc (.cells #[.slice a n c1, .slice b m c2, .slice c k c3] t)) (some ⟨w.heap.size, 0, none⟩) 3 [xs, ys, zs] := by
  have hb : Below w.heap.size w (w.alloc (.cells #[.slice a n c1, .slice b m c2, .slice c k c3] t)) := (Below.refl _ _).alloc (Nat.le_refl _) _
  have e1 := h1.1
  have e2 := h2.1
  have e3 := h3.1
  have g1 := h1.later hb
  have g2 := h2.later hb
  have g3 := h3.later hb
  subst e1 e2 e3
  refine ⟨rfl, Or.inr ⟨w.heap.size, 0, rfl, by simp, fun i hi => ?_⟩⟩
  have hi3 : i = 0 ∨ i = 1 ∨ i = 2 := by omega
  rcases hi3 with rfl | rfl | rfl
  · exact ⟨a, c1, by simp, g1⟩
  · exact ⟨b, c2, by simp, g2⟩
  · exact ⟨c, c3, by simp, g3⟩
/-- the frame's word for a slice that came in, as a row -/
theorem row_of {w : World} {a : Option Addr} {len cap : Nat} {zs : List Int} (h : (a = none ∧ len = 0 ∧ cap = 0 ∧ zs = []) ∨
    ∃ x, a = some x ∧ len ≤ cap ∧ cap ≤ maxLen ∧ zs.length = cap ∧ (∀ i, i < zs.length → w.cell? (x.add i) = some (.int .u64 (zs.getD i 0))) ∧ ∀ n ∈ zs, (Lit.int .u64 n).wf = true) :
    RowAt .u64 w a len (zs.take len) ∧ Ws (zs.take len) ∧ len ≤ maxLen := by
  rcases h with ⟨rfl, rfl, rfl, rfl⟩ | ⟨x, rfl, hl, hm, hz, hc, hw⟩
  · exact ⟨⟨rfl, Or.inl rfl⟩, Dg.nil _, Nat.zero_le _⟩
  · refine ⟨⟨by rw [List.length_take]; omega, ?_⟩, fun y hy => ?_, by omega⟩
    · by_cases h0 : len = 0
      · exact Or.inl h0
      · right
        obtain ⟨b, off, spot⟩ := x
        have h1 := hc 0 (by omega)
        have hs : spot = none := by simpa [Addr.add] using World.cell?_spot h1
        subst hs
        refine ⟨b, off, rfl, ?_, fun i hi => ?_⟩
        · by_cases hlt : b < w.heap.size
          · exact hlt
          · have := Array.getElem?_eq_none (xs := w.heap) (i := b) (Nat.le_of_not_lt hlt)
            simp [World.cell?, Addr.add, this] at h1
        · have h2 := hc i (by omega)
          have e : (zs.take len).getD i 0 = zs.getD i 0 := by simp [List.getD_eq_getElem?_getD, List.getElem?_take_of_lt hi]
          have ea : (⟨b, off, none⟩ : Addr).add i = ⟨b, off + i, none⟩ := by
            unfold Addr.add
            by_cases hi0 : i = 0
            · subst hi0; simp
            · simp [hi0]
          rw [e, ← ea]
          exact h2
    · have hb := bounds_u64 (hw y (List.mem_of_mem_take hy))
      exact ⟨hb.1, by have := hb.2; omega⟩
end Go.Proofs.YtceecgklgkiffaaGreatDoor
