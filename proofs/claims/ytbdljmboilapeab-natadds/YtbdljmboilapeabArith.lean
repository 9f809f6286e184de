/- Plain numbers, no Go in sight: words of 64 bits as whole numbers between 0 and 2^64. -/
import Derived.WalkKit
import Derived.OpenShut
import Derived.Laws.BitsAllLaws
namespace Go.Proofs.Ytbdljmboilapeab.Ar
open Go.RowKit
set_option linter.unusedVariables false

/-- a word -/
def U (a : Int) : Prop := 0 ≤ a ∧ a < 18446744073709551616
/-- half a word -/
def H (a : Int) : Prop := 0 ≤ a ∧ a < 4294967296

theorem U_of {a : Int} (h : (Lit.int .u64 a).wf = true) : U a := by
  have := bounds_u64 h
  unfold U; omega

def addLo (a b c : Int) : Int := (a + b + c % 2) % 18446744073709551616
def addHi (a b c : Int) : Int := (a + b + c % 2) / 18446744073709551616
def subLo (a b c : Int) : Int := (a - b - c % 2) % 18446744073709551616
def subHi (a b c : Int) : Int := -((a - b - c % 2) / 18446744073709551616)
def mulLo (a b : Int) : Int := a * b % 18446744073709551616
def mulHi (a b : Int) : Int := a * b / 18446744073709551616

theorem U_addLo (a b c : Int) : U (addLo a b c) := by unfold U addLo; omega
theorem U_addHi {a b c : Int} (ha : U a) (hb : U b) : U (addHi a b c) := by unfold U at *; unfold addHi; omega
theorem U_subLo (a b c : Int) : U (subLo a b c) := by unfold U subLo; omega
theorem U_subHi {a b c : Int} (ha : U a) (hb : U b) : U (subHi a b c) := by unfold U at *; unfold subHi; omega
theorem U_mulLo (a b : Int) : U (mulLo a b) := by unfold U mulLo; omega
theorem U_mulHi {a b : Int} (ha : U a) (hb : U b) : U (mulHi a b) := by
  unfold U at *; unfold mulHi
  have h1 : 0 ≤ a * b := Int.mul_nonneg ha.1 hb.1
  have h2 : a * b ≤ 18446744073709551615 * 18446744073709551615 := Int.mul_le_mul (by omega) (by omega) hb.1 (by omega)
  omega

theorem wrapU (n : Int) : IntKind.u64.wrap n = n % 18446744073709551616 := IntKind.wrap_u64 n

/-! ### bits -/
theorem and_one {c : Int} (h : U c) : bits .and .u64 c 1 = c % 2 := by
  unfold U at h
  rw [u64_and c 1 h.1 h.2 (by omega) (by omega)]
  have : (c.toNat &&& (1 : Int).toNat) = c.toNat % 2 := nat_mask1 _
  rw [this]; omega
theorem and_half {c : Int} (h : U c) : bits .and .u64 c 4294967295 = c % 4294967296 := by
  unfold U at h
  rw [u64_and c _ h.1 h.2 (by omega) (by omega)]
  have : (c.toNat &&& (4294967295 : Int).toNat) = c.toNat % 4294967296 := nat_mask32 _
  rw [this]; omega
theorem U_bits_and {a b : Int} (ha : U a) (hb : U b) : U (bits .and .u64 a b) := by
  unfold U at *
  rw [u64_and a b ha.1 ha.2 hb.1 hb.2]
  have := @Nat.and_le_left a.toNat b.toNat
  omega
theorem U_bits_or {a b : Int} (ha : U a) (hb : U b) : U (bits .or .u64 a b) := by
  unfold U at *
  rw [u64_or a b ha.1 ha.2 hb.1 hb.2]
  have := @Nat.or_lt_two_pow a.toNat b.toNat 64 (by omega) (by omega)
  omega
theorem U_bits_xor {a b : Int} (ha : U a) (hb : U b) : U (bits .xor .u64 a b) := by
  unfold U at *
  rw [u64_xor a b ha.1 ha.2 hb.1 hb.2]
  have := @Nat.xor_lt_two_pow a.toNat b.toNat 64 (by omega) (by omega)
  omega
theorem U_bits_andNot {a b : Int} (ha : U a) (hb : U b) : U (bits .andNot .u64 a b) := by
  unfold U at *
  rw [u64_andNot a b ha.1 ha.2 hb.1 hb.2]
  have := @Nat.and_le_left a.toNat (18446744073709551615 - b.toNat)
  omega
/-- the highest bit -/
def top (a : Int) : Int := a / 9223372036854775808
theorem top_01 {a : Int} (h : U a) : top a = 0 ∨ top a = 1 := by unfold U at h; unfold top; omega
theorem div_63 (x : Nat) : x / 9223372036854775808 = x / 2 ^ 63 := rfl
theorem top_and {a b : Int} (ha : U a) (hb : U b) : top (bits .and .u64 a b) = top a * top b := by
  have h1 := top_01 ha
  have h2 := top_01 hb
  unfold U at *
  rw [u64_and a b ha.1 ha.2 hb.1 hb.2]
  have h : (a.toNat &&& b.toNat) / 2 ^ 63 = a.toNat / 2 ^ 63 &&& b.toNat / 2 ^ 63 := Nat.and_div_two_pow
  have e1 : ((a.toNat / 2 ^ 63 : Nat) : Int) = top a := by unfold top; omega
  have e2 : ((b.toNat / 2 ^ 63 : Nat) : Int) = top b := by unfold top; omega
  have e3 : top ((a.toNat &&& b.toNat : Nat) : Int) = (((a.toNat &&& b.toNat) / 2 ^ 63 : Nat) : Int) := by unfold top; omega
  rw [e3, h]
  rcases h1 with h1 | h1 <;> rcases h2 with h2 | h2 <;> rw [h1] at e1 ⊢ <;> rw [h2] at e2 ⊢
  · have e1' : a.toNat / 2 ^ 63 = 0 := by omega
    rw [e1']; simp
  · have e1' : a.toNat / 2 ^ 63 = 0 := by omega
    rw [e1']; simp
  · have e2' : b.toNat / 2 ^ 63 = 0 := by omega
    rw [e2']; simp
  · have e1' : a.toNat / 2 ^ 63 = 1 := by omega
    have e2' : b.toNat / 2 ^ 63 = 1 := by omega
    rw [e1', e2']; rfl
theorem top_or {a b : Int} (ha : U a) (hb : U b) : top (bits .or .u64 a b) = top a + top b - top a * top b := by
  have h1 := top_01 ha
  have h2 := top_01 hb
  unfold U at *
  rw [u64_or a b ha.1 ha.2 hb.1 hb.2]
  have h : (a.toNat ||| b.toNat) / 2 ^ 63 = a.toNat / 2 ^ 63 ||| b.toNat / 2 ^ 63 := Nat.or_div_two_pow
  have e1 : ((a.toNat / 2 ^ 63 : Nat) : Int) = top a := by unfold top; omega
  have e2 : ((b.toNat / 2 ^ 63 : Nat) : Int) = top b := by unfold top; omega
  have e3 : top ((a.toNat ||| b.toNat : Nat) : Int) = (((a.toNat ||| b.toNat) / 2 ^ 63 : Nat) : Int) := by unfold top; omega
  rw [e3, h]
  rcases h1 with h1 | h1 <;> rcases h2 with h2 | h2 <;> rw [h1] at e1 ⊢ <;> rw [h2] at e2 ⊢
  · have e1' : a.toNat / 2 ^ 63 = 0 := by omega
    have e2' : b.toNat / 2 ^ 63 = 0 := by omega
    rw [e1', e2']; rfl
  · have e1' : a.toNat / 2 ^ 63 = 0 := by omega
    have e2' : b.toNat / 2 ^ 63 = 1 := by omega
    rw [e1', e2']; rfl
  · have e1' : a.toNat / 2 ^ 63 = 1 := by omega
    have e2' : b.toNat / 2 ^ 63 = 0 := by omega
    rw [e1', e2']; rfl
  · have e1' : a.toNat / 2 ^ 63 = 1 := by omega
    have e2' : b.toNat / 2 ^ 63 = 1 := by omega
    rw [e1', e2']; rfl
theorem top_xor {a b : Int} (ha : U a) (hb : U b) : top (bits .xor .u64 a b) = top a + top b - 2 * (top a * top b) := by
  have h1 := top_01 ha
  have h2 := top_01 hb
  unfold U at *
  rw [u64_xor a b ha.1 ha.2 hb.1 hb.2]
  have h : (a.toNat ^^^ b.toNat) / 2 ^ 63 = a.toNat / 2 ^ 63 ^^^ b.toNat / 2 ^ 63 := Nat.xor_div_two_pow
  have e1 : ((a.toNat / 2 ^ 63 : Nat) : Int) = top a := by unfold top; omega
  have e2 : ((b.toNat / 2 ^ 63 : Nat) : Int) = top b := by unfold top; omega
  have e3 : top ((a.toNat ^^^ b.toNat : Nat) : Int) = (((a.toNat ^^^ b.toNat) / 2 ^ 63 : Nat) : Int) := by unfold top; omega
  rw [e3, h]
  rcases h1 with h1 | h1 <;> rcases h2 with h2 | h2 <;> rw [h1] at e1 ⊢ <;> rw [h2] at e2 ⊢
  · have e1' : a.toNat / 2 ^ 63 = 0 := by omega
    have e2' : b.toNat / 2 ^ 63 = 0 := by omega
    rw [e1', e2']; rfl
  · have e1' : a.toNat / 2 ^ 63 = 0 := by omega
    have e2' : b.toNat / 2 ^ 63 = 1 := by omega
    rw [e1', e2']; rfl
  · have e1' : a.toNat / 2 ^ 63 = 1 := by omega
    have e2' : b.toNat / 2 ^ 63 = 0 := by omega
    rw [e1', e2']; rfl
  · have e1' : a.toNat / 2 ^ 63 = 1 := by omega
    have e2' : b.toNat / 2 ^ 63 = 1 := by omega
    rw [e1', e2']; rfl
theorem andNot_and {a b : Int} (ha : U a) (hb : U b) : bits .andNot .u64 a b = bits .and .u64 a (18446744073709551615 - b) := by
  unfold U at *
  rw [u64_andNot a b ha.1 ha.2 hb.1 hb.2, u64_and a _ ha.1 ha.2 (by omega) (by omega)]
  have : (18446744073709551615 - b).toNat = 18446744073709551615 - b.toNat := by omega
  rw [this]
theorem top_not {b : Int} (hb : U b) : top (18446744073709551615 - b) = 1 - top b := by unfold U at hb; unfold top; omega
theorem U_not {b : Int} (hb : U b) : U (18446744073709551615 - b) := by unfold U at *; omega
theorem top_andNot {a b : Int} (ha : U a) (hb : U b) : top (bits .andNot .u64 a b) = top a * (1 - top b) := by
  rw [andNot_and ha hb, top_and ha (U_not hb), top_not hb]

/-! ### wide.Add, wide.Sub -/
theorem add_lo {a b c : Int} (hc : U c) : IntKind.u64.wrap (IntKind.u64.wrap (a + b) + bits .and .u64 c 1) = addLo a b c := by
  rw [and_one hc, wrapU, wrapU]; unfold addLo; omega
theorem add_hi {a b c : Int} (ha : U a) (hb : U b) :
    bits .or .u64 (bits .and .u64 a b) (bits .andNot .u64 (bits .or .u64 a b) (addLo a b c)) / 9223372036854775808 = addHi a b c := by
  show top _ = _
  rw [top_or (U_bits_and ha hb) (U_bits_andNot (U_bits_or ha hb) (U_addLo ..)), top_and ha hb, top_andNot (U_bits_or ha hb) (U_addLo ..), top_or ha hb]
  have h1 := top_01 ha
  have h2 := top_01 hb
  have h3 := top_01 (U_addLo a b c)
  rcases h1 with h1 | h1 <;> rcases h2 with h2 | h2 <;> rcases h3 with h3 | h3 <;> rw [h1, h2, h3] <;> unfold top addLo at * <;> unfold U at * <;> unfold addHi <;> omega
theorem sub_lo {a b c : Int} (hc : U c) : IntKind.u64.wrap (IntKind.u64.wrap (a - b) - bits .and .u64 c 1) = subLo a b c := by
  rw [and_one hc, wrapU, wrapU]; unfold subLo; omega
theorem addLo_lt (a b c : Int) : 0 ≤ addLo a b c ∧ addLo a b c < 18446744073709551616 := U_addLo a b c
theorem U_wrap (n : Int) : U (IntKind.u64.wrap n) := by rw [wrapU]; unfold U; omega
theorem U_zero : U 0 := by unfold U; omega
theorem U_one : U 1 := by unfold U; omega
theorem max_u64 : IntKind.u64.max = 18446744073709551615 := by decide
theorem sub_hi {a b c : Int} (ha : U a) (hb : U b) :
    bits .or .u64 (bits .andNot .u64 b a) (bits .and .u64 (bits .xor .u64 IntKind.u64.max (bits .xor .u64 a b)) (subLo a b c)) / 9223372036854775808 = subHi a b c := by
  show top _ = _
  have hm : U IntKind.u64.max := by rw [max_u64]; unfold U; omega
  have hx := U_bits_xor ha hb
  have hy := U_bits_xor hm hx
  have hs := U_subLo a b c
  rw [top_or (U_bits_andNot hb ha) (U_bits_and hy hs), top_andNot hb ha, top_and hy hs, top_xor hm hx, top_xor ha hb]
  have hmt : top IntKind.u64.max = 1 := by rw [max_u64]; rfl
  rw [hmt]
  have h1 := top_01 ha
  have h2 := top_01 hb
  have h3 := top_01 hs
  rcases h1 with h1 | h1 <;> rcases h2 with h2 | h2 <;> rcases h3 with h3 | h3 <;> rw [h1, h2, h3] <;> unfold top subLo at * <;> unfold U at * <;> unfold subHi <;> omega

/-! ### halves -/
theorem or_join {x y : Int} (hy : H y) : bits .or .u64 (IntKind.u64.wrap (x * 4294967296)) y = x % 4294967296 * 4294967296 + y := by
  unfold H at hy
  rw [wrapU]
  have e : x * 4294967296 % 18446744073709551616 = x % 4294967296 * 4294967296 := by omega
  rw [e, u64_or _ _ (by omega) (by omega) (by omega) (by omega)]
  have : ((x % 4294967296 * 4294967296).toNat ||| y.toNat) = (x % 4294967296 * 4294967296).toNat + y.toNat :=
    nat_join 32 _ _ (by omega) (by omega)
  rw [this]; omega
theorem H_div {x : Int} (h : U x) : H (x / 4294967296) := by unfold U at h; unfold H; omega
theorem H_mod (x : Int) : H (x % 4294967296) := by unfold H; omega
theorem H_zero : H 0 := by unfold H; omega
theorem half_mul {x y : Int} (hx : H x) (hy : H y) : 0 ≤ x * y ∧ x * y ≤ 18446744065119617025 := by
  unfold H at *
  have h1 : 0 ≤ x * y := Int.mul_nonneg hx.1 hy.1
  have h2 : x * y ≤ 4294967295 * 4294967295 := Int.mul_le_mul (by omega) (by omega) hy.1 (by omega)
  omega
theorem mul_halves (a b : Int) : a * b = (a % 4294967296) * (b % 4294967296) + ((a % 4294967296) * (b / 4294967296) + (a / 4294967296) * (b % 4294967296)) * 4294967296 + (a / 4294967296) * (b / 4294967296) * 18446744073709551616 := by
  have ea : a = a % 4294967296 + a / 4294967296 * 4294967296 := by omega
  have eb : b = b % 4294967296 + b / 4294967296 * 4294967296 := by omega
  generalize a % 4294967296 = a0 at *
  generalize a / 4294967296 = a1 at *
  generalize b % 4294967296 = b0 at *
  generalize b / 4294967296 = b1 at *
  subst ea eb
  grind
theorem mul_hi {a b : Int} (ha : U a) (hb : U b) :
    IntKind.u64.wrap (IntKind.u64.wrap (IntKind.u64.wrap (a / 4294967296 * (b / 4294967296)) +
      IntKind.u64.wrap (IntKind.u64.wrap (IntKind.u64.wrap (bits .and .u64 a 4294967295 * (b / 4294967296))) +
        IntKind.u64.wrap (IntKind.u64.wrap (bits .and .u64 a 4294967295 * bits .and .u64 b 4294967295) + bits .and .u64 0 4294967295) / 4294967296) / 4294967296) +
      IntKind.u64.wrap (IntKind.u64.wrap (a / 4294967296 * bits .and .u64 b 4294967295) +
        bits .and .u64 (IntKind.u64.wrap (IntKind.u64.wrap (IntKind.u64.wrap (bits .and .u64 a 4294967295 * (b / 4294967296))) +
          IntKind.u64.wrap (IntKind.u64.wrap (bits .and .u64 a 4294967295 * bits .and .u64 b 4294967295) + bits .and .u64 0 4294967295) / 4294967296)) 4294967295) / 4294967296) = mulHi a b := by
  rw [and_half ha, and_half hb, and_half U_zero, and_half (U_wrap _)]
  simp only [wrapU]
  have h00 := half_mul (H_mod a) (H_mod b)
  have h01 := half_mul (H_mod a) (H_div hb)
  have h10 := half_mul (H_div ha) (H_mod b)
  have h11 := half_mul (H_div ha) (H_div hb)
  have e := mul_halves a b
  unfold mulHi
  rw [e]
  generalize a % 4294967296 * (b % 4294967296) = p00 at *
  generalize a % 4294967296 * (b / 4294967296) = p01 at *
  generalize a / 4294967296 * (b % 4294967296) = p10 at *
  generalize a / 4294967296 * (b / 4294967296) = p11 at *
  clear e ha hb
  omega
theorem mul_lo {a b : Int} (ha : U a) (hb : U b) :
    bits .or .u64 (IntKind.u64.wrap (IntKind.u64.wrap (IntKind.u64.wrap (a / 4294967296 * bits .and .u64 b 4294967295) +
      bits .and .u64 (IntKind.u64.wrap (IntKind.u64.wrap (IntKind.u64.wrap (bits .and .u64 a 4294967295 * (b / 4294967296))) +
        IntKind.u64.wrap (IntKind.u64.wrap (bits .and .u64 a 4294967295 * bits .and .u64 b 4294967295) + bits .and .u64 0 4294967295) / 4294967296)) 4294967295) * 4294967296))
      (bits .or .u64 (IntKind.u64.wrap (IntKind.u64.wrap (IntKind.u64.wrap (bits .and .u64 a 4294967295 * bits .and .u64 b 4294967295) + bits .and .u64 0 4294967295) * 4294967296)) 0 / 4294967296) = mulLo a b := by
  rw [or_join (H_div (U_bits_or (U_wrap _) U_zero)), or_join H_zero, and_half ha, and_half hb, and_half U_zero, and_half (U_wrap _)]
  simp only [wrapU]
  have h00 := half_mul (H_mod a) (H_mod b)
  have h01 := half_mul (H_mod a) (H_div hb)
  have h10 := half_mul (H_div ha) (H_mod b)
  have h11 := half_mul (H_div ha) (H_div hb)
  have e := mul_halves a b
  unfold mulLo
  rw [e]
  generalize a % 4294967296 * (b % 4294967296) = p00 at *
  generalize a % 4294967296 * (b / 4294967296) = p01 at *
  generalize a / 4294967296 * (b % 4294967296) = p10 at *
  generalize a / 4294967296 * (b / 4294967296) = p11 at *
  clear e ha hb
  omega
/-- a product is its two words -/
theorem mul_split (a b : Int) : a * b = mulHi a b * 18446744073709551616 + mulLo a b := by unfold mulHi mulLo; omega

/-! ### order -/
def ord (a b : Int) : Int := if a < b then -1 else if b < a then 1 else 0
def cmp2 (a b c d : Int) : Int := if a = c then ord b d else ord a c

/-! ### wide.Mul3 -/
def m3a (h l b : Int) : Int := (h * 18446744073709551616 + l) * b / 340282366920938463463374607431768211456
def m3b (h l b : Int) : Int := (h * 18446744073709551616 + l) * b / 18446744073709551616 % 18446744073709551616
def m3c (h l b : Int) : Int := (h * 18446744073709551616 + l) * b % 18446744073709551616
theorem word_mul {x y : Int} (hx : U x) (hy : U y) : 0 ≤ x * y ∧ x * y ≤ 340282366920938463426481119284349108225 := by
  unfold U at *
  have h1 : 0 ≤ x * y := Int.mul_nonneg hx.1 hy.1
  have h2 : x * y ≤ 18446744073709551615 * 18446744073709551615 := Int.mul_le_mul (by omega) (by omega) hy.1 (by omega)
  omega
theorem m3_split (h l b : Int) : (h * 18446744073709551616 + l) * b = h * b * 18446744073709551616 + l * b := by grind
theorem m3_c (h l b : Int) : mulLo l b = m3c h l b := by
  unfold mulLo m3c; rw [m3_split]; generalize h * b = p; generalize l * b = q; omega
theorem m3_b (h l b : Int) : addLo (mulLo h b) (mulHi l b) 0 = m3b h l b := by
  unfold addLo mulLo mulHi m3b; rw [m3_split]; generalize h * b = p; generalize l * b = q; omega
theorem m3_a {h l b : Int} (hh : U h) (hl : U l) (hb : U b) : IntKind.u64.wrap (mulHi h b + addHi (mulLo h b) (mulHi l b) 0) = m3a h l b := by
  have b1 := word_mul hh hb
  have b2 := word_mul hl hb
  rw [wrapU]
  unfold addHi mulLo mulHi m3a; rw [m3_split]; generalize h * b = p at *; generalize l * b = q at *; omega
theorem U_m3a {h l b : Int} (hh : U h) (hl : U l) (hb : U b) : U (m3a h l b) := by
  rw [← m3_a hh hl hb]; exact U_wrap _
theorem U_m3b (h l b : Int) : U (m3b h l b) := by unfold U m3b; omega
theorem U_m3c (h l b : Int) : U (m3c h l b) := by unfold U m3c; omega
end Go.Proofs.Ytbdljmboilapeab.Ar
