import Derived.WalkKit
import Derived.OpenShut
import Derived.Laws.BitsAllLaws
import Derived.Test.YtceecgklgkiffabGreatDoorRows
import Derived.ProofKit
import Derived.ShutString
import Derived.WalkLawsBesides
import Derived.WalkSpells
import Derived.Deep.QuietTactic
import Derived.BigQuiet
import Derived.ChangeOld
import Derived.Below
import Derived.OwnWalk
/- Plain numbers, no Go in sight: words of 64 bits as whole numbers between 0 and 2^64. -/
namespace Go.Proofs.YtceecgklgkiffabGreatDoor.Ar
open Go.RowKit
set_option linter.unusedVariables false

/-- a word -/
def U (a : Int) : Prop := 0 ≤ a ∧ a < 18446744073709551616
/-- half a word -/
def H (a : Int) : Prop := 0 ≤ a ∧ a < 4294967296

def addLo (a b c : Int) : Int := (a + b + c % 2) % 18446744073709551616
def addHi (a b c : Int) : Int := (a + b + c % 2) / 18446744073709551616
def subLo (a b c : Int) : Int := (a - b - c % 2) % 18446744073709551616
def subHi (a b c : Int) : Int := -((a - b - c % 2) / 18446744073709551616)
def mulLo (a b : Int) : Int := a * b % 18446744073709551616
def mulHi (a b : Int) : Int := a * b / 18446744073709551616

theorem U_addLo (a b c : Int) : U (addLo a b c) := by unfold U addLo; omega
theorem U_subLo (a b c : Int) : U (subLo a b c) := by unfold U subLo; omega
theorem U_mulLo (a b : Int) : U (mulLo a b) := by unfold U mulLo; omega
theorem U_mulHi {a b : Int} (ha : U a) (hb : U b) : U (mulHi a b) := by
  unfold U at *; unfold mulHi
  have h1 : 0 ≤ a * b := Int.mul_nonneg ha.1 hb.1
  have h2 : a * b ≤ 18446744073709551615 * 18446744073709551615 := Int.mul_le_mul (by omega) (by omega) hb.1 (by omega)
  omega

theorem wrapU (n : Int) : IntKind.u64.wrap n = n % 18446744073709551616 := IntKind.wrap_u64 n

/-! ### bits -/
theorem and_one {c : Int} (h : U c) : bits .and .u64 c 1 = c % 2 := by
  unfold U at h
  rw [u64_and c 1 h.1 h.2 (by omega) (by omega)]
  have : (c.toNat &&& (1 : Int).toNat) = c.toNat % 2 := nat_mask1 _
  rw [this]; omega
theorem and_half {c : Int} (h : U c) : bits .and .u64 c 4294967295 = c % 4294967296 := by
  unfold U at h
  rw [u64_and c _ h.1 h.2 (by omega) (by omega)]
  have : (c.toNat &&& (4294967295 : Int).toNat) = c.toNat % 4294967296 := nat_mask32 _
  rw [this]; omega
theorem U_bits_and {a b : Int} (ha : U a) (hb : U b) : U (bits .and .u64 a b) := by
  unfold U at *
  rw [u64_and a b ha.1 ha.2 hb.1 hb.2]
  have := @Nat.and_le_left a.toNat b.toNat
  omega
theorem U_bits_or {a b : Int} (ha : U a) (hb : U b) : U (bits .or .u64 a b) := by
  unfold U at *
  rw [u64_or a b ha.1 ha.2 hb.1 hb.2]
  have := @Nat.or_lt_two_pow a.toNat b.toNat 64 (by omega) (by omega)
  omega
theorem U_bits_xor {a b : Int} (ha : U a) (hb : U b) : U (bits .xor .u64 a b) := by
  unfold U at *
  rw [u64_xor a b ha.1 ha.2 hb.1 hb.2]
  have := @Nat.xor_lt_two_pow a.toNat b.toNat 64 (by omega) (by omega)
  omega
theorem U_bits_andNot {a b : Int} (ha : U a) (hb : U b) : U (bits .andNot .u64 a b) := by
  unfold U at *
  rw [u64_andNot a b ha.1 ha.2 hb.1 hb.2]
  have := @Nat.and_le_left a.toNat (18446744073709551615 - b.toNat)
  omega
/-- the highest bit -/
def top (a : Int) : Int := a / 9223372036854775808
theorem top_01 {a : Int} (h : U a) : top a = 0 ∨ top a = 1 := by unfold U at h; unfold top; omega
theorem top_and {a b : Int} (ha : U a) (hb : U b) : top (bits .and .u64 a b) = top a * top b := by
  have h1 := top_01 ha
  have h2 := top_01 hb
  unfold U at *
  rw [u64_and a b ha.1 ha.2 hb.1 hb.2]
  have h : (a.toNat &&& b.toNat) / 2 ^ 63 = a.toNat / 2 ^ 63 &&& b.toNat / 2 ^ 63 := Nat.and_div_two_pow
  have e1 : ((a.toNat / 2 ^ 63 : Nat) : Int) = top a := by unfold top; omega
  have e2 : ((b.toNat / 2 ^ 63 : Nat) : Int) = top b := by unfold top; omega
  have e3 : top ((a.toNat &&& b.toNat : Nat) : Int) = (((a.toNat &&& b.toNat) / 2 ^ 63 : Nat) : Int) := by unfold top; omega
  rw [e3, h]
  rcases h1 with h1 | h1 <;> rcases h2 with h2 | h2 <;> rw [h1] at e1 ⊢ <;> rw [h2] at e2 ⊢
  · have e1' : a.toNat / 2 ^ 63 = 0 := by omega
    rw [e1']; simp
  · have e1' : a.toNat / 2 ^ 63 = 0 := by omega
    rw [e1']; simp
  · have e2' : b.toNat / 2 ^ 63 = 0 := by omega
    rw [e2']; simp
  · have e1' : a.toNat / 2 ^ 63 = 1 := by omega
    have e2' : b.toNat / 2 ^ 63 = 1 := by omega
    rw [e1', e2']; rfl
theorem top_or {a b : Int} (ha : U a) (hb : U b) : top (bits .or .u64 a b) = top a + top b - top a * top b := by
  have h1 := top_01 ha
  have h2 := top_01 hb
  unfold U at *
  rw [u64_or a b ha.1 ha.2 hb.1 hb.2]
  have h : (a.toNat ||| b.toNat) / 2 ^ 63 = a.toNat / 2 ^ 63 ||| b.toNat / 2 ^ 63 := Nat.or_div_two_pow
  have e1 : ((a.toNat / 2 ^ 63 : Nat) : Int) = top a := by unfold top; omega
  have e2 : ((b.toNat / 2 ^ 63 : Nat) : Int) = top b := by unfold top; omega
  have e3 : top ((a.toNat ||| b.toNat : Nat) : Int) = (((a.toNat ||| b.toNat) / 2 ^ 63 : Nat) : Int) := by unfold top; omega
  rw [e3, h]
  rcases h1 with h1 | h1 <;> rcases h2 with h2 | h2 <;> rw [h1] at e1 ⊢ <;> rw [h2] at e2 ⊢
  · have e1' : a.toNat / 2 ^ 63 = 0 := by omega
    have e2' : b.toNat / 2 ^ 63 = 0 := by omega
    rw [e1', e2']; rfl
  · have e1' : a.toNat / 2 ^ 63 = 0 := by omega
    have e2' : b.toNat / 2 ^ 63 = 1 := by omega
    rw [e1', e2']; rfl
  · have e1' : a.toNat / 2 ^ 63 = 1 := by omega
    have e2' : b.toNat / 2 ^ 63 = 0 := by omega
    rw [e1', e2']; rfl
  · have e1' : a.toNat / 2 ^ 63 = 1 := by omega
    have e2' : b.toNat / 2 ^ 63 = 1 := by omega
    rw [e1', e2']; rfl
theorem top_xor {a b : Int} (ha : U a) (hb : U b) : top (bits .xor .u64 a b) = top a + top b - 2 * (top a * top b) := by
  have h1 := top_01 ha
  have h2 := top_01 hb
  unfold U at *
  rw [u64_xor a b ha.1 ha.2 hb.1 hb.2]
  have h : (a.toNat ^^^ b.toNat) / 2 ^ 63 = a.toNat / 2 ^ 63 ^^^ b.toNat / 2 ^ 63 := Nat.xor_div_two_pow
  have e1 : ((a.toNat / 2 ^ 63 : Nat) : Int) = top a := by unfold top; omega
  have e2 : ((b.toNat / 2 ^ 63 : Nat) : Int) = top b := by unfold top; omega
  have e3 : top ((a.toNat ^^^ b.toNat : Nat) : Int) = (((a.toNat ^^^ b.toNat) / 2 ^ 63 : Nat) : Int) := by unfold top; omega
  rw [e3, h]
  rcases h1 with h1 | h1 <;> rcases h2 with h2 | h2 <;> rw [h1] at e1 ⊢ <;> rw [h2] at e2 ⊢
  · have e1' : a.toNat / 2 ^ 63 = 0 := by omega
    have e2' : b.toNat / 2 ^ 63 = 0 := by omega
    rw [e1', e2']; rfl
  · have e1' : a.toNat / 2 ^ 63 = 0 := by omega
    have e2' : b.toNat / 2 ^ 63 = 1 := by omega
    rw [e1', e2']; rfl
  · have e1' : a.toNat / 2 ^ 63 = 1 := by omega
    have e2' : b.toNat / 2 ^ 63 = 0 := by omega
    rw [e1', e2']; rfl
  · have e1' : a.toNat / 2 ^ 63 = 1 := by omega
    have e2' : b.toNat / 2 ^ 63 = 1 := by omega
    rw [e1', e2']; rfl
theorem andNot_and {a b : Int} (ha : U a) (hb : U b) : bits .andNot .u64 a b = bits .and .u64 a (18446744073709551615 - b) := by
  unfold U at *
  rw [u64_andNot a b ha.1 ha.2 hb.1 hb.2, u64_and a _ ha.1 ha.2 (by omega) (by omega)]
  have : (18446744073709551615 - b).toNat = 18446744073709551615 - b.toNat := by omega
  rw [this]
theorem top_not {b : Int} (hb : U b) : top (18446744073709551615 - b) = 1 - top b := by unfold U at hb; unfold top; omega
theorem U_not {b : Int} (hb : U b) : U (18446744073709551615 - b) := by unfold U at *; omega
theorem top_andNot {a b : Int} (ha : U a) (hb : U b) : top (bits .andNot .u64 a b) = top a * (1 - top b) := by
  rw [andNot_and ha hb, top_and ha (U_not hb), top_not hb]

/-! ### wide.Add, wide.Sub -/
theorem add_lo {a b c : Int} (hc : U c) : IntKind.u64.wrap (IntKind.u64.wrap (a + b) + bits .and .u64 c 1) = addLo a b c := by
  rw [and_one hc, wrapU, wrapU]; unfold addLo; omega
theorem add_hi {a b c : Int} (ha : U a) (hb : U b) :
    bits .or .u64 (bits .and .u64 a b) (bits .andNot .u64 (bits .or .u64 a b) (addLo a b c)) / 9223372036854775808 = addHi a b c := by
  show top _ = _
  rw [top_or (U_bits_and ha hb) (U_bits_andNot (U_bits_or ha hb) (U_addLo ..)), top_and ha hb, top_andNot (U_bits_or ha hb) (U_addLo ..), top_or ha hb]
  have h1 := top_01 ha
  have h2 := top_01 hb
  have h3 := top_01 (U_addLo a b c)
  rcases h1 with h1 | h1 <;> rcases h2 with h2 | h2 <;> rcases h3 with h3 | h3 <;> rw [h1, h2, h3] <;> unfold top addLo at * <;> unfold U at * <;> unfold addHi <;> omega
theorem sub_lo {a b c : Int} (hc : U c) : IntKind.u64.wrap (IntKind.u64.wrap (a - b) - bits .and .u64 c 1) = subLo a b c := by
  rw [and_one hc, wrapU, wrapU]; unfold subLo; omega
theorem U_wrap (n : Int) : U (IntKind.u64.wrap n) := by rw [wrapU]; unfold U; omega
theorem U_zero : U 0 := by unfold U; omega
theorem max_u64 : IntKind.u64.max = 18446744073709551615 := by decide
theorem sub_hi {a b c : Int} (ha : U a) (hb : U b) :
    bits .or .u64 (bits .andNot .u64 b a) (bits .and .u64 (bits .xor .u64 IntKind.u64.max (bits .xor .u64 a b)) (subLo a b c)) / 9223372036854775808 = subHi a b c := by
  show top _ = _
  have hm : U IntKind.u64.max := by rw [max_u64]; unfold U; omega
  have hx := U_bits_xor ha hb
  have hy := U_bits_xor hm hx
  have hs := U_subLo a b c
  rw [top_or (U_bits_andNot hb ha) (U_bits_and hy hs), top_andNot hb ha, top_and hy hs, top_xor hm hx, top_xor ha hb]
  have hmt : top IntKind.u64.max = 1 := by rw [max_u64]; rfl
  rw [hmt]
  have h1 := top_01 ha
  have h2 := top_01 hb
  have h3 := top_01 hs
  rcases h1 with h1 | h1 <;> rcases h2 with h2 | h2 <;> rcases h3 with h3 | h3 <;> rw [h1, h2, h3] <;> unfold top subLo at * <;> unfold U at * <;> unfold subHi <;> omega

/-! ### halves -/
theorem or_join {x y : Int} (hy : H y) : bits .or .u64 (IntKind.u64.wrap (x * 4294967296)) y = x % 4294967296 * 4294967296 + y := by
  unfold H at hy
  rw [wrapU]
  have e : x * 4294967296 % 18446744073709551616 = x % 4294967296 * 4294967296 := by omega
  rw [e, u64_or _ _ (by omega) (by omega) (by omega) (by omega)]
  have : ((x % 4294967296 * 4294967296).toNat ||| y.toNat) = (x % 4294967296 * 4294967296).toNat + y.toNat :=
    nat_join 32 _ _ (by omega) (by omega)
  rw [this]; omega
theorem H_div {x : Int} (h : U x) : H (x / 4294967296) := by unfold U at h; unfold H; omega
theorem H_mod (x : Int) : H (x % 4294967296) := by unfold H; omega
theorem H_zero : H 0 := by unfold H; omega
theorem half_mul {x y : Int} (hx : H x) (hy : H y) : 0 ≤ x * y ∧ x * y ≤ 18446744065119617025 := by
  unfold H at *
  have h1 : 0 ≤ x * y := Int.mul_nonneg hx.1 hy.1
  have h2 : x * y ≤ 4294967295 * 4294967295 := Int.mul_le_mul (by omega) (by omega) hy.1 (by omega)
  omega
theorem mul_halves (a b : Int) : a * b = (a % 4294967296) * (b % 4294967296) + ((a % 4294967296) * (b / 4294967296) + (a / 4294967296) * (b % 4294967296)) * 4294967296 + (a / 4294967296) * (b / 4294967296) * 18446744073709551616 := by
  have ea : a = a % 4294967296 + a / 4294967296 * 4294967296 := by omega
  have eb : b = b % 4294967296 + b / 4294967296 * 4294967296 := by omega
  generalize a % 4294967296 = a0 at *
  generalize a / 4294967296 = a1 at *
  generalize b % 4294967296 = b0 at *
  generalize b / 4294967296 = b1 at *
  subst ea eb
  grind
theorem mul_hi {a b : Int} (ha : U a) (hb : U b) :
    IntKind.u64.wrap (IntKind.u64.wrap (IntKind.u64.wrap (a / 4294967296 * (b / 4294967296)) +
      IntKind.u64.wrap (IntKind.u64.wrap (IntKind.u64.wrap (bits .and .u64 a 4294967295 * (b / 4294967296))) +
        IntKind.u64.wrap (IntKind.u64.wrap (bits .and .u64 a 4294967295 * bits .and .u64 b 4294967295) + bits .and .u64 0 4294967295) / 4294967296) / 4294967296) +
      IntKind.u64.wrap (IntKind.u64.wrap (a / 4294967296 * bits .and .u64 b 4294967295) +
        bits .and .u64 (IntKind.u64.wrap (IntKind.u64.wrap (IntKind.u64.wrap (bits .and .u64 a 4294967295 * (b / 4294967296))) +
          IntKind.u64.wrap (IntKind.u64.wrap (bits .and .u64 a 4294967295 * bits .and .u64 b 4294967295) + bits .and .u64 0 4294967295) / 4294967296)) 4294967295) / 4294967296) = mulHi a b := by
  rw [and_half ha, and_half hb, and_half U_zero, and_half (U_wrap _)]
  simp only [wrapU]
  have h00 := half_mul (H_mod a) (H_mod b)
  have h01 := half_mul (H_mod a) (H_div hb)
  have h10 := half_mul (H_div ha) (H_mod b)
  have h11 := half_mul (H_div ha) (H_div hb)
  have e := mul_halves a b
  unfold mulHi
  rw [e]
  generalize a % 4294967296 * (b % 4294967296) = p00 at *
  generalize a % 4294967296 * (b / 4294967296) = p01 at *
  generalize a / 4294967296 * (b % 4294967296) = p10 at *
  generalize a / 4294967296 * (b / 4294967296) = p11 at *
  clear e ha hb
  omega
theorem mul_lo {a b : Int} (ha : U a) (hb : U b) :
    bits .or .u64 (IntKind.u64.wrap (IntKind.u64.wrap (IntKind.u64.wrap (a / 4294967296 * bits .and .u64 b 4294967295) +
      bits .and .u64 (IntKind.u64.wrap (IntKind.u64.wrap (IntKind.u64.wrap (bits .and .u64 a 4294967295 * (b / 4294967296))) +
        IntKind.u64.wrap (IntKind.u64.wrap (bits .and .u64 a 4294967295 * bits .and .u64 b 4294967295) + bits .and .u64 0 4294967295) / 4294967296)) 4294967295) * 4294967296))
      (bits .or .u64 (IntKind.u64.wrap (IntKind.u64.wrap (IntKind.u64.wrap (bits .and .u64 a 4294967295 * bits .and .u64 b 4294967295) + bits .and .u64 0 4294967295) * 4294967296)) 0 / 4294967296) = mulLo a b := by
  rw [or_join (H_div (U_bits_or (U_wrap _) U_zero)), or_join H_zero, and_half ha, and_half hb, and_half U_zero, and_half (U_wrap _)]
  simp only [wrapU]
  have h00 := half_mul (H_mod a) (H_mod b)
  have h01 := half_mul (H_mod a) (H_div hb)
  have h10 := half_mul (H_div ha) (H_mod b)
  have h11 := half_mul (H_div ha) (H_div hb)
  have e := mul_halves a b
  unfold mulLo
  rw [e]
  generalize a % 4294967296 * (b % 4294967296) = p00 at *
  generalize a % 4294967296 * (b / 4294967296) = p01 at *
  generalize a / 4294967296 * (b % 4294967296) = p10 at *
  generalize a / 4294967296 * (b / 4294967296) = p11 at *
  clear e ha hb
  omega
/-! ### order -/
def ord (a b : Int) : Int := if a < b then -1 else if b < a then 1 else 0
def cmp2 (a b c d : Int) : Int := if a = c then ord b d else ord a c

/-! ### wide.Mul3 -/
end Go.Proofs.YtceecgklgkiffabGreatDoor.Ar

/- What each call of package wide answers: its contract, for every argument. -/
namespace Go.Proofs.YtceecgklgkiffabGreatDoor
open Go.ChangeShapes Go.WideShapes Go.ChangeAt Go.RowKit
open Ar
set_option linter.unusedVariables false

/-- the world has at most new blocks, and draws -/
def Gr (w w' : World) : Prop := Grown w w' ∧ Below w.heap.size w w'
theorem gr_refl (w : World) : Gr w w := ⟨Grown.refl _, Below.refl _ _⟩
theorem gr_trans {a b c : World} (h : Gr a b) (k : Gr b c) : Gr a c :=
  ⟨⟨World.keptBut_trans h.1.1 k.1.1, fun x => (k.1.2.1 x).trans (h.1.2.1 x), Nat.le_trans h.1.2.2 k.1.2.2⟩, h.2.trans (k.2.mono h.2.size)⟩
theorem gr_alloc {a b : World} (h : Gr a b) (c : Array Value) (t : TypeId) : Gr a (b.alloc (.cells c t)) := ⟨h.1.alloc c t, h.2.alloc h.2.size _⟩
theorem gr_drewN {a b : World} (h : Gr a b) (n : Nat) : Gr a (b.drewN n) := ⟨h.1, ⟨h.2.os, h.2.tape, h.2.output, h.2.size, h.2.block⟩⟩

theorem ret_int {k : IntKind} {a b : Int} (h : a = b) : Ending.returned (.int k a) = .returned (.int k b) := by rw [h]
theorem ret_two {k l : IntKind} {a b c d : Int} (h : a = b) (h' : c = d) : Ending.returned (.tuple #[.int k a, .int l c]) = .returned (.tuple #[.int k b, .int l d]) := by rw [h, h']
theorem ret_three {k l m : IntKind} {a b c d e f : Int} (h : a = b) (h' : c = d) (h'' : e = f) : Ending.returned (.tuple #[.int k a, .int l c, .int m e]) = .returned (.tuple #[.int k b, .int l d, .int m f]) := by rw [h, h', h'']
theorem ret_iib {k l : IntKind} {a b c d : Int} {p q : Bool} (h : a = b) (h' : c = d) (h'' : p = q) : Ending.returned (.tuple #[.int k a, .int l c, .bool p]) = .returned (.tuple #[.int k b, .int l d, .bool q]) := by rw [h, h', h'']
theorem beq_of {a b : Int} (h : a = b) : (a == b) = true := by rw [h]; exact beq_self_eq_true _
theorem bne_of {a b : Int} (h : a = b) : (a != b) = false := by rw [h]; simp
theorem beq_no {a b : Int} (h : a ≠ b) : (a == b) = false := by simpa using h
theorem bne_yes {a b : Int} (h : a ≠ b) : (a != b) = true := by simpa using h

theorem add_any {a b c : Int} (ha : U a) (hb : U b) (hc : U c) (w : World) :
    Calls Tryz.prog 100 #[.int .u64 a, .int .u64 b, .int .u64 c] w fun e w' => ∃ x y, e = .returned (.tuple #[.int .u64 x, .int .u64 y]) ∧ w = w' ∧ x = addLo a b c ∧ y = addHi a b c := by
  go_enter Tryz.func100, Tryz.ntmps100
  go_wp2
  go_ret2
  refine ⟨_, _, rfl, rfl, ?_, ?_⟩
  · exact add_lo hc
  · rw [add_lo hc]; exact add_hi ha hb

theorem sub_any {a b c : Int} (ha : U a) (hb : U b) (hc : U c) (w : World) :
    Calls Tryz.prog 133 #[.int .u64 a, .int .u64 b, .int .u64 c] w fun e w' => ∃ x y, e = .returned (.tuple #[.int .u64 x, .int .u64 y]) ∧ w = w' ∧ x = subLo a b c ∧ y = subHi a b c := by
  go_enter Tryz.func133, Tryz.ntmps133
  go_wp2
  go_ret2
  refine ⟨_, _, rfl, rfl, ?_, ?_⟩
  · exact sub_lo hc
  · rw [sub_lo hc]; exact sub_hi ha hb

theorem join_any {a b : Int} (hb : H b) (w : World) :
    Calls Tryz.prog 128 #[.int .u64 a, .int .u64 b] w fun e w' => ∃ x, e = .returned (.int .u64 x) ∧ w = w' ∧ x = a % 4294967296 * 4294967296 + b := by
  go_enter Tryz.func128, Tryz.ntmps128
  go_wp2
  go_ret
  exact ⟨_, rfl, rfl, or_join hb⟩

theorem mul_any {a b : Int} (ha : U a) (hb : U b) (w : World) :
    Calls Tryz.prog 99 #[.int .u64 a, .int .u64 b] w fun e w' => ∃ x y, e = .returned (.tuple #[.int .u64 x, .int .u64 y]) ∧ Gr w w' ∧ x = mulHi a b ∧ y = mulLo a b := by
  go_enter Tryz.func99, Tryz.ntmps99
  go_wp2
  refine wp_loop_rounds 3 ?_
  rw [rounds_succ]
  go_wp2
  rw [rounds_succ]
  go_wp2
  rw [rounds_succ]
  go_wp2
  go_ret2
  exact ⟨_, _, rfl, gr_alloc (gr_refl _) _ _, mul_hi ha hb, mul_lo ha hb⟩

theorem order_any (a b : Int) (w : World) :
    Calls Tryz.prog 187 #[.int .u64 a, .int .u64 b] w fun e w' => ∃ x, e = .returned (.int .i64 x) ∧ w = w' ∧ x = ord a b := by
  go_enter Tryz.func187, Tryz.ntmps187
  go_wp2
  all_goals go_ret
  · exact ⟨_, rfl, rfl, by unfold ord; rw [if_pos (by assumption)]⟩
  · exact ⟨_, rfl, rfl, by unfold ord; rw [if_neg (by omega), if_pos (by assumption)]⟩
  · exact ⟨_, rfl, rfl, by unfold ord; rw [if_neg (by omega), if_neg (by omega)]⟩

theorem cmp_any (a b c d : Int) (w : World) :
    Calls Tryz.prog 171 #[.int .u64 a, .int .u64 b, .int .u64 c, .int .u64 d] w fun e w' => ∃ x, e = .returned (.int .i64 x) ∧ w = w' ∧ x = cmp2 a b c d := by
  by_cases h : a = c
  · have h' : (a != c) = false := by simp [h]
    go_enter Tryz.func171, Tryz.ntmps171
    go_wp2_with (go_at_call 187; refine (order_any _ _ _).mono ?_; rintro e w' ⟨_, rfl, rfl, rfl⟩)
    go_ret
    exact ⟨_, rfl, rfl, by unfold cmp2; rw [if_pos h]⟩
  · have h' : (a != c) = true := by simp [h]
    go_enter Tryz.func171, Tryz.ntmps171
    go_wp2_with (go_at_call 187; refine (order_any _ _ _).mono ?_; rintro e w' ⟨_, rfl, rfl, rfl⟩)
    go_ret
    exact ⟨_, rfl, rfl, by unfold cmp2; rw [if_neg h]⟩

end Go.Proofs.YtceecgklgkiffabGreatDoor

/- Plain numbers: how many bits a word has, and how many zeros at its low end. -/
namespace Go.Proofs.YtceecgklgkiffabGreatDoor.Ar
open Go.RowKit
set_option linter.unusedVariables false

def lenW (x : Int) : Int := if x ≤ 0 then 0 else (Nat.log2 x.toNat : Int) + 1
theorem pow_cast (k : Nat) : ((2 ^ k : Nat) : Int) = (2 : Int) ^ k := by simp
theorem pow_pos (k : Nat) : 0 < (2 : Int) ^ k := by rw [← pow_cast]; exact Int.natCast_pos.mpr (Nat.two_pow_pos k)
theorem lenW_eq {x : Int} {k : Nat} (h1 : 2 ^ k ≤ x) (h2 : x < 2 ^ (k + 1)) : lenW x = k + 1 := by
  have p := pow_pos k
  unfold lenW
  rw [if_neg (by omega)]
  have e : x.toNat.log2 = k := by
    rw [Nat.log2_eq_iff (by omega)]
    have a1 := pow_cast k
    have a2 := pow_cast (k + 1)
    omega
  rw [e]
theorem div_pow_one {x : Int} {k : Nat} (h : x / 2 ^ k = 1) : 2 ^ k ≤ x ∧ x < 2 ^ (k + 1) := by
  have p := pow_pos k
  have e : (2 : Int) ^ (k + 1) = 2 ^ k * 2 := Int.pow_succ _ _
  have h1 := Int.mul_ediv_self_le (x := x) (k := 2 ^ k) (by omega)
  have h2 := Int.lt_mul_ediv_self_add (x := x) (k := 2 ^ k) p
  rw [h] at h1 h2
  omega
def LenInv (x0 X N S : Int) : Prop := ∃ k : Nat, N = k ∧ X = x0 / 2 ^ k ∧ (k = 0 ∨ 1 ≤ X) ∧ 0 ≤ X ∧
  ((S = 32 ∧ X < 18446744073709551616 ∧ k = 0) ∨ (S = 16 ∧ X < 4294967296 ∧ k ≤ 32) ∨ (S = 8 ∧ X < 65536 ∧ k ≤ 48) ∨ (S = 4 ∧ X < 256 ∧ k ≤ 56) ∨ (S = 2 ∧ X < 16 ∧ k ≤ 60) ∨ (S = 1 ∧ X < 4 ∧ k ≤ 62) ∨ (S = 0 ∧ X < 2 ∧ k ≤ 63))
theorem len_start {x : Int} (h : U x) : LenInv x x 0 32 := by
  unfold U at h
  exact ⟨0, rfl, by simp, by omega, by omega, by omega⟩
theorem div_add (x : Int) (k s : Nat) : x / 2 ^ k / 2 ^ s = x / 2 ^ (k + s) := by
  rw [Int.pow_add, Int.ediv_ediv_of_nonneg (Int.le_of_lt (pow_pos k))]
/-- the six steps of Len: how far, and by what is divided -/
def LenStep (s : Nat) (c : Int) : Prop := (s = 32 ∧ c = 4294967296) ∨ (s = 16 ∧ c = 65536) ∨ (s = 8 ∧ c = 256) ∨ (s = 4 ∧ c = 16) ∨ (s = 2 ∧ c = 4) ∨ (s = 1 ∧ c = 2)
theorem len_pow {s : Nat} {c : Int} (h : LenStep s c) : c = 2 ^ s := by
  rcases h with ⟨rfl, rfl⟩ | ⟨rfl, rfl⟩ | ⟨rfl, rfl⟩ | ⟨rfl, rfl⟩ | ⟨rfl, rfl⟩ | ⟨rfl, rfl⟩ <;> rfl
theorem len_yes {x0 X N : Int} {s : Nat} {c : Int} (hs : LenStep s c) (h : LenInv x0 X N s) (hq : X / c ≠ 0) : LenInv x0 (X / c) (N + s) ((s / 2 : Nat) : Int) := by
  obtain ⟨k, rfl, hX, h1, h2, h3⟩ := h
  have hd : X / c = x0 / 2 ^ (k + s) := by rw [hX, len_pow hs, div_add]
  refine ⟨k + s, by omega, hd, ?_, ?_, ?_⟩
  · clear hX hd
    rcases hs with ⟨rfl, rfl⟩ | ⟨rfl, rfl⟩ | ⟨rfl, rfl⟩ | ⟨rfl, rfl⟩ | ⟨rfl, rfl⟩ | ⟨rfl, rfl⟩ <;> rcases h3 with h3 | h3 | h3 | h3 | h3 | h3 | h3 <;> omega
  · clear hX hd
    rcases hs with ⟨rfl, rfl⟩ | ⟨rfl, rfl⟩ | ⟨rfl, rfl⟩ | ⟨rfl, rfl⟩ | ⟨rfl, rfl⟩ | ⟨rfl, rfl⟩ <;> rcases h3 with h3 | h3 | h3 | h3 | h3 | h3 | h3 <;> omega
  · clear hX hd
    rcases hs with ⟨rfl, rfl⟩ | ⟨rfl, rfl⟩ | ⟨rfl, rfl⟩ | ⟨rfl, rfl⟩ | ⟨rfl, rfl⟩ | ⟨rfl, rfl⟩ <;> rcases h3 with h3 | h3 | h3 | h3 | h3 | h3 | h3 <;> omega
theorem len_no {x0 X N : Int} {s : Nat} {c : Int} (hs : LenStep s c) (h : LenInv x0 X N s) (hq : X / c = 0) : LenInv x0 X N ((s / 2 : Nat) : Int) := by
  obtain ⟨k, rfl, hX, h1, h2, h3⟩ := h
  refine ⟨k, rfl, hX, h1, h2, ?_⟩
  clear hX
  rcases hs with ⟨rfl, rfl⟩ | ⟨rfl, rfl⟩ | ⟨rfl, rfl⟩ | ⟨rfl, rfl⟩ | ⟨rfl, rfl⟩ | ⟨rfl, rfl⟩ <;> rcases h3 with h3 | h3 | h3 | h3 | h3 | h3 | h3 <;> omega
theorem len_end {x0 X N : Int} (h : LenInv x0 X N 0) : N + X = lenW x0 := by
  obtain ⟨k, rfl, hX, h1, h2, h3⟩ := h
  have h4 : X < 2 := by omega
  by_cases e : X = 0
  · have : k = 0 := by omega
    subst this
    have : x0 = 0 := by simp at hX; omega
    subst this; subst e; rfl
  · have e1 : X = 1 := by omega
    have := div_pow_one (x := x0) (k := k) (by omega)
    rw [lenW_eq this.1 this.2, e1]
theorem len_bd {x0 X N S : Int} (h : LenInv x0 X N S) : 0 ≤ N ∧ N ≤ 63 ∧ 0 ≤ X := by
  obtain ⟨k, rfl, hX, h1, h2, h3⟩ := h
  clear hX; omega
theorem len_steps {x0 X N S : Int} (h : LenInv x0 X N S) : S = 32 ∨ S = 16 ∨ S = 8 ∨ S = 4 ∨ S = 2 ∨ S = 1 ∨ S = 0 := by
  obtain ⟨k, rfl, hX, h1, h2, h3⟩ := h
  clear hX; omega
theorem len_last {x0 X N : Int} (h : LenInv x0 X N 0) : X < 2 := by
  obtain ⟨k, rfl, hX, h1, h2, h3⟩ := h
  clear hX; omega
theorem lenW_bd {x : Int} (h : U x) : 0 ≤ lenW x ∧ lenW x ≤ 64 := by
  unfold lenW; split
  · omega
  · unfold U at h
    have : x.toNat.log2 < 64 := (Nat.log2_lt (by omega)).mpr (by omega)
    omega
/-- of a word that is not 0: its highest bit's place -/
theorem lenW_pos {x : Int} (h : U x) (h0 : x ≠ 0) : ∃ k : Nat, k < 64 ∧ lenW x = k + 1 ∧ 2 ^ k ≤ x ∧ x < 2 ^ (k + 1) := by
  unfold U at h
  have a := (Nat.log2_eq_iff (n := x.toNat) (k := x.toNat.log2) (by omega)).mp rfl
  have a1 := pow_cast x.toNat.log2
  have a2 := pow_cast (x.toNat.log2 + 1)
  have h1 : (2 : Int) ^ x.toNat.log2 ≤ x := by omega
  have h2 : x < (2 : Int) ^ (x.toNat.log2 + 1) := by omega
  exact ⟨x.toNat.log2, (Nat.log2_lt (by omega)).mpr (by omega), lenW_eq h1 h2, h1, h2⟩

/-! ### zeros at the low end -/
theorem low_bit (k m : Nat) (hk : k < 64) (h : 2 ^ (k + 1) * m + 2 ^ k < 2 ^ 64) :
    (2 ^ (k + 1) * m + 2 ^ k) &&& (2 ^ 64 - (2 ^ (k + 1) * m + 2 ^ k)) = 2 ^ k := by
  have hp := Nat.two_pow_pos k
  have hs : 2 ^ (k + 1) = 2 ^ k * 2 := Nat.pow_succ ..
  have hx : 2 ^ (k + 1) * m + 2 ^ k = 2 ^ (k + 1) * m + (2 ^ k - 1) + 1 := by omega
  apply Nat.eq_of_testBit_eq
  intro j
  rw [Nat.testBit_and]
  have e2 : (2 ^ 64 - (2 ^ (k + 1) * m + 2 ^ k)).testBit j = (decide (j < 64) && !(2 ^ (k + 1) * m + (2 ^ k - 1)).testBit j) := by
    rw [hx]; exact Nat.testBit_two_pow_sub_succ (by omega) j
  rw [e2, Nat.testBit_two_pow_mul_add _ (by omega), Nat.testBit_two_pow_mul_add _ (by omega), Nat.testBit_two_pow, Nat.testBit_two_pow_sub_one]
  by_cases hj : j < k + 1
  · simp only [if_pos hj]
    by_cases e : k = j
    · subst e; simp; omega
    · simp [e]
  · simp only [if_neg hj]
    have : ¬ k = j := by omega
    cases m.testBit (j - (k + 1)) <;> simp [this]
theorem odd_part (n : Nat) (h : n ≠ 0) : ∃ k m : Nat, n = 2 ^ (k + 1) * m + 2 ^ k := by
  induction n using Nat.strongRecOn with
  | _ n ih =>
    by_cases o : n % 2 = 1
    · exact ⟨0, n / 2, by simp; omega⟩
    · obtain ⟨k, m, e⟩ := ih (n / 2) (by omega) (by omega)
      refine ⟨k + 1, m, ?_⟩
      have e1 : 2 ^ (k + 1 + 1) = 2 ^ (k + 1) * 2 := Nat.pow_succ ..
      have e2 : 2 ^ (k + 1) = 2 ^ k * 2 := Nat.pow_succ ..
      have e3 : 2 ^ (k + 1 + 1) * m = 2 * (2 ^ (k + 1) * m) := by rw [e1]; grind
      omega
def zerosW (x : Int) : Int := if x = 0 then 64 else lenW (bits .and .u64 x (IntKind.u64.wrap (-x))) - 1
theorem zerosW_pos {x : Int} (h : U x) (h0 : x ≠ 0) : ∃ k m : Nat, k < 64 ∧ zerosW x = k ∧ x = 2 ^ (k + 1) * m + 2 ^ k ∧ bits .and .u64 x (IntKind.u64.wrap (-x)) = 2 ^ k := by
  unfold U at h
  obtain ⟨k, m, e⟩ := odd_part x.toNat (by omega)
  have hk : k < 64 := by
    have : 2 ^ k < 2 ^ 64 := by
      have : 2 ^ k ≤ x.toNat := by rw [e]; exact Nat.le_add_left _ _
      omega
    exact (Nat.pow_lt_pow_iff_right (by omega)).mp this
  have hw : IntKind.u64.wrap (-x) = 18446744073709551616 - x := by rw [wrapU]; omega
  have hb : bits .and .u64 x (IntKind.u64.wrap (-x)) = 2 ^ k := by
    rw [hw, u64_and x _ h.1 h.2 (by omega) (by omega)]
    have : (18446744073709551616 - x).toNat = 2 ^ 64 - x.toNat := by omega
    rw [this, e, low_bit k m hk (by omega)]
    exact pow_cast k
  refine ⟨k, m, hk, ?_, ?_, hb⟩
  · unfold zerosW
    rw [if_neg h0, hb, lenW_eq (Int.le_refl _) ?_]
    · omega
    · have := pow_pos k
      rw [Int.pow_succ]; omega
  · have c1 := pow_cast (k + 1)
    have c2 := pow_cast k
    have : x = ((2 ^ (k + 1) * m + 2 ^ k : Nat) : Int) := by rw [← e]; omega
    rw [this, Int.natCast_add, Int.natCast_mul, c1, c2]
theorem zerosW_bd {x : Int} (h : U x) : 0 ≤ zerosW x ∧ zerosW x ≤ 64 := by
  by_cases h0 : x = 0
  · subst h0; exact ⟨by decide, by decide⟩
  · obtain ⟨k, m, hk, e, _⟩ := zerosW_pos h h0
    omega

/-! ### powers of two, a bit at a time -/
theorem p64 : (2 : Int) ^ 64 = 18446744073709551616 := rfl
theorem U_div_pow {x : Int} (h : U x) (k : Nat) : U (x / 2 ^ k) := by
  unfold U at *
  have p := pow_pos k
  have h1 : 0 ≤ x / 2 ^ k := Int.ediv_nonneg h.1 (by omega)
  have h2 : x / 2 ^ k ≤ x := Int.ediv_le_self _ h.1
  omega
theorem pow_lt {k : Nat} (h : k < 64) : (2 : Int) ^ k ≤ 9223372036854775808 := by
  have := pow_cast k
  have : 2 ^ k ≤ 2 ^ 63 := Nat.pow_le_pow_right (by omega) (by omega)
  omega
end Go.Proofs.YtceecgklgkiffabGreatDoor.Ar

/- wide.Len, wide.Zeros -/
namespace Go.Proofs.YtceecgklgkiffabGreatDoor
open Go.ChangeShapes Go.WideShapes Go.ChangeAt Go.RowKit
open Ar
set_option linter.unusedVariables false

set_option maxHeartbeats 1000000 in
set_option maxRecDepth 100000 in
theorem len_any {x : Int} (hx : U x) (w : World) :
    Calls Tryz.prog 94 #[.int .u64 x] w fun e w' => e = .returned (.int .i64 (lenW x)) ∧ w = w' := by
  have hi := len_start hx
  go_enter Tryz.func94, Tryz.ntmps94
  go_wp2
  go_loop [0, 3, 4] (fun v n s => ∃ X N S : Int, v = .int .u64 X ∧ n = .int .i64 N ∧ s = .int .i64 S ∧ LenInv x X N S) (fun _ _ s => (intOf s).toNat)
  case atStart => exact ⟨x, 0, 32, rfl, rfl, rfl, hi⟩
  case round =>
    obtain ⟨X, N, S, rfl, rfl, rfl, hr⟩ := hrel
    clear hi
    have bd := len_bd hr
    have st := len_steps hr
    obtain ⟨b1, b2, b3⟩ := bd
    rcases st with rfl | rfl | rfl | rfl | rfl | rfl | rfl
    · have hy := fun h => len_yes (s := 32) (Or.inl ⟨rfl, rfl⟩) hr h
      have hn := fun h => len_no (s := 32) (Or.inl ⟨rfl, rfl⟩) hr h
      clear hr
      by_cases q : X / 4294967296 = 0
      · have q' : (X / 4294967296 != 0) = false := bne_of q
        replace hn := hn q
        clear hy q
        go_wp2
        go_round
        case rel => exact ⟨X, N, _, rfl, rfl, rfl, hn⟩
        case measure => simp [intOf]
      · have q' : (X / 4294967296 != 0) = true := bne_yes q
        replace hy := hy q
        clear hn q
        go_wp2
        go_round
        case rel => exact ⟨_, _, _, rfl, rfl, rfl, hy⟩
        case measure => simp [intOf]
    · have hy := fun h => len_yes (s := 16) (Or.inr (Or.inl ⟨rfl, rfl⟩)) hr h
      have hn := fun h => len_no (s := 16) (Or.inr (Or.inl ⟨rfl, rfl⟩)) hr h
      clear hr
      by_cases q : X / 65536 = 0
      · have q' : (X / 65536 != 0) = false := bne_of q
        replace hn := hn q
        clear hy q
        go_wp2
        go_round
        case rel => exact ⟨X, N, _, rfl, rfl, rfl, hn⟩
        case measure => simp [intOf]
      · have q' : (X / 65536 != 0) = true := bne_yes q
        replace hy := hy q
        clear hn q
        go_wp2
        go_round
        case rel => exact ⟨_, _, _, rfl, rfl, rfl, hy⟩
        case measure => simp [intOf]
    · have hy := fun h => len_yes (s := 8) (Or.inr (Or.inr (Or.inl ⟨rfl, rfl⟩))) hr h
      have hn := fun h => len_no (s := 8) (Or.inr (Or.inr (Or.inl ⟨rfl, rfl⟩))) hr h
      clear hr
      by_cases q : X / 256 = 0
      · have q' : (X / 256 != 0) = false := bne_of q
        replace hn := hn q
        clear hy q
        go_wp2
        go_round
        case rel => exact ⟨X, N, _, rfl, rfl, rfl, hn⟩
        case measure => simp [intOf]
      · have q' : (X / 256 != 0) = true := bne_yes q
        replace hy := hy q
        clear hn q
        go_wp2
        go_round
        case rel => exact ⟨_, _, _, rfl, rfl, rfl, hy⟩
        case measure => simp [intOf]
    · have hy := fun h => len_yes (s := 4) (Or.inr (Or.inr (Or.inr (Or.inl ⟨rfl, rfl⟩)))) hr h
      have hn := fun h => len_no (s := 4) (Or.inr (Or.inr (Or.inr (Or.inl ⟨rfl, rfl⟩)))) hr h
      clear hr
      by_cases q : X / 16 = 0
      · have q' : (X / 16 != 0) = false := bne_of q
        replace hn := hn q
        clear hy q
        go_wp2
        go_round
        case rel => exact ⟨X, N, _, rfl, rfl, rfl, hn⟩
        case measure => simp [intOf]
      · have q' : (X / 16 != 0) = true := bne_yes q
        replace hy := hy q
        clear hn q
        go_wp2
        go_round
        case rel => exact ⟨_, _, _, rfl, rfl, rfl, hy⟩
        case measure => simp [intOf]
    · have hy := fun h => len_yes (s := 2) (Or.inr (Or.inr (Or.inr (Or.inr (Or.inl ⟨rfl, rfl⟩))))) hr h
      have hn := fun h => len_no (s := 2) (Or.inr (Or.inr (Or.inr (Or.inr (Or.inl ⟨rfl, rfl⟩))))) hr h
      clear hr
      by_cases q : X / 4 = 0
      · have q' : (X / 4 != 0) = false := bne_of q
        replace hn := hn q
        clear hy q
        go_wp2
        go_round
        case rel => exact ⟨X, N, _, rfl, rfl, rfl, hn⟩
        case measure => simp [intOf]
      · have q' : (X / 4 != 0) = true := bne_yes q
        replace hy := hy q
        clear hn q
        go_wp2
        go_round
        case rel => exact ⟨_, _, _, rfl, rfl, rfl, hy⟩
        case measure => simp [intOf]
    · have hy := fun h => len_yes (s := 1) (Or.inr (Or.inr (Or.inr (Or.inr (Or.inr ⟨rfl, rfl⟩))))) hr h
      have hn := fun h => len_no (s := 1) (Or.inr (Or.inr (Or.inr (Or.inr (Or.inr ⟨rfl, rfl⟩))))) hr h
      clear hr
      by_cases q : X / 2 = 0
      · have q' : (X / 2 != 0) = false := bne_of q
        replace hn := hn q
        clear hy q
        go_wp2
        go_round
        case rel => exact ⟨X, N, _, rfl, rfl, rfl, hn⟩
        case measure => simp [intOf]
      · have q' : (X / 2 != 0) = true := bne_yes q
        replace hy := hy q
        clear hn q
        go_wp2
        go_round
        case rel => exact ⟨_, _, _, rfl, rfl, rfl, hy⟩
        case measure => simp [intOf]
    · have hl := len_last hr
      go_wp2
      go_ret
      exact ⟨ret_int (len_end hr), rfl⟩

theorem zeros_any {x : Int} (hx : U x) (w : World) :
    Calls Tryz.prog 98 #[.int .u64 x] w fun e w' => ∃ n, e = .returned (.int .i64 n) ∧ w = w' ∧ n = zerosW x := by
  by_cases h : x = 0
  · have h' : (x == 0) = true := beq_of h
    go_enter Tryz.func98, Tryz.ntmps98
    go_wp2
    go_ret
    exact ⟨_, rfl, rfl, by unfold zerosW; rw [if_pos h]⟩
  · have h' : (x == 0) = false := beq_no h
    have hu : U (bits .and .u64 x (IntKind.u64.wrap (-x))) := U_bits_and hx (U_wrap _)
    obtain ⟨b1, b2⟩ := lenW_bd hu
    go_enter Tryz.func98, Tryz.ntmps98
    go_wp2_with (go_at_call 94; refine (len_any hu _).mono ?_; rintro e w' ⟨rfl, rfl⟩)
    go_ret
    exact ⟨_, rfl, rfl, by unfold zerosW; rw [if_neg h]⟩
end Go.Proofs.YtceecgklgkiffabGreatDoor

/- Plain numbers: shifts of two words. -/
namespace Go.Proofs.YtceecgklgkiffabGreatDoor.Ar
open Go.RowKit
set_option linter.unusedVariables false

def shHi (a b : Int) (k : Nat) : Int := (a * 18446744073709551616 + b) * 2 ^ k / 18446744073709551616 % 18446744073709551616
def shLo (a b : Int) (k : Nat) : Int := (a * 18446744073709551616 + b) * 2 ^ k % 18446744073709551616
def srHi (a b : Int) (k : Nat) : Int := (a * 18446744073709551616 + b) / 2 ^ k / 18446744073709551616
def srLo (a b : Int) (k : Nat) : Int := (a * 18446744073709551616 + b) / 2 ^ k % 18446744073709551616
def srLost (a b : Int) (k : Nat) : Bool := decide ((a * 18446744073709551616 + b) % 2 ^ k ≠ 0)
def clampN (n : Int) : Nat := if n ≤ 0 then 0 else if 128 ≤ n then 128 else n.toNat
theorem clampN_le (n : Int) : clampN n ≤ 128 := by unfold clampN; split <;> (try split) <;> omega
theorem clampN_of (k : Nat) (h : k ≤ 128) : clampN (k : Int) = k := by
  unfold clampN; split
  · omega
  · split <;> omega

theorem U_shHi (a b : Int) (k : Nat) : U (shHi a b k) := by unfold U shHi; omega
theorem U_shLo (a b : Int) (k : Nat) : U (shLo a b k) := by unfold U shLo; omega
theorem U_srLo (a b : Int) (k : Nat) : U (srLo a b k) := by unfold U srLo; omega
theorem mul_mod_right (a b : Int) {c : Int} (hc : 0 < c) : a * c % (b * c) = a % b * c := by
  rw [Int.mul_comm a c, Int.mul_comm b c, Int.mul_emod_mul_of_pos a b hc, Int.mul_comm]
theorem pow_split {k : Nat} (h : k ≤ 64) : (2 : Int) ^ (64 - k) * 2 ^ k = 18446744073709551616 := by
  rw [← Int.pow_add, Nat.sub_add_cancel h]; rfl
theorem pow_more {k : Nat} (h : 64 ≤ k) : (2 : Int) ^ k = 2 ^ (k - 64) * 18446744073709551616 := by
  rw [← p64, ← Int.pow_add, Nat.sub_add_cancel h]
/-- what stands above 2^k and what stands below it, laid together -/
theorem or_parts {x y : Int} {k : Nat} (hk : k ≤ 64) (hy0 : 0 ≤ y) (hy : y < 2 ^ k) : bits .or .u64 (IntKind.u64.wrap (x * 2 ^ k)) y = x * 2 ^ k % 18446744073709551616 + y := by
  have p := pow_pos k
  have c := pow_cast k
  have hp : (2 : Int) ^ k ≤ 18446744073709551616 := by
    have : 2 ^ k ≤ 2 ^ 64 := Nat.pow_le_pow_right (by omega) hk
    omega
  rw [wrapU]
  have h : 0 ≤ x * 2 ^ k % 18446744073709551616 ∧ x * 2 ^ k % 18446744073709551616 < 18446744073709551616 := by omega
  rw [u64_or _ _ h.1 h.2 hy0 (by omega)]
  have hm : (x * 2 ^ k % 18446744073709551616) % 2 ^ k = 0 := by
    have d : (2 : Int) ^ k ∣ 18446744073709551616 := ⟨2 ^ (64 - k), by rw [Int.mul_comm]; exact (pow_split hk).symm⟩
    rw [Int.emod_emod_of_dvd _ d]; exact Int.mul_emod_left _ _
  have hm' : (x * 2 ^ k % 18446744073709551616).toNat % 2 ^ k = 0 := by
    have : (((x * 2 ^ k % 18446744073709551616).toNat % 2 ^ k : Nat) : Int) = 0 := by
      rw [Int.natCast_emod, c, Int.toNat_of_nonneg h.1]; exact hm
    omega
  have : ((x * 2 ^ k % 18446744073709551616).toNat ||| y.toNat) = (x * 2 ^ k % 18446744073709551616).toNat + y.toNat := nat_join k _ _ hm' (by omega)
  rw [this]; omega
theorem div_lt_pow {b : Int} {k : Nat} (hb : U b) (hk : k ≤ 64) : 0 ≤ b / 2 ^ (64 - k) ∧ b / 2 ^ (64 - k) < 2 ^ k := by
  unfold U at hb
  have p := pow_pos (64 - k)
  refine ⟨Int.ediv_nonneg hb.1 (by omega), Int.ediv_lt_of_lt_mul p ?_⟩
  rw [Int.mul_comm, pow_split hk]; exact hb.2

theorem shl_lo {a b : Int} (k : Nat) : IntKind.u64.wrap (b * 2 ^ k) = shLo a b k := by
  rw [wrapU]; unfold shLo
  have e : (a * 18446744073709551616 + b) * 2 ^ k = a * 2 ^ k * 18446744073709551616 + b * 2 ^ k := by grind
  rw [e]
  generalize a * 2 ^ k = s
  generalize b * 2 ^ k = t
  omega
theorem shl_hi {a b : Int} {k : Nat} (hb : U b) (hk : k ≤ 64) : bits .or .u64 (IntKind.u64.wrap (a * 2 ^ k)) (b / 2 ^ (64 - k)) = shHi a b k := by
  obtain ⟨h1, h2⟩ := div_lt_pow hb hk
  rw [or_parts hk h1 h2]
  unfold shHi
  have e : (a * 18446744073709551616 + b) * 2 ^ k = a * 2 ^ k * 18446744073709551616 + b * 2 ^ k := by grind
  have e2 : b * 2 ^ k / 18446744073709551616 = b / 2 ^ (64 - k) := by
    rw [← pow_split hk]; exact Int.mul_ediv_mul_of_pos_left _ _ (pow_pos k)
  have e3 : (a * 18446744073709551616 + b) * 2 ^ k / 18446744073709551616 = a * 2 ^ k + b / 2 ^ (64 - k) := by
    rw [e, ← e2]
    generalize a * 2 ^ k = s
    generalize b * 2 ^ k = t
    omega
  rw [e3]
  have hm : (a * 2 ^ k % 18446744073709551616) + 2 ^ k ≤ 18446744073709551616 := by
    have d := pow_split hk
    have : a * 2 ^ k % 18446744073709551616 = a % 2 ^ (64 - k) * 2 ^ k := by
      rw [← d]; exact mul_mod_right _ _ (pow_pos k)
    rw [this]
    have l : a % 2 ^ (64 - k) < 2 ^ (64 - k) := Int.emod_lt_of_pos _ (pow_pos _)
    have m : (a % 2 ^ (64 - k) + 1) * 2 ^ k ≤ 2 ^ (64 - k) * 2 ^ k := Int.mul_le_mul_of_nonneg_right (by omega) (Int.le_of_lt (pow_pos k))
    rw [d] at m
    have : (a % 2 ^ (64 - k) + 1) * 2 ^ k = a % 2 ^ (64 - k) * 2 ^ k + 2 ^ k := by grind
    omega
  generalize a * 2 ^ k = s at *
  generalize b / 2 ^ (64 - k) = t at *
  generalize (2 : Int) ^ k = P at *
  omega
theorem shl_hi_big {a b : Int} {k : Nat} (hk : 64 ≤ k) : IntKind.u64.wrap (b * 2 ^ (k - 64)) = shHi a b k := by
  rw [wrapU]; unfold shHi
  rw [pow_more hk]
  have e : (a * 18446744073709551616 + b) * (2 ^ (k - 64) * 18446744073709551616) = (a * 2 ^ (k - 64) * 18446744073709551616 + b * 2 ^ (k - 64)) * 18446744073709551616 := by grind
  rw [e]
  generalize a * 2 ^ (k - 64) = s
  generalize b * 2 ^ (k - 64) = t
  omega
theorem shl_lo_big {a b : Int} {k : Nat} (hk : 64 ≤ k) : 0 = shLo a b k := by
  unfold shLo
  rw [pow_more hk, ← Int.mul_assoc]
  generalize (a * 18446744073709551616 + b) * 2 ^ (k - 64) = t
  omega

theorem shr_hi {a b : Int} (hb : U b) (k : Nat) : a / 2 ^ k = srHi a b k := by
  unfold srHi
  have p := pow_pos k
  rw [Int.ediv_ediv_of_nonneg (by omega), Int.mul_comm (2 ^ k), ← Int.ediv_ediv_of_nonneg (by omega)]
  have : (a * 18446744073709551616 + b) / 18446744073709551616 = a := by unfold U at hb; omega
  rw [this]
theorem shr_div {a b : Int} {k : Nat} (hk : k ≤ 64) : (a * 18446744073709551616 + b) / 2 ^ k = a * 2 ^ (64 - k) + b / 2 ^ k := by
  have p := pow_pos k
  have e : a * 18446744073709551616 + b = b + a * 2 ^ (64 - k) * 2 ^ k := by rw [Int.mul_assoc, pow_split hk]; omega
  rw [e, Int.add_mul_ediv_right _ _ (by omega)]
  omega
theorem div_lt_pow' {b : Int} {k : Nat} (hb : U b) (hk : k ≤ 64) : 0 ≤ b / 2 ^ k ∧ b / 2 ^ k < 2 ^ (64 - k) := by
  unfold U at hb
  have p := pow_pos k
  refine ⟨Int.ediv_nonneg hb.1 (by omega), Int.ediv_lt_of_lt_mul p ?_⟩
  rw [pow_split hk]; exact hb.2
theorem shr_lo {a b : Int} {k : Nat} (hb : U b) (hk : k ≤ 64) : bits .or .u64 (IntKind.u64.wrap (a * 2 ^ (64 - k))) (b / 2 ^ k) = srLo a b k := by
  obtain ⟨h1, h2⟩ := div_lt_pow' hb hk
  rw [or_parts (by omega) h1 h2]
  unfold srLo
  rw [shr_div hk]
  have d : (2 : Int) ^ k * 2 ^ (64 - k) = 18446744073709551616 := by rw [Int.mul_comm]; exact pow_split hk
  have hm : (a * 2 ^ (64 - k) % 18446744073709551616) + 2 ^ (64 - k) ≤ 18446744073709551616 := by
    have : a * 2 ^ (64 - k) % 18446744073709551616 = a % 2 ^ k * 2 ^ (64 - k) := by
      rw [← d]; exact mul_mod_right _ _ (pow_pos _)
    rw [this]
    have l : a % 2 ^ k < 2 ^ k := Int.emod_lt_of_pos _ (pow_pos _)
    have m : (a % 2 ^ k + 1) * 2 ^ (64 - k) ≤ 2 ^ k * 2 ^ (64 - k) := Int.mul_le_mul_of_nonneg_right (by omega) (Int.le_of_lt (pow_pos _))
    rw [d] at m
    have : (a % 2 ^ k + 1) * 2 ^ (64 - k) = a % 2 ^ k * 2 ^ (64 - k) + 2 ^ (64 - k) := by grind
    omega
  generalize a * 2 ^ (64 - k) = s at *
  generalize b / 2 ^ k = t at *
  generalize (2 : Int) ^ (64 - k) = P at *
  omega
theorem lost_low {b : Int} {k : Nat} (hk : k ≤ 64) : IntKind.u64.wrap (b * 2 ^ (64 - k)) = 0 ↔ b % 2 ^ k = 0 := by
  have d : (2 : Int) ^ k * 2 ^ (64 - k) = 18446744073709551616 := by rw [Int.mul_comm]; exact pow_split hk
  have p := pow_pos (64 - k)
  have e : b * 2 ^ (64 - k) % 18446744073709551616 = b % 2 ^ k * 2 ^ (64 - k) := by
    rw [← d]; exact mul_mod_right _ _ p
  rw [wrapU, e]
  constructor
  · intro h
    rcases Int.mul_eq_zero.mp h with h | h
    · exact h
    · omega
  · intro h; rw [h]; simp
theorem mod_low {a b : Int} {k : Nat} (hk : k ≤ 64) : (a * 18446744073709551616 + b) % 2 ^ k = b % 2 ^ k := by
  have e : a * 18446744073709551616 + b = b + 2 ^ k * (a * 2 ^ (64 - k)) := by
    have h : (2 : Int) ^ k * (a * 2 ^ (64 - k)) = a * (2 ^ (64 - k) * 2 ^ k) := by grind
    rw [h, pow_split hk]; omega
  rw [e, Int.add_mul_emod_self_left]
theorem shr_lost {a b : Int} {k : Nat} (hk : k ≤ 64) : (IntKind.u64.wrap (b * 2 ^ (64 - k)) != 0) = srLost a b k := by
  unfold srLost
  rw [mod_low hk, Bool.eq_iff_iff]
  have := lost_low (b := b) hk
  simp
  omega
theorem shr_hi_big {a b : Int} {k : Nat} (ha : U a) (hb : U b) (hk : 64 ≤ k) : 0 = srHi a b k := by
  unfold srHi
  have p := pow_pos (k - 64)
  rw [pow_more hk, Int.mul_comm (2 ^ (k - 64)), ← Int.ediv_ediv_of_nonneg (by omega)]
  have e : (a * 18446744073709551616 + b) / 18446744073709551616 = a := by unfold U at hb; omega
  rw [e]
  have u := U_div_pow ha (k - 64)
  unfold U at u
  omega
theorem shr_lo_big {a b : Int} {k : Nat} (ha : U a) (hb : U b) (hk : 64 ≤ k) : a / 2 ^ (k - 64) = srLo a b k := by
  unfold srLo
  have p := pow_pos (k - 64)
  rw [pow_more hk, Int.mul_comm (2 ^ (k - 64)), ← Int.ediv_ediv_of_nonneg (by omega)]
  have e : (a * 18446744073709551616 + b) / 18446744073709551616 = a := by unfold U at hb; omega
  rw [e]
  have u := U_div_pow ha (k - 64)
  unfold U at u
  omega
theorem mod_big {a b : Int} {k : Nat} (hb : U b) (hk : 64 ≤ k) : (a * 18446744073709551616 + b) % 2 ^ k = a % 2 ^ (k - 64) * 18446744073709551616 + b := by
  have p := pow_pos (k - 64)
  have h1 := Int.mul_ediv_add_emod a (2 ^ (k - 64))
  have h2 : 0 ≤ a % 2 ^ (k - 64) := Int.emod_nonneg _ (by omega)
  have h3 : a % 2 ^ (k - 64) < 2 ^ (k - 64) := Int.emod_lt_of_pos _ p
  have e : a * 18446744073709551616 + b = (a % 2 ^ (k - 64) * 18446744073709551616 + b) + 2 ^ k * (a / 2 ^ (k - 64)) := by
    rw [pow_more hk]
    have : (2 : Int) ^ (k - 64) * 18446744073709551616 * (a / 2 ^ (k - 64)) = 2 ^ (k - 64) * (a / 2 ^ (k - 64)) * 18446744073709551616 := by grind
    omega
  rw [e, Int.add_mul_emod_self_left]
  unfold U at hb
  refine Int.emod_eq_of_lt (by omega) ?_
  rw [pow_more hk]
  omega
theorem shr_lost_big {a b : Int} {k : Nat} (hb : U b) (hk : 64 ≤ k) (hk' : k ≤ 128) : ((b != 0) || (IntKind.u64.wrap (a * 2 ^ (128 - k)) != 0)) = srLost a b k := by
  unfold srLost
  rw [mod_big hb hk, Bool.eq_iff_iff]
  have h := lost_low (b := a) (k := k - 64) (by omega)
  have e : 64 - (k - 64) = 128 - k := by omega
  rw [e] at h
  have h2 : 0 ≤ a % 2 ^ (k - 64) := Int.emod_nonneg _ (by have := pow_pos (k - 64); omega)
  unfold U at hb
  simp
  omega
end Go.Proofs.YtceecgklgkiffabGreatDoor.Ar

/- wide.Shl, wide.Shr -/
namespace Go.Proofs.YtceecgklgkiffabGreatDoor
open Go.ChangeShapes Go.WideShapes Go.ChangeAt Go.RowKit
open Ar
set_option linter.unusedVariables false

theorem within_any (n : Int) (w : World) :
    Calls Tryz.prog 180 #[.int .i64 n] w fun e w' => e = .returned (.int .i64 (clampN n)) ∧ w = w' := by
  by_cases h0 : n ≤ 0
  · have e : clampN n = 0 := by unfold clampN; rw [if_pos h0]
    rw [e]
    by_cases h : n = 0
    · subst h
      go_enter Tryz.func180, Tryz.ntmps180
      go_wp2
      go_ret
      exact ⟨rfl, rfl⟩
    · have h' : n < 0 := by omega
      clear h h0
      go_enter Tryz.func180, Tryz.ntmps180
      go_wp2
      go_ret
      exact ⟨rfl, rfl⟩
  · by_cases h1 : 128 < n
    · have e : clampN n = 128 := by unfold clampN; rw [if_neg h0, if_pos (by omega)]
      rw [e]
      go_enter Tryz.func180, Tryz.ntmps180
      go_wp2
      go_ret
      exact ⟨rfl, rfl⟩
    · have e : (clampN n : Int) = n := by
        unfold clampN; rw [if_neg h0]; split <;> omega
      rw [e]
      go_enter Tryz.func180, Tryz.ntmps180
      go_wp2
      all_goals go_ret
      all_goals exact ⟨rfl, rfl⟩

theorem shl_any {a b : Int} (ha : U a) (hb : U b) (n : Int) (w : World) :
    Calls Tryz.prog 156 #[.int .u64 a, .int .u64 b, .int .i64 n] w fun e w' => e = .returned (.tuple #[.int .u64 (shHi a b (clampN n)), .int .u64 (shLo a b (clampN n))]) ∧ Gr w w' := by
  have hw := fun w => within_any n w
  have hk := clampN_le n
  generalize clampN n = k at *
  by_cases h : 64 ≤ k
  · go_enter Tryz.func156, Tryz.ntmps156
    go_wp2_with (go_at_call 180; refine (hw _).mono ?_; rintro e w' ⟨rfl, rfl⟩)
    go_ret2
    exact ⟨ret_two (shl_hi_big h) (shl_lo_big h), gr_refl _⟩
  · go_enter Tryz.func156, Tryz.ntmps156
    go_wp2_with (go_at_call 180; refine (hw _).mono ?_; rintro e w' ⟨rfl, rfl⟩)
    go_quiet (fail)
    go_wp2
    go_ret2
    exact ⟨ret_two (shl_hi hb (by omega)) (shl_lo k), gr_drewN (gr_refl _) _⟩

theorem shr_any {a b : Int} (ha : U a) (hb : U b) (n : Int) (w : World) :
    Calls Tryz.prog 178 #[.int .u64 a, .int .u64 b, .int .i64 n] w fun e w' => e = .returned (.tuple #[.int .u64 (srHi a b (clampN n)), .int .u64 (srLo a b (clampN n)), .bool (srLost a b (clampN n))]) ∧ Gr w w' := by
  have hw := fun w => within_any n w
  have hk := clampN_le n
  generalize clampN n = k at *
  by_cases h : 64 ≤ k
  · have hl := shr_lost_big (a := a) hb h hk
    by_cases hz : b = 0
    · have hz' : (b != 0) = false := bne_of hz
      rw [hz', Bool.false_or] at hl
      have HL : Hid ((IntKind.u64.wrap (a * 2 ^ (128 - k)) != 0) = srLost a b k) := hl
      clear hl hz
      go_enter Tryz.func178, Tryz.ntmps178
      go_wp2_with (go_at_call 180; refine (hw _).mono ?_; rintro e w' ⟨rfl, rfl⟩)
      go_quiet (fail)
      go_wp2
      go_ret3
      exact ⟨ret_iib (shr_hi_big ha hb h) (shr_lo_big ha hb h) HL.out, gr_drewN (gr_refl _) _⟩
    · have hz' : (b != 0) = true := bne_yes hz
      rw [hz', Bool.true_or] at hl
      have HL : Hid (true = srLost a b k) := hl
      clear hl hz
      go_enter Tryz.func178, Tryz.ntmps178
      go_wp2_with (go_at_call 180; refine (hw _).mono ?_; rintro e w' ⟨rfl, rfl⟩)
      go_quiet (fail)
      go_wp2
      go_ret3
      exact ⟨ret_iib (shr_hi_big ha hb h) (shr_lo_big ha hb h) HL.out, gr_drewN (gr_refl _) _⟩
  · go_enter Tryz.func178, Tryz.ntmps178
    go_wp2_with (go_at_call 180; refine (hw _).mono ?_; rintro e w' ⟨rfl, rfl⟩)
    go_quiet (fail)
    go_wp2
    go_ret3
    exact ⟨ret_iib (shr_hi hb k) (shr_lo hb (by omega)) (shr_lost (by omega)), gr_drewN (gr_refl _) _⟩
end Go.Proofs.YtceecgklgkiffabGreatDoor

/- Slices of integers: what a call is told of one that came in, and of one that it has made. -/
namespace Go.Proofs.YtceecgklgkiffabGreatDoor
open Go.ChangeShapes Go.WideShapes Go.ChangeAt Go.RowKit
set_option linter.unusedVariables false

/-- a slice (its address, its length) reads as these numbers -/
def RowAt (k : IntKind) (w : World) (a : Option Addr) (n : Nat) (xs : List Int) : Prop :=
  xs.length = n ∧ (n = 0 ∨ ∃ b off, a = some ⟨b, off, none⟩ ∧ b < w.heap.size ∧ ∀ i, i < n → w.cell? ⟨b, off + i, none⟩ = some (.int k (xs.getD i 0)))
theorem RowAt.later {k : IntKind} {w w' : World} {a : Option Addr} {n : Nat} {xs : List Int} (h : RowAt k w a n xs) (hb : Below w.heap.size w w') : RowAt k w' a n xs := by
  obtain ⟨h1, h2⟩ := h
  refine ⟨h1, ?_⟩
  rcases h2 with h2 | ⟨b, off, ha, hlt, hc⟩
  · exact Or.inl h2
  · exact Or.inr ⟨b, off, ha, Nat.lt_of_lt_of_le hlt hb.size, fun i hi => (hb.cell (p := ⟨b, off + i, none⟩) hlt).trans (hc i hi)⟩
theorem RowAt.at {k : IntKind} {w : World} {a : Option Addr} {n : Nat} {xs : List Int} (h : RowAt k w a n xs) (hn : 0 < n) :
    ∃ b off, a = some ⟨b, off, none⟩ ∧ b < w.heap.size ∧ ∀ i, i < n → w.cell? ⟨b, off + i, none⟩ = some (.int k (xs.getD i 0)) := by
  rcases h.2 with h2 | h2
  · omega
  · exact h2
theorem owned_row {k : IntKind} {w : World} {base : Nat} {e : TypeId} {v : Value} {n : Nat} {xs : List Int} (h : w.ownsRow base e 1 v n (xs.map (Value.int k))) :
    ∃ a cap, v = .slice a n cap ∧ n ≤ cap ∧ RowAt k w a n xs := by
  obtain ⟨h1, h2⟩ := h
  simp only [List.length_map, Nat.mul_one] at h1
  rcases h2 with ⟨rfl, rfl⟩ | ⟨g, cap, cur, rfl, hb, hg, hn, hm, hs, ht⟩
  · exact ⟨none, 0, rfl, Nat.le_refl _, h1, Or.inl rfl⟩
  · refine ⟨_, cap, rfl, hn, h1, Or.inr ⟨g, 0, rfl, ?_, ?_⟩⟩
    · by_cases hlt : g < w.heap.size
      · exact hlt
      · simp [Array.getElem?_eq_none (Nat.le_of_not_lt hlt)] at hg
    · intro i hi
      simp only [Nat.mul_one] at ht
      have e : cur[i]? = some (.int k (xs.getD i 0)) := by
        have h3 : (cur.toList.take n)[i]? = (xs.map (Value.int k))[i]? := by rw [ht]
        rw [List.getElem?_take_of_lt hi, Array.getElem?_toList] at h3
        rw [h3, List.getElem?_map]
        have : i < xs.length := by omega
        simp [List.getElem?_eq_getElem this, List.getD_eq_getElem?_getD]
      simp [World.cell?, hg, e]
/-- behind an append to a row of the call's own: below its base nothing has turned -/
theorem grow_below {w wr w1 : World} {base n : Nat} {e : TypeId} {v : Value} {ys : List Value} {o : Obj} (hB : base ≤ wr.heap.size) (hown : wr.ownsRow base e 1 v n ys) (hnx : Below base w wr) (hg : (wr.alloc o).grownBy w1 v.ownBlock) : Below base w w1 :=
  (hnx.alloc hB o).grown hg (by simp; omega) (fun k hk => (hown.lt k hk).1)
theorem take_next {xs : List Int} {k : Nat} (h : k < xs.length) : xs.take (k + 1) = xs.take k ++ [xs.getD k 0] := by
  rw [List.take_succ_eq_append_getElem h]
  simp [List.getD_eq_getElem?_getD, List.getElem?_eq_getElem h]
/-- a slice that the call has made (its block is base or beyond), and its numbers -/
def Own (k : IntKind) (w : World) (base : Nat) (e : TypeId) (v : Value) (xs : List Int) : Prop := w.ownsRow base e 1 v xs.length (xs.map (Value.int k))
theorem Own.row {k : IntKind} {w : World} {base : Nat} {e : TypeId} {v : Value} {xs : List Int} (h : Own k w base e v xs) : w.ownsRow base e 1 v xs.length (xs.map (Value.int k)) := h
theorem own_nil (k : IntKind) (w : World) (base : Nat) (e : TypeId) : Own k w base e (.slice none 0 0) [] := World.ownsRow_nil _ _ _ _
theorem own_next {w1 : World} {base : Nat} {e : TypeId} {k : IntKind} {v : Value} {n : Nat} {xs : List Int} {x : Int} (h : w1.ownsRow base e 1 v (n + 1) (xs.map (Value.int k) ++ [.int k x])) (hn : n = xs.length) : Own k w1 base e v (xs ++ [x]) := by
  subst hn; unfold Own; rw [List.map_append, List.length_append]; exact h
theorem Own.read {k : IntKind} {w : World} {base : Nat} {e : TypeId} {v : Value} {xs : List Int} (h : Own k w base e v xs) : ∃ a cap, v = .slice a xs.length cap ∧ xs.length ≤ cap ∧ RowAt k w a xs.length xs := owned_row h
theorem one_new {wr : World} {e : TypeId} {v : Value} : ∀ j u, ([v] : List Value)[j]? = some u → (wr.alloc (.cells #[v] e)).cell? ((⟨wr.heap.size, 0, none⟩ : Addr).add j) = some u := by
  intro j u hj
  match j, hj with
  | 0, hj => simp at hj; subst hj; simp [Addr.add]
theorem one_cell {k : IntKind} {x : Int} : ∀ u ∈ [Value.int k x], u.oneCell' = true := by
  intro u hu; simp at hu; subst hu; rfl
theorem Own.wider {k : IntKind} {w : World} {base base' : Nat} {e : TypeId} {v : Value} {xs : List Int} (h : Own k w base e v xs) (hb : base' ≤ base) : Own k w base' e v xs := by
  obtain ⟨h1, h2⟩ := h
  refine ⟨h1, ?_⟩
  rcases h2 with h2 | ⟨g, c, cur, hv, hg, r⟩
  · exact Or.inl h2
  · exact Or.inr ⟨g, c, cur, hv, Nat.le_trans hb hg, r⟩
theorem Own.later {k : IntKind} {w w' : World} {base : Nat} {e : TypeId} {v : Value} {xs : List Int} (h : Own k w base e v xs) (hb : Below w.heap.size w w') : Own k w' base e v xs := by
  obtain ⟨h1, h2⟩ := h
  refine ⟨h1, ?_⟩
  rcases h2 with h2 | ⟨g, c, cur, hv, hg, hc, r⟩
  · exact Or.inl h2
  · refine Or.inr ⟨g, c, cur, hv, hg, ?_, r⟩
    have hlt : g < w.heap.size := by
      by_cases hlt : g < w.heap.size
      · exact hlt
      · simp [Array.getElem?_eq_none (Nat.le_of_not_lt hlt)] at hc
    rw [hb.block g hlt]; exact hc
theorem Own.cap {k : IntKind} {w : World} {base : Nat} {e : TypeId} {a : Option Addr} {n cap : Nat} {xs : List Int} (h : Own k w base e (.slice a n cap) xs) : cap ≤ maxLen := by
  obtain ⟨h1, h2⟩ := h
  rcases h2 with ⟨hv, h0⟩ | ⟨g, c, cur, hv, hb, hg, hn, hc, hs, ht⟩
  · simp only [Value.slice.injEq] at hv; unfold maxLen; omega
  · simp only [Value.slice.injEq] at hv; omega
/-- what is made reads, with room that fits -/
theorem Own.reads {k : IntKind} {w : World} {base : Nat} {e : TypeId} {v : Value} {xs : List Int} (h : Own k w base e v xs) : ∃ a cap, v = .slice a xs.length cap ∧ xs.length ≤ cap ∧ cap ≤ maxLen ∧ RowAt k w a xs.length xs := by
  obtain ⟨a, cap, rfl, hc, hr⟩ := h.read
  exact ⟨a, cap, rfl, hc, h.cap, hr⟩
end Go.Proofs.YtceecgklgkiffabGreatDoor

/- The helpers of plumblaw02: cut, same, told. -/
namespace Go.Proofs.YtceecgklgkiffabGreatDoor
open Go.ChangeShapes Go.WideShapes Go.ChangeAt Go.RowKit
set_option linter.unusedVariables false

theorem info_u64 : (Tryz.prog.info? 22).map (fun i => (i.zero, i.size, i.bytes)) = some (some (.int .u64 0), 1, 8) := by kernel_rfl
end Go.Proofs.YtceecgklgkiffabGreatDoor

/- plumblaw02.same, told. -/
namespace Go.Proofs.YtceecgklgkiffabGreatDoor
open Go.ChangeShapes Go.WideShapes Go.ChangeAt Go.RowKit
set_option linter.unusedVariables false

theorem ret_bool' {p q : Bool} (h : p = q) : Ending.returned (.bool p) = .returned (.bool q) := by rw [h]
end Go.Proofs.YtceecgklgkiffabGreatDoor

/- Plain numbers: lists of digits in a base, the lowest first. -/
namespace Go.Proofs.YtceecgklgkiffabGreatDoor.Na
set_option linter.unusedVariables false

/-- the number of a list of digits -/
def val (B : Int) : List Int → Int
  | [] => 0
  | x :: xs => x + B * val B xs
/-- each is a digit -/
def Dg (B : Int) (xs : List Int) : Prop := ∀ x ∈ xs, 0 ≤ x ∧ x < B
/-- without zeros at the high end -/
def strip : List Int → List Int
  | [] => []
  | x :: xs => if strip xs = [] ∧ x = 0 then [] else x :: strip xs
/-- the digits of a number, the highest not 0 -/
def dig (B : Nat) (n : Nat) : List Int :=
  if h : n = 0 ∨ B < 2 then [] else ((n % B : Nat) : Int) :: dig B (n / B)
termination_by n
decreasing_by exact Nat.div_lt_self (by omega) (by omega)

theorem val_cons (B x : Int) (xs : List Int) : val B (x :: xs) = x + B * val B xs := rfl
theorem Dg.tail {B x : Int} {xs : List Int} (h : Dg B (x :: xs)) : Dg B xs := fun y hy => h y (List.mem_cons_of_mem _ hy)
theorem Dg.head {B x : Int} {xs : List Int} (h : Dg B (x :: xs)) : 0 ≤ x ∧ x < B := h x List.mem_cons_self
theorem Dg.append {B : Int} {xs ys : List Int} (h : Dg B xs) (k : Dg B ys) : Dg B (xs ++ ys) := fun z hz => by
  rcases List.mem_append.mp hz with hz | hz
  · exact h z hz
  · exact k z hz
theorem Dg.one {B x : Int} (h : 0 ≤ x ∧ x < B) : Dg B [x] := fun y hy => by simp at hy; subst hy; exact h
theorem Dg.nil (B : Int) : Dg B [] := fun y hy => by simp at hy
theorem Dg.take {B : Int} {xs : List Int} (h : Dg B xs) (k : Nat) : Dg B (xs.take k) := fun y hy => h y (List.mem_of_mem_take hy)
theorem Dg.drop {B : Int} {xs : List Int} (h : Dg B xs) (k : Nat) : Dg B (xs.drop k) := fun y hy => h y (List.mem_of_mem_drop hy)
theorem Dg.get {B : Int} {xs : List Int} (h : Dg B xs) {i : Nat} (hi : i < xs.length) : 0 ≤ xs.getD i 0 ∧ xs.getD i 0 < B := by
  have e : xs.getD i 0 = xs[i] := by simp [List.getD_eq_getElem?_getD, List.getElem?_eq_getElem hi]
  rw [e]; exact h _ (List.getElem_mem hi)
theorem val_nonneg {B : Int} (hB : 0 ≤ B) {xs : List Int} (h : Dg B xs) : 0 ≤ val B xs := by
  induction xs with
  | nil => exact Int.le_refl _
  | cons x xs ih =>
    rw [val_cons]
    have h1 := h.head
    have h2 := Int.mul_nonneg hB (ih h.tail)
    omega
theorem dig_zero (B : Nat) : dig B 0 = [] := by unfold dig; simp
theorem dig_step {B n : Nat} (hB : 2 ≤ B) (hn : n ≠ 0) : dig B n = ((n % B : Nat) : Int) :: dig B (n / B) := by
  rw [dig, dif_neg (by omega)]
theorem dig_nil {B n : Nat} (hB : 2 ≤ B) : dig B n = [] ↔ n = 0 := by
  constructor
  · intro h
    by_cases e : n = 0
    · exact e
    · rw [dig_step hB e] at h; simp at h
  · intro h; rw [h, dig_zero]
/-- digits without zeros at the high end are the number's -/
theorem strip_dig {B : Nat} (hB : 2 ≤ B) {xs : List Int} (h : Dg B xs) : strip xs = dig B (val B xs).toNat := by
  induction xs with
  | nil => simp [strip, val, dig_zero]
  | cons x xs ih =>
    have i := ih h.tail
    have h1 := h.head
    have v0 := val_nonneg (B := (B : Int)) (by omega) h.tail
    have m0 : 0 ≤ (B : Int) * val B xs := Int.mul_nonneg (by omega) v0
    rw [val_cons]
    unfold strip
    by_cases e : x + (B : Int) * val B xs = 0
    · have x0 : x = 0 := by omega
      have y0 : (B : Int) * val B xs = 0 := by omega
      have v : val B xs = 0 := by
        rcases Int.mul_eq_zero.mp y0 with q | q
        · omega
        · exact q
      rw [e, i, v]
      simp [dig_zero, x0]
    · have n0 : (x + (B : Int) * val B xs).toNat ≠ 0 := by omega
      have d1 : (x + (B : Int) * val B xs) / B = val B xs := by
        rw [Int.add_mul_ediv_left _ _ (by omega), Int.ediv_eq_zero_of_lt h1.1 h1.2]; omega
      have d2 : (x + (B : Int) * val B xs) % B = x := by
        rw [Int.add_mul_emod_self_left, Int.emod_eq_of_lt h1.1 h1.2]
      have c1 : (((x + (B : Int) * val B xs).toNat / B : Nat) : Int) = val B xs := by
        rw [Int.natCast_ediv, Int.toNat_of_nonneg (by omega), d1]
      have c2 : (((x + (B : Int) * val B xs).toNat % B : Nat) : Int) = x := by
        rw [Int.natCast_emod, Int.toNat_of_nonneg (by omega), d2]
      have c3 : (x + (B : Int) * val B xs).toNat / B = (val B xs).toNat := by omega
      rw [dig_step hB n0, c2, c3, ← i]
      have ne : ¬ (strip xs = [] ∧ x = 0) := by
        rintro ⟨s, x0⟩
        rw [i, dig_nil hB] at s
        have : val B xs = 0 := by omega
        rw [this] at e
        simp [x0] at e
      rw [if_neg ne]
theorem val_append (B : Int) (xs ys : List Int) : val B (xs ++ ys) = val B xs + B ^ xs.length * val B ys := by
  induction xs with
  | nil => simp [val]
  | cons x xs ih =>
    rw [List.cons_append, val_cons, val_cons, ih, List.length_cons, Int.pow_succ, Int.mul_add]
    have : B * (B ^ xs.length * val B ys) = B ^ xs.length * B * val B ys := by grind
    omega
theorem strip_length (xs : List Int) : (strip xs).length ≤ xs.length := by
  induction xs with
  | nil => exact Nat.le_refl _
  | cons x xs ih =>
    unfold strip; split
    · simp
    · simp; exact ih
theorem strip_zero_end (xs : List Int) : strip (xs ++ [0]) = strip xs := by
  induction xs with
  | nil => simp [strip]
  | cons x xs ih => rw [List.cons_append]; unfold strip; rw [ih]
theorem strip_end (xs : List Int) (x : Int) (h : x ≠ 0) : strip (xs ++ [x]) = xs ++ [x] := by
  induction xs with
  | nil => simp [strip, h]
  | cons y ys ih =>
    rw [List.cons_append]; unfold strip; rw [ih]
    rw [if_neg]
    simp
theorem val_dig {B : Nat} (hB : 2 ≤ B) (n : Nat) : val B (dig B n) = n := by
  induction n using Nat.strongRecOn with
  | _ n ih =>
    by_cases e : n = 0
    · subst e; rw [dig_zero]; rfl
    · rw [dig_step hB e, val_cons, ih (n / B) (Nat.div_lt_self (by omega) hB)]
      have := Nat.mod_add_div n B
      have h2 : (((n % B + B * (n / B) : Nat)) : Int) = (n : Int) := by rw [this]
      rw [Int.natCast_add, Int.natCast_mul] at h2
      exact h2
theorem Dg_dig {B : Nat} (hB : 2 ≤ B) (n : Nat) : Dg B (dig B n) := by
  induction n using Nat.strongRecOn with
  | _ n ih =>
    by_cases e : n = 0
    · subst e; rw [dig_zero]; exact Dg.nil _
    · rw [dig_step hB e]
      intro x hx
      rcases List.mem_cons.mp hx with hx | hx
      · subst hx
        have := Nat.mod_lt n (show 0 < B by omega)
        omega
      · exact ih (n / B) (Nat.div_lt_self (by omega) hB) x hx
end Go.Proofs.YtceecgklgkiffabGreatDoor.Na

/- plumbref02: digits of base 65536. -/
namespace Go.Proofs.YtceecgklgkiffabGreatDoor
open Go.ChangeShapes Go.WideShapes Go.ChangeAt Go.RowKit
open Na
set_option linter.unusedVariables false

namespace Na
theorem take_strip {xs : List Int} {m : Nat} (hm : m ≤ xs.length) (hz : strip xs = strip (xs.take m)) (hl : m = 0 ∨ xs.getD (m - 1) 0 ≠ 0) : strip xs = xs.take m := by
  rw [hz]
  rcases hl with h | h
  · subst h; rfl
  · by_cases e : m = 0
    · subst e; rfl
    · have hs : xs.take m = xs.take (m - 1) ++ [xs.getD (m - 1) 0] := by
        have := take_next (xs := xs) (k := m - 1) (by omega)
        rw [Nat.sub_add_cancel (by omega)] at this
        exact this
      rw [hs]; exact strip_end _ _ h
theorem val_drop {B : Int} {xs : List Int} {i : Nat} (h : i < xs.length) : val B (xs.drop i) = xs.getD i 0 + B * val B (xs.drop (i + 1)) := by
  rw [List.drop_eq_getElem_cons h, val_cons]
  simp [List.getD_eq_getElem?_getD, List.getElem?_eq_getElem h]
end Na
theorem Own.cut {k : IntKind} {w : World} {base : Nat} {e : TypeId} {a : Option Addr} {cap : Nat} {xs : List Int} (h : Own k w base e (.slice a xs.length cap) xs) {m : Nat} (hm : m ≤ xs.length) : Own k w base e (.slice a m cap) (xs.take m) := by
  obtain ⟨h1, h2⟩ := h
  have hl : (xs.take m).length = m := by rw [List.length_take]; omega
  unfold Own
  rw [hl]
  refine ⟨by rw [List.length_map, hl]; omega, ?_⟩
  rcases h2 with ⟨hv, h0⟩ | ⟨g, c, cur, hv, hb, hg, hn, hc, hs, ht⟩
  · have m0 : m = 0 := by omega
    simp only [Value.slice.injEq] at hv
    obtain ⟨ha, hz, hc⟩ := hv
    subst m0 ha hc
    exact Or.inl ⟨rfl, rfl⟩
  · simp only [Value.slice.injEq] at hv
    obtain ⟨ha, hz, hc'⟩ := hv
    subst ha hc'
    refine Or.inr ⟨g, cap, cur, rfl, hb, hg, by omega, hc, hs, ?_⟩
    rw [List.map_take, ← ht, List.take_take]
    simp only [Nat.mul_one]
    rw [Nat.min_eq_left hm]

end Go.Proofs.YtceecgklgkiffabGreatDoor

/- plumbref02.words, carried, told. -/
namespace Go.Proofs.YtceecgklgkiffabGreatDoor
open Go.ChangeShapes Go.WideShapes Go.ChangeAt Go.RowKit
open Na
set_option linter.unusedVariables false

namespace Na
end Na

end Go.Proofs.YtceecgklgkiffabGreatDoor

/- plumbref02: told, Norm, carried, plus, Add, Sum .. -/
namespace Go.Proofs.YtceecgklgkiffabGreatDoor
open Go.ChangeShapes Go.WideShapes Go.ChangeAt Go.RowKit
open Na
set_option linter.unusedVariables false

namespace Na
/-- the words of a number -/
def words (N : Int) : List Int := dig 18446744073709551616 N.toNat
/-- what is answered of a number: its words, unless there are more than 4096; and the error -/
def resL (N : Int) : List Int := if (words N).length ≤ 4096 then words N else []
def resE (N : Int) : Int := if (words N).length ≤ 4096 then 0 else 21
theorem Dg_words (N : Int) : Dg 18446744073709551616 (words N) := Dg_dig (B := 18446744073709551616) (by omega) _
theorem val_words {N : Int} (h : 0 ≤ N) : val 18446744073709551616 (words N) = N := by
  have := val_dig (B := 18446744073709551616) (by omega) N.toNat
  unfold words
  have e : val 18446744073709551616 (dig 18446744073709551616 N.toNat) = ((N.toNat : Nat) : Int) := this
  rw [e]; omega
/-- a number that is below a power has no more digits -/
theorem dig_length {B : Nat} (hB : 2 ≤ B) {n k : Nat} (h : n < B ^ k) : (dig B n).length ≤ k := by
  induction k generalizing n with
  | zero => simp at h; subst h; rw [dig_zero]; simp
  | succ k ih =>
    by_cases e : n = 0
    · subst e; rw [dig_zero]; simp
    · rw [dig_step hB e, List.length_cons]
      have : n / B < B ^ k := by
        rw [Nat.div_lt_iff_lt_mul (by omega), ← Nat.pow_succ]; exact h
      have := ih this
      omega
theorem val_lt {B : Int} (hB : 0 < B) {xs : List Int} (h : Dg B xs) : val B xs < B ^ xs.length := by
  induction xs with
  | nil => simp [val]
  | cons x xs ih =>
    have i := ih h.tail
    have g := h.head
    rw [val_cons, List.length_cons, Int.pow_succ, Int.mul_comm _ B]
    have : B * (val B xs + 1) ≤ B * B ^ xs.length := Int.mul_le_mul_of_nonneg_left (by omega) (by omega)
    rw [Int.mul_add] at this
    omega
end Na

end Go.Proofs.YtceecgklgkiffabGreatDoor

/- plumbref02: carried, plus, compare. -/
namespace Go.Proofs.YtceecgklgkiffabGreatDoor
open Go.ChangeShapes Go.WideShapes Go.ChangeAt Go.RowKit
open Na
set_option linter.unusedVariables false

namespace Na
/-- numbers from 0 on, none above L -/
def Bd (L : Int) (xs : List Int) : Prop := ∀ x ∈ xs, 0 ≤ x ∧ x ≤ L
theorem Bd.get {L : Int} {xs : List Int} (h : Bd L xs) {i : Nat} (hi : i < xs.length) : 0 ≤ xs.getD i 0 ∧ xs.getD i 0 ≤ L := by
  have e : xs.getD i 0 = xs[i] := by simp [List.getD_eq_getElem?_getD, List.getElem?_eq_getElem hi]
  rw [e]; exact h _ (List.getElem_mem hi)
theorem Bd.val_nonneg {L B : Int} (hB : 0 ≤ B) {xs : List Int} (h : Bd L xs) : 0 ≤ val B xs := by
  induction xs with
  | nil => exact Int.le_refl _
  | cons x xs ih =>
    rw [val_cons]
    have h1 := h x List.mem_cons_self
    have h2 := Int.mul_nonneg hB (ih (fun y hy => h y (List.mem_cons_of_mem _ hy)))
    omega
theorem Bd.one {L x : Int} (h : 0 ≤ x ∧ x ≤ L) : Bd L [x] := fun y hy => by simp at hy; subst hy; exact h
theorem Bd.append {L : Int} {xs ys : List Int} (h : Bd L xs) (k : Bd L ys) : Bd L (xs ++ ys) := fun z hz => by
  rcases List.mem_append.mp hz with hz | hz
  · exact h z hz
  · exact k z hz
theorem Bd.nil (L : Int) : Bd L [] := fun y hy => by simp at hy
end Na

end Go.Proofs.YtceecgklgkiffabGreatDoor

/- plumbref02: plus, compare. -/
namespace Go.Proofs.YtceecgklgkiffabGreatDoor
open Go.ChangeShapes Go.WideShapes Go.ChangeAt Go.RowKit
open Na
set_option linter.unusedVariables false

namespace Na
theorem getD_out {xs : List Int} {k : Nat} (h : xs.length ≤ k) : xs.getD k 0 = 0 := by simp [List.getD_eq_getElem?_getD, List.getElem?_eq_none h]
end Na

end Go.Proofs.YtceecgklgkiffabGreatDoor

/- plumbref02: compare, Cmp. -/
namespace Go.Proofs.YtceecgklgkiffabGreatDoor
open Go.ChangeShapes Go.WideShapes Go.ChangeAt Go.RowKit
open Na
set_option linter.unusedVariables false

namespace Na
def ordN (a b : Int) : Int := if a < b then -1 else if b < a then 1 else 0
theorem ordN_lt {a b : Int} (h : a < b) : ordN a b = -1 := by unfold ordN; rw [if_pos h]
theorem ordN_gt {a b : Int} (h : b < a) : ordN a b = 1 := by unfold ordN; rw [if_neg (by omega), if_pos h]
theorem ordN_eq {a b : Int} (h : a = b) : ordN a b = 0 := by unfold ordN; rw [if_neg (by omega), if_neg (by omega)]
theorem dig_last {B : Nat} (hB : 2 ≤ B) (n : Nat) (h : n ≠ 0) : ∃ zs x, dig B n = zs ++ [x] ∧ x ≠ 0 := by
  induction n using Nat.strongRecOn with
  | _ n ih =>
    rw [dig_step hB h]
    by_cases e : n / B = 0
    · rw [e, dig_zero]
      refine ⟨[], _, rfl, ?_⟩
      have : n % B = n := Nat.mod_eq_of_lt ((Nat.div_eq_zero_iff_lt (by omega)).mp e)
      omega
    · obtain ⟨zs, x, hz, hx⟩ := ih (n / B) (Nat.div_lt_self (by omega) hB) e
      exact ⟨_ :: zs, x, by rw [hz]; rfl, hx⟩
theorem drop_next {xs ys : List Int} {i : Nat} (h1 : i < xs.length) (h2 : i < ys.length) (hd : xs.drop (i + 1) = ys.drop (i + 1)) (h : xs.getD i 0 = ys.getD i 0) : xs.drop i = ys.drop i := by
  rw [List.drop_eq_getElem_cons h1, List.drop_eq_getElem_cons h2, hd]
  have e1 : xs.getD i 0 = xs[i] := by simp [List.getD_eq_getElem?_getD, List.getElem?_eq_getElem h1]
  have e2 : ys.getD i 0 = ys[i] := by simp [List.getD_eq_getElem?_getD, List.getElem?_eq_getElem h2]
  rw [← e1, ← e2, h]
end Na

theorem ret_i {k : IntKind} {a b : Int} (h : a = b) : Ending.returned (.int k a) = .returned (.int k b) := by rw [h]
end Go.Proofs.YtceecgklgkiffabGreatDoor

/- plumbref02: Cmp, Add, Sub, From, Word. -/
namespace Go.Proofs.YtceecgklgkiffabGreatDoor
open Go.ChangeShapes Go.WideShapes Go.ChangeAt Go.RowKit
open Na
set_option linter.unusedVariables false

namespace Na
/-- the number of a list of words -/
def num (xs : List Int) : Int := val 18446744073709551616 xs
/-- a list of words -/
abbrev Ws (xs : List Int) : Prop := Dg 18446744073709551616 xs
theorem num_nonneg {xs : List Int} (h : Ws xs) : 0 ≤ num xs := val_nonneg (B := 18446744073709551616) (by omega) h
theorem num_lt {xs : List Int} (h : Ws xs) : num xs < 65536 ^ (4 * xs.length) := by
  have l := val_lt (by omega) h
  have e : (65536 : Int) ^ (4 * xs.length) = 18446744073709551616 ^ xs.length := by rw [Int.pow_mul]; rfl
  rw [e]; exact l
end Na

end Go.Proofs.YtceecgklgkiffabGreatDoor

/- plumbref02: Sub, From, Word. -/
namespace Go.Proofs.YtceecgklgkiffabGreatDoor
open Go.ChangeShapes Go.WideShapes Go.ChangeAt Go.RowKit
open Na
set_option linter.unusedVariables false

namespace Na
def subE (A B : Int) : Int := if A < B then 20 else resE (A - B)
def subL (A B : Int) : List Int := if A < B then [] else resL (A - B)
end Na

end Go.Proofs.YtceecgklgkiffabGreatDoor

/- plumbref02: Word, Bits, Bit, Zeros. -/
namespace Go.Proofs.YtceecgklgkiffabGreatDoor
open Go.ChangeShapes Go.WideShapes Go.ChangeAt Go.RowKit
open Na
set_option linter.unusedVariables false

namespace Na
def wordV (N : Int) : Int := if N < 18446744073709551616 then N else 0
def wordB (N : Int) : Bool := decide (N < 18446744073709551616)
theorem words_cases {N : Int} (h : 0 ≤ N) : (N = 0 ∧ words N = []) ∨ (0 < N ∧ N < 18446744073709551616 ∧ words N = [N]) ∨ (18446744073709551616 ≤ N ∧ 2 ≤ (words N).length) := by
  unfold words
  by_cases e : N = 0
  · subst e; exact Or.inl ⟨rfl, dig_zero _⟩
  · rw [dig_step (by omega) (by omega)]
    by_cases l : N < 18446744073709551616
    · right; left
      have e1 : N.toNat / 18446744073709551616 = 0 := by omega
      have e2 : ((N.toNat % 18446744073709551616 : Nat) : Int) = N := by omega
      rw [e1, dig_zero, e2]
      exact ⟨by omega, l, rfl⟩
    · right; right
      refine ⟨by omega, ?_⟩
      rw [dig_step (by omega) (by omega)]
      simp
end Na

theorem ret_ib {k : IntKind} {a b : Int} {p q : Bool} (h : a = b) (h' : p = q) : Ending.returned (.tuple #[.int k a, .bool p]) = .returned (.tuple #[.int k b, .bool q]) := by rw [h, h']
end Go.Proofs.YtceecgklgkiffabGreatDoor

/- plumbref02.Mul: as by hand. -/
namespace Go.Proofs.YtceecgklgkiffabGreatDoor
open Go.ChangeShapes Go.WideShapes Go.ChangeAt Go.RowKit
open Na
set_option linter.unusedVariables false

theorem Own.cellAt {k : IntKind} {w : World} {base g cap n : Nat} {e : TypeId} {xs : List Int} (h : Own k w base e (.slice (some ⟨g, 0, none⟩) n cap) xs) (hn : n = xs.length) {j : Nat} (hj : j < n) : w.cell? ⟨g, j, none⟩ = some (.int k (xs.getD j 0)) := by
  subst hn
  have := World.ownsRow.cellAt h.row j (by omega)
  rw [this, List.getElem?_map]
  simp [List.getElem?_eq_getElem hj, List.getD_eq_getElem?_getD]
theorem Own.frozenAt {k : IntKind} {w : World} {base g cap n : Nat} {e : TypeId} {xs : List Int} (h : Own k w base e (.slice (some ⟨g, 0, none⟩) n cap) xs) (hn : n = xs.length) (j : Nat) : w.frozen? ⟨g, j, none⟩ = false := by
  subst hn; exact World.ownsRow.frozenAt h.row j
theorem Own.set {k : IntKind} {w : World} {base g cap n : Nat} {e : TypeId} {xs : List Int} (h : Own k w base e (.slice (some ⟨g, 0, none⟩) n cap) xs) (hn : n = xs.length) (j : Nat) (x : Int) : Own k (w.setCell ⟨g, j, none⟩ (.int k x)) base e (.slice (some ⟨g, 0, none⟩) n cap) (xs.set j x) := by
  subst hn
  have := (World.ownsRow.stored h.row j (.int k x)).1
  unfold Own
  rw [List.length_set, List.map_set]; exact this
theorem Own.base_le {k : IntKind} {w : World} {base g cap n : Nat} {e : TypeId} {xs : List Int} (h : Own k w base e (.slice (some ⟨g, 0, none⟩) n cap) xs) : base ≤ g := by
  rcases h.2 with ⟨h', _⟩ | ⟨g', cap', cur, h', hb, _⟩
  · simp at h'
  · simp only [Value.slice.injEq, Option.some.injEq, Addr.mk.injEq] at h'
    omega
theorem own_zeros {k : IntKind} {w : World} {base : Nat} {e : TypeId} {v : Value} {n : Nat} (h : w.ownsRow base e 1 v n (madeCells #[Value.int k 0] n).toList) : Own k w base e v (List.replicate n 0) := by
  unfold Own
  rw [List.length_replicate, List.map_replicate, ← toList_madeCells_one]
  exact h

namespace Na
theorem val_set {B : Int} {xs : List Int} {j : Nat} (x : Int) (h : j < xs.length) : val B (xs.set j x) = val B xs + B ^ j * (x - xs.getD j 0) := by
  induction xs generalizing j with
  | nil => simp at h
  | cons y ys ih =>
    cases j with
    | zero => simp [val, List.getD_eq_getElem?_getD]; omega
    | succ i =>
      rw [List.set_cons_succ, val_cons, val_cons, ih (by simpa using h), Int.pow_succ]
      have : (y :: ys).getD (i + 1) 0 = ys.getD i 0 := by simp [List.getD_eq_getElem?_getD]
      rw [this]
      generalize ys.getD i 0 = z
      generalize val B ys = V
      generalize B ^ i = P
      grind
theorem Dg.set {B x : Int} {xs : List Int} (h : Dg B xs) (j : Nat) (hx : 0 ≤ x ∧ x < B) : Dg B (xs.set j x) := fun y hy => by
  rcases List.mem_or_eq_of_mem_set hy with q | q
  · exact h y q
  · subst q; exact hx
theorem val_zeros (B : Int) (n : Nat) : val B (List.replicate n 0) = 0 := by
  induction n with
  | zero => rfl
  | succ n ih => rw [List.replicate_succ, val_cons, ih]; simp
theorem Dg_zeros {B : Int} (hB : 0 < B) (n : Nat) : Dg B (List.replicate n 0) := fun y hy => by
  have := List.eq_of_mem_replicate hy
  subst this; omega
theorem dig_len_ge {N : Int} {k : Nat} (h : 18446744073709551616 ^ k ≤ N) : k < (words N).length := by
  have n0 : 0 ≤ N := Int.le_trans (Int.le_of_lt (Int.pow_pos (by omega))) h
  have l := val_lt (B := 18446744073709551616) (by omega) (Dg_words N)
  rw [val_words n0] at l
  by_cases g : k < (words N).length
  · exact g
  · have c1 : ((18446744073709551616 ^ (words N).length : Nat) : Int) = (18446744073709551616 : Int) ^ (words N).length := by simp
    have c2 : ((18446744073709551616 ^ k : Nat) : Int) = (18446744073709551616 : Int) ^ k := by simp
    have : 18446744073709551616 ^ (words N).length ≤ 18446744073709551616 ^ k := Nat.pow_le_pow_right (by omega) (by omega)
    omega
end Na
end Go.Proofs.YtceecgklgkiffabGreatDoor

/- plumbref02.Mul: the walk. -/
namespace Go.Proofs.YtceecgklgkiffabGreatDoor
open Go.ChangeShapes Go.WideShapes Go.ChangeAt Go.RowKit
open Na
set_option linter.unusedVariables false

namespace Na
theorem res_zero {N : Int} (h : N = 0) : resL N = [] ∧ resE N = 0 := by
  subst h
  have : words 0 = [] := dig_zero _
  unfold resL resE
  rw [this]
  exact ⟨rfl, rfl⟩
theorem res_huge {N : Int} (h : 4096 < (words N).length) : resL N = [] ∧ resE N = 21 := by
  unfold resL resE
  rw [if_neg (by omega), if_neg (by omega)]
  exact ⟨rfl, rfl⟩
end Na

end Go.Proofs.YtceecgklgkiffabGreatDoor

/- plumbref02.Shl -/
namespace Go.Proofs.YtceecgklgkiffabGreatDoor
open Go.ChangeShapes Go.WideShapes Go.ChangeAt Go.RowKit
open Na
set_option linter.unusedVariables false

namespace Na
def shlE (N n : Int) : Int := if n < 0 then 22 else resE (N * 2 ^ n.toNat)
def shlL (N n : Int) : List Int := if n < 0 then [] else resL (N * 2 ^ n.toNat)
end Na

end Go.Proofs.YtceecgklgkiffabGreatDoor

/- plumbref02: Bits, Bit, Zeros. -/
namespace Go.Proofs.YtceecgklgkiffabGreatDoor
open Go.ChangeShapes Go.WideShapes Go.ChangeAt Go.RowKit
open Na
set_option linter.unusedVariables false

namespace Na
/-- how many bits -/
def bitsN (N : Int) : Int := if N ≤ 0 then 0 else (Nat.log2 N.toNat : Int) + 1
theorem p2pos (k : Nat) : 0 < (2 : Int) ^ k := Int.pow_pos (by omega)
theorem p2cast (k : Nat) : ((2 ^ k : Nat) : Int) = (2 : Int) ^ k := by simp
theorem bitsN_eq {N : Int} {k : Nat} (h1 : 2 ^ k ≤ N) (h2 : N < 2 ^ (k + 1)) : bitsN N = k + 1 := by
  have p := p2pos k
  unfold bitsN
  rw [if_neg (by omega)]
  have e : N.toNat.log2 = k := by
    rw [Nat.log2_eq_iff (by omega)]
    have a1 := p2cast k
    have a2 := p2cast (k + 1)
    omega
  rw [e]
/-- bit i -/
def bitN (N i : Int) : Int := if i < 0 then 0 else N / 2 ^ i.toNat % 2
end Na

end Go.Proofs.YtceecgklgkiffabGreatDoor

/- plumbref02: Zeros. -/
namespace Go.Proofs.YtceecgklgkiffabGreatDoor
open Go.ChangeShapes Go.WideShapes Go.ChangeAt Go.RowKit
open Na
set_option linter.unusedVariables false

namespace Na
def ctz (n : Nat) : Nat := if h : n = 0 ∨ n % 2 = 1 then 0 else ctz (n / 2) + 1
termination_by n
decreasing_by omega
def zerosN (N : Int) : Int := (ctz N.toNat : Int)
theorem ctz_odd (m : Nat) : ctz (2 * m + 1) = 0 := by unfold ctz; rw [dif_pos (by omega)]
theorem ctz_pow (k m : Nat) : ctz (2 ^ k * (2 * m + 1)) = k := by
  induction k with
  | zero => rw [Nat.pow_zero, Nat.one_mul]; exact ctz_odd m
  | succ k ih =>
    have e : 2 ^ (k + 1) * (2 * m + 1) = 2 * (2 ^ k * (2 * m + 1)) := by rw [Nat.pow_succ]; grind
    have p : 0 < 2 ^ k * (2 * m + 1) := Nat.mul_pos (Nat.two_pow_pos k) (by omega)
    rw [e, ctz, dif_neg (by omega)]
    have d : 2 * (2 ^ k * (2 * m + 1)) / 2 = 2 ^ k * (2 * m + 1) := by omega
    rw [d, ih]
theorem zerosN_eq {N u : Int} {k : Nat} (h : N = 2 ^ k * u) (hu : 0 < u) (ho : u % 2 = 1) : zerosN N = k := by
  obtain ⟨m, hm⟩ : ∃ m : Nat, u = 2 * (m : Int) + 1 := ⟨(u / 2).toNat, by omega⟩
  have e : N.toNat = 2 ^ k * (2 * m + 1) := by
    have c := p2cast k
    have : N = ((2 ^ k * (2 * m + 1) : Nat) : Int) := by rw [h, hm, Int.natCast_mul, c]; rfl
    omega
  unfold zerosN
  rw [e, ctz_pow]
theorem zerosN_zero : zerosN 0 = 0 := by unfold zerosN; rw [show (0 : Int).toNat = 0 from rfl, ctz]; simp
end Na

end Go.Proofs.YtceecgklgkiffabGreatDoor

/- plumbref02: Shr. -/
namespace Go.Proofs.YtceecgklgkiffabGreatDoor
open Go.ChangeShapes Go.WideShapes Go.ChangeAt Go.RowKit
open Na
set_option linter.unusedVariables false

namespace Na
def shrE (N n : Int) : Int := if n < 0 then 22 else resE (N / 2 ^ n.toNat)
def shrL (N n : Int) : List Int := if n < 0 then [] else resL (N / 2 ^ n.toNat)
def shrB (N n : Int) : Bool := if n < 0 then false else if resE (N / 2 ^ n.toNat) = 0 then decide (N % 2 ^ n.toNat ≠ 0) else false
/-- the sixteen powers of two that a digit is shifted by -/
def Pw (f : Int) : Prop := f = 1 ∨ f = 2 ∨ f = 4 ∨ f = 8 ∨ f = 16 ∨ f = 32 ∨ f = 64 ∨ f = 128 ∨ f = 256 ∨ f = 512 ∨ f = 1024 ∨ f = 2048 ∨ f = 4096 ∨ f = 8192 ∨ f = 16384 ∨ f = 32768
end Na

theorem ret_vbi {v : Value} {k : IntKind} {p q : Bool} {a b : Int} (h : p = q) (h' : a = b) : Ending.returned (.tuple #[v, .bool p, .int k a]) = .returned (.tuple #[v, .bool q, .int k b]) := by rw [h, h']
end Go.Proofs.YtceecgklgkiffabGreatDoor

/- plumbref02: Sum. -/
namespace Go.Proofs.YtceecgklgkiffabGreatDoor
open Go.ChangeShapes Go.WideShapes Go.ChangeAt Go.RowKit
open Na
set_option linter.unusedVariables false

/-- a slice of lists of words reads as these -/
def RowsAt (w : World) (a : Option Addr) (n : Nat) (xss : List (List Int)) : Prop :=
  xss.length = n ∧ (n = 0 ∨ ∃ b off, a = some ⟨b, off, none⟩ ∧ b < w.heap.size ∧ ∀ i, i < n → ∃ ai ci, w.cell? ⟨b, off + i, none⟩ = some (.slice ai (xss.getD i []).length ci) ∧ RowAt .u64 w ai (xss.getD i []).length (xss.getD i []))
namespace Na
/-- the sum of all -/
def sumN (xss : List (List Int)) : Int := (xss.map num).sum
theorem sum_next {xss : List (List Int)} {k : Nat} (h : k < xss.length) : sumN (xss.take (k + 1)) = sumN (xss.take k) + num (xss.getD k []) := by
  unfold sumN
  rw [List.take_succ_eq_append_getElem h, List.map_append, List.sum_append]
  simp [List.getD_eq_getElem?_getD, List.getElem?_eq_getElem h]
/-- each is a list of words, none too long -/
def Wss (xss : List (List Int)) : Prop := ∀ xs ∈ xss, Ws xs ∧ xs.length ≤ 4000000
theorem Wss.get {xss : List (List Int)} (h : Wss xss) {k : Nat} (hk : k < xss.length) : Ws (xss.getD k []) ∧ (xss.getD k []).length ≤ 4000000 := by
  have e : xss.getD k [] = xss[k] := by simp [List.getD_eq_getElem?_getD, List.getElem?_eq_getElem hk]
  rw [e]; exact h _ (List.getElem_mem hk)
def Wss0 (xss : List (List Int)) : Prop := ∀ xs ∈ xss, Ws xs ∧ xs.length ≤ 10000
theorem Wss0.get {xss : List (List Int)} (h : Wss0 xss) {k : Nat} (hk : k < xss.length) : Ws (xss.getD k []) ∧ (xss.getD k []).length ≤ 10000 := by
  have e : xss.getD k [] = xss[k] := by simp [List.getD_eq_getElem?_getD, List.getElem?_eq_getElem hk]
  rw [e]; exact h _ (List.getElem_mem hk)
theorem Wss0.big {xss : List (List Int)} (h : Wss0 xss) : Wss xss := fun y hy => ⟨(h y hy).1, by have := (h y hy).2; omega⟩
end Na

end Go.Proofs.YtceecgklgkiffabGreatDoor

/- plumblaw02: told; what a law wants of its arguments. -/
namespace Go.Proofs.YtceecgklgkiffabGreatDoor
open Go.ChangeShapes Go.WideShapes Go.ChangeAt Go.RowKit
open Na
set_option linter.unusedVariables false

namespace Na
end Na

namespace Na
theorem words_len {xs : List Int} (h : Ws xs) : (words (num xs)).length ≤ xs.length := by
  refine dig_length (by omega) ?_
  have l := val_lt (by omega) h
  have c : ((18446744073709551616 ^ xs.length : Nat) : Int) = (18446744073709551616 : Int) ^ xs.length := by simp
  have n0 := num_nonneg h
  have l2 : num xs < 18446744073709551616 ^ xs.length := l
  omega
theorem words_len1 {v : Int} (h : 0 ≤ v ∧ v < 18446744073709551616) : (words v).length ≤ 1 := by
  have e : num [v] = v := by simp [num, val]
  have := words_len (xs := [v]) (Dg.one h)
  rw [e] at this
  simpa using this
end Na
theorem alloc_below {w : World} (o : Obj) : Below w.heap.size w (w.alloc o) := (Below.refl _ _).alloc (Nat.le_refl _) o
end Go.Proofs.YtceecgklgkiffabGreatDoor

/- Rows of bytes in memory: reading, writing, appending, as a text. -/
namespace Go.Proofs.YtceecgklgkiffabGreatDoor
open Go.ChangeShapes Go.WideShapes Go.ChangeAt Go.RowKit
set_option linter.unusedVariables false
namespace Ep
/-- the numbers of bytes -/
def nz (l : List UInt8) : List Int := l.map fun u => (u.toNat : Int)
theorem nz_len (l : List UInt8) : (nz l).length = l.length := by unfold nz; simp
theorem nz_app (l m : List UInt8) : nz (l ++ m) = nz l ++ nz m := by unfold nz; simp
theorem nz_take (l : List UInt8) (k : Nat) : nz (l.take k) = (nz l).take k := by unfold nz; simp
theorem nz_at (l : List UInt8) (k : Nat) : (nz l).getD k 0 = ((l.getD k 0).toNat : Int) := by
  unfold nz
  rw [List.getD_eq_getElem?_getD, List.getD_eq_getElem?_getD, List.getElem?_map]
  cases l[k]? <;> rfl
end Ep
open Ep
/-- a slice of bytes reads so -/
def Rb (w : World) (a : Option Addr) (n c : Nat) (l : List UInt8) : Prop := RowAt .u8 w a n (nz l) ∧ n ≤ c ∧ c ≤ 9223372036854775807
theorem Rb.len {w : World} {a : Option Addr} {n c : Nat} {l : List UInt8} (h : Rb w a n c l) : l.length = n := by rw [← nz_len]; exact h.1.1
theorem Rb.later {w w' : World} {a : Option Addr} {n c : Nat} {l : List UInt8} (h : Rb w a n c l) (hb : Below w.heap.size w w') : Rb w' a n c l := ⟨h.1.later hb, h.2⟩
theorem Rb.nil (w : World) (a : Option Addr) (c : Nat) (hc : c ≤ 9223372036854775807) : Rb w a 0 c [] := ⟨⟨rfl, Or.inl rfl⟩, Nat.zero_le _, hc⟩
theorem Rb.cells {w : World} {a : Option Addr} {n c : Nat} {l : List UInt8} (h : Rb w a n c l) (hn : 0 < n) : ∃ g o, a = some ⟨g, o, none⟩ ∧ g < w.heap.size ∧ ∀ i, i < n → w.cell? ⟨g, o + i, none⟩ = some (.int .u8 ((l.getD i 0).toNat : Int)) := by
  obtain ⟨g, o, h1, h2, h3⟩ := h.1.at hn
  exact ⟨g, o, h1, h2, fun i hi => by rw [← nz_at]; exact h3 i hi⟩
theorem Rb.take {w : World} {a : Option Addr} {n c : Nat} {l : List UInt8} (h : Rb w a n c l) {k c' : Nat} (hk : k ≤ n) (hc : k ≤ c') (hc' : c' ≤ 9223372036854775807) : Rb w a k c' (l.take k) := by
  have hl := h.len
  refine ⟨⟨by rw [nz_len, List.length_take]; omega, ?_⟩, hc, hc'⟩
  by_cases h0 : k = 0
  · exact Or.inl h0
  · obtain ⟨g, o, h1, h2, h3⟩ := h.cells (by omega)
    refine Or.inr ⟨g, o, h1, h2, fun i hi => ?_⟩
    rw [nz_at, h3 i (by omega), List.getD_eq_getElem?_getD, List.getD_eq_getElem?_getD, List.getElem?_take_of_lt hi]
theorem Rb.drop {w : World} {a : Option Addr} {n c : Nat} {l : List UInt8} (h : Rb w a n c l) {k m c' : Nat} {a' : Option Addr} (hk : k ≤ n) (hm : m = n - k) (hc : m ≤ c') (hc' : c' ≤ 9223372036854775807) (ha : 0 < m → ∀ g o, a = some ⟨g, o, none⟩ → a' = some ⟨g, o + k, none⟩) : Rb w a' m c' (l.drop k) := by
  have hl := h.len
  refine ⟨⟨by rw [nz_len, List.length_drop]; omega, ?_⟩, hc, hc'⟩
  by_cases h0 : m = 0
  · exact Or.inl h0
  · obtain ⟨g, o, h1, h2, h3⟩ := h.cells (by omega)
    refine Or.inr ⟨g, o + k, ha (by omega) g o h1, h2, fun i hi => ?_⟩
    rw [nz_at, show o + k + i = o + (k + i) by omega, h3 (k + i) (by omega), List.getD_eq_getElem?_getD, List.getD_eq_getElem?_getD, List.getElem?_drop]
theorem Rb.add {w : World} {a : Addr} {n c : Nat} {l : List UInt8} (h : Rb w (some a) n c l) : ∀ j x, (nz l)[j]? = some x → w.cell? (a.add j) = some (.int .u8 x) := by
  intro j x hj
  have hjl : j < n := by rw [← h.1.1]; exact (List.getElem?_eq_some_iff.1 hj).1
  obtain ⟨g, o, h1, _, h3⟩ := h.1.at (by omega)
  have e : a = ⟨g, o, none⟩ := Option.some.inj h1
  have e2 : (⟨g, o, none⟩ : Addr).add j = ⟨g, o + j, none⟩ := by unfold Addr.add; split <;> simp_all
  rw [e, e2, h3 j hjl, List.getD_eq_getElem?_getD, hj]
  rfl
/-- a slice of bytes in memory that may be written -/
structure Wr (w : World) (base g n : Nat) (l : List UInt8) : Prop where
  lo : base ≤ g
  hi : g < w.heap.size
  len : l.length = n
  cell : ∀ i, i < n → w.cell? ⟨g, i, none⟩ = some (.int .u8 ((l.getD i 0).toNat : Int))
  free : ∀ i, i < n → w.frozen? ⟨g, i, none⟩ = false
theorem Wr.row {w : World} {base g n : Nat} {l : List UInt8} (h : Wr w base g n l) {c : Nat} (hc : n ≤ c) (hc' : c ≤ 9223372036854775807) : Rb w (some ⟨g, 0, none⟩) n c l :=
  ⟨⟨by rw [nz_len]; exact h.len, Or.inr ⟨g, 0, rfl, h.hi, fun i hi => by rw [nz_at, Nat.zero_add]; exact h.cell i hi⟩⟩, hc, hc'⟩
theorem Wr.later {w w' : World} {base g n : Nat} {l : List UInt8} (h : Wr w base g n l) (hb : Below w.heap.size w w') : Wr w' base g n l :=
  ⟨h.lo, Nat.lt_of_lt_of_le h.hi hb.size, h.len, fun i hi => (hb.cell (p := ⟨g, i, none⟩) h.hi).trans (h.cell i hi), fun i hi => (World.frozen?_of_block (a := ⟨g, i, none⟩) (hb.block g h.hi)).trans (h.free i hi)⟩
theorem Wr.rebase {w : World} {base base' g n : Nat} {l : List UInt8} (h : Wr w base g n l) (hb : base' ≤ base) : Wr w base' g n l := ⟨Nat.le_trans hb h.lo, h.hi, h.len, h.cell, h.free⟩
theorem wr_own {w : World} {base g n cap : Nat} {l : List UInt8} (h : Own .u8 w base 5 (.slice (some ⟨g, 0, none⟩) n cap) (nz l)) (hn : n = l.length) : Wr w base g n l := by
  have hn' : n = (nz l).length := by rw [nz_len]; exact hn
  exact ⟨h.base_le, (World.ownsRow.lt h _ rfl).2, hn.symm, fun i hi => by rw [h.cellAt hn' hi, nz_at], fun i _ => h.frozenAt hn' i⟩
theorem Wr.set {w : World} {base g n : Nat} {l : List UInt8} (h : Wr w base g n l) (j : Nat) (x : UInt8) (X : Int) (hX : X = (x.toNat : Int)) (hj : j < n) : Wr (w.setCell ⟨g, j, none⟩ (.int .u8 X)) base g n (l.set j x) ∧ Below base w (w.setCell ⟨g, j, none⟩ (.int .u8 X)) := by
  subst hX
  have hsome : (w.cell? ⟨g, j, none⟩).isSome = true := by rw [h.cell j hj]; rfl
  have hin := World.cell?_setCells_in g [Value.int .u8 (x.toNat : Int)] j w (fun i hi => by
    have : i = 0 := by simpa using hi
    subst this
    simpa using hsome)
  have hout := World.cell?_setCells_out g [Value.int .u8 (x.toNat : Int)] j w
  have e : w.setCells g j [Value.int .u8 (x.toNat : Int)] = w.setCell ⟨g, j, none⟩ (.int .u8 (x.toNat : Int)) := rfl
  rw [e] at hin hout
  refine ⟨⟨h.lo, by simpa using h.hi, by rw [List.length_set]; exact h.len, fun i hi => ?_, fun i hi => ?_⟩, (Below.refl base w).setCell (p := ⟨g, j, none⟩) h.lo _⟩
  · rw [List.getD_eq_getElem?_getD, List.getElem?_set]
    by_cases q : j = i
    · subst q
      have := hin 0 (by simp)
      simp only [Nat.add_zero] at this
      rw [this, if_pos rfl, if_pos (by rw [h.len]; exact hj)]
      rfl
    · rw [hout ⟨g, i, none⟩ (fun _ _ => by simp; omega), h.cell i hi, if_neg q, List.getD_eq_getElem?_getD]
  · have := World.frozen?_setCells g [Value.int .u8 (x.toNat : Int)] j w ⟨g, i, none⟩
    rw [e] at this
    rw [this]
    exact h.free i hi
theorem info8 : (Tryz.prog.info? 5).map (fun i => (i.zero, i.size, i.bytes)) = some (some (.int .u8 0), 1, 1) := by kernel_rfl
theorem size8 : (Tryz.prog.info? 5).map (·.size) = some 1 := by kernel_rfl
theorem wpList_append8 {w : World} {ops : Array Oper} {rest : List Oper} {o : Oper} {a : Act} {Q : Exit → Act → World → Prop} (hgd : o.guard = none) (s x : Operand) (t : TypeId)
    (ho : o.op = .call { callee := .builtin .append, args := #[s, x], argTypes := #[t, t] }) (v u : Value) (hs : a.eval s = v) (hx : a.eval x = u) {v' : Value} {w' : World}
    (hr : (Builtin.append_ #[t, t] o.type #[v, u]).run Tryz.prog w = .ok v' w') (h : wpList Tryz.prog ops Q rest (a.put o.dst v') w') : wpList Tryz.prog ops Q (o :: rest) a w := by
  refine wpList_plain hgd fun K hK => ?_
  unfold Oper.wp execOp
  simp only [ho, resolve, invoke, builtin, Sem.run_bind, Sem.run_pure, Result.andThen_ok, List.map_toArray, List.map_cons, List.map_nil, hs, hx, hr]
  exact hK _ _ h
/-- a slice of bytes as a text -/
theorem conv8 {w : World} {a : Option Addr} {n c : Nat} {l : List UInt8} (h : Rb w a n c l) : (convert 45 9 (.slice a n c)).run Tryz.prog w = .ok (.string ⟨l.toArray⟩) w := by
  have hl := h.len
  cases a with
  | none =>
    by_cases h0 : n = 0
    · have e : l = [] := List.eq_nil_of_length_eq_zero (by omega)
      subst e
      subst h0
      exact run_convert_bytes_nil (P := Tryz.prog) w 45 5 Tryz.underlying45 Tryz.underlying5 0 c 9 Tryz.underlying9
    · obtain ⟨g, o, e, _⟩ := h.cells (by omega)
      cases e
  | some a =>
    have r := run_convert_bytes_back (P := Tryz.prog) w 45 9 5 a c l Tryz.underlying45 Tryz.underlying5 Tryz.underlying9 (fun j hj => by
      refine h.add j _ ?_
      unfold nz
      rw [List.getElem?_map, List.getElem?_eq_getElem hj]
      rfl)
    rw [hl] at r
    exact r
/-- a slice that the call has made -/
def Ob (w : World) (base : Nat) (v : Value) (l : List UInt8) : Prop := Own .u8 w base 5 v (nz l)
theorem Ob.nil (w : World) (base : Nat) : Ob w base (.slice none 0 0) [] := own_nil _ _ _ _
theorem Ob.later {w w' : World} {base : Nat} {v : Value} {l : List UInt8} (h : Ob w base v l) (hb : Below w.heap.size w w') : Ob w' base v l := Own.later h hb
theorem Ob.alloc {w : World} {base : Nat} {v : Value} {l : List UInt8} (h : Ob w base v l) (o : Obj) : Ob (w.alloc o) base v l := h.later (alloc_below _)
theorem Ob.wider {w : World} {base base' : Nat} {v : Value} {l : List UInt8} (h : Ob w base v l) (hb : base' ≤ base) : Ob w base' v l := Own.wider h hb
theorem Ob.row {w : World} {base : Nat} {v : Value} {l : List UInt8} (h : Ob w base v l) : ∃ a c, v = .slice a l.length c ∧ Rb w a l.length c l := by
  obtain ⟨a, c, rfl, h1, h2, h3⟩ := Own.reads h
  rw [nz_len] at *
  exact ⟨a, c, rfl, h3, h1, by unfold maxLen at h2; omega⟩
theorem Ob.rb {w : World} {base : Nat} {a : Option Addr} {n c : Nat} {l : List UInt8} (h : Ob w base (.slice a n c) l) : Rb w a n c l := by
  obtain ⟨a', c', e, hr⟩ := h.row
  simp only [Value.slice.injEq] at e
  obtain ⟨rfl, rfl, rfl⟩ := e
  exact hr
theorem Ob.blk {w : World} {base : Nat} {v : Value} {l : List UInt8} (h : Ob w base v l) {g : Nat} (hg : v.ownBlock = some g) : base ≤ g ∧ g < w.heap.size := by
  rcases h.2 with ⟨hv, _⟩ | ⟨g', cap, cur, hv, hb, hc, _⟩
  · rw [hv] at hg; simp [Value.ownBlock] at hg
  · rw [hv] at hg
    simp only [Value.ownBlock, Option.some.injEq] at hg
    subst hg
    refine ⟨hb, ?_⟩
    by_cases hlt : g' < w.heap.size
    · exact hlt
    · simp [Array.getElem?_eq_none (Nat.le_of_not_lt hlt)] at hc
/-- behind an append nothing below the base has turned -/
theorem Ob.below {w0 w w' : World} {base : Nat} {v : Value} {l : List UInt8} (h : Ob w base v l) (hB : Below base w0 w) (h0 : base ≤ w0.heap.size) (hg : w.grownBy w' v.ownBlock) : Below base w0 w' :=
  hB.grown hg (Nat.le_trans h0 hB.size) (fun k hk => (h.blk hk).1)
/-- a row in a block that has not turned -/
theorem Ob.keep {w w' : World} {base : Nat} {v : Value} {l : List UInt8} (h : Ob w base v l) {r : Option Nat} (hg : w.grownBy w' r) (hne : ∀ g, v.ownBlock = some g → r ≠ some g) : Ob w' base v l := by
  obtain ⟨h1, h2⟩ := h
  refine ⟨h1, ?_⟩
  rcases h2 with h2 | ⟨g, c, cur, hv, hb, hc, q⟩
  · exact Or.inl h2
  · have hlt : g < w.heap.size := by
      by_cases hlt : g < w.heap.size
      · exact hlt
      · simp [Array.getElem?_eq_none (Nat.le_of_not_lt hlt)] at hc
    refine Or.inr ⟨g, c, cur, hv, hb, ?_, q⟩
    rw [hg.block g hlt (fun q => hne g (by rw [hv]; rfl) q.symm)]
    exact hc
end Go.Proofs.YtceecgklgkiffabGreatDoor

/- Plain numbers: patterns of binary64. -/
namespace Go.Proofs.YtceecgklgkiffabGreatDoor.Ar
open Go.RowKit
set_option linter.unusedVariables false

/-- the pattern without its sign -/
def mg (b : Int) : Int := b % 9223372036854775808
/-- the exponent field -/
def ef (b : Int) : Int := b % 9223372036854775808 / 4503599627370496
/-- the fraction -/
def fr (b : Int) : Int := b % 4503599627370496
theorem U_63 : U 9223372036854775808 := by unfold U; omega
theorem size_bits {b : Int} (h : U b) : bits .andNot .u64 b 9223372036854775808 = mg b := by
  rw [andNot_and h U_63]
  unfold U at h
  have e0 : (18446744073709551615 - 9223372036854775808 : Int) = 9223372036854775807 := rfl
  rw [e0, u64_and b _ h.1 h.2 (by omega) (by omega)]
  have : (b.toNat &&& (9223372036854775807 : Int).toNat) = b.toNat % 9223372036854775808 := Nat.and_two_pow_sub_one_eq_mod b.toNat 63
  rw [this]; unfold mg; omega
theorem frac_bits {b : Int} (h : U b) : bits .and .u64 b 4503599627370495 = fr b := by
  unfold U at h
  rw [u64_and b _ h.1 h.2 (by omega) (by omega)]
  have : (b.toNat &&& (4503599627370495 : Int).toNat) = b.toNat % 4503599627370496 := Nat.and_two_pow_sub_one_eq_mod b.toNat 52
  rw [this]; unfold fr; omega
theorem sign_and {b : Int} (h : U b) : bits .and .u64 b 9223372036854775808 = b / 9223372036854775808 * 9223372036854775808 := by
  have ht := top_and h U_63
  have hu := U_bits_and h U_63
  have hm : bits .and .u64 b 9223372036854775808 % 9223372036854775808 = 0 := by
    unfold U at h
    rw [u64_and b _ h.1 h.2 (by omega) (by omega)]
    have e : (b.toNat &&& (9223372036854775808 : Int).toNat) % 2 ^ 63 = (b.toNat % 2 ^ 63) &&& ((9223372036854775808 : Int).toNat % 2 ^ 63) := Nat.and_mod_two_pow
    have e2 : ((9223372036854775808 : Int).toNat % 2 ^ 63) = 0 := rfl
    rw [e2, Nat.and_zero] at e
    have e3 : (2 : Nat) ^ 63 = 9223372036854775808 := rfl
    rw [e3] at e
    omega
  have e1 : top 9223372036854775808 = 1 := rfl
  rw [e1, Int.mul_one] at ht
  unfold top at ht
  unfold U at *
  omega
theorem sign_ne {b : Int} (h : U b) : (bits .and .u64 b 9223372036854775808 != 0) = decide (9223372036854775808 ≤ b) := by
  rw [sign_and h, Bool.eq_iff_iff]
  unfold U at h
  simp
  omega
theorem sign_or {b : Int} (h : U b) (hb : b < 9223372036854775808) : bits .or .u64 b 9223372036854775808 = b + 9223372036854775808 := by
  have ht := top_or h U_63
  have hu := U_bits_or h U_63
  have hm : bits .or .u64 b 9223372036854775808 % 9223372036854775808 = b := by
    unfold U at h
    rw [u64_or b _ h.1 h.2 (by omega) (by omega)]
    have e : (b.toNat ||| (9223372036854775808 : Int).toNat) % 2 ^ 63 = (b.toNat % 2 ^ 63) ||| ((9223372036854775808 : Int).toNat % 2 ^ 63) := Nat.or_mod_two_pow
    have e2 : ((9223372036854775808 : Int).toNat % 2 ^ 63) = 0 := rfl
    rw [e2, Nat.or_zero] at e
    have e3 : (2 : Nat) ^ 63 = 9223372036854775808 := rfl
    rw [e3] at e
    omega
  have e1 : top 9223372036854775808 = 1 := rfl
  rw [e1, Int.mul_one] at ht
  unfold top at ht
  unfold U at *
  omega
/-- the other sign -/
def negW (b : Int) : Int := if b < 9223372036854775808 then b + 9223372036854775808 else b - 9223372036854775808
theorem sign_xor {b : Int} (h : U b) : bits .xor .u64 b 9223372036854775808 = negW b := by
  have ht := top_xor h U_63
  have hu := U_bits_xor h U_63
  have hm : bits .xor .u64 b 9223372036854775808 % 9223372036854775808 = b % 9223372036854775808 := by
    unfold U at h
    rw [u64_xor b _ h.1 h.2 (by omega) (by omega)]
    have e : (b.toNat ^^^ (9223372036854775808 : Int).toNat) % 2 ^ 63 = (b.toNat % 2 ^ 63) ^^^ ((9223372036854775808 : Int).toNat % 2 ^ 63) := Nat.xor_mod_two_pow
    have e2 : ((9223372036854775808 : Int).toNat % 2 ^ 63) = 0 := rfl
    rw [e2, Nat.xor_zero] at e
    have e3 : (2 : Nat) ^ 63 = 9223372036854775808 := rfl
    rw [e3] at e
    omega
  have e1 : top 9223372036854775808 = 1 := rfl
  rw [e1, Int.mul_one] at ht
  unfold top at ht
  unfold negW
  unfold U at *
  split <;> omega
theorem U_negW {b : Int} (h : U b) : U (negW b) := by unfold U at *; unfold negW; split <;> omega
theorem hid_or {b : Int} (h0 : 0 ≤ b) (hb : b < 4503599627370496) : bits .or .u64 b 4503599627370496 = 4503599627370496 + b := by
  rw [u64_or b _ h0 (by omega) (by omega) (by omega), Nat.or_comm]
  have : ((4503599627370496 : Int).toNat ||| b.toNat) = (4503599627370496 : Int).toNat + b.toNat := nat_join 52 _ _ (by decide) (by omega)
  rw [this]; omega
theorem mg_bd (b : Int) : 0 ≤ mg b ∧ mg b < 9223372036854775808 := by unfold mg; omega
theorem ef_bd (b : Int) : 0 ≤ ef b ∧ ef b ≤ 2047 := by unfold ef; omega
theorem fr_bd (b : Int) : 0 ≤ fr b ∧ fr b < 4503599627370496 := by unfold fr; omega
theorem mg_parts (b : Int) : mg b = ef b * 4503599627370496 + fr b := by unfold mg ef fr; omega
theorem ef_negW {b : Int} (h : U b) : ef (negW b) = ef b := by unfold U at h; unfold negW ef; split <;> omega
/-! ### what the functions answer -/
def clsW (b : Int) : Int := if ef b = 2047 then (if fr b = 0 then 3 else 4) else if ef b = 0 then (if fr b = 0 then 0 else 1) else 2
def fiE (b : Int) : Int := if ef b = 2047 then 60 else 0
def spS (b : Int) : Bool := if ef b = 2047 then false else decide (9223372036854775808 ≤ b)
def spM (b : Int) : Int := if ef b = 2047 then 0 else if ef b = 0 then fr b else 4503599627370496 + fr b
def spX (b : Int) : Int := if ef b = 2047 then 0 else if ef b = 0 then -1074 else ef b - 1075
def rk0 (b : Int) : Int := if b < 9223372036854775808 then b else -(b - 9223372036854775808)
def nxE (b : Int) : Int := if ef b = 2047 then 60 else if b = 9218868437227405311 then 62 else 0
def nxW (b : Int) : Int := if ef b = 2047 then 0 else if b = 9218868437227405311 then 0 else if b < 9223372036854775808 then b + 1 else if b = 9223372036854775808 then 1 else b - 1
def pvW (b : Int) : Int := if nxE (negW b) = 0 then negW (nxW (negW b)) else 0
def cmE (a b : Int) : Int := if ef a = 2047 then 60 else if ef b = 2047 then 60 else 0
def cmW (a b : Int) : Int := if ef a = 2047 then 0 else if ef b = 2047 then 0 else ord (rk0 a) (rk0 b)
def sgB (s : Bool) : Int := if s = true then 9223372036854775808 else 0
theorem U_nxW {b : Int} (h : U b) : U (nxW b) := by unfold U at *; unfold nxW; repeat' split <;> omega
end Go.Proofs.YtceecgklgkiffabGreatDoor.Ar

/- Plain numbers: the one pattern of a mantissa and an exponent. -/
namespace Go.Proofs.YtceecgklgkiffabGreatDoor.Ar
open Go.RowKit
set_option linter.unusedVariables false

/-- two to a number (one, where it is below none) -/
def e2 (k : Int) : Int := 2 ^ k.toNat
theorem e2_pos (k : Int) : 0 < e2 k := pow_pos _
theorem e2_zero {k : Int} (h : k ≤ 0) : e2 k = 1 := by
  unfold e2
  have : k.toNat = 0 := by omega
  rw [this]; rfl
theorem e2_add {j k : Int} (hj : 0 ≤ j) (hk : 0 ≤ k) : e2 (j + k) = e2 j * e2 k := by
  unfold e2
  have : (j + k).toNat = j.toNat + k.toNat := by omega
  rw [this, Int.pow_add]
theorem e2_le {j k : Int} (h : j ≤ k) : e2 j ≤ e2 k := by
  unfold e2
  rw [← pow_cast, ← pow_cast]
  exact Int.ofNat_le.mpr (Nat.pow_le_pow_right (by omega) (by omega))
theorem e2_one : e2 1 = 2 := rfl
theorem e2_52 : e2 52 = 4503599627370496 := rfl
theorem e2_53 : e2 53 = 9007199254740992 := rfl
theorem e2_64 : e2 64 = 18446744073709551616 := rfl
theorem mul_can {a b c : Int} (h : a * c = b * c) (hc : 0 < c) : a = b := Int.eq_of_mul_eq_mul_right (by omega) h
/-- m times two to the x is M times two to the X -/
def Sm (m x M X : Int) : Prop := (X ≤ x ∧ M = m * e2 (x - X)) ∨ (x ≤ X ∧ m = M * e2 (X - x))
theorem sm_iff {m x M X : Int} (L : Int) (h1 : L ≤ x) (h2 : L ≤ X) : Sm m x M X ↔ m * e2 (x - L) = M * e2 (X - L) := by
  unfold Sm
  constructor
  · rintro (⟨h, e⟩ | ⟨h, e⟩)
    · rw [e, Int.mul_assoc, ← e2_add (by omega) (by omega)]
      congr 2; omega
    · rw [e, Int.mul_assoc, ← e2_add (by omega) (by omega)]
      congr 2; omega
  · intro e
    by_cases h : X ≤ x
    · left
      refine ⟨h, ?_⟩
      have s : e2 (x - L) = e2 (x - X) * e2 (X - L) := by rw [← e2_add (by omega) (by omega)]; congr 1; omega
      rw [s, ← Int.mul_assoc] at e
      exact (mul_can e (e2_pos _)).symm
    · right
      refine ⟨by omega, ?_⟩
      have s : e2 (X - L) = e2 (X - x) * e2 (x - L) := by rw [← e2_add (by omega) (by omega)]; congr 1; omega
      rw [s, ← Int.mul_assoc] at e
      exact mul_can e (e2_pos _)
theorem sm_refl (m x : Int) : Sm m x m x := Or.inl ⟨Int.le_refl _, by rw [Int.sub_self, e2_zero (Int.le_refl 0), Int.mul_one]⟩
theorem sm_symm {m x M X : Int} (h : Sm m x M X) : Sm M X m x := by
  unfold Sm at *
  rcases h with ⟨h, e⟩ | ⟨h, e⟩
  · exact Or.inr ⟨h, e⟩
  · exact Or.inl ⟨h, e⟩
theorem sm_trans {a x b y c z : Int} (h : Sm a x b y) (k : Sm b y c z) : Sm a x c z := by
  have h1 : min x (min y z) ≤ x := by omega
  have h2 : min x (min y z) ≤ y := by omega
  have h3 : min x (min y z) ≤ z := by omega
  rw [sm_iff _ h1 h2] at h
  rw [sm_iff _ h2 h3] at k
  rw [sm_iff _ h1 h3]
  exact h.trans k
/-- the form that a pattern has its number in -/
def Nf (m x M X : Int) : Prop := Sm m x M X ∧ -1074 ≤ X ∧ 0 < M ∧ M < 9007199254740992 ∧ (X = -1074 ∨ 4503599627370496 ≤ M)
theorem nf_gap {M X N Y : Int} (h : Sm M X N Y) (hl : X < Y) (hN : 4503599627370496 ≤ N) : 9007199254740992 ≤ M := by
  rcases h with ⟨h, _⟩ | ⟨h, e⟩
  · omega
  · have h2 : 2 ≤ e2 (Y - X) := by rw [← e2_one]; exact e2_le (by omega)
    have : N * 2 ≤ N * e2 (Y - X) := Int.mul_le_mul_of_nonneg_left h2 (by omega)
    rw [e]; omega
theorem nf_uniq {m x M X N Y : Int} (h : Nf m x M X) (k : Nf m x N Y) : M = N ∧ X = Y := by
  obtain ⟨s, a1, a2, a3, a4⟩ := h
  obtain ⟨t, b1, b2, b3, b4⟩ := k
  have st := sm_trans (sm_symm s) t
  have ts := sm_symm st
  have : X = Y := by
    by_cases l : X < Y
    · have := nf_gap st l (by omega); omega
    · by_cases g : Y < X
      · have := nf_gap ts g (by omega); omega
      · omega
  subst this
  refine ⟨?_, rfl⟩
  rw [sm_iff X (Int.le_refl _) (Int.le_refl _)] at st
  exact mul_can st (e2_pos _)
/-- what Join answers -/
def JoinIs (s : Bool) (m x b e : Int) : Prop :=
  (m = 0 ∧ b = sgB s ∧ e = 0) ∨ (m ≠ 0 ∧ ((∃ M X, Nf m x M X ∧ X ≤ 971 ∧ b = sgB s + (X + 1074) * 4503599627370496 + M ∧ e = 0) ∨ ((∀ M X, Nf m x M X → 971 < X) ∧ b = 0 ∧ e = 61)))
theorem joinIs_uniq {s : Bool} {m x b e b' e' : Int} (h : JoinIs s m x b e) (k : JoinIs s m x b' e') : b = b' ∧ e = e' := by
  rcases h with ⟨h0, h1, h2⟩ | ⟨h0, h⟩
  · rcases k with ⟨_, k1, k2⟩ | ⟨k0, _⟩
    · exact ⟨h1.trans k1.symm, h2.trans k2.symm⟩
    · exact absurd h0 k0
  · rcases k with ⟨k0, _⟩ | ⟨_, k⟩
    · exact absurd k0 h0
    · rcases h with ⟨M, X, hn, hx, hb, he⟩ | ⟨hn, hb, he⟩
      · rcases k with ⟨M', X', kn, kx, kb, ke⟩ | ⟨kn, _, _⟩
        · obtain ⟨rfl, rfl⟩ := nf_uniq hn kn
          exact ⟨hb.trans kb.symm, he.trans ke.symm⟩
        · have := kn M X hn; omega
      · rcases k with ⟨M', X', kn, kx, _, _⟩ | ⟨_, kb, ke⟩
        · have := hn M' X' kn; omega
        · exact ⟨hb.trans kb.symm, he.trans ke.symm⟩
/-! ### too far off -/
theorem far_above {m x M X : Int} (hm : 0 < m) (hx : 1023 < x) (h : Nf m x M X) : 971 < X := by
  obtain ⟨s, a1, a2, a3, a4⟩ := h
  by_cases hX : 971 < X
  · exact hX
  · rcases s with ⟨h, e⟩ | ⟨h, e⟩
    · have h2 : e2 53 ≤ e2 (x - X) := e2_le (by omega)
      have : 1 * e2 (x - X) ≤ m * e2 (x - X) := Int.mul_le_mul_of_nonneg_right (by omega) (by have := e2_pos (x - X); omega)
      rw [e2_53] at h2
      omega
    · omega
theorem far_below {m x M X : Int} (hm : U m) (hx : x < -1137) (h : Nf m x M X) : False := by
  obtain ⟨s, a1, a2, a3, a4⟩ := h
  unfold U at hm
  rcases s with ⟨h, e⟩ | ⟨h, e⟩
  · omega
  · have h2 : e2 64 ≤ e2 (X - x) := e2_le (by omega)
    have : 1 * e2 (X - x) ≤ M * e2 (X - x) := Int.mul_le_mul_of_nonneg_right (by omega) (by have := e2_pos (X - x); omega)
    rw [e2_64] at h2
    omega
theorem join_far {s : Bool} {m x : Int} (hm : U m) (h0 : m ≠ 0) (hx : x < -1137 ∨ 1023 < x) : JoinIs s m x 0 61 := by
  refine Or.inr ⟨h0, Or.inr ⟨?_, rfl, rfl⟩⟩
  intro M X h
  rcases hx with hx | hx
  · exact (far_below hm hx h).elim
  · exact far_above (by unfold U at hm; omega) hx h
/-! ### the program's way -/
/-- where the mantissa comes to stand -/
def atX (m x : Int) : Int := max (x + lenW m - 53) (-1074)
theorem at_right {m x M X : Int} (hm : U m) (h0 : m ≠ 0) (h : Nf m x M X) : X = atX m x := by
  obtain ⟨k, hk, e, l1, l2⟩ := lenW_pos hm h0
  obtain ⟨s, a1, a2, a3, a4⟩ := h
  have hmp : 0 < m := by unfold U at hm; omega
  unfold atX
  rw [e]
  have q1 : (2 : Int) ^ k = e2 k := by unfold e2; rw [Int.toNat_natCast]
  have q0 : ((k : Int) + 1).toNat = k + 1 := by omega
  have q2 : (2 : Int) ^ (k + 1) = e2 (k + 1) := by unfold e2; rw [q0]
  clear q0
  rw [q1] at l1
  rw [q2] at l2
  have lo : X ≥ x + (k + 1) - 53 := by
    rcases s with ⟨h, e⟩ | ⟨h, e⟩
    · -- M = m * 2^(x-X) < 2^53
      apply Decidable.byContradiction
      intro hc
      have h2 : e2 53 ≤ e2 (k + (x - X)) := e2_le (by omega)
      rw [e2_add (by omega) (by omega)] at h2
      have : e2 k * e2 (x - X) ≤ m * e2 (x - X) := Int.mul_le_mul_of_nonneg_right l1 (by have := e2_pos (x - X); omega)
      rw [e2_53] at h2
      omega
    · apply Decidable.byContradiction
      intro hc
      have h2 : e2 (53 + (X - x)) ≤ e2 k := e2_le (by omega)
      rw [e2_add (by omega) (by omega)] at h2
      have : M * e2 (X - x) < e2 53 * e2 (X - x) := Int.mul_lt_mul_of_pos_right (by rw [e2_53]; omega) (e2_pos _)
      omega
  rcases a4 with a4 | a4
  · omega
  · have hi : X ≤ x + (k + 1) - 53 := by
      rcases s with ⟨h, e⟩ | ⟨h, e⟩
      · apply Decidable.byContradiction
        intro hc
        have h2 : e2 (k + 1 + (x - X)) ≤ e2 52 := e2_le (by omega)
        rw [e2_add (by omega) (by omega)] at h2
        have : m * e2 (x - X) < e2 (k + 1) * e2 (x - X) := Int.mul_lt_mul_of_pos_right l2 (e2_pos _)
        rw [e2_52] at h2
        omega
      · apply Decidable.byContradiction
        intro hc
        have h2 : e2 (k + 1) ≤ e2 (52 + (X - x)) := e2_le (by omega)
        rw [e2_add (j := 52) (k := X - x) (by omega) (by omega)] at h2
        have : e2 52 * e2 (X - x) ≤ M * e2 (X - x) := Int.mul_le_mul_of_nonneg_right (by rw [e2_52]; omega) (by have := e2_pos (X - x); omega)
        omega
    omega
theorem at_bd {m x : Int} (hm : U m) (h0 : m ≠ 0) : ∃ k : Nat, k < 64 ∧ lenW m = k + 1 ∧ e2 k ≤ m ∧ m < e2 (k + 1) := by
  obtain ⟨k, hk, e, l1, l2⟩ := lenW_pos hm h0
  refine ⟨k, hk, e, ?_, ?_⟩
  · unfold e2; rw [Int.toNat_natCast]; exact l1
  · unfold e2; have : ((k : Int) + 1).toNat = k + 1 := by omega
    rw [this]; exact l2
/-- moved up: nothing is lost -/
theorem nf_up {m x : Int} (hm : U m) (h0 : m ≠ 0) (hx : atX m x ≤ x) : Nf m x (m * e2 (x - atX m x)) (atX m x) := by
  obtain ⟨k, hk, e, l1, l2⟩ := at_bd (x := x) hm h0
  have hmp : 0 < m := by unfold U at hm; omega
  have hat : atX m x = max (x + (k + 1) - 53) (-1074) := by unfold atX; rw [e]
  generalize atX m x = A at *
  have hp := e2_pos (x - A)
  refine ⟨Or.inl ⟨hx, rfl⟩, by omega, Int.mul_pos hmp hp, ?_, ?_⟩
  · have h2 : e2 (k + 1 + (x - A)) ≤ e2 53 := e2_le (by omega)
    rw [e2_add (by omega) (by omega)] at h2
    have : m * e2 (x - A) < e2 (k + 1) * e2 (x - A) := Int.mul_lt_mul_of_pos_right l2 hp
    rw [e2_53] at h2
    omega
  · by_cases hA : A = -1074
    · exact Or.inl hA
    · right
      have h2 : e2 52 ≤ e2 (k + (x - A)) := e2_le (by omega)
      rw [e2_add (by omega) (by omega)] at h2
      have : e2 k * e2 (x - A) ≤ m * e2 (x - A) := Int.mul_le_mul_of_nonneg_right l1 (by omega)
      rw [e2_52] at h2
      omega
/-- moved down: nothing is lost if the low bits are none -/
theorem nf_down {m x : Int} (hm : U m) (h0 : m ≠ 0) (hx : x ≤ atX m x) (hl : m % e2 (atX m x - x) = 0) : Nf m x (m / e2 (atX m x - x)) (atX m x) := by
  obtain ⟨k, hk, e, l1, l2⟩ := at_bd (x := x) hm h0
  have hmp : 0 < m := by unfold U at hm; omega
  have hat : atX m x = max (x + (k + 1) - 53) (-1074) := by unfold atX; rw [e]
  generalize atX m x = A at *
  have hp := e2_pos (A - x)
  have hd : m / e2 (A - x) * e2 (A - x) = m := Int.ediv_mul_cancel (Int.dvd_of_emod_eq_zero hl)
  generalize m / e2 (A - x) = M at *
  have hM : 0 < M := by
    apply Decidable.byContradiction
    intro hc
    have : M * e2 (A - x) ≤ 0 * e2 (A - x) := Int.mul_le_mul_of_nonneg_right (by omega) (by omega)
    omega
  refine ⟨Or.inr ⟨hx, hd.symm⟩, by omega, hM, ?_, ?_⟩
  · apply Decidable.byContradiction
    intro hc
    have h2 : e2 (k + 1) ≤ e2 (53 + (A - x)) := e2_le (by omega)
    rw [e2_add (j := 53) (k := A - x) (by omega) (by omega)] at h2
    have : e2 53 * e2 (A - x) ≤ M * e2 (A - x) := Int.mul_le_mul_of_nonneg_right (by rw [e2_53]; omega) (by omega)
    omega
  · by_cases hA : A = -1074
    · exact Or.inl hA
    · right
      apply Decidable.byContradiction
      intro hc
      have h2 : e2 (52 + (A - x)) ≤ e2 k := e2_le (by omega)
      rw [e2_add (by omega) (by omega)] at h2
      have : M * e2 (A - x) < e2 52 * e2 (A - x) := Int.mul_lt_mul_of_pos_right (by rw [e2_52]; omega) hp
      omega
theorem lost_none {m x : Int} (hm : U m) (h0 : m ≠ 0) (hx : x ≤ atX m x) (hl : m % e2 (atX m x - x) ≠ 0) {M X : Int} : ¬ Nf m x M X := by
  intro h
  have hX := at_right hm h0 h
  obtain ⟨s, a1, a2, a3, a4⟩ := h
  rw [hX] at s
  rcases s with ⟨hh, e⟩ | ⟨hh, e⟩
  · have : atX m x = x := by omega
    rw [this, Int.sub_self, e2_zero (Int.le_refl 0)] at hl
    exact hl (Int.emod_one _)
  · apply hl
    generalize atX m x - x = d at *
    rw [e]
    exact Int.mul_emod_left _ _
/-- the program's answer, by what the shifts leave -/
theorem join_ok {s : Bool} {m x M : Int} (h0 : m ≠ 0) (h : Nf m x M (atX m x)) (ha : atX m x ≤ 971) : JoinIs s m x (sgB s + (atX m x + 1074) * 4503599627370496 + M) 0 :=
  Or.inr ⟨h0, Or.inl ⟨M, atX m x, h, ha, rfl, rfl⟩⟩
theorem join_big {s : Bool} {m x : Int} (hm : U m) (h0 : m ≠ 0) (ha : 971 < atX m x) : JoinIs s m x 0 61 :=
  Or.inr ⟨h0, Or.inr ⟨fun M X h => by rw [at_right hm h0 h]; exact ha, rfl, rfl⟩⟩
theorem join_lost {s : Bool} {m x : Int} (hm : U m) (h0 : m ≠ 0) (hx : x ≤ atX m x) (hl : m % e2 (atX m x - x) ≠ 0) : JoinIs s m x 0 61 :=
  Or.inr ⟨h0, Or.inr ⟨fun M X h => (lost_none hm h0 hx hl h).elim, rfl, rfl⟩⟩
end Go.Proofs.YtceecgklgkiffabGreatDoor.Ar

/- Plain numbers: what the shifts of Join leave; the document's way to the same form. -/
namespace Go.Proofs.YtceecgklgkiffabGreatDoor.Ar
open Go.RowKit
set_option linter.unusedVariables false

theorem clamp_none {n : Int} (h : n ≤ 0) : clampN n = 0 := by unfold clampN; rw [if_pos h]
theorem clamp_at {n : Int} (h : 0 ≤ n) (h' : n ≤ 128) : (clampN n : Int) = n := by
  unfold clampN; split
  · omega
  · split <;> omega
theorem pow_clamp {n : Int} (h : 0 ≤ n) (h' : n ≤ 128) : (2 : Int) ^ clampN n = e2 n := by
  unfold e2
  have := clamp_at h h'
  have : clampN n = n.toNat := by omega
  rw [this]
theorem shl_none {m n : Int} (hm : U m) (h : n ≤ 0) : shLo 0 m (clampN n) = m := by
  rw [clamp_none h]; unfold shLo U at *; simp; omega
theorem shl_some {m n : Int} (h : 0 ≤ n) (h' : n ≤ 128) (hm : 0 ≤ m * e2 n) (hb : m * e2 n < 9007199254740992) : shLo 0 m (clampN n) = m * e2 n := by
  unfold shLo
  rw [pow_clamp h h']
  simp
  omega
theorem shr_none {m n : Int} (hm : U m) (h : n ≤ 0) : srLo 0 m (clampN n) = m ∧ srLost 0 m (clampN n) = false := by
  rw [clamp_none h]; unfold srLo srLost U at *; simp [Int.emod_one]; omega
theorem shr_some {m n : Int} (hm : U m) (h : 0 ≤ n) (h' : n ≤ 128) : srLo 0 m (clampN n) = m / e2 n ∧ srLost 0 m (clampN n) = decide (m % e2 n ≠ 0) := by
  unfold srLo srLost
  rw [pow_clamp h h']
  simp
  have hp := e2_pos n
  unfold U at hm
  have h1 : 0 ≤ m / e2 n := Int.ediv_nonneg hm.1 (by omega)
  have h2 : m / e2 n ≤ m := Int.ediv_le_self _ hm.1
  omega
/-- the bounds of the place -/
theorem at_near {m x : Int} (hm : U m) (h0 : m ≠ 0) (h1 : -1137 ≤ x) (h2 : x ≤ 1023) : -1074 ≤ atX m x ∧ atX m x ≤ 1034 ∧ x - atX m x ≤ 52 ∧ atX m x - x ≤ 63 ∧ 1 ≤ lenW m ∧ lenW m ≤ 64 := by
  obtain ⟨k, hk, e, _, _⟩ := lenW_pos hm h0
  unfold atX
  rw [e]
  omega
/-! ### the document's way -/
/-! ### what Split tells is joined again -/
end Go.Proofs.YtceecgklgkiffabGreatDoor.Ar

/- Plain numbers: neighbours, order, ranks. -/
namespace Go.Proofs.YtceecgklgkiffabGreatDoor.Ar
open Go.RowKit
set_option linter.unusedVariables false

theorem rk0_mg {b : Int} (h : U b) : (b < 9223372036854775808 ∧ rk0 b = mg b ∧ b = mg b) ∨ (9223372036854775808 ≤ b ∧ rk0 b = -mg b ∧ b = mg b + 9223372036854775808) := by
  unfold U at h
  unfold rk0 mg
  split <;> omega
/-! ### neighbours -/
theorem ord_cases (a b : Int) : (a < b ∧ ord a b = -1) ∨ (a = b ∧ ord a b = 0) ∨ (b < a ∧ ord a b = 1) := by
  unfold ord; split
  · left; omega
  · split <;> omega
end Go.Proofs.YtceecgklgkiffabGreatDoor.Ar

/- package f64: the fields of a pattern, Class, Split, Neg, the neighbours, the order. -/
namespace Go.Proofs.YtceecgklgkiffabGreatDoor
open Go.ChangeShapes Go.WideShapes Go.ChangeAt Go.RowKit
open Ar
set_option linter.unusedVariables false

theorem results_tmp4 {fn : Func} {t u v x : Tmp} (h : fn.results = #[.tmp t, .tmp u, .tmp v, .tmp x]) (tmps : Array Value) (P : Program) (w : World) :
    (results fn tmps).run P w = .ok (.tuple #[tmps.getD t undef, tmps.getD u undef, tmps.getD v undef, tmps.getD x undef]) w := by
  simp [results, h]
theorem ret_b {p q : Bool} (h : p = q) : Ending.returned (.bool p) = .returned (.bool q) := by rw [h]
theorem f6size_any {b : Int} (hb : U b) (w : World) :
    Calls Tryz.prog 90 #[.int .u64 b] w fun e w' => e = .returned (.int .u64 (mg b)) ∧ w = w' := by
  go_enter Tryz.func90, Tryz.ntmps90
  go_wp2
  go_ret
  exact ⟨ret_int (size_bits hb), rfl⟩
theorem f6fraction_any {b : Int} (hb : U b) (w : World) :
    Calls Tryz.prog 52 #[.int .u64 b] w fun e w' => e = .returned (.int .u64 (fr b)) ∧ w = w' := by
  go_enter Tryz.func52, Tryz.ntmps52
  go_wp2
  go_ret
  exact ⟨ret_int (frac_bits hb), rfl⟩
theorem f6negative_any {b : Int} (hb : U b) (w : World) :
    Calls Tryz.prog 71 #[.int .u64 b] w fun e w' => e = .returned (.bool (decide (9223372036854775808 ≤ b))) ∧ w = w' := by
  go_enter Tryz.func71, Tryz.ntmps71
  go_wp2
  go_ret
  exact ⟨ret_b (sign_ne hb), rfl⟩
theorem f6field_any {b : Int} (hb : U b) (w : World) :
    Calls Tryz.prog 54 #[.int .u64 b] w fun e w' => e = .returned (.int .i64 (ef b)) ∧ w = w' := by
  have hm := mg_bd b
  go_enter Tryz.func54, Tryz.ntmps54
  go_wp2_with (go_at_call 90; refine (f6size_any hb _).mono ?_; rintro e w' ⟨rfl, rfl⟩)
  go_ret
  refine ⟨ret_int ?_, rfl⟩
  rfl
theorem f6finite_any {b : Int} (hb : U b) (w : World) :
    Calls Tryz.prog 53 #[.int .u64 b] w fun e w' => e = .returned (.bool (ef b != 2047)) ∧ w = w' := by
  go_enter Tryz.func53, Tryz.ntmps53
  go_wp2_with (go_at_call 54; refine (f6field_any hb _).mono ?_; rintro e w' ⟨rfl, rfl⟩)
  go_ret
  exact ⟨rfl, rfl⟩
theorem f6Neg_any {b : Int} (hb : U b) (w : World) :
    Calls Tryz.prog 79 #[.int .u64 b] w fun e w' => e = .returned (.int .u64 (negW b)) ∧ w = w' := by
  go_enter Tryz.func79, Tryz.ntmps79
  go_wp2
  go_ret
  exact ⟨ret_int (sign_xor hb), rfl⟩
theorem f6signed_any {s : Bool} {b : Int} (h0 : 0 ≤ b) (h1 : b < 9223372036854775808) (w : World) :
    Calls Tryz.prog 177 #[.bool s, .int .u64 b] w fun e w' => e = .returned (.int .u64 (sgB s + b)) ∧ w = w' := by
  have hb : U b := by unfold U; omega
  cases s
  · go_enter Tryz.func177, Tryz.ntmps177
    go_wp2
    go_ret
    exact ⟨ret_int (by unfold sgB; rw [if_neg (by decide)]; omega), rfl⟩
  · go_enter Tryz.func177, Tryz.ntmps177
    go_wp2
    go_ret
    exact ⟨ret_int (by rw [sign_or hb h1]; unfold sgB; rw [if_pos rfl]; omega), rfl⟩
theorem f6rank_any {b : Int} (hb : U b) (w : World) :
    Calls Tryz.prog 163 #[.int .u64 b] w fun e w' => e = .returned (.int .i64 (rk0 b)) ∧ w = w' := by
  have hm := mg_bd b
  have hr := rk0_mg hb
  by_cases hn : 9223372036854775808 ≤ b
  · have hd : decide (9223372036854775808 ≤ b) = true := by simpa using hn
    have E : Hid (-mg b = rk0 b) := by rw [Hid]; omega
    have hN := fun w => f6negative_any hb w
    rw [hd] at hN
    clear hr hd hn
    go_enter Tryz.func163, Tryz.ntmps163
    go_wp2_with (first | (go_at_call 71; refine (hN _).mono ?_; rintro e w' ⟨rfl, rfl⟩) | (go_at_call 90; refine (f6size_any hb _).mono ?_; rintro e w' ⟨rfl, rfl⟩))
    go_ret
    exact ⟨ret_int E.out, rfl⟩
  · have hd : decide (9223372036854775808 ≤ b) = false := by simpa using hn
    have E : Hid (mg b = rk0 b) := by rw [Hid]; omega
    have hN := fun w => f6negative_any hb w
    rw [hd] at hN
    clear hr hd hn
    go_enter Tryz.func163, Tryz.ntmps163
    go_wp2_with (first | (go_at_call 71; refine (hN _).mono ?_; rintro e w' ⟨rfl, rfl⟩) | (go_at_call 90; refine (f6size_any hb _).mono ?_; rintro e w' ⟨rfl, rfl⟩))
    go_ret
    exact ⟨ret_int E.out, rfl⟩
end Go.Proofs.YtceecgklgkiffabGreatDoor

/- package f64: Class, Split, the neighbours, the order, ranks. -/
namespace Go.Proofs.YtceecgklgkiffabGreatDoor
open Go.ChangeShapes Go.WideShapes Go.ChangeAt Go.RowKit
open Ar
set_option linter.unusedVariables false
set_option linter.unusedSimpArgs false

theorem ret_biii {k l m : IntKind} {p q : Bool} {a b c d e f : Int} (h : p = q) (h' : a = b) (h'' : c = d) (h3 : e = f) : Ending.returned (.tuple #[.bool p, .int k a, .int l c, .int m e]) = .returned (.tuple #[.bool q, .int k b, .int l d, .int m f]) := by rw [h, h', h'', h3]
theorem isNaN6_any (a : Int) (w : World) : Calls Tryz.prog 183 #[.int .i64 a] w fun e w' => e = .returned (.bool false) ∧ w = w' := by
  have t : (a != a) = false := by simp
  go_enter Tryz.func183, Tryz.ntmps183
  go_wp2
  go_ret
  exact ⟨rfl, rfl⟩
theorem compare6_any (a b : Int) (w : World) : Calls Tryz.prog 162 #[.int .i64 a, .int .i64 b] w fun e w' => e = .returned (.int .i64 (ord a b)) ∧ w = w' := by
  rcases ord_cases a b with ⟨h, E0⟩ | ⟨h, E0⟩ | ⟨h, E0⟩
  all_goals
    rw [E0]
    clear E0
    go_enter Tryz.func162, Tryz.ntmps162
    go_wp2_with (go_at_call 183; refine (isNaN6_any _ _).mono ?_; rintro e w' ⟨rfl, rfl⟩)
    go_ret
    exact ⟨rfl, rfl⟩

theorem f6Class_w {b : Int} (hb : U b) {p q r : Bool} (h1 : (ef b != 2047) = p) (h2 : (ef b != 0) = q) (h3 : (fr b == 0) = r) (w : World) :
    Calls Tryz.prog 22 #[.int .u64 b] w fun e w' => e = .returned (.int .i64 (clsW b)) ∧ w = w' := by
  have hc : clsW b = if p = true then (if q = true then 2 else if r = true then 0 else 1) else (if r = true then 3 else 4) := by
    subst h1 h2 h3
    unfold clsW
    simp
  rw [hc]
  clear hc
  cases p <;> cases q <;> cases r
  all_goals
    go_enter Tryz.func22, Tryz.ntmps22
    go_wp2_with (first | (go_at_call 53; refine (f6finite_any hb _).mono ?_; rintro e w' ⟨rfl, rfl⟩) | (go_at_call 54; refine (f6field_any hb _).mono ?_; rintro e w' ⟨rfl, rfl⟩) | (go_at_call 52; refine (f6fraction_any hb _).mono ?_; rintro e w' ⟨rfl, rfl⟩))
    go_ret
    exact ⟨rfl, rfl⟩
theorem f6Class_any {b : Int} (hb : U b) (w : World) :
    Calls Tryz.prog 22 #[.int .u64 b] w fun e w' => e = .returned (.int .i64 (clsW b)) ∧ w = w' := f6Class_w hb rfl rfl rfl w

theorem cls_of (b : Int) : (ef b = 2047 ∧ (clsW b = 3 ∨ clsW b = 4) ∧ spS b = false ∧ spM b = 0 ∧ spX b = 0 ∧ fiE b = 60) ∨ (ef b ≠ 2047 ∧ (clsW b = 0 ∨ clsW b = 1) ∧ spS b = decide (9223372036854775808 ≤ b) ∧ spM b = fr b ∧ spX b = -1074 ∧ fiE b = 0) ∨ (ef b ≠ 2047 ∧ clsW b = 2 ∧ spS b = decide (9223372036854775808 ≤ b) ∧ spM b = 4503599627370496 + fr b ∧ spX b = ef b - 1075 ∧ fiE b = 0) := by
  unfold clsW spS spM spX fiE
  by_cases h : ef b = 2047
  · left
    simp only [if_pos h]
    refine ⟨h, ?_, by simp⟩
    split <;> simp
  · right
    simp only [if_neg h]
    by_cases h0 : ef b = 0
    · left
      simp only [if_pos h0]
      refine ⟨h, ?_, by simp⟩
      split <;> simp
    · right
      simp only [if_neg h0]
      exact ⟨h, by simp⟩
theorem f6Split_any {b : Int} (hb : U b) (w : World) :
    Calls Tryz.prog 33 #[.int .u64 b] w fun e w' => e = .returned (.tuple #[.bool (spS b), .int .u64 (spM b), .int .i64 (spX b), .int .i64 (fiE b)]) ∧ w = w' := by
  have hK := fun w => f6Class_any hb w
  have hf := fr_bd b
  have he := ef_bd b
  have ho := hid_or hf.1 hf.2
  rcases cls_of b with ⟨h, hc, e1, e2, e3, e4⟩ | ⟨h, hc, e1, e2, e3, e4⟩ | ⟨h, hc, e1, e2, e3, e4⟩
  · rw [e1, e2, e3, e4]
    clear e1 e2 e3 e4 h ho
    rcases hc with hc | hc
    all_goals
      rw [hc] at hK
      clear hc
      go_enter Tryz.func33, Tryz.ntmps33
      go_wp2_with (first | (go_at_call 22; refine (hK _).mono ?_; rintro e w' ⟨rfl, rfl⟩) | (go_at_call 52; refine (f6fraction_any hb _).mono ?_; rintro e w' ⟨rfl, rfl⟩))
      ((try simp only [Exit.inBlock, Exit.then]); refine bodyPost_ret (results_tmp4 rfl _ _ _) rfl ?_)
      exact ⟨rfl, rfl⟩
  · rw [e1, e2, e3, e4]
    clear e1 e2 e3 e4 h ho
    rcases hc with hc | hc
    all_goals
      rw [hc] at hK
      clear hc
      go_enter Tryz.func33, Tryz.ntmps33
      go_wp2_with (first | (go_at_call 22; refine (hK _).mono ?_; rintro e w' ⟨rfl, rfl⟩) | (go_at_call 52; refine (f6fraction_any hb _).mono ?_; rintro e w' ⟨rfl, rfl⟩) | (go_at_call 71; refine (f6negative_any hb _).mono ?_; rintro e w' ⟨rfl, rfl⟩))
      ((try simp only [Exit.inBlock, Exit.then]); refine bodyPost_ret (results_tmp4 rfl _ _ _) rfl ?_)
      exact ⟨rfl, rfl⟩
  · rw [e1, e2, e3, e4]
    rw [hc] at hK
    have O : Hid (bits .or .u64 (fr b) 4503599627370496 = 4503599627370496 + fr b) := ho
    clear e1 e2 e3 e4 h ho hc
    go_enter Tryz.func33, Tryz.ntmps33
    go_wp2_with (first | (go_at_call 22; refine (hK _).mono ?_; rintro e w' ⟨rfl, rfl⟩) | (go_at_call 52; refine (f6fraction_any hb _).mono ?_; rintro e w' ⟨rfl, rfl⟩) | (go_at_call 71; refine (f6negative_any hb _).mono ?_; rintro e w' ⟨rfl, rfl⟩) | (go_at_call 54; refine (f6field_any hb _).mono ?_; rintro e w' ⟨rfl, rfl⟩))
    ((try simp only [Exit.inBlock, Exit.then]); refine bodyPost_ret (results_tmp4 rfl _ _ _) rfl ?_)
    exact ⟨ret_biii rfl O.out rfl rfl, rfl⟩
theorem f6Cmp_any {a b : Int} (ha : U a) (hb : U b) (w : World) :
    Calls Tryz.prog 135 #[.int .u64 a, .int .u64 b] w fun e w' => e = .returned (.tuple #[.int .i64 (cmW a b), .int .i64 (cmE a b)]) ∧ w = w' := by
  have hF := fun w => f6finite_any ha w
  have hG := fun w => f6finite_any hb w
  unfold cmW cmE
  by_cases h : ef a = 2047
  · have q : (ef a != 2047) = false := bne_of h
    rw [q] at hF
    rw [if_pos h, if_pos h]
    clear h q
    go_enter Tryz.func135, Tryz.ntmps135
    go_wp2_with fail
    refine (hF _).mono ?_
    rintro e w' ⟨rfl, rfl⟩
    go_wp2_with fail
    go_ret2
    exact ⟨rfl, rfl⟩
  · have q : (ef a != 2047) = true := bne_yes h
    rw [q] at hF
    rw [if_neg h, if_neg h]
    clear h q
    by_cases h : ef b = 2047
    · have q : (ef b != 2047) = false := bne_of h
      rw [q] at hG
      rw [if_pos h, if_pos h]
      clear h q
      go_enter Tryz.func135, Tryz.ntmps135
      go_wp2_with fail
      refine (hF _).mono ?_
      rintro e w' ⟨rfl, rfl⟩
      go_wp2_with fail
      refine (hG _).mono ?_
      rintro e w' ⟨rfl, rfl⟩
      go_wp2_with fail
      go_ret2
      exact ⟨rfl, rfl⟩
    · have q : (ef b != 2047) = true := bne_yes h
      rw [q] at hG
      rw [if_neg h, if_neg h]
      clear h q
      go_enter Tryz.func135, Tryz.ntmps135
      go_wp2_with fail
      refine (hF _).mono ?_
      rintro e w' ⟨rfl, rfl⟩
      go_wp2_with fail
      refine (hG _).mono ?_
      rintro e w' ⟨rfl, rfl⟩
      go_wp2_with fail
      refine (f6rank_any ha _).mono ?_
      rintro e w' ⟨rfl, rfl⟩
      go_wp2_with fail
      refine (f6rank_any hb _).mono ?_
      rintro e w' ⟨rfl, rfl⟩
      go_wp2_with (go_at_call 162; refine (compare6_any _ _ _).mono ?_; rintro e w' ⟨rfl, rfl⟩)
      go_ret2
      exact ⟨rfl, rfl⟩
theorem f6Next_any {b : Int} (hb : U b) (w : World) :
    Calls Tryz.prog 134 #[.int .u64 b] w fun e w' => e = .returned (.tuple #[.int .u64 (nxW b), .int .i64 (nxE b)]) ∧ w = w' := by
  have hF := fun w => f6finite_any hb w
  have hN := fun w => f6negative_any hb w
  have hS := fun w => f6size_any hb w
  have hu := hb
  unfold U at hu
  unfold nxW nxE
  by_cases h : ef b = 2047
  · have q : (ef b != 2047) = false := bne_of h
    rw [q] at hF
    rw [if_pos h, if_pos h]
    clear h q
    go_enter Tryz.func134, Tryz.ntmps134
    go_wp2_with ((go_at_call 53; refine (hF _).mono ?_; rintro e w' ⟨rfl, rfl⟩))
    go_ret2
    exact ⟨rfl, rfl⟩
  · have q : (ef b != 2047) = true := bne_yes h
    rw [q] at hF
    rw [if_neg h, if_neg h]
    clear h q
    by_cases h : b = 9218868437227405311
    · have q : (b == 9218868437227405311) = true := beq_of h
      rw [if_pos h, if_pos h]
      clear h
      go_enter Tryz.func134, Tryz.ntmps134
      go_wp2_with ((go_at_call 53; refine (hF _).mono ?_; rintro e w' ⟨rfl, rfl⟩))
      go_ret2
      exact ⟨rfl, rfl⟩
    · have q : (b == 9218868437227405311) = false := beq_no h
      rw [if_neg h, if_neg h]
      clear h
      by_cases h : b < 9223372036854775808
      · have d : decide (9223372036854775808 ≤ b) = false := by simpa using h
        have m : mg b = b := by unfold mg; omega
        rw [d] at hN
        rw [m] at hS
        rw [if_pos h]
        clear d m
        go_enter Tryz.func134, Tryz.ntmps134
        go_wp2_with (first | (go_at_call 53; refine (hF _).mono ?_; rintro e w' ⟨rfl, rfl⟩) | (go_at_call 71; refine (hN _).mono ?_; rintro e w' ⟨rfl, rfl⟩) | (go_at_call 90; refine (hS _).mono ?_; rintro e w' ⟨rfl, rfl⟩))
        go_ret2
        exact ⟨rfl, rfl⟩
      · have d : decide (9223372036854775808 ≤ b) = true := by simpa using h
        rw [d] at hN
        rw [if_neg h]
        clear d
        by_cases k : b = 9223372036854775808
        · have m : mg b = 0 := by unfold mg; omega
          rw [m] at hS
          rw [if_pos k]
          clear m h k
          go_enter Tryz.func134, Tryz.ntmps134
          go_wp2_with (first | (go_at_call 53; refine (hF _).mono ?_; rintro e w' ⟨rfl, rfl⟩) | (go_at_call 71; refine (hN _).mono ?_; rintro e w' ⟨rfl, rfl⟩) | (go_at_call 90; refine (hS _).mono ?_; rintro e w' ⟨rfl, rfl⟩))
          go_ret2
          exact ⟨rfl, rfl⟩
        · have m : (mg b != 0) = true := bne_yes (by unfold mg; omega)
          rw [if_neg k]
          go_enter Tryz.func134, Tryz.ntmps134
          go_wp2_with (first | (go_at_call 53; refine (hF _).mono ?_; rintro e w' ⟨rfl, rfl⟩) | (go_at_call 71; refine (hN _).mono ?_; rintro e w' ⟨rfl, rfl⟩) | (go_at_call 90; refine (hS _).mono ?_; rintro e w' ⟨rfl, rfl⟩))
          go_ret2
          exact ⟨rfl, rfl⟩
theorem f6Prev_any {b : Int} (hb : U b) (w : World) :
    Calls Tryz.prog 110 #[.int .u64 b] w fun e w' => e = .returned (.tuple #[.int .u64 (pvW b), .int .i64 (nxE (negW b))]) ∧ w = w' := by
  have hn := U_negW hb
  have hx := U_nxW hn
  have hN := fun w => f6Next_any hn w
  have h1 := fun w => f6Neg_any hb w
  have h2 := fun w => f6Neg_any hx w
  by_cases h : nxE (negW b) = 0
  · have E : Hid (negW (nxW (negW b)) = pvW b) := by rw [Hid]; unfold pvW; rw [if_pos h]
    rw [h] at hN ⊢
    clear h
    go_enter Tryz.func110, Tryz.ntmps110
    go_wp2_with fail
    refine (h1 _).mono ?_
    rintro e w' ⟨rfl, rfl⟩
    go_wp2_with fail
    refine (hN _).mono ?_
    rintro e w' ⟨rfl, rfl⟩
    go_wp2_with fail
    refine (h2 _).mono ?_
    rintro e w' ⟨rfl, rfl⟩
    go_wp2_with fail
    go_ret2
    exact ⟨ret_two E.out rfl, rfl⟩
  · have E : Hid (0 = pvW b) := by rw [Hid]; unfold pvW; rw [if_neg h]
    have q : (nxE (negW b) != 0) = true := bne_yes h
    clear h
    go_enter Tryz.func110, Tryz.ntmps110
    go_wp2_with fail
    refine (h1 _).mono ?_
    rintro e w' ⟨rfl, rfl⟩
    go_wp2_with fail
    refine (hN _).mono ?_
    rintro e w' ⟨rfl, rfl⟩
    go_wp2_with fail
    go_ret2
    exact ⟨ret_two E.out rfl, rfl⟩

end Go.Proofs.YtceecgklgkiffabGreatDoor

/- package f64: Join. -/
namespace Go.Proofs.YtceecgklgkiffabGreatDoor
open Go.ChangeShapes Go.WideShapes Go.ChangeAt Go.RowKit
open Ar
set_option linter.unusedVariables false

/-- what comes of the shifts -/
def JoinGo (s : Bool) (m x A M2 : Int) (L : Bool) : Prop :=
  (L = true ∧ JoinIs s m x 0 61) ∨ (L = false ∧ 971 < A ∧ JoinIs s m x 0 61) ∨ (L = false ∧ A ≤ 971 ∧ 0 < M2 ∧ M2 < 9007199254740992 ∧ JoinIs s m x (sgB s + ((A + 1074) * 4503599627370496 + M2)) 0)
theorem join_shifts {s : Bool} {m x A : Int} (hm : U m) (h0 : m ≠ 0) (h1 : -1137 ≤ x) (h2 : x ≤ 1023) (hA : A = atX m x) :
    ∃ H1 M1 H2 M2 : Int, ∃ L : Bool, (∀ (n : Int) (w : World), n = x - A → Calls Tryz.prog 156 #[.int .u64 0, .int .u64 m, .int .i64 n] w fun e w' => e = .returned (.tuple #[.int .u64 H1, .int .u64 M1]) ∧ Gr w w') ∧
      (∀ (n : Int) (w : World), n = A - x → Calls Tryz.prog 178 #[.int .u64 0, .int .u64 M1, .int .i64 n] w fun e w' => e = .returned (.tuple #[.int .u64 H2, .int .u64 M2, .bool L]) ∧ Gr w w') ∧ JoinGo s m x A M2 L := by
  obtain ⟨b1, b2, b3, b4, b5, b6⟩ := at_near hm h0 h1 h2
  rw [← hA] at b1 b2 b3 b4
  have hmp : 0 < m := by unfold U at hm; omega
  by_cases hx : A ≤ x
  · have nf := nf_up (x := x) hm h0 (by rw [← hA]; exact hx)
    rw [← hA] at nf
    obtain ⟨_, _, p1, p2, _⟩ := nf
    have nf := nf_up (x := x) hm h0 (by rw [← hA]; exact hx)
    have hM : U (m * e2 (x - A)) := by unfold U; omega
    have e1 := shl_some (m := m) (n := x - A) (by omega) (by omega) (by omega) p2
    obtain ⟨e2', e3⟩ := shr_none (n := A - x) hM (by omega)
    refine ⟨shHi 0 m (clampN (x - A)), m * e2 (x - A), srHi 0 (m * e2 (x - A)) (clampN (A - x)), m * e2 (x - A), false, ?_, ?_, ?_⟩
    · rintro n w rfl
      have h := shl_any U_zero hm (x - A) w
      rw [e1] at h
      exact h
    · rintro n w rfl
      have h := shr_any U_zero hM (A - x) w
      rw [e2', e3] at h
      exact h
    · right
      by_cases hb : 971 < A
      · exact Or.inl ⟨rfl, hb, join_big hm h0 (by rw [← hA]; exact hb)⟩
      · refine Or.inr ⟨rfl, by omega, p1, p2, ?_⟩
        have := join_ok (s := s) h0 nf (by rw [← hA]; omega)
        rw [← hA, Int.add_assoc] at this
        exact this
  · have e1 := shl_none (n := x - A) hm (by omega)
    obtain ⟨e2', e3⟩ := shr_some (n := A - x) hm (by omega) (by omega)
    refine ⟨shHi 0 m (clampN (x - A)), m, srHi 0 m (clampN (A - x)), m / e2 (A - x), decide (m % e2 (A - x) ≠ 0), ?_, ?_, ?_⟩
    · rintro n w rfl
      have h := shl_any U_zero hm (x - A) w
      rw [e1] at h
      exact h
    · rintro n w rfl
      have h := shr_any U_zero hm (A - x) w
      rw [e2', e3] at h
      exact h
    · by_cases hl : m % e2 (A - x) = 0
      · have hd : decide (m % e2 (A - x) ≠ 0) = false := by simpa using hl
        have nf := nf_down (x := x) hm h0 (by omega) (by rw [← hA]; exact hl)
        right
        by_cases hb : 971 < A
        · exact Or.inl ⟨hd, hb, join_big hm h0 (by rw [← hA]; exact hb)⟩
        · have := join_ok (s := s) h0 nf (by rw [← hA]; omega)
          rw [← hA, Int.add_assoc] at this
          rw [← hA] at nf
          obtain ⟨_, _, p1, p2, _⟩ := nf
          exact Or.inr ⟨hd, by omega, p1, p2, this⟩
      · left
        exact ⟨by simpa using hl, join_lost hm h0 (by omega) (by rw [← hA]; exact hl)⟩
theorem f6Join_go {s : Bool} {m x A H1 M1 H2 M2 : Int} {L : Bool} (hm : U m) (z : (m == 0) = false) (h1 : -1137 ≤ x) (h2 : x ≤ 1023) (b5 : 1 ≤ lenW m) (b6 : lenW m ≤ 64)
    (hA : (A = -1074 ∧ x + lenW m - 53 < -1074) ∨ (A = x + lenW m - 53 ∧ -1074 ≤ x + lenW m - 53))
    (hl : ∀ (n : Int) (w : World), n = x - A → Calls Tryz.prog 156 #[.int .u64 0, .int .u64 m, .int .i64 n] w fun e w' => e = .returned (.tuple #[.int .u64 H1, .int .u64 M1]) ∧ Gr w w')
    (hr : ∀ (n : Int) (w : World), n = A - x → Calls Tryz.prog 178 #[.int .u64 0, .int .u64 M1, .int .i64 n] w fun e w' => e = .returned (.tuple #[.int .u64 H2, .int .u64 M2, .bool L]) ∧ Gr w w')
    (hJ : JoinGo s m x A M2 L) (w : World) :
    Calls Tryz.prog 146 #[.bool s, .int .u64 m, .int .i64 x] w fun e w' => ∃ b c, e = .returned (.tuple #[.int .u64 b, .int .i64 c]) ∧ Gr w w' ∧ JoinIs s m x b c := by
  have hL := fun w => len_any hm w
  generalize lenW m = n at *
  rcases hJ with ⟨rfl, J⟩ | ⟨rfl, hb, J⟩ | ⟨rfl, hb, p1, p2, J⟩
  · rcases hA with ⟨rfl, hA⟩ | ⟨rfl, hA⟩
    all_goals
      go_enter Tryz.func146, Tryz.ntmps146
      go_wp2_with (first | (go_at_call 94; refine (hL _).mono ?_; rintro e w' ⟨rfl, rfl⟩) | (go_at_call 156; refine (hl _ _ (by omega)).mono ?_; rintro e w1 ⟨rfl, hg1⟩) | (go_at_call 178; refine (hr _ _ (by omega)).mono ?_; rintro e w2 ⟨rfl, hg2⟩))
      go_ret2
      exact ⟨_, _, rfl, gr_trans hg1 hg2, J⟩
  · rcases hA with ⟨rfl, hA⟩ | ⟨rfl, hA⟩
    · omega
    · go_enter Tryz.func146, Tryz.ntmps146
      go_wp2_with (first | (go_at_call 94; refine (hL _).mono ?_; rintro e w' ⟨rfl, rfl⟩) | (go_at_call 156; refine (hl _ _ (by omega)).mono ?_; rintro e w1 ⟨rfl, hg1⟩) | (go_at_call 178; refine (hr _ _ (by omega)).mono ?_; rintro e w2 ⟨rfl, hg2⟩))
      go_ret2
      exact ⟨_, _, rfl, gr_trans hg1 hg2, J⟩
  · have J' : ∀ y : Int, y = (A + 1074) * 4503599627370496 + M2 → JoinIs s m x (sgB s + y) 0 := fun y h => by rw [h]; exact J
    clear J
    have hS := fun (v : Int) (w : World) (h : v = (A + 1074) * 4503599627370496 + M2) => f6signed_any (s := s) (b := v) (by omega) (by omega) w
    rcases hA with ⟨rfl, hA⟩ | ⟨rfl, hA⟩
    all_goals
      go_enter Tryz.func146, Tryz.ntmps146
      go_wp2_with (first | (go_at_call 94; refine (hL _).mono ?_; rintro e w' ⟨rfl, rfl⟩) | (go_at_call 156; refine (hl _ _ (by omega)).mono ?_; rintro e w1 ⟨rfl, hg1⟩) | (go_at_call 178; refine (hr _ _ (by omega)).mono ?_; rintro e w2 ⟨rfl, hg2⟩))
      refine (hS _ _ ?_).mono ?_
      · omega
      rintro e w3 ⟨rfl, rfl⟩
      go_wp2_with fail
      go_ret2
      exact ⟨_, _, rfl, gr_trans hg1 hg2, J' _ (by omega)⟩
theorem f6Join_any (s : Bool) {m : Int} (x : Int) (hm : U m) (w : World) :
    Calls Tryz.prog 146 #[.bool s, .int .u64 m, .int .i64 x] w fun e w' => ∃ b c, e = .returned (.tuple #[.int .u64 b, .int .i64 c]) ∧ Gr w w' ∧ JoinIs s m x b c := by
  by_cases h0 : m = 0
  · subst h0
    have hS := fun (w : World) => f6signed_any (s := s) (b := 0) (by omega) (by omega) w
    rw [Int.add_zero] at hS
    go_enter Tryz.func146, Tryz.ntmps146
    go_wp2_with (go_at_call 177; refine (hS _).mono ?_; rintro e w' ⟨rfl, rfl⟩)
    go_ret2
    exact ⟨_, _, rfl, gr_refl _, Or.inl ⟨rfl, rfl, rfl⟩⟩
  · have z : (m == 0) = false := beq_no h0
    by_cases h1 : x < -1137
    · have J := join_far (s := s) hm h0 (Or.inl h1)
      go_enter Tryz.func146, Tryz.ntmps146
      go_wp2_with fail
      go_ret2
      exact ⟨_, _, rfl, gr_refl _, J⟩
    · by_cases h2 : 1023 < x
      · have J := join_far (s := s) hm h0 (Or.inr h2)
        go_enter Tryz.func146, Tryz.ntmps146
        go_wp2_with fail
        go_ret2
        exact ⟨_, _, rfl, gr_refl _, J⟩
      · obtain ⟨H1, M1, H2, M2, L, hl, hr, hJ⟩ := join_shifts (s := s) hm h0 (by omega) (by omega) (rfl : atX m x = atX m x)
        obtain ⟨_, _, _, _, b5, b6⟩ := at_near hm h0 (x := x) (by omega) (by omega)
        refine f6Join_go hm z (by omega) (by omega) b5 b6 ?_ hl hr hJ w
        unfold atX
        omega
end Go.Proofs.YtceecgklgkiffabGreatDoor

/- plumbref06: the document's answers but Join. -/
namespace Go.Proofs.YtceecgklgkiffabGreatDoor
open Go.ChangeShapes Go.WideShapes Go.ChangeAt Go.RowKit
open Ar
set_option linter.unusedVariables false
set_option linter.unusedSimpArgs false

end Go.Proofs.YtceecgklgkiffabGreatDoor

/- plumblaw06: alive. -/
namespace Go.Proofs.YtceecgklgkiffabGreatDoor
open Go.ChangeShapes Go.WideShapes Go.ChangeAt Go.RowKit
open Ar
set_option linter.unusedVariables false

end Go.Proofs.YtceecgklgkiffabGreatDoor

