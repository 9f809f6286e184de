/- Plain numbers: how many bits a word has, and how many zeros at its low end. -/
import Derived.Test.YtbdljmboilapeabArith
namespace Go.Proofs.Ytbdljmboilapeab.Ar
open Go.RowKit
set_option linter.unusedVariables false

def lenW (x : Int) : Int := if x ≤ 0 then 0 else (Nat.log2 x.toNat : Int) + 1
theorem pow_cast (k : Nat) : ((2 ^ k : Nat) : Int) = (2 : Int) ^ k := by simp
theorem pow_pos (k : Nat) : 0 < (2 : Int) ^ k := by rw [← pow_cast]; exact Int.natCast_pos.mpr (Nat.two_pow_pos k)
theorem lenW_eq {x : Int} {k : Nat} (h1 : 2 ^ k ≤ x) (h2 : x < 2 ^ (k + 1)) : lenW x = k + 1 := by
  have p := pow_pos k
  unfold lenW
  rw [if_neg (by omega)]
  have e : x.toNat.log2 = k := by
    rw [Nat.log2_eq_iff (by omega)]
    have a1 := pow_cast k
    have a2 := pow_cast (k + 1)
    omega
  rw [e]
theorem lenW_zero : lenW 0 = 0 := rfl
theorem div_pow_one {x : Int} {k : Nat} (h : x / 2 ^ k = 1) : 2 ^ k ≤ x ∧ x < 2 ^ (k + 1) := by
  have p := pow_pos k
  have e : (2 : Int) ^ (k + 1) = 2 ^ k * 2 := Int.pow_succ _ _
  have h1 := Int.mul_ediv_self_le (x := x) (k := 2 ^ k) (by omega)
  have h2 := Int.lt_mul_ediv_self_add (x := x) (k := 2 ^ k) p
  rw [h] at h1 h2
  omega
def LenInv (x0 X N S : Int) : Prop := ∃ k : Nat, N = k ∧ X = x0 / 2 ^ k ∧ (k = 0 ∨ 1 ≤ X) ∧ 0 ≤ X ∧
  ((S = 32 ∧ X < 18446744073709551616 ∧ k = 0) ∨ (S = 16 ∧ X < 4294967296 ∧ k ≤ 32) ∨ (S = 8 ∧ X < 65536 ∧ k ≤ 48) ∨ (S = 4 ∧ X < 256 ∧ k ≤ 56) ∨ (S = 2 ∧ X < 16 ∧ k ≤ 60) ∨ (S = 1 ∧ X < 4 ∧ k ≤ 62) ∨ (S = 0 ∧ X < 2 ∧ k ≤ 63))
theorem len_start {x : Int} (h : U x) : LenInv x x 0 32 := by
  unfold U at h
  exact ⟨0, rfl, by simp, by omega, by omega, by omega⟩
theorem div_add (x : Int) (k s : Nat) : x / 2 ^ k / 2 ^ s = x / 2 ^ (k + s) := by
  rw [Int.pow_add, Int.ediv_ediv_of_nonneg (Int.le_of_lt (pow_pos k))]
/-- the six steps of Len: how far, and by what is divided -/
def LenStep (s : Nat) (c : Int) : Prop := (s = 32 ∧ c = 4294967296) ∨ (s = 16 ∧ c = 65536) ∨ (s = 8 ∧ c = 256) ∨ (s = 4 ∧ c = 16) ∨ (s = 2 ∧ c = 4) ∨ (s = 1 ∧ c = 2)
theorem len_pow {s : Nat} {c : Int} (h : LenStep s c) : c = 2 ^ s := by
  rcases h with ⟨rfl, rfl⟩ | ⟨rfl, rfl⟩ | ⟨rfl, rfl⟩ | ⟨rfl, rfl⟩ | ⟨rfl, rfl⟩ | ⟨rfl, rfl⟩ <;> rfl
theorem len_yes {x0 X N : Int} {s : Nat} {c : Int} (hs : LenStep s c) (h : LenInv x0 X N s) (hq : X / c ≠ 0) : LenInv x0 (X / c) (N + s) ((s / 2 : Nat) : Int) := by
  obtain ⟨k, rfl, hX, h1, h2, h3⟩ := h
  have hd : X / c = x0 / 2 ^ (k + s) := by rw [hX, len_pow hs, div_add]
  refine ⟨k + s, by omega, hd, ?_, ?_, ?_⟩
  · clear hX hd
    rcases hs with ⟨rfl, rfl⟩ | ⟨rfl, rfl⟩ | ⟨rfl, rfl⟩ | ⟨rfl, rfl⟩ | ⟨rfl, rfl⟩ | ⟨rfl, rfl⟩ <;> rcases h3 with h3 | h3 | h3 | h3 | h3 | h3 | h3 <;> omega
  · clear hX hd
    rcases hs with ⟨rfl, rfl⟩ | ⟨rfl, rfl⟩ | ⟨rfl, rfl⟩ | ⟨rfl, rfl⟩ | ⟨rfl, rfl⟩ | ⟨rfl, rfl⟩ <;> rcases h3 with h3 | h3 | h3 | h3 | h3 | h3 | h3 <;> omega
  · clear hX hd
    rcases hs with ⟨rfl, rfl⟩ | ⟨rfl, rfl⟩ | ⟨rfl, rfl⟩ | ⟨rfl, rfl⟩ | ⟨rfl, rfl⟩ | ⟨rfl, rfl⟩ <;> rcases h3 with h3 | h3 | h3 | h3 | h3 | h3 | h3 <;> omega
theorem len_no {x0 X N : Int} {s : Nat} {c : Int} (hs : LenStep s c) (h : LenInv x0 X N s) (hq : X / c = 0) : LenInv x0 X N ((s / 2 : Nat) : Int) := by
  obtain ⟨k, rfl, hX, h1, h2, h3⟩ := h
  refine ⟨k, rfl, hX, h1, h2, ?_⟩
  clear hX
  rcases hs with ⟨rfl, rfl⟩ | ⟨rfl, rfl⟩ | ⟨rfl, rfl⟩ | ⟨rfl, rfl⟩ | ⟨rfl, rfl⟩ | ⟨rfl, rfl⟩ <;> rcases h3 with h3 | h3 | h3 | h3 | h3 | h3 | h3 <;> omega
theorem len_end {x0 X N : Int} (h : LenInv x0 X N 0) : N + X = lenW x0 := by
  obtain ⟨k, rfl, hX, h1, h2, h3⟩ := h
  have h4 : X < 2 := by omega
  by_cases e : X = 0
  · have : k = 0 := by omega
    subst this
    have : x0 = 0 := by simp at hX; omega
    subst this; subst e; rfl
  · have e1 : X = 1 := by omega
    have := div_pow_one (x := x0) (k := k) (by omega)
    rw [lenW_eq this.1 this.2, e1]
theorem len_bd {x0 X N S : Int} (h : LenInv x0 X N S) : 0 ≤ N ∧ N ≤ 63 ∧ 0 ≤ X := by
  obtain ⟨k, rfl, hX, h1, h2, h3⟩ := h
  clear hX; omega
theorem len_steps {x0 X N S : Int} (h : LenInv x0 X N S) : S = 32 ∨ S = 16 ∨ S = 8 ∨ S = 4 ∨ S = 2 ∨ S = 1 ∨ S = 0 := by
  obtain ⟨k, rfl, hX, h1, h2, h3⟩ := h
  clear hX; omega
theorem len_last {x0 X N : Int} (h : LenInv x0 X N 0) : X < 2 := by
  obtain ⟨k, rfl, hX, h1, h2, h3⟩ := h
  clear hX; omega
theorem lenW_bd {x : Int} (h : U x) : 0 ≤ lenW x ∧ lenW x ≤ 64 := by
  unfold lenW; split
  · omega
  · unfold U at h
    have : x.toNat.log2 < 64 := (Nat.log2_lt (by omega)).mpr (by omega)
    omega
/-- of a word that is not 0: its highest bit's place -/
theorem lenW_pos {x : Int} (h : U x) (h0 : x ≠ 0) : ∃ k : Nat, k < 64 ∧ lenW x = k + 1 ∧ 2 ^ k ≤ x ∧ x < 2 ^ (k + 1) := by
  unfold U at h
  have a := (Nat.log2_eq_iff (n := x.toNat) (k := x.toNat.log2) (by omega)).mp rfl
  have a1 := pow_cast x.toNat.log2
  have a2 := pow_cast (x.toNat.log2 + 1)
  have h1 : (2 : Int) ^ x.toNat.log2 ≤ x := by omega
  have h2 : x < (2 : Int) ^ (x.toNat.log2 + 1) := by omega
  exact ⟨x.toNat.log2, (Nat.log2_lt (by omega)).mpr (by omega), lenW_eq h1 h2, h1, h2⟩

/-! ### zeros at the low end -/
theorem low_bit (k m : Nat) (hk : k < 64) (h : 2 ^ (k + 1) * m + 2 ^ k < 2 ^ 64) :
    (2 ^ (k + 1) * m + 2 ^ k) &&& (2 ^ 64 - (2 ^ (k + 1) * m + 2 ^ k)) = 2 ^ k := by
  have hp := Nat.two_pow_pos k
  have hs : 2 ^ (k + 1) = 2 ^ k * 2 := Nat.pow_succ ..
  have hx : 2 ^ (k + 1) * m + 2 ^ k = 2 ^ (k + 1) * m + (2 ^ k - 1) + 1 := by omega
  apply Nat.eq_of_testBit_eq
  intro j
  rw [Nat.testBit_and]
  have e2 : (2 ^ 64 - (2 ^ (k + 1) * m + 2 ^ k)).testBit j = (decide (j < 64) && !(2 ^ (k + 1) * m + (2 ^ k - 1)).testBit j) := by
    rw [hx]; exact Nat.testBit_two_pow_sub_succ (by omega) j
  rw [e2, Nat.testBit_two_pow_mul_add _ (by omega), Nat.testBit_two_pow_mul_add _ (by omega), Nat.testBit_two_pow, Nat.testBit_two_pow_sub_one]
  by_cases hj : j < k + 1
  · simp only [if_pos hj]
    by_cases e : k = j
    · subst e; simp; omega
    · simp [e]
  · simp only [if_neg hj]
    have : ¬ k = j := by omega
    cases m.testBit (j - (k + 1)) <;> simp [this]
theorem odd_part (n : Nat) (h : n ≠ 0) : ∃ k m : Nat, n = 2 ^ (k + 1) * m + 2 ^ k := by
  induction n using Nat.strongRecOn with
  | _ n ih =>
    by_cases o : n % 2 = 1
    · exact ⟨0, n / 2, by simp; omega⟩
    · obtain ⟨k, m, e⟩ := ih (n / 2) (by omega) (by omega)
      refine ⟨k + 1, m, ?_⟩
      have e1 : 2 ^ (k + 1 + 1) = 2 ^ (k + 1) * 2 := Nat.pow_succ ..
      have e2 : 2 ^ (k + 1) = 2 ^ k * 2 := Nat.pow_succ ..
      have e3 : 2 ^ (k + 1 + 1) * m = 2 * (2 ^ (k + 1) * m) := by rw [e1]; grind
      omega
def zerosW (x : Int) : Int := if x = 0 then 64 else lenW (bits .and .u64 x (IntKind.u64.wrap (-x))) - 1
theorem zerosW_pos {x : Int} (h : U x) (h0 : x ≠ 0) : ∃ k m : Nat, k < 64 ∧ zerosW x = k ∧ x = 2 ^ (k + 1) * m + 2 ^ k ∧ bits .and .u64 x (IntKind.u64.wrap (-x)) = 2 ^ k := by
  unfold U at h
  obtain ⟨k, m, e⟩ := odd_part x.toNat (by omega)
  have hk : k < 64 := by
    have : 2 ^ k < 2 ^ 64 := by
      have : 2 ^ k ≤ x.toNat := by rw [e]; exact Nat.le_add_left _ _
      omega
    exact (Nat.pow_lt_pow_iff_right (by omega)).mp this
  have hw : IntKind.u64.wrap (-x) = 18446744073709551616 - x := by rw [wrapU]; omega
  have hb : bits .and .u64 x (IntKind.u64.wrap (-x)) = 2 ^ k := by
    rw [hw, u64_and x _ h.1 h.2 (by omega) (by omega)]
    have : (18446744073709551616 - x).toNat = 2 ^ 64 - x.toNat := by omega
    rw [this, e, low_bit k m hk (by omega)]
    exact pow_cast k
  refine ⟨k, m, hk, ?_, ?_, hb⟩
  · unfold zerosW
    rw [if_neg h0, hb, lenW_eq (Int.le_refl _) ?_]
    · omega
    · have := pow_pos k
      rw [Int.pow_succ]; omega
  · have c1 := pow_cast (k + 1)
    have c2 := pow_cast k
    have : x = ((2 ^ (k + 1) * m + 2 ^ k : Nat) : Int) := by rw [← e]; omega
    rw [this, Int.natCast_add, Int.natCast_mul, c1, c2]
theorem zerosW_bd {x : Int} (h : U x) : 0 ≤ zerosW x ∧ zerosW x ≤ 64 := by
  by_cases h0 : x = 0
  · subst h0; exact ⟨by decide, by decide⟩
  · obtain ⟨k, m, hk, e, _⟩ := zerosW_pos h h0
    omega

/-! ### powers of two, a bit at a time -/
theorem p64 : (2 : Int) ^ 64 = 18446744073709551616 := rfl
theorem p128 : (2 : Int) ^ 128 = 340282366920938463463374607431768211456 := rfl
theorem U_div_pow {x : Int} (h : U x) (k : Nat) : U (x / 2 ^ k) := by
  unfold U at *
  have p := pow_pos k
  have h1 : 0 ≤ x / 2 ^ k := Int.ediv_nonneg h.1 (by omega)
  have h2 : x / 2 ^ k ≤ x := Int.ediv_le_self _ h.1
  omega
theorem emod_succ (x : Int) (k : Nat) : x % 2 ^ (k + 1) = x % 2 ^ k + x / 2 ^ k % 2 * 2 ^ k := by
  have p := pow_pos k
  have e : (2 : Int) ^ (k + 1) = 2 ^ k * 2 := Int.pow_succ _ _
  have h1 := Int.mul_ediv_add_emod x (2 ^ k)
  have h2 : 0 ≤ x % 2 ^ k := Int.emod_nonneg _ (by omega)
  have h3 : x % 2 ^ k < 2 ^ k := Int.emod_lt_of_pos _ p
  have h4 : x / 2 ^ k = 2 * (x / 2 ^ k / 2) + x / 2 ^ k % 2 := by omega
  have h6 : x = (x % 2 ^ k + x / 2 ^ k % 2 * 2 ^ k) + 2 ^ (k + 1) * (x / 2 ^ k / 2) := by
    rw [e]
    generalize x / 2 ^ k / 2 = q at *
    generalize x / 2 ^ k % 2 = b at *
    generalize x / 2 ^ k = y at *
    generalize x % 2 ^ k = r at *
    generalize (2 : Int) ^ k = P at *
    subst h4
    rw [← h1]; grind
  have h7 : 0 ≤ x / 2 ^ k % 2 := by omega
  have h8 : x / 2 ^ k % 2 ≤ 1 := by omega
  have h9 : 0 ≤ x % 2 ^ k + x / 2 ^ k % 2 * 2 ^ k ∧ x % 2 ^ k + x / 2 ^ k % 2 * 2 ^ k < 2 ^ (k + 1) := by
    rw [e]
    generalize x / 2 ^ k % 2 = b at *
    have hb : b = 0 ∨ b = 1 := by omega
    rcases hb with rfl | rfl <;> omega
  have h10 : x % 2 ^ (k + 1) = ((x % 2 ^ k + x / 2 ^ k % 2 * 2 ^ k) + 2 ^ (k + 1) * (x / 2 ^ k / 2)) % 2 ^ (k + 1) := by rw [← h6]
  rw [h10, Int.add_mul_emod_self_left]
  exact Int.emod_eq_of_lt h9.1 h9.2
theorem pow_lt {k : Nat} (h : k < 64) : (2 : Int) ^ k ≤ 9223372036854775808 := by
  have := pow_cast k
  have : 2 ^ k ≤ 2 ^ 63 := Nat.pow_le_pow_right (by omega) (by omega)
  omega
theorem or_low {S d : Int} {k : Nat} (hk : k < 64) (h1 : 0 ≤ S) (h2 : S < 2 ^ k) (h3 : d = 0 ∨ d = 1) : bits .or .u64 S (IntKind.u64.wrap (d * 2 ^ k)) = S + d * 2 ^ k := by
  have p := pow_pos k
  have q := pow_lt hk
  have c := pow_cast k
  have hb : 0 ≤ d * 2 ^ k ∧ d * 2 ^ k < 18446744073709551616 := by rcases h3 with rfl | rfl <;> omega
  have hw : IntKind.u64.wrap (d * 2 ^ k) = d * 2 ^ k := by rw [wrapU]; omega
  rw [hw, u64_or _ _ h1 (by omega) hb.1 hb.2, Nat.or_comm]
  have hd : (d * 2 ^ k).toNat % 2 ^ k = 0 := by
    rcases h3 with rfl | rfl
    · simp
    · have : (1 * (2 : Int) ^ k).toNat = 2 ^ k := by omega
      rw [this]; exact Nat.mod_self _
  have : (d * 2 ^ k).toNat ||| S.toNat = (d * 2 ^ k).toNat + S.toNat := nat_join k _ _ hd (by omega)
  rw [this]; omega
def AddInv (a b c0 : Int) (k : Nat) (C S : Int) : Prop := a % 2 ^ k + b % 2 ^ k + c0 = C * 2 ^ k + S ∧ 0 ≤ S ∧ S < 2 ^ k ∧ (C = 0 ∨ C = 1)
theorem add_start (a b c : Int) : AddInv a b (c % 2) 0 (c % 2) 0 := by
  refine ⟨?_, by omega, by decide, by omega⟩
  simp [Int.emod_one]
theorem add_step {a b c0 C S : Int} {k : Nat} (ha : U a) (hb : U b) (hk : k < 64) (h : AddInv a b c0 k C S) :
    AddInv a b c0 (k + 1) (IntKind.u64.wrap (IntKind.u64.wrap (bits .and .u64 (a / 2 ^ k) 1 + bits .and .u64 (b / 2 ^ k) 1) + C) / 2)
      (bits .or .u64 S (IntKind.u64.wrap (bits .and .u64 (IntKind.u64.wrap (IntKind.u64.wrap (bits .and .u64 (a / 2 ^ k) 1 + bits .and .u64 (b / 2 ^ k) 1) + C)) 1 * 2 ^ k))) := by
  obtain ⟨h1, h2, h3, h4⟩ := h
  have p := pow_pos k
  have e : (2 : Int) ^ (k + 1) = 2 ^ k * 2 := Int.pow_succ _ _
  rw [and_one (U_wrap _), or_low hk h2 h3 (by omega), and_one (U_div_pow ha k), and_one (U_div_pow hb k)]
  have ea := emod_succ a k
  have eb := emod_succ b k
  unfold AddInv
  rw [ea, eb, e, wrapU, wrapU]
  have a1 : a / 2 ^ k % 2 = 0 ∨ a / 2 ^ k % 2 = 1 := by omega
  have b1 : b / 2 ^ k % 2 = 0 ∨ b / 2 ^ k % 2 = 1 := by omega
  generalize a / 2 ^ k % 2 = x at *
  generalize b / 2 ^ k % 2 = y at *
  generalize a % 2 ^ k = r at *
  generalize b % 2 ^ k = s at *
  generalize (2 : Int) ^ k = P at *
  clear ea eb e ha hb
  rcases a1 with rfl | rfl <;> rcases b1 with rfl | rfl <;> rcases h4 with rfl | rfl <;> refine ⟨?_, ?_, ?_, ?_⟩ <;> simp <;> omega
theorem add_end {a b c C S : Int} (ha : U a) (hb : U b) (h : AddInv a b (c % 2) 64 C S) : S = addLo a b c ∧ C = addHi a b c := by
  obtain ⟨h1, h2, h3, h4⟩ := h
  rw [p64] at *
  unfold U at *
  unfold addLo addHi
  omega
theorem xor_max {b : Int} (hb : U b) : bits .xor .u64 IntKind.u64.max b = 18446744073709551615 - b := by
  unfold U at hb
  rw [max_u64, u64_xor _ _ (by omega) (by omega) hb.1 hb.2]
  have h : ((18446744073709551615 : Int).toNat ^^^ b.toNat) = 2 ^ 64 - (b.toNat + 1) := by
    apply Nat.eq_of_testBit_eq
    intro j
    have e1 : (18446744073709551615 : Int).toNat = 2 ^ 64 - 1 := rfl
    rw [Nat.testBit_xor, e1, Nat.testBit_two_pow_sub_one, Nat.testBit_two_pow_sub_succ (by omega)]
    by_cases hj : j < 64
    · simp [hj]
    · have : b.toNat.testBit j = false := Nat.testBit_lt_two_pow (Nat.lt_of_lt_of_le (show b.toNat < 2 ^ 64 by omega) (Nat.pow_le_pow_right (by omega) (by omega)))
      simp [hj, this]
  rw [h]; omega
theorem sub_of_add {a b c : Int} (ha : U a) (hb : U b) (hc : U c) :
    addLo a (bits .xor .u64 IntKind.u64.max b) (IntKind.u64.wrap (1 - bits .and .u64 c 1)) = subLo a b c ∧
    IntKind.u64.wrap (1 - addHi a (bits .xor .u64 IntKind.u64.max b) (IntKind.u64.wrap (1 - bits .and .u64 c 1))) = subHi a b c := by
  rw [xor_max hb, and_one hc, wrapU, wrapU]
  unfold U at *
  unfold addLo subLo addHi subHi
  omega
end Go.Proofs.Ytbdljmboilapeab.Ar
