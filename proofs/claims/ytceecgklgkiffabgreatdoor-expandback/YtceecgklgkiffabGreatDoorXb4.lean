import Derived.KernelRfl
import Derived.Below
import Derived.BigQuiet
import Derived.ChangeOld
import Derived.Deep.DeepCutAuto
import Derived.Deep.QuietTactic
import Derived.Deep.RegionWith
import Derived.Laws.BitsAllLaws
import Derived.Laws.CopyRow
import Derived.Laws.IdiomCopy
import Derived.Laws.IdiomRangeMap
import Derived.OpenShut
import Derived.OwnWalk
import Derived.ProofKit
import Derived.ShutString
import Derived.WalkKit
import Derived.WalkLawsBesides
import Derived.WalkSpells
import Derived.Test.YtceecgklgkiffabGreatDoorXb2
import Derived.Test.YtceecgklgkiffabGreatDoorXb3
/- plumblaw06: the numbers of patterns as natural numbers. -/
namespace Go.Proofs.YtceecgklgkiffabGreatDoor
open Go.ChangeShapes Go.WideShapes Go.ChangeAt Go.RowKit
open Na Ar
set_option linter.unusedVariables false

namespace Ar
/-- the number of a finite pattern, times two to the 1074 -/
def numW (b : Int) : Int := spM b * 2 ^ (spX b + 1074).toNat
theorem num_parts {b : Int} (h : U b) (hf : ef b ≠ 2047) : ∃ p : Nat, spX b + 1074 = p ∧ p ≤ 2045 ∧ 0 ≤ spM b ∧ spM b < 9007199254740992 ∧ mg b = p * 4503599627370496 + spM b ∧ (p = 0 ∨ 4503599627370496 ≤ spM b) ∧ numW b = spM b * 2 ^ p := by
  have h1 := ef_bd b
  have h2 := fr_bd b
  have h3 := mg_parts b
  have hx : -1074 ≤ spX b ∧ spX b ≤ 971 ∧ 0 ≤ spM b ∧ spM b < 9007199254740992 ∧ mg b = (spX b + 1074) * 4503599627370496 + spM b ∧ (spX b = -1074 ∨ 4503599627370496 ≤ spM b) := by
    unfold spX spM
    simp only [if_neg hf]
    split <;> omega
  refine ⟨(spX b + 1074).toNat, by omega, by omega, by omega, by omega, ?_, by omega, rfl⟩
  have : ((spX b + 1074).toNat : Int) = spX b + 1074 := by omega
  rw [this]; omega
theorem num_lt {M N : Int} {p q : Nat} (hM : 0 ≤ M) (hM' : M < 9007199254740992) (hN : q = 0 ∨ 4503599627370496 ≤ N) (hN0 : 0 ≤ N) (h : (p : Int) * 4503599627370496 + M < q * 4503599627370496 + N) (hN' : N < 9007199254740992) (hp : p = 0 ∨ 4503599627370496 ≤ M) : M * 2 ^ p < N * 2 ^ q := by
  have hpq : p ≤ q := by omega
  by_cases e : p = q
  · subst e
    have : M < N := by omega
    exact Int.mul_lt_mul_of_pos_right this (pow_pos p)
  · have hq : q = p + 1 + (q - p - 1) := by omega
    have hn : 4503599627370496 ≤ N := by omega
    rw [hq, Int.pow_add, Int.pow_succ]
    have hP := pow_pos p
    have hR := pow_pos (q - p - 1)
    have a1 : M * 2 ^ p < 9007199254740992 * 2 ^ p := Int.mul_lt_mul_of_pos_right hM' hP
    have a2 : 4503599627370496 * (2 ^ p * 2) ≤ N * (2 ^ p * 2) := Int.mul_le_mul_of_nonneg_right hn (by omega)
    have a3 : N * (2 ^ p * 2) * 1 ≤ N * (2 ^ p * 2) * 2 ^ (q - p - 1) := Int.mul_le_mul_of_nonneg_left (by omega) (Int.mul_nonneg hN0 (by omega))
    rw [Int.mul_one, Int.mul_assoc] at a3
    generalize (2 : Int) ^ p = P at *
    generalize N * (P * 2 * 2 ^ (q - p - 1)) = T at *
    omega
theorem num_ord {a b : Int} (ha : U a) (hb : U b) (fa : ef a ≠ 2047) (fb : ef b ≠ 2047) : (mg a < mg b → numW a < numW b) ∧ (mg a = mg b → numW a = numW b) := by
  obtain ⟨p, e1, e2, e3, e4, e5, e6, e7⟩ := num_parts ha fa
  obtain ⟨q, f1, f2, f3, f4, f5, f6, f7⟩ := num_parts hb fb
  rw [e7, f7]
  constructor
  · intro h
    rw [e5, f5] at h
    exact num_lt e3 e4 f6 f3 h f4 e6
  · intro h
    rw [e5, f5] at h
    have : p = q := by omega
    subst this
    have : spM a = spM b := by omega
    rw [this]
end Ar
end Go.Proofs.YtceecgklgkiffabGreatDoor

/- Plain numbers: an exact number among the patterns, and rounding by five modes. -/
namespace Go.Proofs.YtceecgklgkiffabGreatDoor.Ar
open Go.RowKit
set_option linter.unusedVariables false

/-- the greatest pattern -/
def mostP : Int := 9218868437227405311
theorem size_fin {p : Int} (h0 : 0 ≤ p) (h1 : p ≤ mostP) : U p ∧ ef p ≠ 2047 ∧ mg p = p := by
  unfold mostP at h1
  unfold U ef mg
  omega
/-- how far it is from a pattern to the next one: two to this -/
def stepN (p : Int) : Nat := (spX p + 1074).toNat
/-- the number behind a pattern: the next one's, or 2^1024 -/
def nxtN (p : Int) : Int := numW p + 2 ^ stepN p
theorem pow_up (k : Nat) : (2 : Int) ^ (k + 1) = 2 ^ k * 2 := Int.pow_succ _ _
/-- the fields of a pattern without a sign -/
theorem fields_of {p : Int} (h0 : 0 ≤ p) (h1 : p ≤ mostP) : ef p = p / 4503599627370496 ∧ fr p = p % 4503599627370496 ∧ ef p ≤ 2046 := by
  unfold mostP at h1
  unfold ef fr
  omega
theorem num_low {p : Int} (h : ef p = 0) : numW p = fr p ∧ stepN p = 0 := by
  unfold numW stepN spM spX
  simp [h]
theorem num_high {p : Int} (h : ef p ≠ 0) (h2 : ef p ≠ 2047) (h3 : 0 ≤ ef p) : numW p = (4503599627370496 + fr p) * 2 ^ (ef p - 1).toNat ∧ stepN p = (ef p - 1).toNat := by
  unfold numW stepN spM spX
  simp only [if_neg h, if_neg h2]
  have e : (ef p - 1075 + 1074).toNat = (ef p - 1).toNat := by congr 1; omega
  rw [e]
  exact ⟨rfl, rfl⟩
theorem num_succ {p : Int} (h0 : 0 ≤ p) (h1 : p < mostP) : numW (p + 1) = nxtN p := by
  obtain ⟨a1, a2, a3⟩ := fields_of h0 (Int.le_of_lt h1)
  obtain ⟨b1, b2, b3⟩ := fields_of (p := p + 1) (by omega) (by omega)
  unfold nxtN
  by_cases hf : fr p = 4503599627370495
  · by_cases he : ef p = 0
    · obtain ⟨c1, c2⟩ := num_low he
      have e1 : ef (p + 1) = 1 := by omega
      have f1 : fr (p + 1) = 0 := by omega
      obtain ⟨d1, _⟩ := num_high (p := p + 1) (by omega) (by omega) (by omega)
      rw [c1, c2, d1, e1, f1, hf]
      decide
    · obtain ⟨c1, c2⟩ := num_high he (by omega) (by omega)
      have e1 : ef (p + 1) = ef p + 1 := by omega
      have f1 : fr (p + 1) = 0 := by omega
      obtain ⟨d1, _⟩ := num_high (p := p + 1) (by omega) (by omega) (by omega)
      have e2 : (ef (p + 1) - 1).toNat = (ef p - 1).toNat + 1 := by omega
      rw [c1, c2, d1, e2, f1, hf, pow_up]
      generalize (2 : Int) ^ (ef p - 1).toNat = P
      omega
  · by_cases he : ef p = 0
    · obtain ⟨c1, c2⟩ := num_low he
      have e1 : ef (p + 1) = 0 := by omega
      have f1 : fr (p + 1) = fr p + 1 := by omega
      obtain ⟨d1, _⟩ := num_low e1
      rw [c1, c2, d1, f1, Int.pow_zero]
    · obtain ⟨c1, c2⟩ := num_high he (by omega) (by omega)
      have e1 : ef (p + 1) = ef p := by omega
      have f1 : fr (p + 1) = fr p + 1 := by omega
      obtain ⟨d1, _⟩ := num_high (p := p + 1) (by omega) (by omega) (by omega)
      rw [c1, c2, d1, e1, f1]
      generalize (2 : Int) ^ (ef p - 1).toNat = P
      rw [show (4503599627370496 + (fr p + 1) : Int) = (4503599627370496 + fr p) + 1 by omega, Int.add_mul, Int.one_mul]
theorem num_mono {p q : Int} (h0 : 0 ≤ p) (h1 : p ≤ q) (h2 : q ≤ mostP) : numW p ≤ numW q := by
  obtain ⟨u1, f1, m1⟩ := size_fin h0 (by omega)
  obtain ⟨u2, f2, m2⟩ := size_fin (p := q) (by omega) h2
  obtain ⟨o1, o2⟩ := num_ord u1 u2 f1 f2
  rw [m1, m2] at o1 o2
  by_cases e : p = q
  · exact Int.le_of_eq (o2 e)
  · exact Int.le_of_lt (o1 (by omega))
/-- the exact number A by B, and, if more, a little more, against n: -1, 0, 1 -/
def agn (A B n : Int) (more : Bool) : Int := if A < n * B then -1 else if A = n * B then (if more = true then 1 else 0) else 1
/-- d is the greatest pattern that is not above A by B -/
def BelP (A B d : Int) : Prop := 0 ≤ d ∧ d ≤ mostP ∧ numW d * B ≤ A ∧ (d = mostP ∨ A < numW (d + 1) * B)
theorem belP_uniq {A B d d' : Int} (hB : 0 < B) (h : BelP A B d) (h' : BelP A B d') : d = d' := by
  obtain ⟨a1, a2, a3, a4⟩ := h
  obtain ⟨b1, b2, b3, b4⟩ := h'
  have key : ∀ x y : Int, 0 ≤ x → y ≤ mostP → x < y → numW y * B ≤ A → (x = mostP ∨ A < numW (x + 1) * B) → False := by
    intro x y hx hy hl h1 h2
    rcases h2 with h2 | h2
    · omega
    · have := num_mono (p := x + 1) (q := y) (by omega) (by omega) hy
      have : numW (x + 1) * B ≤ numW y * B := Int.mul_le_mul_of_nonneg_right this (by omega)
      omega
  rcases Int.lt_trichotomy d d' with l | l | l
  · exact (key d d' a1 b2 l b3 a4).elim
  · exact l
  · exact (key d' d b1 a2 l a3 b4).elim
/-- does the mode go away from 0? -/
def upP (A B : Int) (more neg : Bool) (mode d : Int) : Bool :=
  if mode = 1 then false else if mode = 2 then true else if mode = 3 then !neg else if mode = 4 then neg
  else decide (0 < agn (2 * A) B (numW d + nxtN d) more) || (decide (agn (2 * A) B (numW d + nxtN d) more = 0) && decide (d % 2 = 1))
/-- what rounding answers -/
def RoundIs (A B : Int) (more neg : Bool) (mode b e : Int) : Prop := ∃ d, BelP A B d ∧
  (((agn A B (numW d) more = 0 ∨ upP A B more neg mode d = false) ∧ b = d + sgB neg ∧ e = 0) ∨
   ((agn A B (numW d) more ≠ 0 ∧ upP A B more neg mode d = true) ∧ ((d = mostP ∧ b = 0 ∧ e = 70) ∨ (d < mostP ∧ b = d + 1 + sgB neg ∧ e = 0))))
theorem roundIs_uniq {A B mode b e b' e' : Int} {more neg : Bool} (hB : 0 < B) (h : RoundIs A B more neg mode b e) (h' : RoundIs A B more neg mode b' e') : b = b' ∧ e = e' := by
  obtain ⟨d, h1, h⟩ := h
  obtain ⟨d', h1', h'⟩ := h'
  have := belP_uniq hB h1 h1'
  subst this
  rcases h with ⟨c, rfl, rfl⟩ | ⟨⟨c1, c2⟩, h⟩ <;> rcases h' with ⟨c', rfl, rfl⟩ | ⟨⟨c1', c2'⟩, h'⟩
  · exact ⟨rfl, rfl⟩
  · rcases c with c | c
    · exact absurd c c1'
    · rw [c] at c2'; cases c2'
  · rcases c' with c' | c'
    · exact absurd c' c1
    · rw [c'] at c2; cases c2
  · rcases h with ⟨x, rfl, rfl⟩ | ⟨x, rfl, rfl⟩ <;> rcases h' with ⟨x', rfl, rfl⟩ | ⟨x', rfl, rfl⟩
    · exact ⟨rfl, rfl⟩
    · omega
    · omega
    · exact ⟨rfl, rfl⟩
/-! ### both multiplied by the same -/
theorem lt_scale {a b k : Int} (hk : 0 < k) : a * k < b * k ↔ a < b := ⟨fun h => Int.lt_of_mul_lt_mul_right h (by omega), fun h => Int.mul_lt_mul_of_pos_right h hk⟩
theorem eq_scale {a b k : Int} (hk : 0 < k) : a * k = b * k ↔ a = b := ⟨fun h => Int.eq_of_mul_eq_mul_right (by omega) h, fun h => by rw [h]⟩
theorem agn_scale {A B n k : Int} {more : Bool} (hk : 0 < k) : agn (A * k) (B * k) n more = agn A B n more := by
  unfold agn
  have e : n * (B * k) = n * B * k := by rw [Int.mul_assoc]
  simp only [e, lt_scale hk, eq_scale hk]
theorem belP_scale {A B d k : Int} (hk : 0 < k) : BelP (A * k) (B * k) d ↔ BelP A B d := by
  unfold BelP
  have e : ∀ n : Int, n * (B * k) = n * B * k := fun n => by rw [Int.mul_assoc]
  rw [e, e, lt_scale hk]
  constructor
  · rintro ⟨a1, a2, a3, a4⟩
    refine ⟨a1, a2, ?_, a4⟩
    apply Decidable.byContradiction
    intro hc
    have := (lt_scale (a := A) (b := numW d * B) hk).mpr (by omega)
    omega
  · rintro ⟨a1, a2, a3, a4⟩
    exact ⟨a1, a2, Int.mul_le_mul_of_nonneg_right a3 (by omega), a4⟩
theorem upP_scale {A B mode d k : Int} {more neg : Bool} (hk : 0 < k) : upP (A * k) (B * k) more neg mode d = upP A B more neg mode d := by
  unfold upP
  have e : 2 * (A * k) = 2 * A * k := by rw [Int.mul_assoc]
  rw [e, agn_scale hk]
theorem round_scale {A B mode b e k : Int} {more neg : Bool} (hk : 0 < k) : RoundIs (A * k) (B * k) more neg mode b e ↔ RoundIs A B more neg mode b e := by
  unfold RoundIs
  simp only [belP_scale hk, agn_scale hk, upP_scale hk]
/-! ### far out, and next to nothing -/
theorem num_zero' : numW 0 = 0 := by decide
theorem num_one' : numW 1 = 1 := by decide
theorem nxt_zero : nxtN 0 = 1 := by decide
/-- A by B is above 0 and below the least middle -/
theorem round_tiny {A B mode : Int} {more neg : Bool} (hB : 0 < B) (h0 : 0 < A ∨ (A = 0 ∧ more = true)) (hA : 0 ≤ A) (h : 2 * A < B) :
    (mode = 2 ∨ (mode = 3 ∧ neg = false) ∨ (mode = 4 ∧ neg = true) → RoundIs A B more neg mode (1 + sgB neg) 0) ∧
    (mode = 0 ∨ mode = 1 ∨ (mode = 3 ∧ neg = true) ∨ (mode = 4 ∧ neg = false) → RoundIs A B more neg mode (sgB neg) 0) := by
  have hb : BelP A B 0 := ⟨by omega, by unfold mostP; omega, by rw [num_zero']; omega, Or.inr (by rw [show (0 + 1 : Int) = 1 by omega, num_one']; omega)⟩
  have ha : agn A B (numW 0) more ≠ 0 := by
    unfold agn
    rw [num_zero', Int.zero_mul, if_neg (by omega)]
    rcases h0 with h0 | ⟨h0, h1⟩
    · rw [if_neg (by omega)]; omega
    · rw [if_pos h0, h1, if_pos rfl]; omega
  have hc : agn (2 * A) B (numW 0 + nxtN 0) more = -1 := by
    unfold agn
    rw [num_zero', nxt_zero, if_pos (by omega)]
  constructor
  · intro hm
    refine ⟨0, hb, Or.inr ⟨⟨ha, ?_⟩, Or.inr ⟨by unfold mostP; omega, by omega, rfl⟩⟩⟩
    unfold upP
    rcases hm with rfl | ⟨rfl, rfl⟩ | ⟨rfl, rfl⟩ <;> rfl
  · intro hm
    refine ⟨0, hb, Or.inl ⟨Or.inr ?_, by omega, rfl⟩⟩
    unfold upP
    rw [hc]
    rcases hm with rfl | rfl | ⟨rfl, rfl⟩ | ⟨rfl, rfl⟩ <;> rfl
/-- A by B is beyond the middle behind the greatest -/
theorem round_huge {A B mode : Int} {more neg : Bool} (hB : 0 < B) (h : (numW mostP + nxtN mostP) * B < 2 * A) :
    (mode = 0 ∨ mode = 2 ∨ (mode = 3 ∧ neg = false) ∨ (mode = 4 ∧ neg = true) → RoundIs A B more neg mode 0 70) ∧
    (mode = 1 ∨ (mode = 3 ∧ neg = true) ∨ (mode = 4 ∧ neg = false) → RoundIs A B more neg mode (mostP + sgB neg) 0) := by
  have hs : 0 < (2 : Int) ^ stepN mostP := pow_pos _
  have hn : numW mostP * B < A := by
    have e : (numW mostP + nxtN mostP) * B = 2 * (numW mostP * B) + 2 ^ stepN mostP * B := by
      unfold nxtN
      generalize numW mostP = N
      generalize (2 : Int) ^ stepN mostP = P
      rw [show N + (N + P) = 2 * N + P by omega, Int.add_mul, Int.mul_assoc]
    have := Int.mul_pos hs hB
    omega
  have hb : BelP A B mostP := ⟨by decide, Int.le_refl _, by omega, Or.inl rfl⟩
  have ha : agn A B (numW mostP) more ≠ 0 := by
    unfold agn
    rw [if_neg (by omega), if_neg (by omega)]; omega
  have hc : agn (2 * A) B (numW mostP + nxtN mostP) more = 1 := by
    unfold agn
    rw [if_neg (by omega), if_neg (by omega)]
  constructor
  · intro hm
    refine ⟨mostP, hb, Or.inr ⟨⟨ha, ?_⟩, Or.inl ⟨rfl, rfl, rfl⟩⟩⟩
    unfold upP
    rw [hc]
    rcases hm with rfl | rfl | ⟨rfl, rfl⟩ | ⟨rfl, rfl⟩ <;> rfl
  · intro hm
    refine ⟨mostP, hb, Or.inl ⟨Or.inr ?_, rfl, rfl⟩⟩
    unfold upP
    rcases hm with rfl | ⟨rfl, rfl⟩ | ⟨rfl, rfl⟩ <;> rfl
/-! ### the document's way: crosswise, by halving -/
/-- the same number by whole numbers, in units of the least pattern -/
def scA (N x : Int) : Int := N * e2 (x + 1074)
def scB (D x : Int) : Int := D * e2 (-(x + 1074))
/-- halving: the place is between lo and hi -/
def HalfI (A B lo hi : Int) : Prop := 0 ≤ lo ∧ lo ≤ hi ∧ hi ≤ mostP ∧ numW lo * B ≤ A ∧ (hi = mostP ∨ A < numW (hi + 1) * B)
theorem hav_start {A B : Int} (hA : 0 ≤ A) : HalfI A B 0 mostP := ⟨by omega, by decide, Int.le_refl _, by rw [num_zero']; omega, Or.inl rfl⟩
theorem hav_up {A B lo hi mid : Int} (h : HalfI A B lo hi) (h1 : lo < mid) (h2 : mid ≤ hi) (h3 : numW mid * B ≤ A) : HalfI A B mid hi := by
  obtain ⟨a1, a2, a3, a4, a5⟩ := h
  exact ⟨by omega, h2, a3, h3, a5⟩
theorem hav_down {A B lo hi mid : Int} (h : HalfI A B lo hi) (h1 : lo < mid) (h2 : mid ≤ hi) (h3 : A < numW mid * B) : HalfI A B lo (mid - 1) := by
  obtain ⟨a1, a2, a3, a4, a5⟩ := h
  exact ⟨a1, by omega, by omega, a4, Or.inr (by rw [show mid - 1 + 1 = mid by omega]; exact h3)⟩
theorem hav_end {A B lo hi : Int} (h : HalfI A B lo hi) (he : ¬ lo < hi) : BelP A B lo := by
  obtain ⟨a1, a2, a3, a4, a5⟩ := h
  have : lo = hi := by omega
  subst this
  exact ⟨a1, a3, a4, a5⟩
end Go.Proofs.YtceecgklgkiffabGreatDoor.Ar

/- Plain numbers: what rounding means: the nearest, the neighbours, the order, a little more. -/
namespace Go.Proofs.YtceecgklgkiffabGreatDoor.Ar
open Go.RowKit
set_option linter.unusedVariables false

theorem agn_cases (A B n : Int) (more : Bool) : (A < n * B ∧ agn A B n more = -1) ∨ (A = n * B ∧ agn A B n more = (if more = true then 1 else 0)) ∨ (n * B < A ∧ agn A B n more = 1) := by
  unfold agn
  by_cases h : A < n * B
  · exact Or.inl ⟨h, by rw [if_pos h]⟩
  · by_cases h2 : A = n * B
    · exact Or.inr (Or.inl ⟨h2, by rw [if_neg h, if_pos h2]⟩)
    · exact Or.inr (Or.inr ⟨by omega, by rw [if_neg h, if_neg h2]⟩)
theorem agn_no (A B n : Int) : (A < n * B ∧ agn A B n false = -1) ∨ (A = n * B ∧ agn A B n false = 0) ∨ (n * B < A ∧ agn A B n false = 1) := agn_cases A B n false
theorem most_odd : mostP % 2 = 1 := by decide
/-- the two together, against twice the number -/
theorem mid_mul (d B : Int) : (numW d + nxtN d) * B = numW d * B + nxtN d * B := Int.add_mul _ _ _
theorem nxt_gt (d : Int) : numW d < nxtN d := by unfold nxtN; have := pow_pos (stepN d); omega
theorem even_up {A B d : Int} {neg : Bool} : upP A B false neg 0 d = true ↔ ((numW d + nxtN d) * B < 2 * A ∨ (2 * A = (numW d + nxtN d) * B ∧ d % 2 = 1)) := by
  have e : upP A B false neg 0 d = (decide (0 < agn (2 * A) B (numW d + nxtN d) false) || (decide (agn (2 * A) B (numW d + nxtN d) false = 0) && decide (d % 2 = 1))) := rfl
  rw [e]
  rcases agn_no (2 * A) B (numW d + nxtN d) with ⟨h, k⟩ | ⟨h, k⟩ | ⟨h, k⟩
  · rw [k]; simp; omega
  · rw [k]; simp; omega
  · rw [k]; simp; omega
/-- Even's answer is the nearest -/
theorem even_near {A B b e : Int} {neg : Bool} (hB : 0 < B) (h : RoundIs A B false neg 0 b e) :
    (e = 70 ∧ b = 0 ∧ (numW mostP + nxtN mostP) * B ≤ 2 * A) ∨
    (e = 0 ∧ ∃ d, 0 ≤ d ∧ d ≤ mostP ∧ b = d + sgB neg ∧ 2 * A ≤ (numW d + nxtN d) * B ∧ (2 * A = (numW d + nxtN d) * B → d % 2 = 0 ∧ d ≠ mostP) ∧
      (d ≠ 0 → (numW (d - 1) + numW d) * B ≤ 2 * A ∧ ((numW (d - 1) + numW d) * B = 2 * A → d % 2 = 0))) := by
  obtain ⟨d, ⟨a1, a2, a3, a4⟩, h⟩ := h
  have hm := most_odd
  rcases h with ⟨c, rfl, rfl⟩ | ⟨⟨c1, c2⟩, h⟩
  · right
    refine ⟨rfl, d, a1, a2, rfl, ?_⟩
    have key : 2 * A ≤ (numW d + nxtN d) * B ∧ (2 * A = (numW d + nxtN d) * B → d % 2 = 0) := by
      have hg : numW d * B < nxtN d * B := Int.mul_lt_mul_of_pos_right (nxt_gt d) hB
      rcases c with c | c
      · rcases agn_no A B (numW d) with ⟨h1, k⟩ | ⟨h1, k⟩ | ⟨h1, k⟩
        · omega
        · rw [mid_mul]; omega
        · omega
      · have hu : ¬ ((numW d + nxtN d) * B < 2 * A ∨ (2 * A = (numW d + nxtN d) * B ∧ d % 2 = 1)) := fun hh => by
          rw [even_up.mpr hh] at c; cases c
        omega
    refine ⟨key.1, fun hh => ⟨key.2 hh, fun hq => by have := key.2 hh; rw [hq] at this; omega⟩, fun h0 => ?_⟩
    have hl : numW (d - 1) < numW d := by
      have := num_succ (p := d - 1) (by omega) (by omega)
      rw [show d - 1 + 1 = d by omega] at this
      rw [this]; exact nxt_gt _
    have hg : numW (d - 1) * B < numW d * B := Int.mul_lt_mul_of_pos_right hl hB
    rw [Int.add_mul]
    omega
  · obtain hu := even_up.mp c2
    rcases h with ⟨rfl, rfl, rfl⟩ | ⟨hd, rfl, rfl⟩
    · left; refine ⟨rfl, rfl, by omega⟩
    · right
      have hs := num_succ a1 hd
      refine ⟨rfl, d + 1, by omega, by omega, rfl, ?_⟩
      have hlt : A < numW (d + 1) * B := by rcases a4 with a4 | a4 <;> omega
      have hg : numW (d + 1) * B < nxtN (d + 1) * B := Int.mul_lt_mul_of_pos_right (nxt_gt _) hB
      rw [mid_mul]
      refine ⟨by omega, fun hh => by omega, fun _ => ?_⟩
      rw [show d + 1 - 1 = d by omega, hs]
      rw [hs] at hg hlt
      omega
/-- the lesser is not rounded above the greater -/
theorem round_mono {A B A' B' mode b e b' e' : Int} {neg : Bool} (hB : 0 < B) (hB' : 0 < B') (hl : A * B' ≤ A' * B) (h : RoundIs A B false neg mode b e) (h' : RoundIs A' B' false neg mode b' e') (he : e = 0) (he' : e' = 0) : b ≤ b' := by
  obtain ⟨d, ⟨a1, a2, a3, a4⟩, h⟩ := h
  obtain ⟨d', ⟨b1, b2, b3, b4⟩, h'⟩ := h'
  -- held crosswise
  have cr : ∀ n : Int, n * B ≤ A → n * B' ≤ A' := fun n hn => by
    apply Decidable.byContradiction
    intro hc
    have h1 : n * B * B' ≤ A * B' := Int.mul_le_mul_of_nonneg_right hn (by omega)
    have h2 : A' * B < n * B' * B := Int.mul_lt_mul_of_pos_right (by omega) hB
    have h3 : n * B' * B = n * B * B' := by rw [Int.mul_assoc, Int.mul_comm B', ← Int.mul_assoc]
    omega
  have cs : ∀ n : Int, n * B < A → n * B' < A' := fun n hn => by
    apply Decidable.byContradiction
    intro hc
    have h1 : n * B * B' < A * B' := Int.mul_lt_mul_of_pos_right hn hB'
    have h2 : A' * B ≤ n * B' * B := Int.mul_le_mul_of_nonneg_right (by omega) (by omega)
    have h3 : n * B' * B = n * B * B' := by rw [Int.mul_assoc, Int.mul_comm B', ← Int.mul_assoc]
    omega
  have hdd : d ≤ d' := by
    apply Decidable.byContradiction
    intro hc
    have h1 := cr _ a3
    rcases b4 with b4 | b4
    · omega
    · have := num_mono (p := d' + 1) (q := d) (by omega) (by omega) a2
      have : numW (d' + 1) * B' ≤ numW d * B' := Int.mul_le_mul_of_nonneg_right this (by omega)
      omega
  -- the answers, without their sign
  have hb1 : b = d + sgB neg ∨ (b = d + 1 + sgB neg ∧ agn A B (numW d) false ≠ 0 ∧ upP A B false neg mode d = true) := by
    rcases h with ⟨_, h, _⟩ | ⟨⟨c1, c2⟩, ⟨_, _, x⟩ | ⟨_, h, _⟩⟩
    · exact Or.inl h
    · omega
    · exact Or.inr ⟨h, c1, c2⟩
  have hb2 : (b' = d' + sgB neg ∧ (agn A' B' (numW d') false = 0 ∨ upP A' B' false neg mode d' = false)) ∨ b' = d' + 1 + sgB neg := by
    rcases h' with ⟨c, h, _⟩ | ⟨_, ⟨_, _, x⟩ | ⟨_, h, _⟩⟩
    · exact Or.inl ⟨h, c⟩
    · omega
    · exact Or.inr h
  by_cases e0 : d = d'
  · subst e0
    rcases hb1 with hb1 | ⟨hb1, c1, c2⟩
    · rcases hb2 with ⟨hb2, _⟩ | hb2 <;> omega
    · rcases hb2 with ⟨hb2, c⟩ | hb2
      · exfalso
        have hgt : numW d * B < A := by
          rcases agn_no A B (numW d) with ⟨h1, k⟩ | ⟨h1, k⟩ | ⟨h1, k⟩
          · omega
          · exact absurd k c1
          · exact h1
        have hgt' := cs _ hgt
        rcases c with c | c
        · rcases agn_no A' B' (numW d) with ⟨h1, k⟩ | ⟨h1, k⟩ | ⟨h1, k⟩ <;> omega
        · unfold upP at c c2
          by_cases m1 : mode = 1
          · rw [if_pos m1] at c2; cases c2
          · rw [if_neg m1] at c c2
            by_cases m2 : mode = 2
            · rw [if_pos m2] at c; cases c
            · rw [if_neg m2] at c c2
              by_cases m3 : mode = 3
              · rw [if_pos m3] at c c2; rw [c] at c2; cases c2
              · rw [if_neg m3] at c c2
                by_cases m4 : mode = 4
                · rw [if_pos m4] at c c2; rw [c] at c2; cases c2
                · rw [if_neg m4] at c c2
                  have c2' : (numW d + nxtN d) * B < 2 * A ∨ (2 * A = (numW d + nxtN d) * B ∧ d % 2 = 1) := even_up (neg := neg).mp c2
                  have c' : ¬ ((numW d + nxtN d) * B' < 2 * A' ∨ (2 * A' = (numW d + nxtN d) * B' ∧ d % 2 = 1)) := fun hh => by
                    have := even_up (neg := neg).mpr hh
                    have e9 : upP A' B' false neg 0 d = false := c
                    rw [e9] at this; cases this
                  -- twice the numbers, crosswise
                  have h2 : (2 * A) * B' ≤ (2 * A') * B := by rw [Int.mul_assoc, Int.mul_assoc]; omega
                  generalize numW d + nxtN d = n at *
                  have h3 : n * B' * B = n * B * B' := by rw [Int.mul_assoc, Int.mul_comm B', ← Int.mul_assoc]
                  rcases c2' with c2' | ⟨c2', c3⟩
                  · have h4 : n * B * B' < 2 * A * B' := Int.mul_lt_mul_of_pos_right c2' hB'
                    have h5 : ¬ (2 * A' ≤ n * B') := fun hh => by
                      have : 2 * A' * B ≤ n * B' * B := Int.mul_le_mul_of_nonneg_right hh (by omega)
                      omega
                    omega
                  · have h5 : ¬ (2 * A' < n * B') := fun hh => by
                      have : 2 * A' * B < n * B' * B := Int.mul_lt_mul_of_pos_right hh hB
                      rw [c2'] at h2
                      omega
                    omega
      · omega
  · rcases hb1 with hb1 | ⟨hb1, _, _⟩ <;> rcases hb2 with ⟨hb2, _⟩ | hb2 <;> omega
end Go.Proofs.YtceecgklgkiffabGreatDoor.Ar

/- Plain numbers: near's way: a mantissa cut at its last place, and what lies behind it. -/
namespace Go.Proofs.YtceecgklgkiffabGreatDoor.Ar
open Go.RowKit
set_option linter.unusedVariables false

/-- two ways to write one number -/
theorem round_cross {A B A' B' mode b e : Int} {more neg : Bool} (hB : 0 < B) (hB' : 0 < B') (h : A * B' = A' * B) : RoundIs A B more neg mode b e ↔ RoundIs A' B' more neg mode b e := by
  rw [← round_scale (A := A) hB', ← round_scale (A := A') hB, h, Int.mul_comm B B']
/-- what lies behind: nothing, less than half, half, more than half of a place S -/
def BehK (R S : Int) (more : Bool) (k : Int) : Prop :=
  (k = 0 ∧ R = 0 ∧ more = false) ∨ (k = 1 ∧ 2 * R < S ∧ (0 < R ∨ more = true)) ∨ (k = 2 ∧ 2 * R = S ∧ more = false) ∨ (k = 3 ∧ (S < 2 * R ∨ (2 * R = S ∧ more = true)))
/-- does the mode go on to the next place? -/
def onK (neg : Bool) (mode d k : Int) : Bool :=
  if mode = 0 then (decide (k = 3) || (decide (k = 2) && decide (d % 2 = 1))) else if mode = 1 then false else if mode = 2 then decide (k ≠ 0) else if mode = 3 then (!neg && decide (k ≠ 0)) else (neg && decide (k ≠ 0))
/-- does what is beyond the greatest stay there? -/
def stK (neg : Bool) (mode : Int) : Bool := decide (mode = 1) || (decide (mode = 3) && neg) || (decide (mode = 4) && !neg)
theorem onK_par {neg : Bool} {mode d d' k : Int} (h : d % 2 = d' % 2) : onK neg mode d k = onK neg mode d' k := by unfold onK; rw [h]
theorem on_stay {neg : Bool} {mode d k : Int} (h : onK neg mode d k = true) : stK neg mode = false := by
  unfold onK at h
  unfold stK
  by_cases m0 : mode = 0
  · subst m0; rfl
  · rw [if_neg m0] at h
    by_cases m1 : mode = 1
    · rw [if_pos m1] at h; cases h
    · rw [if_neg m1] at h
      by_cases m2 : mode = 2
      · subst m2; rfl
      · rw [if_neg m2] at h
        by_cases m3 : mode = 3
        · subst m3; cases neg
          · rfl
          · simp at h
        · rw [if_neg m3] at h
          cases neg
          · simp at h
          · simp [m1, m3]
theorem mode_cases {mode : Int} (h0 : 0 ≤ mode) (h1 : mode ≤ 4) : mode = 0 ∨ mode = 1 ∨ mode = 2 ∨ mode = 3 ∨ mode = 4 := by omega
/-- the answer, by what lies behind the pattern d -/
theorem round_at {A B R S d k mode : Int} {more neg : Bool} (hB : 0 < B) (hd0 : 0 ≤ d) (hd1 : d ≤ mostP) (hA : A = numW d * B + R) (hS : S = 2 ^ stepN d * B) (hR0 : 0 ≤ R) (hR1 : R < S)
    (hk : BehK R S more k) (hm0 : 0 ≤ mode) (hm1 : mode ≤ 4) :
    (onK neg mode d k = false → RoundIs A B more neg mode (d + sgB neg) 0) ∧ (onK neg mode d k = true → d < mostP → RoundIs A B more neg mode (d + 1 + sgB neg) 0) ∧ (onK neg mode d k = true → d = mostP → RoundIs A B more neg mode 0 70) := by
  have hb : BelP A B d := by
    refine ⟨hd0, hd1, by omega, ?_⟩
    by_cases e : d = mostP
    · exact Or.inl e
    · right
      rw [num_succ hd0 (by omega)]
      unfold nxtN
      rw [Int.add_mul]; omega
  have a1 : agn A B (numW d) more = 0 ↔ k = 0 := by
    unfold agn
    rw [if_neg (by omega)]
    rcases hk with ⟨e, h, h2⟩ | ⟨e, h, h2⟩ | ⟨e, h, h2⟩ | ⟨e, h⟩
    · rw [if_pos (by omega), h2]; simp [e]
    · by_cases r : R = 0
      · have : more = true := h2.resolve_left (by omega)
        rw [if_pos (by omega), this]; simp [e]
      · rw [if_neg (by omega)]; simp [e]
    · rw [if_neg (by omega)]; simp [e]
    · rw [if_neg (by omega)]; simp [e]
  have hm2 : (numW d + nxtN d) * B = 2 * (numW d * B) + S := by
    unfold nxtN
    rw [hS, show numW d + (numW d + 2 ^ stepN d) = 2 * numW d + 2 ^ stepN d by omega, Int.add_mul, Int.mul_assoc]
  have a2 : (k = 3 ∧ agn (2 * A) B (numW d + nxtN d) more = 1) ∨ (k = 2 ∧ agn (2 * A) B (numW d + nxtN d) more = 0) ∨ ((k = 0 ∨ k = 1) ∧ agn (2 * A) B (numW d + nxtN d) more = -1) := by
    unfold agn
    rw [hm2]
    rcases hk with ⟨e, h, h2⟩ | ⟨e, h, h2⟩ | ⟨e, h, h2⟩ | ⟨e, h⟩
    · right; right; exact ⟨Or.inl e, by rw [if_pos (by omega)]⟩
    · right; right; exact ⟨Or.inr e, by rw [if_pos (by omega)]⟩
    · right; left; exact ⟨e, by rw [if_neg (by omega), if_pos (by omega), h2]; rfl⟩
    · left; refine ⟨e, ?_⟩
      rcases h with h | ⟨h, h2⟩
      · rw [if_neg (by omega), if_neg (by omega)]
      · rw [if_neg (by omega), if_pos (by omega), h2]; rfl
  have hon : onK neg mode d k = (decide (k ≠ 0) && upP A B more neg mode d) := by
    unfold onK upP
    rcases mode_cases hm0 hm1 with rfl | rfl | rfl | rfl | rfl
    · simp only [if_pos]
      rcases a2 with ⟨e, h⟩ | ⟨e, h⟩ | ⟨e, h⟩
      · rw [h, e]; simp
      · rw [h, e]; simp
      · rw [h]; rcases e with e | e <;> rw [e] <;> simp
    · simp
    · simp
    · simp [Bool.and_comm]
    · simp [Bool.and_comm]
  refine ⟨fun h => ⟨d, hb, Or.inl ⟨?_, rfl, rfl⟩⟩, fun h hl => ⟨d, hb, Or.inr ⟨?_, Or.inr ⟨hl, rfl, rfl⟩⟩⟩, fun h hl => ⟨d, hb, Or.inr ⟨?_, Or.inl ⟨hl, rfl, rfl⟩⟩⟩⟩
  · rw [hon] at h
    by_cases hk0 : k = 0
    · exact Or.inl (a1.mpr hk0)
    · right; simpa [hk0] using h
  · rw [hon] at h
    simp at h
    exact ⟨fun e => h.1 (a1.mp e), h.2⟩
  · rw [hon] at h
    simp at h
    exact ⟨fun e => h.1 (a1.mp e), h.2⟩
/-- the pattern of a mantissa in its form -/
theorem pat_at {M X : Int} (h0 : 0 ≤ M) (h1 : M < 9007199254740992) (hX0 : -1074 ≤ X) (hX1 : X ≤ 971) (h2 : X = -1074 ∨ 4503599627370496 ≤ M) :
    0 ≤ (X + 1074) * 4503599627370496 + M ∧ (X + 1074) * 4503599627370496 + M ≤ mostP ∧ numW ((X + 1074) * 4503599627370496 + M) = M * e2 (X + 1074) ∧ (2 : Int) ^ stepN ((X + 1074) * 4503599627370496 + M) = e2 (X + 1074) ∧ ((X + 1074) * 4503599627370496 + M) % 2 = M % 2 := by
  have hd0 : 0 ≤ (X + 1074) * 4503599627370496 + M := by omega
  have hd1 : (X + 1074) * 4503599627370496 + M ≤ mostP := by unfold mostP; omega
  obtain ⟨f1, f2, f3⟩ := fields_of hd0 hd1
  refine ⟨hd0, hd1, ?_, ?_, by omega⟩
  · by_cases hl : M < 4503599627370496
    · have hX : X = -1074 := by omega
      subst hX
      rw [(num_low (p := (-1074 + 1074) * 4503599627370496 + M) (by omega)).1, f2, show (-1074 + 1074 : Int) = 0 by omega, e2_zero (Int.le_refl 0)]; omega
    · have e1 : ef ((X + 1074) * 4503599627370496 + M) = X + 1075 := by omega
      rw [(num_high (p := (X + 1074) * 4503599627370496 + M) (by omega) (by omega) (by omega)).1, e1, f2]
      unfold e2
      have e3 : (X + 1075 - 1).toNat = (X + 1074).toNat := by omega
      rw [e3]
      congr 1; omega
  · by_cases hl : M < 4503599627370496
    · have hX : X = -1074 := by omega
      subst hX
      rw [(num_low (p := (-1074 + 1074) * 4503599627370496 + M) (by omega)).2, show (-1074 + 1074 : Int) = 0 by omega, e2_zero (Int.le_refl 0)]; rfl
    · have e1 : ef ((X + 1074) * 4503599627370496 + M) = X + 1075 := by omega
      rw [(num_high (p := (X + 1074) * 4503599627370496 + M) (by omega) (by omega) (by omega)).2, e1]
      unfold e2
      have e3 : (X + 1075 - 1).toNat = (X + 1074).toNat := by omega
      rw [e3]
theorem most_nums : numW mostP = 9007199254740991 * e2 2045 ∧ (2 : Int) ^ stepN mostP = e2 2045 := by
  have h := pat_at (M := 9007199254740991) (X := 971) (by omega) (by omega) (by omega) (by omega) (by omega)
  exact ⟨h.2.2.1, h.2.2.2.1⟩
/-- from two to the 1024 on: beyond the middle behind the greatest -/
theorem huge_of {A B : Int} (hB : 0 < B) (h : e2 2098 * B ≤ A) : (numW mostP + nxtN mostP) * B < 2 * A := by
  obtain ⟨m1, m2⟩ := most_nums
  unfold nxtN
  rw [m1, m2]
  have e : e2 2098 = e2 53 * e2 2045 := by rw [← e2_add (by omega) (by omega)]; rfl
  rw [e, e2_53] at h
  have hp := e2_pos 2045
  generalize e2 2045 = P at *
  have := Int.mul_pos hp hB
  have e4 : (9007199254740991 * P + (9007199254740991 * P + P)) * B = 18014398509481983 * (P * B) := by
    rw [← Int.mul_assoc]; congr 1; omega
  rw [e4]
  rw [Int.mul_assoc] at h
  omega
/-- the cut of M times two to the x: its last place, what is left, how many bits fall -/
def cutX (L x : Int) : Int := max (x + L - 53) (-1074)
def cutM (M L x : Int) : Int := M / e2 (cutX L x - x) * e2 (-(cutX L x - x))
theorem cut_form {M L x : Int} (hM : 0 < M) (hL : 1 ≤ L) (h1 : e2 (L - 1) ≤ M) (h2 : M < e2 L) :
    0 ≤ cutM M L x ∧ cutM M L x < 9007199254740992 ∧ (cutX L x = -1074 ∨ 4503599627370496 ≤ cutM M L x) := by
  unfold cutM
  have hX : cutX L x = max (x + L - 53) (-1074) := rfl
  generalize cutX L x = X at *
  have hp := e2_pos (X - x)
  by_cases hd : X - x ≤ 0
  · rw [e2_zero hd, Int.ediv_one]
    have hq := e2_pos (-(X - x))
    refine ⟨Int.mul_nonneg (by omega) (by omega), ?_, ?_⟩
    · have a : M * e2 (-(X - x)) < e2 L * e2 (-(X - x)) := Int.mul_lt_mul_of_pos_right h2 hq
      rw [← e2_add (by omega) (by omega)] at a
      have : e2 (L + -(X - x)) ≤ e2 53 := e2_le (by omega)
      rw [e2_53] at this
      omega
    · by_cases hx : X = -1074
      · exact Or.inl hx
      · right
        have a : e2 (L - 1) * e2 (-(X - x)) ≤ M * e2 (-(X - x)) := Int.mul_le_mul_of_nonneg_right h1 (by omega)
        rw [← e2_add (by omega) (by omega)] at a
        have : e2 52 ≤ e2 (L - 1 + -(X - x)) := e2_le (by omega)
        rw [e2_52] at this
        omega
  · rw [e2_zero (k := -(X - x)) (by omega), Int.mul_one]
    refine ⟨Int.ediv_nonneg (by omega) (by omega), ?_, ?_⟩
    · apply Int.ediv_lt_of_lt_mul hp
      have a : e2 L ≤ e2 (53 + (X - x)) := e2_le (by omega)
      rw [e2_add (by omega) (by omega), e2_53] at a
      omega
    · by_cases hx : X = -1074
      · exact Or.inl hx
      · right
        apply Int.le_ediv_of_mul_le hp
        have a : e2 (52 + (X - x)) ≤ e2 (L - 1) := e2_le (by omega)
        rw [e2_add (by omega) (by omega), e2_52] at a
        omega
/-- how many bits two places lie apart -/
theorem e2_shift {P T : Int} (hP : 0 ≤ P) (hd : 0 ≤ P - T) : e2 P * e2 (-T) = e2 (P - T) * e2 T := by
  by_cases h : 0 ≤ T
  · rw [e2_zero (k := -T) (by omega), Int.mul_one, ← e2_add hd h]; congr 1; omega
  · rw [e2_zero (k := T) (by omega), Int.mul_one, ← e2_add hP (by omega)]; congr 1
theorem cut_num {M L x : Int} (hM : 0 < M) : M * e2 (x + 1074) = cutM M L x * e2 (cutX L x + 1074) * e2 (-(x + 1074)) + M % e2 (cutX L x - x) * e2 (x + 1074) := by
  unfold cutM
  have hX : cutX L x = max (x + L - 53) (-1074) := rfl
  generalize cutX L x = X at *
  by_cases hd : 0 ≤ X - x
  · have s := e2_shift (P := X + 1074) (T := x + 1074) (by omega) (by omega)
    have e0 : X + 1074 - (x + 1074) = X - x := by omega
    rw [e0] at s
    by_cases h0 : X - x = 0
    · rw [h0] at s ⊢
      rw [Int.neg_zero, e2_zero (Int.le_refl 0), Int.ediv_one, Int.mul_one, Int.emod_one, Int.zero_mul, Int.add_zero, Int.mul_assoc, s, e2_zero (Int.le_refl 0), Int.one_mul]
    · rw [e2_zero (k := -(X - x)) (by omega), Int.mul_one, Int.mul_assoc, s, ← Int.mul_assoc, ← Int.add_mul]
      congr 1
      exact (Int.ediv_mul_add_emod M _).symm
  · rw [e2_zero (k := X - x) (by omega), Int.ediv_one, Int.emod_one, Int.zero_mul, Int.add_zero, e2_zero (k := -(x + 1074)) (by omega), Int.mul_one, Int.mul_assoc, ← e2_add (by omega) (by omega)]
    congr 2; omega
/-- the bits that fall -/
theorem beh_bits {M D z u : Int} {more : Bool} (hM : 0 < M) (hD : 1 ≤ D) (hz : 0 ≤ z) (hu : u % 2 = 1) (hMu : M = e2 z * u) :
    BehK (M % e2 D) (e2 D) more (if M / e2 (D - 1) % 2 = 1 then (if more = true ∨ z < D - 1 then 3 else 2) else (if more = true ∨ z < D - 1 then 1 else 0)) := by
  have hh := e2_pos (D - 1)
  have e : e2 D = 2 * e2 (D - 1) := by
    have : D = 1 + (D - 1) := by omega
    rw [this, e2_add (by omega) (by omega), e2_one]; congr 2; omega
  have lo0 : (M % e2 (D - 1) = 0) ↔ ¬ z < D - 1 := by
    constructor
    · intro h hc
      have s : e2 (D - 1) = e2 z * (2 * e2 (D - 1 - z - 1)) := by
        have : D - 1 = z + (1 + (D - 1 - z - 1)) := by omega
        rw [this, e2_add hz (by omega), e2_add (by omega) (by omega), e2_one]
        congr 4; omega
      have dv : e2 (D - 1) ∣ M := Int.dvd_of_emod_eq_zero h
      rw [hMu, s] at dv
      have := Int.dvd_of_mul_dvd_mul_left (by have := e2_pos z; omega) dv
      have : (2 : Int) ∣ u := Int.dvd_trans ⟨_, rfl⟩ this
      omega
    · intro hc
      apply Int.emod_eq_zero_of_dvd
      rw [hMu]
      have s : e2 z = e2 (D - 1) * e2 (z - (D - 1)) := by rw [← e2_add (by omega) (by omega)]; congr 1; omega
      rw [s, Int.mul_assoc]
      exact ⟨_, rfl⟩
  have r : M % e2 D = M / e2 (D - 1) % 2 * e2 (D - 1) + M % e2 (D - 1) := by
    have q1 := Int.ediv_mul_add_emod M (e2 (D - 1))
    have q2 := Int.ediv_mul_add_emod (M / e2 (D - 1)) 2
    have hl0 := Int.emod_nonneg M (show e2 (D - 1) ≠ 0 by omega)
    have hl1 := Int.emod_lt_of_pos M hh
    have hq : M / e2 (D - 1) % 2 = 0 ∨ M / e2 (D - 1) % 2 = 1 := by omega
    rw [e]
    generalize e2 (D - 1) = h at *
    generalize M % h = lo at *
    generalize M / h = Q at *
    have key : M = (Q % 2 * h + lo) + 2 * h * (Q / 2) := by
      rw [← q1]
      have : Q * h = (Q / 2 * 2 + Q % 2) * h := by rw [q2]
      rw [this, Int.add_mul, show 2 * h * (Q / 2) = Q / 2 * 2 * h by rw [Int.mul_comm (2 * h), Int.mul_assoc (Q / 2)]]
      omega
    rw [key, Int.add_mul_emod_self_left]
    apply Int.emod_eq_of_lt
    · rcases hq with hq | hq <;> rw [hq] <;> omega
    · rcases hq with hq | hq <;> rw [hq] <;> omega
  have hl0 := Int.emod_nonneg M (show e2 (D - 1) ≠ 0 by omega)
  have hl1 := Int.emod_lt_of_pos M hh
  have hq : M / e2 (D - 1) % 2 = 0 ∨ M / e2 (D - 1) % 2 = 1 := by omega
  rw [r, e]
  generalize M % e2 (D - 1) = lo at *
  generalize e2 (D - 1) = h at *
  have hb : more = true ∨ more = false := by cases more <;> simp
  unfold BehK
  rcases hq with hq | hq <;> rw [hq]
  · rw [if_neg (by omega)]
    by_cases hm : more = true ∨ z < D - 1
    · rw [if_pos hm]
      right; left
      refine ⟨rfl, by omega, ?_⟩
      rcases hm with hm | hm
      · exact Or.inr hm
      · left; have : lo ≠ 0 := fun h => lo0.mp h hm
        omega
    · rw [if_neg hm]
      have h1 : ¬ z < D - 1 := fun h => hm (Or.inr h)
      have h2 : lo = 0 := lo0.mpr h1
      left
      refine ⟨rfl, by omega, ?_⟩
      rcases hb with hb | hb
      · exact absurd (Or.inl hb) hm
      · exact hb
  · rw [if_pos rfl]
    by_cases hm : more = true ∨ z < D - 1
    · rw [if_pos hm]
      right; right; right
      refine ⟨rfl, ?_⟩
      by_cases h0 : lo = 0
      · right
        refine ⟨by omega, ?_⟩
        rcases hm with hm | hm
        · exact hm
        · exact absurd hm (lo0.mp h0)
      · left; omega
    · rw [if_neg hm]
      have h1 : ¬ z < D - 1 := fun h => hm (Or.inr h)
      have h2 : lo = 0 := lo0.mpr h1
      right; right; left
      refine ⟨rfl, by omega, ?_⟩
      rcases hb with hb | hb
      · exact absurd (Or.inl hb) hm
      · exact hb
end Go.Proofs.YtceecgklgkiffabGreatDoor.Ar

/- Plain numbers: near's Scaled and Quotient: what they come to is the rounded number. -/
namespace Go.Proofs.YtceecgklgkiffabGreatDoor.Ar
open Go.RowKit
set_option linter.unusedVariables false

theorem behK_scale {R S k c : Int} {more : Bool} (hc : 0 < c) (h : BehK R S more k) : BehK (R * c) (S * c) more k := by
  have e : 2 * (R * c) = 2 * R * c := (Int.mul_assoc 2 R c).symm
  unfold BehK at *
  rw [e]
  rcases h with ⟨a, b, d⟩ | ⟨a, b, d⟩ | ⟨a, b, d⟩ | ⟨a, b⟩
  · left; exact ⟨a, by rw [b, Int.zero_mul], d⟩
  · right; left; exact ⟨a, (lt_scale hc).mpr b, d.imp (fun d => Int.mul_pos d hc) id⟩
  · right; right; left; exact ⟨a, by rw [b], d⟩
  · right; right; right; exact ⟨a, b.imp (fun b => (lt_scale hc).mpr b) (fun b => ⟨by rw [b.1], b.2⟩)⟩
/-- one bit -/
def bitE (M i : Int) : Int := if i < 0 then 0 else M / e2 i % 2
/-- what 'behind' answers -/
def kK (q z D : Int) (more : Bool) : Int := if q = 1 then (if more = true ∨ z < D - 1 then 3 else 2) else (if more = true ∨ z < D - 1 then 1 else 0)
theorem beh_all {M D T S z u : Int} {more : Bool} (hM : 0 < M) (hz : 0 ≤ z) (hu : u % 2 = 1) (hMu : M = e2 z * u) (hS0 : 0 < S) (hS : 0 ≤ D → S = e2 D * e2 T) :
    BehK (M % e2 D * e2 T) S more (kK (bitE M (D - 1)) z D more) ∧ 0 ≤ M % e2 D * e2 T ∧ M % e2 D * e2 T < S := by
  have hT := e2_pos T
  by_cases hD : 1 ≤ D
  · have h := beh_bits (more := more) hM hD hz hu hMu
    have h' := behK_scale hT h
    rw [hS (by omega)]
    have eb : bitE M (D - 1) = M / e2 (D - 1) % 2 := by unfold bitE; rw [if_neg (by omega)]
    unfold kK
    rw [eb]
    have p := e2_pos D
    exact ⟨h', Int.mul_nonneg (Int.emod_nonneg _ (by omega)) (by omega), (lt_scale hT).mpr (Int.emod_lt_of_pos _ p)⟩
  · have eb : bitE M (D - 1) = 0 := by unfold bitE; rw [if_pos (by omega)]
    unfold kK
    rw [eb, e2_zero (k := D) (by omega), Int.emod_one, Int.zero_mul, if_neg (by omega)]
    refine ⟨?_, by omega, hS0⟩
    unfold BehK
    by_cases hm : more = true
    · rw [if_pos (Or.inl hm)]; right; left; exact ⟨rfl, by omega, Or.inr hm⟩
    · rw [if_neg (fun h => h.elim hm (by omega))]; left; exact ⟨rfl, rfl, by simpa using hm⟩
/-- cut and rounded: three ends -/
def CutEnds (A B : Int) (more neg : Bool) (mode d m k : Int) : Prop :=
    (onK neg mode m k = false → RoundIs A B more neg mode (d + sgB neg) 0) ∧ (onK neg mode m k = true → d < mostP → RoundIs A B more neg mode (d + 1 + sgB neg) 0) ∧ (onK neg mode m k = true → d = mostP → RoundIs A B more neg mode 0 70)
theorem cut_round {M L x z u mode : Int} {more neg : Bool} (hM : 0 < M) (hL : 1 ≤ L) (h1 : e2 (L - 1) ≤ M) (h2 : M < e2 L) (hz : 0 ≤ z) (hu : u % 2 = 1) (hMu : M = e2 z * u) (hm0 : 0 ≤ mode) (hm1 : mode ≤ 4) (hX : cutX L x ≤ 971) :
    CutEnds (scA M x) (scB 1 x) more neg mode ((cutX L x + 1074) * 4503599627370496 + cutM M L x) (cutM M L x) (kK (bitE M (cutX L x - x - 1)) z (cutX L x - x) more) := by
  obtain ⟨f0, f1, f2⟩ := cut_form (x := x) hM hL h1 h2
  have hX0 : -1074 ≤ cutX L x := by unfold cutX; omega
  obtain ⟨p0, p1, p2, p3, p4⟩ := pat_at f0 f1 hX0 hX f2
  have cn := cut_num (L := L) (x := x) hM
  have hB := e2_pos (-(x + 1074))
  have hP := e2_pos (cutX L x + 1074)
  have sh : 0 ≤ cutX L x - x → e2 (cutX L x + 1074) * e2 (-(x + 1074)) = e2 (cutX L x - x) * e2 (x + 1074) := fun h => by
    have := e2_shift (P := cutX L x + 1074) (T := x + 1074) (by omega) (by omega)
    rw [show cutX L x + 1074 - (x + 1074) = cutX L x - x by omega] at this
    exact this
  obtain ⟨b1, b2, b3⟩ := beh_all (D := cutX L x - x) (T := x + 1074) (S := e2 (cutX L x + 1074) * e2 (-(x + 1074))) (more := more) hM hz hu hMu (Int.mul_pos hP hB) sh
  unfold CutEnds
  rw [onK_par (d := cutM M L x) (d' := (cutX L x + 1074) * 4503599627370496 + cutM M L x) p4.symm]
  unfold scA scB
  rw [Int.one_mul]
  generalize (cutX L x + 1074) * 4503599627370496 + cutM M L x = d at *
  exact round_at (R := M % e2 (cutX L x - x) * e2 (x + 1074)) (S := e2 (cutX L x + 1074) * e2 (-(x + 1074))) hB p0 p1 (by rw [p2]; exact cn) (by rw [p3]) b2 b3 b1 hm0 hm1
/-- of nothing, at any place -/
theorem cut_none {x mode : Int} {more neg : Bool} (hm0 : 0 ≤ mode) (hm1 : mode ≤ 4) : CutEnds (scA 0 x) (scB 1 x) more neg mode 0 0 (if more = true then 1 else 0) := by
  have hB : 0 < scB 1 x := by unfold scB; rw [Int.one_mul]; exact e2_pos _
  have hA : scA 0 x = 0 := by unfold scA; rw [Int.zero_mul]
  unfold CutEnds
  have e : (2 : Int) ^ stepN 0 = 1 := by decide
  refine round_at (R := 0) (S := scB 1 x) hB (by omega) (by unfold mostP; omega) (by rw [hA, num_zero']; omega) (by rw [e, Int.one_mul]) (by omega) (by omega) ?_ hm0 hm1
  unfold BehK
  by_cases hm : more = true
  · rw [if_pos hm]; right; left; exact ⟨rfl, by omega, Or.inr hm⟩
  · rw [if_neg hm]; left; exact ⟨rfl, rfl, by simpa using hm⟩
/-- beyond the greatest -/
theorem cut_huge {M L x : Int} (h1 : e2 (L - 1) ≤ M) (hL : 1 ≤ L) (hx : 972 ≤ x + L - 53) : (numW mostP + nxtN mostP) * scB 1 x < 2 * scA M x := by
  unfold scA scB
  rw [Int.one_mul]
  refine huge_of (e2_pos _) ?_
  have hT := e2_pos (x + 1074)
  have a : e2 (L - 1) * e2 (x + 1074) ≤ M * e2 (x + 1074) := Int.mul_le_mul_of_nonneg_right h1 (by omega)
  refine Int.le_trans ?_ a
  by_cases h : 0 ≤ x + 1074
  · rw [e2_zero (k := -(x + 1074)) (by omega), Int.mul_one, ← e2_add (by omega) h]
    exact e2_le (by omega)
  · rw [e2_zero (k := x + 1074) (by omega), Int.mul_one, ← e2_add (by omega) (by omega)]
    exact e2_le (by omega)
/-- next to nothing -/
theorem cut_tiny {M L x : Int} (hM : 0 < M) (h2 : M < e2 L) (hL : 0 ≤ L) (hx : x + 1074 + L + 1 ≤ 0) : 0 < scA M x ∧ 2 * scA M x < scB 1 x := by
  unfold scA scB
  rw [Int.one_mul, e2_zero (k := x + 1074) (by omega), Int.mul_one]
  refine ⟨hM, ?_⟩
  have : e2 (1 + L) ≤ e2 (-(x + 1074)) := e2_le (by omega)
  rw [e2_add (by omega) hL, e2_one] at this
  omega
/-- all that is so small is rounded alike -/
theorem tiny_same {A B A' B' mode b e : Int} {more more' neg : Bool} (hB : 0 < B) (hB' : 0 < B') (h0 : 0 < A ∨ (A = 0 ∧ more = true)) (h0' : 0 < A' ∨ (A' = 0 ∧ more' = true)) (h : 2 * A < B) (h' : 2 * A' < B') (hm0 : 0 ≤ mode) (hm1 : mode ≤ 4)
    (hr : RoundIs A B more neg mode b e) : RoundIs A' B' more' neg mode b e := by
  obtain ⟨t1, t2⟩ := round_tiny (mode := mode) (neg := neg) hB h0 (by omega) h
  obtain ⟨s1, s2⟩ := round_tiny (mode := mode) (neg := neg) hB' h0' (by omega) h'
  have key : (mode = 2 ∨ (mode = 3 ∧ neg = false) ∨ (mode = 4 ∧ neg = true)) ∨ (mode = 0 ∨ mode = 1 ∨ (mode = 3 ∧ neg = true) ∨ (mode = 4 ∧ neg = false)) := by
    rcases mode_cases hm0 hm1 with rfl | rfl | rfl | rfl | rfl <;> cases neg <;> simp
  rcases key with k | k
  · obtain ⟨rfl, rfl⟩ := roundIs_uniq hB hr (t1 k); exact s1 k
  · obtain ⟨rfl, rfl⟩ := roundIs_uniq hB hr (t2 k); exact s2 k
/-- all that is so great is rounded alike -/
theorem huge_same {A B A' B' mode b e : Int} {more more' neg : Bool} (hB : 0 < B) (hB' : 0 < B') (h : (numW mostP + nxtN mostP) * B < 2 * A) (h' : (numW mostP + nxtN mostP) * B' < 2 * A') (hm0 : 0 ≤ mode) (hm1 : mode ≤ 4)
    (hr : RoundIs A B more neg mode b e) : RoundIs A' B' more' neg mode b e := by
  obtain ⟨t1, t2⟩ := round_huge (mode := mode) (neg := neg) (more := more) hB h
  obtain ⟨s1, s2⟩ := round_huge (mode := mode) (neg := neg) (more := more') hB' h'
  have key : (mode = 0 ∨ mode = 2 ∨ (mode = 3 ∧ neg = false) ∨ (mode = 4 ∧ neg = true)) ∨ (mode = 1 ∨ (mode = 3 ∧ neg = true) ∨ (mode = 4 ∧ neg = false)) := by
    rcases mode_cases hm0 hm1 with rfl | rfl | rfl | rfl | rfl <;> cases neg <;> simp
  rcases key with k | k
  · obtain ⟨rfl, rfl⟩ := roundIs_uniq hB hr (t1 k); exact s1 k
  · obtain ⟨rfl, rfl⟩ := roundIs_uniq hB hr (t2 k); exact s2 k
theorem scB_pos {D x : Int} (hD : 0 < D) : 0 < scB D x := by unfold scB; exact Int.mul_pos hD (e2_pos _)
/-- an exponent that is held far out counts as the farther one -/
theorem far_same {M L x F mode b e : Int} {more neg : Bool} (hM : 0 < M) (hL : 1 ≤ L) (h1 : e2 (L - 1) ≤ M) (h2 : M < e2 L) (hF : L + 1075 + 1100 ≤ F) (hm0 : 0 ≤ mode) (hm1 : mode ≤ 4)
    (hr : RoundIs (scA M (min (max x (-F)) F)) (scB 1 (min (max x (-F)) F)) more neg mode b e) : RoundIs (scA M x) (scB 1 x) more neg mode b e := by
  by_cases h : x < -F
  · have e : min (max x (-F)) F = -F := by omega
    rw [e] at hr
    obtain ⟨a1, a2⟩ := cut_tiny (x := x) hM h2 (by omega) (by omega)
    obtain ⟨b1, b2⟩ := cut_tiny (x := -F) hM h2 (by omega) (by omega)
    exact tiny_same (scB_pos (by omega)) (scB_pos (by omega)) (Or.inl b1) (Or.inl a1) b2 a2 hm0 hm1 hr
  · by_cases h' : F < x
    · have e : min (max x (-F)) F = F := by omega
      rw [e] at hr
      exact huge_same (scB_pos (by omega)) (scB_pos (by omega)) (cut_huge h1 hL (by omega)) (cut_huge h1 hL (by omega)) hm0 hm1 hr
    · have e : min (max x (-F)) F = x := by omega
      rw [e] at hr
      exact hr
/-! ### a quotient that is cut, with a rest -/
/-- a place that patterns and middles lie on -/
theorem test_snap {W T m : Int} {j : Nat} (hW : e2 64 ≤ W) (hm : m < 18014398509481984) (hm0 : 0 ≤ m) (h : W * e2 T < m * 2 ^ j * e2 (-T)) : W * e2 T + e2 T ≤ m * 2 ^ j * e2 (-T) := by
  by_cases hT : 0 ≤ T
  · rw [e2_zero (k := -T) (by omega), Int.mul_one] at h ⊢
    obtain ⟨t, rfl⟩ : ∃ t : Nat, T = t := ⟨T.toNat, by omega⟩
    have e : e2 (t : Int) = 2 ^ t := by unfold e2; rw [Int.toNat_natCast]
    rw [e] at h ⊢
    have ht : t ≤ j := by
      apply Decidable.byContradiction
      intro hc
      have hp := pow_pos j
      have s : (2 : Int) ^ t = 2 ^ j * 2 ^ (t - j) := by rw [← Int.pow_add]; congr 1; omega
      have hq := pow_pos (t - j)
      have h3 : m * 2 ^ j ≤ W * 2 ^ t := by
        rw [s, Int.mul_comm W, Int.mul_assoc, Int.mul_comm m]
        apply Int.mul_le_mul_of_nonneg_left _ (by omega)
        rw [Int.mul_comm]
        have h5 : W * 1 ≤ W * 2 ^ (t - j) := Int.mul_le_mul_of_nonneg_left (by omega) (by rw [e2_64] at hW; omega)
        rw [e2_64] at hW
        omega
      omega
    have s : (2 : Int) ^ j = 2 ^ (j - t) * 2 ^ t := by rw [← Int.pow_add]; congr 1; omega
    rw [s, ← Int.mul_assoc] at h ⊢
    have hp := pow_pos t
    have h5 : W < m * 2 ^ (j - t) := (lt_scale hp).mp h
    have h6 : (W + 1) * 2 ^ t ≤ m * 2 ^ (j - t) * 2 ^ t := Int.mul_le_mul_of_nonneg_right (by omega) (by omega)
    rw [Int.add_mul, Int.one_mul] at h6
    exact h6
  · rw [e2_zero (k := T) (by omega)] at h ⊢
    omega
theorem test_snap2 {W T m : Int} {j : Nat} (hW : e2 64 ≤ W) (hm : m < 18014398509481984) (hm0 : 0 ≤ m) (h : 2 * (W * e2 T) < m * 2 ^ j * e2 (-T)) : 2 * (W * e2 T + e2 T) ≤ m * 2 ^ j * e2 (-T) := by
  by_cases hT : 0 ≤ T
  · have e : e2 (T + 1) = 2 * e2 T := by rw [e2_add hT (by omega), e2_one, Int.mul_comm]
    have e0 : e2 (-(T + 1)) = e2 (-T) := by rw [e2_zero (by omega), e2_zero (by omega)]
    have := test_snap (W := W) (T := T + 1) (m := m) (j := j) hW hm hm0
    rw [e, e0, show W * (2 * e2 T) = 2 * (W * e2 T) by rw [← Int.mul_assoc, Int.mul_comm W 2, Int.mul_assoc]] at this
    have := this h
    omega
  · rw [e2_zero (k := T) (by omega)] at h ⊢
    have e : e2 (-T) = 2 * e2 (-T - 1) := by
      have : e2 (1 + (-T - 1)) = e2 1 * e2 (-T - 1) := e2_add (by omega) (by omega)
      rw [show 1 + (-T - 1) = -T by omega, e2_one] at this
      exact this
    have e9 : m * 2 ^ j * (2 * e2 (-T - 1)) = 2 * (m * 2 ^ j * e2 (-T - 1)) := Int.mul_left_comm _ _ _
    rw [e, e9] at h ⊢
    omega
/-- a rest below the last place is a little more -/
theorem agn_rest {W u v G F n : Int} {more : Bool} (hu : 0 < u) (hG : 0 < G) (hF0 : 0 ≤ F) (hF1 : F < G) (hmore : more = true ↔ F ≠ 0) (hs : F = 0 ∨ (W * u < n * v → W * u + u ≤ n * v)) :
    agn ((W * G + F) * u) (G * v) n false = agn (W * u) v n more := by
  have e1 : (W * G + F) * u = W * u * G + F * u := by rw [Int.add_mul, Int.mul_assoc, Int.mul_comm G, ← Int.mul_assoc]
  have e2 : n * (G * v) = n * v * G := by rw [Int.mul_comm G, Int.mul_assoc]
  have hFu : 0 ≤ F * u := Int.mul_nonneg hF0 (by omega)
  have hFu1 : F * u < u * G := by rw [Int.mul_comm u]; exact (lt_scale hu).mpr hF1
  rcases agn_cases (W * u) v n more with ⟨h, k⟩ | ⟨h, k⟩ | ⟨h, k⟩
  · rw [k]
    unfold agn
    rw [e1, e2, if_pos]
    rcases hs with hs | hs
    · rw [hs, Int.zero_mul, Int.add_zero]; exact (lt_scale hG).mpr h
    · have h5 : (W * u + u) * G ≤ n * v * G := Int.mul_le_mul_of_nonneg_right (hs h) (by omega)
      rw [Int.add_mul] at h5
      omega
  · rw [k]
    unfold agn
    rw [e1, e2, h, if_neg (by omega)]
    by_cases hF : F = 0
    · have : more = false := by
        have := hmore.mp
        cases more
        · rfl
        · exact absurd hF (this rfl)
      rw [hF, this, Int.zero_mul, if_pos (by omega)]
    · have hp := Int.mul_pos (show 0 < F by omega) hu
      rw [if_neg (by omega), if_pos (hmore.mpr hF)]
  · rw [k]
    unfold agn
    have := (lt_scale hG).mpr h
    rw [e1, e2, if_neg (by omega), if_neg (by omega)]
theorem pat_test {d : Int} (h0 : 0 ≤ d) (h1 : d ≤ mostP) : ∃ (m : Int) (j : Nat), numW d = m * 2 ^ j ∧ 0 ≤ m ∧ m < 9007199254740992 ∧ numW d + nxtN d = (2 * m + 1) * 2 ^ j := by
  obtain ⟨u1, f1, m1⟩ := size_fin h0 h1
  obtain ⟨p, e1, e2', e3, e4, e5, e6, e7⟩ := num_parts u1 f1
  refine ⟨spM d, p, e7, e3, e4, ?_⟩
  unfold nxtN stepN
  rw [e1, Int.toNat_natCast, e7]
  rw [Int.add_mul, Int.mul_assoc]
  omega
/-- whole with its rest: rounded as whole and a little more -/
theorem round_rest {W T G F mode b e : Int} {more neg : Bool} (hG : 0 < G) (hF0 : 0 ≤ F) (hF1 : F < G) (hmore : more = true ↔ F ≠ 0) (hW : F = 0 ∨ e2 64 ≤ W) :
    RoundIs ((W * G + F) * e2 T) (G * e2 (-T)) false neg mode b e ↔ RoundIs (W * e2 T) (e2 (-T)) more neg mode b e := by
  have hu := e2_pos T
  have a1 : ∀ d, 0 ≤ d → d ≤ mostP → agn ((W * G + F) * e2 T) (G * e2 (-T)) (numW d) false = agn (W * e2 T) (e2 (-T)) (numW d) more := fun d h0 h1 => by
    refine agn_rest hu hG hF0 hF1 hmore (hW.imp id fun hW => ?_)
    obtain ⟨m, j, e1, e2', e3, _⟩ := pat_test h0 h1
    rw [e1]
    exact test_snap hW (by omega) e2'
  have a2 : ∀ d, 0 ≤ d → d ≤ mostP → agn (2 * ((W * G + F) * e2 T)) (G * e2 (-T)) (numW d + nxtN d) false = agn (2 * (W * e2 T)) (e2 (-T)) (numW d + nxtN d) more := fun d h0 h1 => by
    have q1 : 2 * ((W * G + F) * e2 T) = (W * G + F) * (2 * e2 T) := by rw [← Int.mul_assoc, Int.mul_comm 2, Int.mul_assoc]
    have q2 : 2 * (W * e2 T) = W * (2 * e2 T) := by rw [← Int.mul_assoc, Int.mul_comm 2, Int.mul_assoc]
    rw [q1, q2]
    refine agn_rest (by omega) hG hF0 hF1 hmore (hW.imp id fun hW => ?_)
    obtain ⟨m, j, _, e2', e3, e1⟩ := pat_test h0 h1
    rw [e1]
    have := test_snap2 (T := T) (m := 2 * m + 1) (j := j) hW (by omega) (by omega)
    rw [q2, show 2 * (W * e2 T + e2 T) = 2 * (W * e2 T) + 2 * e2 T by omega, q2] at this
    exact this
  have key : ∀ d, 0 ≤ d → d ≤ mostP → ((W * G + F) * e2 T < numW d * (G * e2 (-T)) ↔ W * e2 T < numW d * e2 (-T)) := fun d h0 h1 => by
    have h := a1 d h0 h1
    rcases agn_cases ((W * G + F) * e2 T) (G * e2 (-T)) (numW d) false with ⟨x, k⟩ | ⟨x, k⟩ | ⟨x, k⟩ <;> rcases agn_cases (W * e2 T) (e2 (-T)) (numW d) more with ⟨y, l⟩ | ⟨y, l⟩ | ⟨y, l⟩ <;> rw [k, l] at h <;>
      first
        | exact ⟨fun _ => y, fun _ => x⟩
        | exact ⟨fun z => absurd z (by omega), fun z => absurd z (by omega)⟩
        | (exfalso; revert h; split <;> simp)
        | (exfalso; simp at h)
  have hb : ∀ d, BelP ((W * G + F) * e2 T) (G * e2 (-T)) d ↔ BelP (W * e2 T) (e2 (-T)) d := fun d => by
    unfold BelP
    constructor
    · rintro ⟨c1, c2, c3, c4⟩
      have k1 := key d c1 c2
      refine ⟨c1, c2, by omega, ?_⟩
      rcases c4 with c4 | c4
      · exact Or.inl c4
      · by_cases he : d = mostP
        · exact Or.inl he
        · exact Or.inr ((key (d + 1) (by omega) (by omega)).mp c4)
    · rintro ⟨c1, c2, c3, c4⟩
      have k1 := key d c1 c2
      refine ⟨c1, c2, by omega, ?_⟩
      rcases c4 with c4 | c4
      · exact Or.inl c4
      · by_cases he : d = mostP
        · exact Or.inl he
        · exact Or.inr ((key (d + 1) (by omega) (by omega)).mpr c4)
  have hu2 : ∀ d, 0 ≤ d → d ≤ mostP → upP ((W * G + F) * e2 T) (G * e2 (-T)) false neg mode d = upP (W * e2 T) (e2 (-T)) more neg mode d := fun d h0 h1 => by
    unfold upP
    rw [a2 d h0 h1]
  unfold RoundIs
  constructor
  · rintro ⟨d, h1, h2⟩
    refine ⟨d, (hb d).mp h1, ?_⟩
    rw [← a1 d h1.1 h1.2.1, ← hu2 d h1.1 h1.2.1]
    exact h2
  · rintro ⟨d, h1, h2⟩
    refine ⟨d, (hb d).mpr h1, ?_⟩
    rw [a1 d h1.1 h1.2.1, hu2 d h1.1 h1.2.1]
    exact h2
/-- N by D, as the program divides it: N times two to the -x is W times D times two to the x, and F -/
theorem round_quot {N D x W F mode b e : Int} {more neg : Bool} (hD : 0 < D) (hN : N * e2 (-x) = W * (D * e2 x) + F) (hF0 : 0 ≤ F) (hF1 : F < D * e2 x) (hmore : more = true ↔ F ≠ 0) (hW : F = 0 ∨ e2 64 ≤ W) :
    RoundIs (scA W x) (scB 1 x) more neg mode b e ↔ RoundIs (scA N 0) (scB D 0) false neg mode b e := by
  have hG := Int.mul_pos hD (e2_pos x)
  unfold scA scB
  rw [Int.one_mul, ← round_rest hG hF0 hF1 hmore hW, ← hN]
  apply round_cross (Int.mul_pos hG (e2_pos _)) (Int.mul_pos hD (e2_pos _))
  have e1 : (0 + 1074 : Int) = 1074 := by omega
  rw [e1, e2_zero (k := -1074) (by omega), Int.mul_one]
  have key : e2 (-x) * e2 (x + 1074) = e2 1074 * e2 x * e2 (-(x + 1074)) := by
    by_cases h1 : 0 ≤ x
    · rw [e2_zero (k := -x) (by omega), e2_zero (k := -(x + 1074)) (by omega), Int.one_mul, Int.mul_one, ← e2_add (by omega) h1]
      congr 1; omega
    · rw [e2_zero (k := x) (by omega), Int.mul_one]
      by_cases h2 : 0 ≤ x + 1074
      · rw [e2_zero (k := -(x + 1074)) (by omega), Int.mul_one, ← e2_add (by omega) h2]
        congr 1; omega
      · rw [e2_zero (k := x + 1074) (by omega), Int.mul_one, ← e2_add (by omega) (by omega)]
        congr 1; omega
  rw [Int.mul_assoc N, key]
  generalize e2 1074 = a
  generalize e2 x = c
  generalize e2 (-(x + 1074)) = f
  simp only [Int.mul_left_comm, Int.mul_comm]
end Go.Proofs.YtceecgklgkiffabGreatDoor.Ar

/- Plain numbers: lemire's rounding. -/
namespace Go.Proofs.YtceecgklgkiffabGreatDoor.Ar
open Go.RowKit
set_option linter.unusedVariables false

/-! ### a rest below the last place, of a whole of 55 bits and more -/
/-! ### powers of two moved between the number and its exponent -/
theorem scB_pos' {D x : Int} (hD : 0 < D) : 0 < scB D x := by unfold scB; exact Int.mul_pos hD (e2_pos _)
/-! ### one word, rounded -/
/-- what lies behind -/
def kB (r P : Int) (more : Bool) : Int := if r = 0 ∧ more = false then 0 else if 2 * r < P then 1 else if 2 * r = P ∧ more = false then 2 else 3
end Go.Proofs.YtceecgklgkiffabGreatDoor.Ar

/- Plain numbers: lemire's products, and the exact powers of ten. -/
namespace Go.Proofs.YtceecgklgkiffabGreatDoor.Ar
open Go.RowKit
set_option linter.unusedVariables false

/-! ### the exact powers of ten -/
/-- the table -/
def tenL : List Nat := [4607182418800017408, 4621819117588971520, 4636737291354636288, 4652007308841189376, 4666723172467343360, 4681608360884174848, 4696837146684686336, 4711630319722168320, 4726483295884279808, 4741671816366391296, 4756540486875873280, 4771362005757984768, 4786511204640096256, 4801453603149578240, 4816244402031689728, 4831355200913801216, 4846369599423283200, 4861130398305394688, 4876203697187506176, 4891288408196988160, 4906019910204099648, 4921056587992461136, 4936209963552724370]
def tenP (k : Nat) : Int := (tenL.getD k 0 : Nat)
theorem pow_e2 (k : Nat) : (2 : Int) ^ k = e2 (k : Int) := by unfold e2; rw [Int.toNat_natCast]
end Go.Proofs.YtceecgklgkiffabGreatDoor.Ar

