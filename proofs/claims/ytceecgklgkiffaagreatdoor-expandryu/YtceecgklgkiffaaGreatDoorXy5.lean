import Derived.KernelRfl
import Derived.Below
import Derived.BigQuiet
import Derived.ChangeOld
import Derived.Deep.DeepCutAuto
import Derived.Deep.QuietTactic
import Derived.Deep.RegionWith
import Derived.Laws.BitsAllLaws
import Derived.Laws.CopyRow
import Derived.Laws.IdiomCopy
import Derived.Laws.IdiomRangeMap
import Derived.OpenShut
import Derived.OwnWalk
import Derived.ProofKit
import Derived.ShutString
import Derived.WalkKit
import Derived.WalkLawsBesides
import Derived.WalkSpells
import Derived.Test.YtceecgklgkiffaaGreatDoorXy2
import Derived.Test.YtceecgklgkiffaaGreatDoorXy3
/- plumblaw06: the numbers of patterns as natural numbers. -/
namespace Go.Proofs.YtceecgklgkiffaaGreatDoor
open Go.ChangeShapes Go.WideShapes Go.ChangeAt Go.RowKit
open Na Ar
set_option linter.unusedVariables false

namespace Ar
/-- the number of a finite pattern, times two to the 1074 -/
def numW (b : Int) : Int := spM b * 2 ^ (spX b + 1074).toNat
theorem num_parts {b : Int} (h : U b) (hf : ef b ≠ 2047) : ∃ p : Nat, spX b + 1074 = p ∧ p ≤ 2045 ∧ 0 ≤ spM b ∧ spM b < 9007199254740992 ∧ mg b = p * 4503599627370496 + spM b ∧ (p = 0 ∨ 4503599627370496 ≤ spM b) ∧ numW b = spM b * 2 ^ p := by
  have h1 := ef_bd b
  have h2 := fr_bd b
  have h3 := mg_parts b
  have hx : -1074 ≤ spX b ∧ spX b ≤ 971 ∧ 0 ≤ spM b ∧ spM b < 9007199254740992 ∧ mg b = (spX b + 1074) * 4503599627370496 + spM b ∧ (spX b = -1074 ∨ 4503599627370496 ≤ spM b) := by
    unfold spX spM
    simp only [if_neg hf]
    split <;> omega
  refine ⟨(spX b + 1074).toNat, by omega, by omega, by omega, by omega, ?_, by omega, rfl⟩
  have : ((spX b + 1074).toNat : Int) = spX b + 1074 := by omega
  rw [this]; omega
theorem num_lt {M N : Int} {p q : Nat} (hM : 0 ≤ M) (hM' : M < 9007199254740992) (hN : q = 0 ∨ 4503599627370496 ≤ N) (hN0 : 0 ≤ N) (h : (p : Int) * 4503599627370496 + M < q * 4503599627370496 + N) (hN' : N < 9007199254740992) (hp : p = 0 ∨ 4503599627370496 ≤ M) : M * 2 ^ p < N * 2 ^ q := by
  have hpq : p ≤ q := by omega
  by_cases e : p = q
  · subst e
    have : M < N := by omega
    exact Int.mul_lt_mul_of_pos_right this (pow_pos p)
  · have hq : q = p + 1 + (q - p - 1) := by omega
    have hn : 4503599627370496 ≤ N := by omega
    rw [hq, Int.pow_add, Int.pow_succ]
    have hP := pow_pos p
    have hR := pow_pos (q - p - 1)
    have a1 : M * 2 ^ p < 9007199254740992 * 2 ^ p := Int.mul_lt_mul_of_pos_right hM' hP
    have a2 : 4503599627370496 * (2 ^ p * 2) ≤ N * (2 ^ p * 2) := Int.mul_le_mul_of_nonneg_right hn (by omega)
    have a3 : N * (2 ^ p * 2) * 1 ≤ N * (2 ^ p * 2) * 2 ^ (q - p - 1) := Int.mul_le_mul_of_nonneg_left (by omega) (Int.mul_nonneg hN0 (by omega))
    rw [Int.mul_one, Int.mul_assoc] at a3
    generalize (2 : Int) ^ p = P at *
    generalize N * (P * 2 * 2 ^ (q - p - 1)) = T at *
    omega
theorem num_ord {a b : Int} (ha : U a) (hb : U b) (fa : ef a ≠ 2047) (fb : ef b ≠ 2047) : (mg a < mg b → numW a < numW b) ∧ (mg a = mg b → numW a = numW b) := by
  obtain ⟨p, e1, e2, e3, e4, e5, e6, e7⟩ := num_parts ha fa
  obtain ⟨q, f1, f2, f3, f4, f5, f6, f7⟩ := num_parts hb fb
  rw [e7, f7]
  constructor
  · intro h
    rw [e5, f5] at h
    exact num_lt e3 e4 f6 f3 h f4 e6
  · intro h
    rw [e5, f5] at h
    have : p = q := by omega
    subst this
    have : spM a = spM b := by omega
    rw [this]
theorem num_zero {b : Int} (h : U b) (hf : ef b ≠ 2047) : spM b = 0 ↔ mg b = 0 := by
  obtain ⟨p, e1, e2, e3, e4, e5, e6, e7⟩ := num_parts h hf
  omega
end Ar
end Go.Proofs.YtceecgklgkiffaaGreatDoor

/- Plain numbers: an exact number among the patterns, and rounding by five modes. -/
namespace Go.Proofs.YtceecgklgkiffaaGreatDoor.Ar
open Go.RowKit
set_option linter.unusedVariables false

/-- the greatest pattern -/
def mostP : Int := 9218868437227405311
theorem size_fin {p : Int} (h0 : 0 ≤ p) (h1 : p ≤ mostP) : U p ∧ ef p ≠ 2047 ∧ mg p = p := by
  unfold mostP at h1
  unfold U ef mg
  omega
/-- how far it is from a pattern to the next one: two to this -/
def stepN (p : Int) : Nat := (spX p + 1074).toNat
/-- the number behind a pattern: the next one's, or 2^1024 -/
def nxtN (p : Int) : Int := numW p + 2 ^ stepN p
theorem pow_up (k : Nat) : (2 : Int) ^ (k + 1) = 2 ^ k * 2 := Int.pow_succ _ _
/-- the fields of a pattern without a sign -/
theorem fields_of {p : Int} (h0 : 0 ≤ p) (h1 : p ≤ mostP) : ef p = p / 4503599627370496 ∧ fr p = p % 4503599627370496 ∧ ef p ≤ 2046 := by
  unfold mostP at h1
  unfold ef fr
  omega
theorem num_low {p : Int} (h : ef p = 0) : numW p = fr p ∧ stepN p = 0 := by
  unfold numW stepN spM spX
  simp [h]
theorem num_high {p : Int} (h : ef p ≠ 0) (h2 : ef p ≠ 2047) (h3 : 0 ≤ ef p) : numW p = (4503599627370496 + fr p) * 2 ^ (ef p - 1).toNat ∧ stepN p = (ef p - 1).toNat := by
  unfold numW stepN spM spX
  simp only [if_neg h, if_neg h2]
  have e : (ef p - 1075 + 1074).toNat = (ef p - 1).toNat := by congr 1; omega
  rw [e]
  exact ⟨rfl, rfl⟩
theorem num_succ {p : Int} (h0 : 0 ≤ p) (h1 : p < mostP) : numW (p + 1) = nxtN p := by
  obtain ⟨a1, a2, a3⟩ := fields_of h0 (Int.le_of_lt h1)
  obtain ⟨b1, b2, b3⟩ := fields_of (p := p + 1) (by omega) (by omega)
  unfold nxtN
  by_cases hf : fr p = 4503599627370495
  · by_cases he : ef p = 0
    · obtain ⟨c1, c2⟩ := num_low he
      have e1 : ef (p + 1) = 1 := by omega
      have f1 : fr (p + 1) = 0 := by omega
      obtain ⟨d1, _⟩ := num_high (p := p + 1) (by omega) (by omega) (by omega)
      rw [c1, c2, d1, e1, f1, hf]
      decide
    · obtain ⟨c1, c2⟩ := num_high he (by omega) (by omega)
      have e1 : ef (p + 1) = ef p + 1 := by omega
      have f1 : fr (p + 1) = 0 := by omega
      obtain ⟨d1, _⟩ := num_high (p := p + 1) (by omega) (by omega) (by omega)
      have e2 : (ef (p + 1) - 1).toNat = (ef p - 1).toNat + 1 := by omega
      rw [c1, c2, d1, e2, f1, hf, pow_up]
      generalize (2 : Int) ^ (ef p - 1).toNat = P
      omega
  · by_cases he : ef p = 0
    · obtain ⟨c1, c2⟩ := num_low he
      have e1 : ef (p + 1) = 0 := by omega
      have f1 : fr (p + 1) = fr p + 1 := by omega
      obtain ⟨d1, _⟩ := num_low e1
      rw [c1, c2, d1, f1, Int.pow_zero]
    · obtain ⟨c1, c2⟩ := num_high he (by omega) (by omega)
      have e1 : ef (p + 1) = ef p := by omega
      have f1 : fr (p + 1) = fr p + 1 := by omega
      obtain ⟨d1, _⟩ := num_high (p := p + 1) (by omega) (by omega) (by omega)
      rw [c1, c2, d1, e1, f1]
      generalize (2 : Int) ^ (ef p - 1).toNat = P
      rw [show (4503599627370496 + (fr p + 1) : Int) = (4503599627370496 + fr p) + 1 by omega, Int.add_mul, Int.one_mul]
theorem num_mono {p q : Int} (h0 : 0 ≤ p) (h1 : p ≤ q) (h2 : q ≤ mostP) : numW p ≤ numW q := by
  obtain ⟨u1, f1, m1⟩ := size_fin h0 (by omega)
  obtain ⟨u2, f2, m2⟩ := size_fin (p := q) (by omega) h2
  obtain ⟨o1, o2⟩ := num_ord u1 u2 f1 f2
  rw [m1, m2] at o1 o2
  by_cases e : p = q
  · exact Int.le_of_eq (o2 e)
  · exact Int.le_of_lt (o1 (by omega))
/-- the exact number A by B, and, if more, a little more, against n: -1, 0, 1 -/
def agn (A B n : Int) (more : Bool) : Int := if A < n * B then -1 else if A = n * B then (if more = true then 1 else 0) else 1
/-- d is the greatest pattern that is not above A by B -/
def BelP (A B d : Int) : Prop := 0 ≤ d ∧ d ≤ mostP ∧ numW d * B ≤ A ∧ (d = mostP ∨ A < numW (d + 1) * B)
/-- does the mode go away from 0? -/
def upP (A B : Int) (more neg : Bool) (mode d : Int) : Bool :=
  if mode = 1 then false else if mode = 2 then true else if mode = 3 then !neg else if mode = 4 then neg
  else decide (0 < agn (2 * A) B (numW d + nxtN d) more) || (decide (agn (2 * A) B (numW d + nxtN d) more = 0) && decide (d % 2 = 1))
/-- what rounding answers -/
def RoundIs (A B : Int) (more neg : Bool) (mode b e : Int) : Prop := ∃ d, BelP A B d ∧
  (((agn A B (numW d) more = 0 ∨ upP A B more neg mode d = false) ∧ b = d + sgB neg ∧ e = 0) ∨
   ((agn A B (numW d) more ≠ 0 ∧ upP A B more neg mode d = true) ∧ ((d = mostP ∧ b = 0 ∧ e = 70) ∨ (d < mostP ∧ b = d + 1 + sgB neg ∧ e = 0))))
/-! ### both multiplied by the same -/
theorem lt_scale {a b k : Int} (hk : 0 < k) : a * k < b * k ↔ a < b := ⟨fun h => Int.lt_of_mul_lt_mul_right h (by omega), fun h => Int.mul_lt_mul_of_pos_right h hk⟩
theorem eq_scale {a b k : Int} (hk : 0 < k) : a * k = b * k ↔ a = b := ⟨fun h => Int.eq_of_mul_eq_mul_right (by omega) h, fun h => by rw [h]⟩
theorem agn_scale {A B n k : Int} {more : Bool} (hk : 0 < k) : agn (A * k) (B * k) n more = agn A B n more := by
  unfold agn
  have e : n * (B * k) = n * B * k := by rw [Int.mul_assoc]
  simp only [e, lt_scale hk, eq_scale hk]
theorem belP_scale {A B d k : Int} (hk : 0 < k) : BelP (A * k) (B * k) d ↔ BelP A B d := by
  unfold BelP
  have e : ∀ n : Int, n * (B * k) = n * B * k := fun n => by rw [Int.mul_assoc]
  rw [e, e, lt_scale hk]
  constructor
  · rintro ⟨a1, a2, a3, a4⟩
    refine ⟨a1, a2, ?_, a4⟩
    apply Decidable.byContradiction
    intro hc
    have := (lt_scale (a := A) (b := numW d * B) hk).mpr (by omega)
    omega
  · rintro ⟨a1, a2, a3, a4⟩
    exact ⟨a1, a2, Int.mul_le_mul_of_nonneg_right a3 (by omega), a4⟩
theorem upP_scale {A B mode d k : Int} {more neg : Bool} (hk : 0 < k) : upP (A * k) (B * k) more neg mode d = upP A B more neg mode d := by
  unfold upP
  have e : 2 * (A * k) = 2 * A * k := by rw [Int.mul_assoc]
  rw [e, agn_scale hk]
theorem round_scale {A B mode b e k : Int} {more neg : Bool} (hk : 0 < k) : RoundIs (A * k) (B * k) more neg mode b e ↔ RoundIs A B more neg mode b e := by
  unfold RoundIs
  simp only [belP_scale hk, agn_scale hk, upP_scale hk]
/-! ### far out, and next to nothing -/
theorem num_zero' : numW 0 = 0 := by decide
theorem nxt_zero : nxtN 0 = 1 := by decide
/-! ### the document's way: crosswise, by halving -/
/-- the same number by whole numbers, in units of the least pattern -/
def scA (N x : Int) : Int := N * e2 (x + 1074)
def scB (D x : Int) : Int := D * e2 (-(x + 1074))
/-- halving: the place is between lo and hi -/
def HalfI (A B lo hi : Int) : Prop := 0 ≤ lo ∧ lo ≤ hi ∧ hi ≤ mostP ∧ numW lo * B ≤ A ∧ (hi = mostP ∨ A < numW (hi + 1) * B)
theorem hav_start {A B : Int} (hA : 0 ≤ A) : HalfI A B 0 mostP := ⟨by omega, by decide, Int.le_refl _, by rw [num_zero']; omega, Or.inl rfl⟩
theorem hav_up {A B lo hi mid : Int} (h : HalfI A B lo hi) (h1 : lo < mid) (h2 : mid ≤ hi) (h3 : numW mid * B ≤ A) : HalfI A B mid hi := by
  obtain ⟨a1, a2, a3, a4, a5⟩ := h
  exact ⟨by omega, h2, a3, h3, a5⟩
theorem hav_down {A B lo hi mid : Int} (h : HalfI A B lo hi) (h1 : lo < mid) (h2 : mid ≤ hi) (h3 : A < numW mid * B) : HalfI A B lo (mid - 1) := by
  obtain ⟨a1, a2, a3, a4, a5⟩ := h
  exact ⟨a1, by omega, by omega, a4, Or.inr (by rw [show mid - 1 + 1 = mid by omega]; exact h3)⟩
theorem hav_end {A B lo hi : Int} (h : HalfI A B lo hi) (he : ¬ lo < hi) : BelP A B lo := by
  obtain ⟨a1, a2, a3, a4, a5⟩ := h
  have : lo = hi := by omega
  subst this
  exact ⟨a1, a3, a4, a5⟩
end Go.Proofs.YtceecgklgkiffaaGreatDoor.Ar

/- Plain numbers: what rounding means: the nearest, the neighbours, the order, a little more. -/
namespace Go.Proofs.YtceecgklgkiffaaGreatDoor.Ar
open Go.RowKit
set_option linter.unusedVariables false

theorem agn_cases (A B n : Int) (more : Bool) : (A < n * B ∧ agn A B n more = -1) ∨ (A = n * B ∧ agn A B n more = (if more = true then 1 else 0)) ∨ (n * B < A ∧ agn A B n more = 1) := by
  unfold agn
  by_cases h : A < n * B
  · exact Or.inl ⟨h, by rw [if_pos h]⟩
  · by_cases h2 : A = n * B
    · exact Or.inr (Or.inl ⟨h2, by rw [if_neg h, if_pos h2]⟩)
    · exact Or.inr (Or.inr ⟨by omega, by rw [if_neg h, if_neg h2]⟩)
theorem agn_no (A B n : Int) : (A < n * B ∧ agn A B n false = -1) ∨ (A = n * B ∧ agn A B n false = 0) ∨ (n * B < A ∧ agn A B n false = 1) := agn_cases A B n false
theorem most_odd : mostP % 2 = 1 := by decide
/-- the two together, against twice the number -/
theorem mid_mul (d B : Int) : (numW d + nxtN d) * B = numW d * B + nxtN d * B := Int.add_mul _ _ _
theorem nxt_gt (d : Int) : numW d < nxtN d := by unfold nxtN; have := pow_pos (stepN d); omega
theorem even_up {A B d : Int} {neg : Bool} : upP A B false neg 0 d = true ↔ ((numW d + nxtN d) * B < 2 * A ∨ (2 * A = (numW d + nxtN d) * B ∧ d % 2 = 1)) := by
  have e : upP A B false neg 0 d = (decide (0 < agn (2 * A) B (numW d + nxtN d) false) || (decide (agn (2 * A) B (numW d + nxtN d) false = 0) && decide (d % 2 = 1))) := rfl
  rw [e]
  rcases agn_no (2 * A) B (numW d + nxtN d) with ⟨h, k⟩ | ⟨h, k⟩ | ⟨h, k⟩
  · rw [k]; simp; omega
  · rw [k]; simp; omega
  · rw [k]; simp; omega
/-- Even's answer is the nearest -/
theorem even_near {A B b e : Int} {neg : Bool} (hB : 0 < B) (h : RoundIs A B false neg 0 b e) :
    (e = 70 ∧ b = 0 ∧ (numW mostP + nxtN mostP) * B ≤ 2 * A) ∨
    (e = 0 ∧ ∃ d, 0 ≤ d ∧ d ≤ mostP ∧ b = d + sgB neg ∧ 2 * A ≤ (numW d + nxtN d) * B ∧ (2 * A = (numW d + nxtN d) * B → d % 2 = 0 ∧ d ≠ mostP) ∧
      (d ≠ 0 → (numW (d - 1) + numW d) * B ≤ 2 * A ∧ ((numW (d - 1) + numW d) * B = 2 * A → d % 2 = 0))) := by
  obtain ⟨d, ⟨a1, a2, a3, a4⟩, h⟩ := h
  have hm := most_odd
  rcases h with ⟨c, rfl, rfl⟩ | ⟨⟨c1, c2⟩, h⟩
  · right
    refine ⟨rfl, d, a1, a2, rfl, ?_⟩
    have key : 2 * A ≤ (numW d + nxtN d) * B ∧ (2 * A = (numW d + nxtN d) * B → d % 2 = 0) := by
      have hg : numW d * B < nxtN d * B := Int.mul_lt_mul_of_pos_right (nxt_gt d) hB
      rcases c with c | c
      · rcases agn_no A B (numW d) with ⟨h1, k⟩ | ⟨h1, k⟩ | ⟨h1, k⟩
        · omega
        · rw [mid_mul]; omega
        · omega
      · have hu : ¬ ((numW d + nxtN d) * B < 2 * A ∨ (2 * A = (numW d + nxtN d) * B ∧ d % 2 = 1)) := fun hh => by
          rw [even_up.mpr hh] at c; cases c
        omega
    refine ⟨key.1, fun hh => ⟨key.2 hh, fun hq => by have := key.2 hh; rw [hq] at this; omega⟩, fun h0 => ?_⟩
    have hl : numW (d - 1) < numW d := by
      have := num_succ (p := d - 1) (by omega) (by omega)
      rw [show d - 1 + 1 = d by omega] at this
      rw [this]; exact nxt_gt _
    have hg : numW (d - 1) * B < numW d * B := Int.mul_lt_mul_of_pos_right hl hB
    rw [Int.add_mul]
    omega
  · obtain hu := even_up.mp c2
    rcases h with ⟨rfl, rfl, rfl⟩ | ⟨hd, rfl, rfl⟩
    · left; refine ⟨rfl, rfl, by omega⟩
    · right
      have hs := num_succ a1 hd
      refine ⟨rfl, d + 1, by omega, by omega, rfl, ?_⟩
      have hlt : A < numW (d + 1) * B := by rcases a4 with a4 | a4 <;> omega
      have hg : numW (d + 1) * B < nxtN (d + 1) * B := Int.mul_lt_mul_of_pos_right (nxt_gt _) hB
      rw [mid_mul]
      refine ⟨by omega, fun hh => by omega, fun _ => ?_⟩
      rw [show d + 1 - 1 = d by omega, hs]
      rw [hs] at hg hlt
      omega
/-- the lesser is not rounded above the greater -/
theorem round_mono {A B A' B' mode b e b' e' : Int} {neg : Bool} (hB : 0 < B) (hB' : 0 < B') (hl : A * B' ≤ A' * B) (h : RoundIs A B false neg mode b e) (h' : RoundIs A' B' false neg mode b' e') (he : e = 0) (he' : e' = 0) : b ≤ b' := by
  obtain ⟨d, ⟨a1, a2, a3, a4⟩, h⟩ := h
  obtain ⟨d', ⟨b1, b2, b3, b4⟩, h'⟩ := h'
  -- held crosswise
  have cr : ∀ n : Int, n * B ≤ A → n * B' ≤ A' := fun n hn => by
    apply Decidable.byContradiction
    intro hc
    have h1 : n * B * B' ≤ A * B' := Int.mul_le_mul_of_nonneg_right hn (by omega)
    have h2 : A' * B < n * B' * B := Int.mul_lt_mul_of_pos_right (by omega) hB
    have h3 : n * B' * B = n * B * B' := by rw [Int.mul_assoc, Int.mul_comm B', ← Int.mul_assoc]
    omega
  have cs : ∀ n : Int, n * B < A → n * B' < A' := fun n hn => by
    apply Decidable.byContradiction
    intro hc
    have h1 : n * B * B' < A * B' := Int.mul_lt_mul_of_pos_right hn hB'
    have h2 : A' * B ≤ n * B' * B := Int.mul_le_mul_of_nonneg_right (by omega) (by omega)
    have h3 : n * B' * B = n * B * B' := by rw [Int.mul_assoc, Int.mul_comm B', ← Int.mul_assoc]
    omega
  have hdd : d ≤ d' := by
    apply Decidable.byContradiction
    intro hc
    have h1 := cr _ a3
    rcases b4 with b4 | b4
    · omega
    · have := num_mono (p := d' + 1) (q := d) (by omega) (by omega) a2
      have : numW (d' + 1) * B' ≤ numW d * B' := Int.mul_le_mul_of_nonneg_right this (by omega)
      omega
  -- the answers, without their sign
  have hb1 : b = d + sgB neg ∨ (b = d + 1 + sgB neg ∧ agn A B (numW d) false ≠ 0 ∧ upP A B false neg mode d = true) := by
    rcases h with ⟨_, h, _⟩ | ⟨⟨c1, c2⟩, ⟨_, _, x⟩ | ⟨_, h, _⟩⟩
    · exact Or.inl h
    · omega
    · exact Or.inr ⟨h, c1, c2⟩
  have hb2 : (b' = d' + sgB neg ∧ (agn A' B' (numW d') false = 0 ∨ upP A' B' false neg mode d' = false)) ∨ b' = d' + 1 + sgB neg := by
    rcases h' with ⟨c, h, _⟩ | ⟨_, ⟨_, _, x⟩ | ⟨_, h, _⟩⟩
    · exact Or.inl ⟨h, c⟩
    · omega
    · exact Or.inr h
  by_cases e0 : d = d'
  · subst e0
    rcases hb1 with hb1 | ⟨hb1, c1, c2⟩
    · rcases hb2 with ⟨hb2, _⟩ | hb2 <;> omega
    · rcases hb2 with ⟨hb2, c⟩ | hb2
      · exfalso
        have hgt : numW d * B < A := by
          rcases agn_no A B (numW d) with ⟨h1, k⟩ | ⟨h1, k⟩ | ⟨h1, k⟩
          · omega
          · exact absurd k c1
          · exact h1
        have hgt' := cs _ hgt
        rcases c with c | c
        · rcases agn_no A' B' (numW d) with ⟨h1, k⟩ | ⟨h1, k⟩ | ⟨h1, k⟩ <;> omega
        · unfold upP at c c2
          by_cases m1 : mode = 1
          · rw [if_pos m1] at c2; cases c2
          · rw [if_neg m1] at c c2
            by_cases m2 : mode = 2
            · rw [if_pos m2] at c; cases c
            · rw [if_neg m2] at c c2
              by_cases m3 : mode = 3
              · rw [if_pos m3] at c c2; rw [c] at c2; cases c2
              · rw [if_neg m3] at c c2
                by_cases m4 : mode = 4
                · rw [if_pos m4] at c c2; rw [c] at c2; cases c2
                · rw [if_neg m4] at c c2
                  have c2' : (numW d + nxtN d) * B < 2 * A ∨ (2 * A = (numW d + nxtN d) * B ∧ d % 2 = 1) := even_up (neg := neg).mp c2
                  have c' : ¬ ((numW d + nxtN d) * B' < 2 * A' ∨ (2 * A' = (numW d + nxtN d) * B' ∧ d % 2 = 1)) := fun hh => by
                    have := even_up (neg := neg).mpr hh
                    have e9 : upP A' B' false neg 0 d = false := c
                    rw [e9] at this; cases this
                  -- twice the numbers, crosswise
                  have h2 : (2 * A) * B' ≤ (2 * A') * B := by rw [Int.mul_assoc, Int.mul_assoc]; omega
                  generalize numW d + nxtN d = n at *
                  have h3 : n * B' * B = n * B * B' := by rw [Int.mul_assoc, Int.mul_comm B', ← Int.mul_assoc]
                  rcases c2' with c2' | ⟨c2', c3⟩
                  · have h4 : n * B * B' < 2 * A * B' := Int.mul_lt_mul_of_pos_right c2' hB'
                    have h5 : ¬ (2 * A' ≤ n * B') := fun hh => by
                      have : 2 * A' * B ≤ n * B' * B := Int.mul_le_mul_of_nonneg_right hh (by omega)
                      omega
                    omega
                  · have h5 : ¬ (2 * A' < n * B') := fun hh => by
                      have : 2 * A' * B < n * B' * B := Int.mul_lt_mul_of_pos_right hh hB
                      rw [c2'] at h2
                      omega
                    omega
      · omega
  · rcases hb1 with hb1 | ⟨hb1, _, _⟩ <;> rcases hb2 with ⟨hb2, _⟩ | hb2 <;> omega
end Go.Proofs.YtceecgklgkiffaaGreatDoor.Ar

/- Plain numbers: near's way: a mantissa cut at its last place, and what lies behind it. -/
namespace Go.Proofs.YtceecgklgkiffaaGreatDoor.Ar
open Go.RowKit
set_option linter.unusedVariables false

/-- two ways to write one number -/
theorem round_cross {A B A' B' mode b e : Int} {more neg : Bool} (hB : 0 < B) (hB' : 0 < B') (h : A * B' = A' * B) : RoundIs A B more neg mode b e ↔ RoundIs A' B' more neg mode b e := by
  rw [← round_scale (A := A) hB', ← round_scale (A := A') hB, h, Int.mul_comm B B']
/-- how many bits two places lie apart -/
theorem e2_shift {P T : Int} (hP : 0 ≤ P) (hd : 0 ≤ P - T) : e2 P * e2 (-T) = e2 (P - T) * e2 T := by
  by_cases h : 0 ≤ T
  · rw [e2_zero (k := -T) (by omega), Int.mul_one, ← e2_add hd h]; congr 1; omega
  · rw [e2_zero (k := T) (by omega), Int.mul_one, ← e2_add hP (by omega)]; congr 1
end Go.Proofs.YtceecgklgkiffaaGreatDoor.Ar

/- Plain numbers: near's Scaled and Quotient: what they come to is the rounded number. -/
namespace Go.Proofs.YtceecgklgkiffaaGreatDoor.Ar
open Go.RowKit
set_option linter.unusedVariables false

/-! ### a quotient that is cut, with a rest -/
end Go.Proofs.YtceecgklgkiffaaGreatDoor.Ar

/- Plain numbers: lemire's rounding. -/
namespace Go.Proofs.YtceecgklgkiffaaGreatDoor.Ar
open Go.RowKit
set_option linter.unusedVariables false

/-! ### a rest below the last place, of a whole of 55 bits and more -/
/-! ### powers of two moved between the number and its exponent -/
theorem scB_pos' {D x : Int} (hD : 0 < D) : 0 < scB D x := by unfold scB; exact Int.mul_pos hD (e2_pos _)
/-! ### one word, rounded -/
/-- what lies behind -/
def kB (r P : Int) (more : Bool) : Int := if r = 0 ∧ more = false then 0 else if 2 * r < P then 1 else if 2 * r = P ∧ more = false then 2 else 3
end Go.Proofs.YtceecgklgkiffaaGreatDoor.Ar

/- Plain numbers: lemire's products, and the exact powers of ten. -/
namespace Go.Proofs.YtceecgklgkiffaaGreatDoor.Ar
open Go.RowKit
set_option linter.unusedVariables false

/-! ### the exact powers of ten -/
/-- the table -/
def tenL : List Nat := [4607182418800017408, 4621819117588971520, 4636737291354636288, 4652007308841189376, 4666723172467343360, 4681608360884174848, 4696837146684686336, 4711630319722168320, 4726483295884279808, 4741671816366391296, 4756540486875873280, 4771362005757984768, 4786511204640096256, 4801453603149578240, 4816244402031689728, 4831355200913801216, 4846369599423283200, 4861130398305394688, 4876203697187506176, 4891288408196988160, 4906019910204099648, 4921056587992461136, 4936209963552724370]
def tenP (k : Nat) : Int := (tenL.getD k 0 : Nat)
theorem pow_e2 (k : Nat) : (2 : Int) ^ k = e2 (k : Int) := by unfold e2; rw [Int.toNat_natCast]
end Go.Proofs.YtceecgklgkiffaaGreatDoor.Ar

