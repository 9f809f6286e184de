/- Plain numbers: an exact number among the patterns, and rounding by five modes. -/
import Derived.Test.YtndeimdfklhaiaaGreatDoorF64N
namespace Go.Proofs.YtndeimdfklhaiaaGreatDoor.Ar
open Go.RowKit
set_option linter.unusedVariables false

/-- the greatest pattern -/
def mostP : Int := 9218868437227405311
theorem size_fin {p : Int} (h0 : 0 ≤ p) (h1 : p ≤ mostP) : U p ∧ ef p ≠ 2047 ∧ mg p = p := by
  unfold mostP at h1
  unfold U ef mg
  omega
/-- how far it is from a pattern to the next one: two to this -/
def stepN (p : Int) : Nat := (spX p + 1074).toNat
/-- the number behind a pattern: the next one's, or 2^1024 -/
def nxtN (p : Int) : Int := numW p + 2 ^ stepN p
theorem pow_up (k : Nat) : (2 : Int) ^ (k + 1) = 2 ^ k * 2 := Int.pow_succ _ _
/-- the fields of a pattern without a sign -/
theorem fields_of {p : Int} (h0 : 0 ≤ p) (h1 : p ≤ mostP) : ef p = p / 4503599627370496 ∧ fr p = p % 4503599627370496 ∧ ef p ≤ 2046 := by
  unfold mostP at h1
  unfold ef fr
  omega
theorem num_low {p : Int} (h : ef p = 0) : numW p = fr p ∧ stepN p = 0 := by
  unfold numW stepN spM spX
  simp [h]
theorem num_high {p : Int} (h : ef p ≠ 0) (h2 : ef p ≠ 2047) (h3 : 0 ≤ ef p) : numW p = (4503599627370496 + fr p) * 2 ^ (ef p - 1).toNat ∧ stepN p = (ef p - 1).toNat := by
  unfold numW stepN spM spX
  simp only [if_neg h, if_neg h2]
  have e : (ef p - 1075 + 1074).toNat = (ef p - 1).toNat := by congr 1; omega
  rw [e]
  exact ⟨rfl, rfl⟩
theorem num_succ {p : Int} (h0 : 0 ≤ p) (h1 : p < mostP) : numW (p + 1) = nxtN p := by
  obtain ⟨a1, a2, a3⟩ := fields_of h0 (Int.le_of_lt h1)
  obtain ⟨b1, b2, b3⟩ := fields_of (p := p + 1) (by omega) (by omega)
  unfold nxtN
  by_cases hf : fr p = 4503599627370495
  · by_cases he : ef p = 0
    · obtain ⟨c1, c2⟩ := num_low he
      have e1 : ef (p + 1) = 1 := by omega
      have f1 : fr (p + 1) = 0 := by omega
      obtain ⟨d1, _⟩ := num_high (p := p + 1) (by omega) (by omega) (by omega)
      rw [c1, c2, d1, e1, f1, hf]
      decide
    · obtain ⟨c1, c2⟩ := num_high he (by omega) (by omega)
      have e1 : ef (p + 1) = ef p + 1 := by omega
      have f1 : fr (p + 1) = 0 := by omega
      obtain ⟨d1, _⟩ := num_high (p := p + 1) (by omega) (by omega) (by omega)
      have e2 : (ef (p + 1) - 1).toNat = (ef p - 1).toNat + 1 := by omega
      rw [c1, c2, d1, e2, f1, hf, pow_up]
      generalize (2 : Int) ^ (ef p - 1).toNat = P
      omega
  · by_cases he : ef p = 0
    · obtain ⟨c1, c2⟩ := num_low he
      have e1 : ef (p + 1) = 0 := by omega
      have f1 : fr (p + 1) = fr p + 1 := by omega
      obtain ⟨d1, _⟩ := num_low e1
      rw [c1, c2, d1, f1, Int.pow_zero]
    · obtain ⟨c1, c2⟩ := num_high he (by omega) (by omega)
      have e1 : ef (p + 1) = ef p := by omega
      have f1 : fr (p + 1) = fr p + 1 := by omega
      obtain ⟨d1, _⟩ := num_high (p := p + 1) (by omega) (by omega) (by omega)
      rw [c1, c2, d1, e1, f1]
      generalize (2 : Int) ^ (ef p - 1).toNat = P
      rw [show (4503599627370496 + (fr p + 1) : Int) = (4503599627370496 + fr p) + 1 by omega, Int.add_mul, Int.one_mul]
theorem num_mono {p q : Int} (h0 : 0 ≤ p) (h1 : p ≤ q) (h2 : q ≤ mostP) : numW p ≤ numW q := by
  obtain ⟨u1, f1, m1⟩ := size_fin h0 (by omega)
  obtain ⟨u2, f2, m2⟩ := size_fin (p := q) (by omega) h2
  obtain ⟨o1, o2⟩ := num_ord u1 u2 f1 f2
  rw [m1, m2] at o1 o2
  by_cases e : p = q
  · exact Int.le_of_eq (o2 e)
  · exact Int.le_of_lt (o1 (by omega))
theorem num_nonneg' {p : Int} (h0 : 0 ≤ p) (h1 : p ≤ mostP) : 0 ≤ numW p := by
  obtain ⟨u1, f1, m1⟩ := size_fin h0 h1
  obtain ⟨_, _, _, e3, _, _, _, e7⟩ := num_parts u1 f1
  rw [e7]
  exact Int.mul_nonneg e3 (Int.le_of_lt (pow_pos _))
/-- the exact number A by B, and, if more, a little more, against n: -1, 0, 1 -/
def agn (A B n : Int) (more : Bool) : Int := if A < n * B then -1 else if A = n * B then (if more = true then 1 else 0) else 1
/-- d is the greatest pattern that is not above A by B -/
def BelP (A B d : Int) : Prop := 0 ≤ d ∧ d ≤ mostP ∧ numW d * B ≤ A ∧ (d = mostP ∨ A < numW (d + 1) * B)
theorem belP_uniq {A B d d' : Int} (hB : 0 < B) (h : BelP A B d) (h' : BelP A B d') : d = d' := by
  obtain ⟨a1, a2, a3, a4⟩ := h
  obtain ⟨b1, b2, b3, b4⟩ := h'
  have key : ∀ x y : Int, 0 ≤ x → y ≤ mostP → x < y → numW y * B ≤ A → (x = mostP ∨ A < numW (x + 1) * B) → False := by
    intro x y hx hy hl h1 h2
    rcases h2 with h2 | h2
    · omega
    · have := num_mono (p := x + 1) (q := y) (by omega) (by omega) hy
      have : numW (x + 1) * B ≤ numW y * B := Int.mul_le_mul_of_nonneg_right this (by omega)
      omega
  rcases Int.lt_trichotomy d d' with l | l | l
  · exact (key d d' a1 b2 l b3 a4).elim
  · exact l
  · exact (key d' d b1 a2 l a3 b4).elim
/-- does the mode go away from 0? -/
def upP (A B : Int) (more neg : Bool) (mode d : Int) : Bool :=
  if mode = 1 then false else if mode = 2 then true else if mode = 3 then !neg else if mode = 4 then neg
  else decide (0 < agn (2 * A) B (numW d + nxtN d) more) || (decide (agn (2 * A) B (numW d + nxtN d) more = 0) && decide (d % 2 = 1))
/-- what rounding answers -/
def RoundIs (A B : Int) (more neg : Bool) (mode b e : Int) : Prop := ∃ d, BelP A B d ∧
  (((agn A B (numW d) more = 0 ∨ upP A B more neg mode d = false) ∧ b = d + sgB neg ∧ e = 0) ∨
   ((agn A B (numW d) more ≠ 0 ∧ upP A B more neg mode d = true) ∧ ((d = mostP ∧ b = 0 ∧ e = 70) ∨ (d < mostP ∧ b = d + 1 + sgB neg ∧ e = 0))))
theorem roundIs_uniq {A B mode b e b' e' : Int} {more neg : Bool} (hB : 0 < B) (h : RoundIs A B more neg mode b e) (h' : RoundIs A B more neg mode b' e') : b = b' ∧ e = e' := by
  obtain ⟨d, h1, h⟩ := h
  obtain ⟨d', h1', h'⟩ := h'
  have := belP_uniq hB h1 h1'
  subst this
  rcases h with ⟨c, rfl, rfl⟩ | ⟨⟨c1, c2⟩, h⟩ <;> rcases h' with ⟨c', rfl, rfl⟩ | ⟨⟨c1', c2'⟩, h'⟩
  · exact ⟨rfl, rfl⟩
  · rcases c with c | c
    · exact absurd c c1'
    · rw [c] at c2'; cases c2'
  · rcases c' with c' | c'
    · exact absurd c' c1
    · rw [c'] at c2; cases c2
  · rcases h with ⟨x, rfl, rfl⟩ | ⟨x, rfl, rfl⟩ <;> rcases h' with ⟨x', rfl, rfl⟩ | ⟨x', rfl, rfl⟩
    · exact ⟨rfl, rfl⟩
    · omega
    · omega
    · exact ⟨rfl, rfl⟩
/-! ### both multiplied by the same -/
theorem lt_scale {a b k : Int} (hk : 0 < k) : a * k < b * k ↔ a < b := ⟨fun h => Int.lt_of_mul_lt_mul_right h (by omega), fun h => Int.mul_lt_mul_of_pos_right h hk⟩
theorem eq_scale {a b k : Int} (hk : 0 < k) : a * k = b * k ↔ a = b := ⟨fun h => Int.eq_of_mul_eq_mul_right (by omega) h, fun h => by rw [h]⟩
theorem agn_scale {A B n k : Int} {more : Bool} (hk : 0 < k) : agn (A * k) (B * k) n more = agn A B n more := by
  unfold agn
  have e : n * (B * k) = n * B * k := by rw [Int.mul_assoc]
  simp only [e, lt_scale hk, eq_scale hk]
theorem belP_scale {A B d k : Int} (hk : 0 < k) : BelP (A * k) (B * k) d ↔ BelP A B d := by
  unfold BelP
  have e : ∀ n : Int, n * (B * k) = n * B * k := fun n => by rw [Int.mul_assoc]
  rw [e, e, lt_scale hk]
  constructor
  · rintro ⟨a1, a2, a3, a4⟩
    refine ⟨a1, a2, ?_, a4⟩
    apply Decidable.byContradiction
    intro hc
    have := (lt_scale (a := A) (b := numW d * B) hk).mpr (by omega)
    omega
  · rintro ⟨a1, a2, a3, a4⟩
    exact ⟨a1, a2, Int.mul_le_mul_of_nonneg_right a3 (by omega), a4⟩
theorem upP_scale {A B mode d k : Int} {more neg : Bool} (hk : 0 < k) : upP (A * k) (B * k) more neg mode d = upP A B more neg mode d := by
  unfold upP
  have e : 2 * (A * k) = 2 * A * k := by rw [Int.mul_assoc]
  rw [e, agn_scale hk]
theorem round_scale {A B mode b e k : Int} {more neg : Bool} (hk : 0 < k) : RoundIs (A * k) (B * k) more neg mode b e ↔ RoundIs A B more neg mode b e := by
  unfold RoundIs
  simp only [belP_scale hk, agn_scale hk, upP_scale hk]
/-! ### far out, and next to nothing -/
theorem num_zero' : numW 0 = 0 := by decide
theorem num_one' : numW 1 = 1 := by decide
theorem nxt_zero : nxtN 0 = 1 := by decide
/-- A by B is above 0 and below the least middle -/
theorem round_tiny {A B mode : Int} {more neg : Bool} (hB : 0 < B) (h0 : 0 < A ∨ (A = 0 ∧ more = true)) (hA : 0 ≤ A) (h : 2 * A < B) :
    (mode = 2 ∨ (mode = 3 ∧ neg = false) ∨ (mode = 4 ∧ neg = true) → RoundIs A B more neg mode (1 + sgB neg) 0) ∧
    (mode = 0 ∨ mode = 1 ∨ (mode = 3 ∧ neg = true) ∨ (mode = 4 ∧ neg = false) → RoundIs A B more neg mode (sgB neg) 0) := by
  have hb : BelP A B 0 := ⟨by omega, by unfold mostP; omega, by rw [num_zero']; omega, Or.inr (by rw [show (0 + 1 : Int) = 1 by omega, num_one']; omega)⟩
  have ha : agn A B (numW 0) more ≠ 0 := by
    unfold agn
    rw [num_zero', Int.zero_mul, if_neg (by omega)]
    rcases h0 with h0 | ⟨h0, h1⟩
    · rw [if_neg (by omega)]; omega
    · rw [if_pos h0, h1, if_pos rfl]; omega
  have hc : agn (2 * A) B (numW 0 + nxtN 0) more = -1 := by
    unfold agn
    rw [num_zero', nxt_zero, if_pos (by omega)]
  constructor
  · intro hm
    refine ⟨0, hb, Or.inr ⟨⟨ha, ?_⟩, Or.inr ⟨by unfold mostP; omega, by omega, rfl⟩⟩⟩
    unfold upP
    rcases hm with rfl | ⟨rfl, rfl⟩ | ⟨rfl, rfl⟩ <;> rfl
  · intro hm
    refine ⟨0, hb, Or.inl ⟨Or.inr ?_, by omega, rfl⟩⟩
    unfold upP
    rw [hc]
    rcases hm with rfl | rfl | ⟨rfl, rfl⟩ | ⟨rfl, rfl⟩ <;> rfl
/-- A by B is beyond the middle behind the greatest -/
theorem round_huge {A B mode : Int} {more neg : Bool} (hB : 0 < B) (h : (numW mostP + nxtN mostP) * B < 2 * A) :
    (mode = 0 ∨ mode = 2 ∨ (mode = 3 ∧ neg = false) ∨ (mode = 4 ∧ neg = true) → RoundIs A B more neg mode 0 70) ∧
    (mode = 1 ∨ (mode = 3 ∧ neg = true) ∨ (mode = 4 ∧ neg = false) → RoundIs A B more neg mode (mostP + sgB neg) 0) := by
  have hs : 0 < (2 : Int) ^ stepN mostP := pow_pos _
  have hn : numW mostP * B < A := by
    have e : (numW mostP + nxtN mostP) * B = 2 * (numW mostP * B) + 2 ^ stepN mostP * B := by
      unfold nxtN
      generalize numW mostP = N
      generalize (2 : Int) ^ stepN mostP = P
      rw [show N + (N + P) = 2 * N + P by omega, Int.add_mul, Int.mul_assoc]
    have := Int.mul_pos hs hB
    omega
  have hb : BelP A B mostP := ⟨by decide, Int.le_refl _, by omega, Or.inl rfl⟩
  have ha : agn A B (numW mostP) more ≠ 0 := by
    unfold agn
    rw [if_neg (by omega), if_neg (by omega)]; omega
  have hc : agn (2 * A) B (numW mostP + nxtN mostP) more = 1 := by
    unfold agn
    rw [if_neg (by omega), if_neg (by omega)]
  constructor
  · intro hm
    refine ⟨mostP, hb, Or.inr ⟨⟨ha, ?_⟩, Or.inl ⟨rfl, rfl, rfl⟩⟩⟩
    unfold upP
    rw [hc]
    rcases hm with rfl | rfl | ⟨rfl, rfl⟩ | ⟨rfl, rfl⟩ <;> rfl
  · intro hm
    refine ⟨mostP, hb, Or.inl ⟨Or.inr ?_, rfl, rfl⟩⟩
    unfold upP
    rcases hm with rfl | ⟨rfl, rfl⟩ | ⟨rfl, rfl⟩ <;> rfl
/-! ### the document's way: crosswise, by halving -/
/-- a against b, and, if more, a little more than a -/
def agn0 (a b : Int) (more : Bool) : Int := if a < b then -1 else if a = b then (if more = true then 1 else 0) else 1
theorem agn_agn0 (A B n : Int) (more : Bool) : agn A B n more = agn0 A (n * B) more := rfl
theorem agn0_scale {a b k : Int} {more : Bool} (hk : 0 < k) : agn0 (a * k) (b * k) more = agn0 a b more := by
  unfold agn0
  simp only [lt_scale hk, eq_scale hk]
/-- N times two to the x by D, as the document holds it against m times two to the e -/
def agX (N D x m e : Int) (more : Bool) : Int := if 0 < x - e then agn0 (N * e2 (x - e)) (m * D) more else agn0 N (m * D * e2 (-(x - e))) more
/-- the same number by whole numbers, in units of the least pattern -/
def scA (N x : Int) : Int := N * e2 (x + 1074)
def scB (D x : Int) : Int := D * e2 (-(x + 1074))
theorem agX_eq {N D x m e : Int} {more : Bool} (he : -1075 ≤ e) : agX N D x m e more = agn0 (2 * scA N x) (m * e2 (e + 1075) * scB D x) more := by
  unfold agX scA scB
  by_cases hK : 0 ≤ x + 1074
  · have b1 : e2 (-(x + 1074)) = 1 := e2_zero (by omega)
    rw [b1, Int.mul_one]
    have t2 : 2 * (N * e2 (x + 1074)) = N * e2 (x + 1075) := by
      rw [show x + 1075 = (x + 1074) + 1 by omega, e2_add hK (by omega), e2_one, Int.mul_comm 2, Int.mul_assoc]
    rw [t2]
    split
    · have e1 : N * e2 (x + 1075) = N * e2 (x - e) * e2 (e + 1075) := by
        rw [show x + 1075 = (x - e) + (e + 1075) by omega, e2_add (by omega) (by omega), Int.mul_assoc]
      have e3 : m * e2 (e + 1075) * D = m * D * e2 (e + 1075) := by rw [Int.mul_assoc, Int.mul_comm (e2 _), ← Int.mul_assoc]
      rw [e1, e3, agn0_scale (e2_pos _)]
    · have e3 : m * e2 (e + 1075) * D = m * D * e2 (-(x - e)) * e2 (x + 1075) := by
        rw [Int.mul_assoc, Int.mul_comm (e2 _), ← Int.mul_assoc, Int.mul_assoc (m * D), ← e2_add (by omega) (by omega)]
        congr 2
        omega
      rw [e3, agn0_scale (e2_pos _)]
  · have b1 : e2 (x + 1074) = 1 := e2_zero (by omega)
    rw [b1, Int.mul_one]
    have t3 : m * e2 (e + 1075) * (D * e2 (-(x + 1074))) = m * D * (e2 (e + 1075) * e2 (-(x + 1074))) := by
      generalize e2 (e + 1075) = P
      generalize e2 (-(x + 1074)) = Q
      rw [Int.mul_assoc, Int.mul_assoc, ← Int.mul_assoc P, Int.mul_comm P D, Int.mul_assoc]
    rw [t3, ← e2_add (by omega) (by omega)]
    rw [if_neg (by omega)]
    have t4 : m * D * e2 (e + 1075 + -(x + 1074)) = m * D * e2 (-(x - e)) * 2 := by
      rw [show e + 1075 + -(x + 1074) = -(x - e) + 1 by omega, e2_add (by omega) (by omega), e2_one]
      exact (Int.mul_assoc _ _ _).symm
    rw [t4, Int.mul_comm 2 N, agn0_scale (by omega)]
/-- held against a pattern -/
theorem agX_pat {N D x p : Int} {more : Bool} (h0 : 0 ≤ p) (h1 : p ≤ mostP) : agX N D x (spM p) (spX p) more = agn (scA N x) (scB D x) (numW p) more := by
  obtain ⟨u1, f1, m1⟩ := size_fin h0 h1
  obtain ⟨k, e1, _, _, _, _, _, e7⟩ := num_parts u1 f1
  rw [agX_eq (by omega), agn_agn0, e7]
  have e2' : e2 (spX p + 1075) = 2 ^ k * 2 := by
    rw [show spX p + 1075 = (k : Int) + 1 by omega, e2_add (by omega) (by omega), e2_one]
    unfold e2
    rw [Int.toNat_natCast]
  have t : spM p * e2 (spX p + 1075) * scB D x = spM p * 2 ^ k * scB D x * 2 := by
    rw [e2', ← Int.mul_assoc, Int.mul_assoc _ 2, Int.mul_comm 2, ← Int.mul_assoc]
  rw [t, Int.mul_comm 2, agn0_scale (by omega)]
/-- held against the middle behind a pattern -/
theorem agX_mid {N D x p : Int} {more : Bool} (h0 : 0 ≤ p) (h1 : p ≤ mostP) : agX N D x (2 * spM p + 1) (spX p - 1) more = agn (2 * scA N x) (scB D x) (numW p + nxtN p) more := by
  obtain ⟨u1, f1, m1⟩ := size_fin h0 h1
  obtain ⟨k, e1, _, _, _, _, _, e7⟩ := num_parts u1 f1
  rw [agX_eq (by omega), agn_agn0]
  congr 2
  unfold nxtN stepN
  rw [e7, e1, Int.toNat_natCast, show spX p - 1 + 1075 = (k : Int) by omega]
  unfold e2
  rw [Int.toNat_natCast]
  generalize (2 : Int) ^ k = P
  rw [Int.add_mul, Int.one_mul, Int.mul_assoc]
  omega
/-- halving: the place is between lo and hi -/
def HalfI (A B lo hi : Int) : Prop := 0 ≤ lo ∧ lo ≤ hi ∧ hi ≤ mostP ∧ numW lo * B ≤ A ∧ (hi = mostP ∨ A < numW (hi + 1) * B)
theorem hav_start {A B : Int} (hA : 0 ≤ A) : HalfI A B 0 mostP := ⟨by omega, by decide, Int.le_refl _, by rw [num_zero']; omega, Or.inl rfl⟩
theorem hav_up {A B lo hi mid : Int} (h : HalfI A B lo hi) (h1 : lo < mid) (h2 : mid ≤ hi) (h3 : numW mid * B ≤ A) : HalfI A B mid hi := by
  obtain ⟨a1, a2, a3, a4, a5⟩ := h
  exact ⟨by omega, h2, a3, h3, a5⟩
theorem hav_down {A B lo hi mid : Int} (h : HalfI A B lo hi) (h1 : lo < mid) (h2 : mid ≤ hi) (h3 : A < numW mid * B) : HalfI A B lo (mid - 1) := by
  obtain ⟨a1, a2, a3, a4, a5⟩ := h
  exact ⟨a1, by omega, by omega, a4, Or.inr (by rw [show mid - 1 + 1 = mid by omega]; exact h3)⟩
theorem hav_end {A B lo hi : Int} (h : HalfI A B lo hi) (he : ¬ lo < hi) : BelP A B lo := by
  obtain ⟨a1, a2, a3, a4, a5⟩ := h
  have : lo = hi := by omega
  subst this
  exact ⟨a1, a3, a4, a5⟩
end Go.Proofs.YtndeimdfklhaiaaGreatDoor.Ar
