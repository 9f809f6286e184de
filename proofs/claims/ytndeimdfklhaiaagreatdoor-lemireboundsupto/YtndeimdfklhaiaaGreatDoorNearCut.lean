/- Plain numbers: near's way: a mantissa cut at its last place, and what lies behind it. -/
import Derived.Test.YtndeimdfklhaiaaGreatDoorNearMore
namespace Go.Proofs.YtndeimdfklhaiaaGreatDoor.Ar
open Go.RowKit
set_option linter.unusedVariables false

/-- two ways to write one number -/
theorem round_cross {A B A' B' mode b e : Int} {more neg : Bool} (hB : 0 < B) (hB' : 0 < B') (h : A * B' = A' * B) : RoundIs A B more neg mode b e ↔ RoundIs A' B' more neg mode b e := by
  rw [← round_scale (A := A) hB', ← round_scale (A := A') hB, h, Int.mul_comm B B']
/-- what lies behind: nothing, less than half, half, more than half of a place S -/
def BehK (R S : Int) (more : Bool) (k : Int) : Prop :=
  (k = 0 ∧ R = 0 ∧ more = false) ∨ (k = 1 ∧ 2 * R < S ∧ (0 < R ∨ more = true)) ∨ (k = 2 ∧ 2 * R = S ∧ more = false) ∨ (k = 3 ∧ (S < 2 * R ∨ (2 * R = S ∧ more = true)))
/-- does the mode go on to the next place? -/
def onK (neg : Bool) (mode d k : Int) : Bool :=
  if mode = 0 then (decide (k = 3) || (decide (k = 2) && decide (d % 2 = 1))) else if mode = 1 then false else if mode = 2 then decide (k ≠ 0) else if mode = 3 then (!neg && decide (k ≠ 0)) else (neg && decide (k ≠ 0))
/-- does what is beyond the greatest stay there? -/
def stK (neg : Bool) (mode : Int) : Bool := decide (mode = 1) || (decide (mode = 3) && neg) || (decide (mode = 4) && !neg)
theorem onK_par {neg : Bool} {mode d d' k : Int} (h : d % 2 = d' % 2) : onK neg mode d k = onK neg mode d' k := by unfold onK; rw [h]
theorem on_stay {neg : Bool} {mode d k : Int} (h : onK neg mode d k = true) : stK neg mode = false := by
  unfold onK at h
  unfold stK
  by_cases m0 : mode = 0
  · subst m0; rfl
  · rw [if_neg m0] at h
    by_cases m1 : mode = 1
    · rw [if_pos m1] at h; cases h
    · rw [if_neg m1] at h
      by_cases m2 : mode = 2
      · subst m2; rfl
      · rw [if_neg m2] at h
        by_cases m3 : mode = 3
        · subst m3; cases neg
          · rfl
          · simp at h
        · rw [if_neg m3] at h
          cases neg
          · simp at h
          · simp [m1, m3]
theorem mode_cases {mode : Int} (h0 : 0 ≤ mode) (h1 : mode ≤ 4) : mode = 0 ∨ mode = 1 ∨ mode = 2 ∨ mode = 3 ∨ mode = 4 := by omega
/-- the answer, by what lies behind the pattern d -/
theorem round_at {A B R S d k mode : Int} {more neg : Bool} (hB : 0 < B) (hd0 : 0 ≤ d) (hd1 : d ≤ mostP) (hA : A = numW d * B + R) (hS : S = 2 ^ stepN d * B) (hR0 : 0 ≤ R) (hR1 : R < S)
    (hk : BehK R S more k) (hm0 : 0 ≤ mode) (hm1 : mode ≤ 4) :
    (onK neg mode d k = false → RoundIs A B more neg mode (d + sgB neg) 0) ∧ (onK neg mode d k = true → d < mostP → RoundIs A B more neg mode (d + 1 + sgB neg) 0) ∧ (onK neg mode d k = true → d = mostP → RoundIs A B more neg mode 0 70) := by
  have hb : BelP A B d := by
    refine ⟨hd0, hd1, by omega, ?_⟩
    by_cases e : d = mostP
    · exact Or.inl e
    · right
      rw [num_succ hd0 (by omega)]
      unfold nxtN
      rw [Int.add_mul]; omega
  have a1 : agn A B (numW d) more = 0 ↔ k = 0 := by
    unfold agn
    rw [if_neg (by omega)]
    rcases hk with ⟨e, h, h2⟩ | ⟨e, h, h2⟩ | ⟨e, h, h2⟩ | ⟨e, h⟩
    · rw [if_pos (by omega), h2]; simp [e]
    · by_cases r : R = 0
      · have : more = true := h2.resolve_left (by omega)
        rw [if_pos (by omega), this]; simp [e]
      · rw [if_neg (by omega)]; simp [e]
    · rw [if_neg (by omega)]; simp [e]
    · rw [if_neg (by omega)]; simp [e]
  have hm2 : (numW d + nxtN d) * B = 2 * (numW d * B) + S := by
    unfold nxtN
    rw [hS, show numW d + (numW d + 2 ^ stepN d) = 2 * numW d + 2 ^ stepN d by omega, Int.add_mul, Int.mul_assoc]
  have a2 : (k = 3 ∧ agn (2 * A) B (numW d + nxtN d) more = 1) ∨ (k = 2 ∧ agn (2 * A) B (numW d + nxtN d) more = 0) ∨ ((k = 0 ∨ k = 1) ∧ agn (2 * A) B (numW d + nxtN d) more = -1) := by
    unfold agn
    rw [hm2]
    rcases hk with ⟨e, h, h2⟩ | ⟨e, h, h2⟩ | ⟨e, h, h2⟩ | ⟨e, h⟩
    · right; right; exact ⟨Or.inl e, by rw [if_pos (by omega)]⟩
    · right; right; exact ⟨Or.inr e, by rw [if_pos (by omega)]⟩
    · right; left; exact ⟨e, by rw [if_neg (by omega), if_pos (by omega), h2]; rfl⟩
    · left; refine ⟨e, ?_⟩
      rcases h with h | ⟨h, h2⟩
      · rw [if_neg (by omega), if_neg (by omega)]
      · rw [if_neg (by omega), if_pos (by omega), h2]; rfl
  have hon : onK neg mode d k = (decide (k ≠ 0) && upP A B more neg mode d) := by
    unfold onK upP
    rcases mode_cases hm0 hm1 with rfl | rfl | rfl | rfl | rfl
    · simp only [if_pos]
      rcases a2 with ⟨e, h⟩ | ⟨e, h⟩ | ⟨e, h⟩
      · rw [h, e]; simp
      · rw [h, e]; simp
      · rw [h]; rcases e with e | e <;> rw [e] <;> simp
    · simp
    · simp
    · simp [Bool.and_comm]
    · simp [Bool.and_comm]
  refine ⟨fun h => ⟨d, hb, Or.inl ⟨?_, rfl, rfl⟩⟩, fun h hl => ⟨d, hb, Or.inr ⟨?_, Or.inr ⟨hl, rfl, rfl⟩⟩⟩, fun h hl => ⟨d, hb, Or.inr ⟨?_, Or.inl ⟨hl, rfl, rfl⟩⟩⟩⟩
  · rw [hon] at h
    by_cases hk0 : k = 0
    · exact Or.inl (a1.mpr hk0)
    · right; simpa [hk0] using h
  · rw [hon] at h
    simp at h
    exact ⟨fun e => h.1 (a1.mp e), h.2⟩
  · rw [hon] at h
    simp at h
    exact ⟨fun e => h.1 (a1.mp e), h.2⟩
/-- the pattern of a mantissa in its form -/
theorem pat_at {M X : Int} (h0 : 0 ≤ M) (h1 : M < 9007199254740992) (hX0 : -1074 ≤ X) (hX1 : X ≤ 971) (h2 : X = -1074 ∨ 4503599627370496 ≤ M) :
    0 ≤ (X + 1074) * 4503599627370496 + M ∧ (X + 1074) * 4503599627370496 + M ≤ mostP ∧ numW ((X + 1074) * 4503599627370496 + M) = M * e2 (X + 1074) ∧ (2 : Int) ^ stepN ((X + 1074) * 4503599627370496 + M) = e2 (X + 1074) ∧ ((X + 1074) * 4503599627370496 + M) % 2 = M % 2 := by
  have hd0 : 0 ≤ (X + 1074) * 4503599627370496 + M := by omega
  have hd1 : (X + 1074) * 4503599627370496 + M ≤ mostP := by unfold mostP; omega
  obtain ⟨f1, f2, f3⟩ := fields_of hd0 hd1
  refine ⟨hd0, hd1, ?_, ?_, by omega⟩
  · by_cases hl : M < 4503599627370496
    · have hX : X = -1074 := by omega
      subst hX
      rw [(num_low (p := (-1074 + 1074) * 4503599627370496 + M) (by omega)).1, f2, show (-1074 + 1074 : Int) = 0 by omega, e2_zero (Int.le_refl 0)]; omega
    · have e1 : ef ((X + 1074) * 4503599627370496 + M) = X + 1075 := by omega
      rw [(num_high (p := (X + 1074) * 4503599627370496 + M) (by omega) (by omega) (by omega)).1, e1, f2]
      unfold e2
      have e3 : (X + 1075 - 1).toNat = (X + 1074).toNat := by omega
      rw [e3]
      congr 1; omega
  · by_cases hl : M < 4503599627370496
    · have hX : X = -1074 := by omega
      subst hX
      rw [(num_low (p := (-1074 + 1074) * 4503599627370496 + M) (by omega)).2, show (-1074 + 1074 : Int) = 0 by omega, e2_zero (Int.le_refl 0)]; rfl
    · have e1 : ef ((X + 1074) * 4503599627370496 + M) = X + 1075 := by omega
      rw [(num_high (p := (X + 1074) * 4503599627370496 + M) (by omega) (by omega) (by omega)).2, e1]
      unfold e2
      have e3 : (X + 1075 - 1).toNat = (X + 1074).toNat := by omega
      rw [e3]
theorem most_nums : numW mostP = 9007199254740991 * e2 2045 ∧ (2 : Int) ^ stepN mostP = e2 2045 := by
  have h := pat_at (M := 9007199254740991) (X := 971) (by omega) (by omega) (by omega) (by omega) (by omega)
  exact ⟨h.2.2.1, h.2.2.2.1⟩
/-- from two to the 1024 on: beyond the middle behind the greatest -/
theorem huge_of {A B : Int} (hB : 0 < B) (h : e2 2098 * B ≤ A) : (numW mostP + nxtN mostP) * B < 2 * A := by
  obtain ⟨m1, m2⟩ := most_nums
  unfold nxtN
  rw [m1, m2]
  have e : e2 2098 = e2 53 * e2 2045 := by rw [← e2_add (by omega) (by omega)]; rfl
  rw [e, e2_53] at h
  have hp := e2_pos 2045
  generalize e2 2045 = P at *
  have := Int.mul_pos hp hB
  have e4 : (9007199254740991 * P + (9007199254740991 * P + P)) * B = 18014398509481983 * (P * B) := by
    rw [← Int.mul_assoc]; congr 1; omega
  rw [e4]
  rw [Int.mul_assoc] at h
  omega
/-- the cut of M times two to the x: its last place, what is left, how many bits fall -/
def cutX (L x : Int) : Int := max (x + L - 53) (-1074)
def cutM (M L x : Int) : Int := M / e2 (cutX L x - x) * e2 (-(cutX L x - x))
theorem cut_form {M L x : Int} (hM : 0 < M) (hL : 1 ≤ L) (h1 : e2 (L - 1) ≤ M) (h2 : M < e2 L) :
    0 ≤ cutM M L x ∧ cutM M L x < 9007199254740992 ∧ (cutX L x = -1074 ∨ 4503599627370496 ≤ cutM M L x) := by
  unfold cutM
  have hX : cutX L x = max (x + L - 53) (-1074) := rfl
  generalize cutX L x = X at *
  have hp := e2_pos (X - x)
  by_cases hd : X - x ≤ 0
  · rw [e2_zero hd, Int.ediv_one]
    have hq := e2_pos (-(X - x))
    refine ⟨Int.mul_nonneg (by omega) (by omega), ?_, ?_⟩
    · have a : M * e2 (-(X - x)) < e2 L * e2 (-(X - x)) := Int.mul_lt_mul_of_pos_right h2 hq
      rw [← e2_add (by omega) (by omega)] at a
      have : e2 (L + -(X - x)) ≤ e2 53 := e2_le (by omega)
      rw [e2_53] at this
      omega
    · by_cases hx : X = -1074
      · exact Or.inl hx
      · right
        have a : e2 (L - 1) * e2 (-(X - x)) ≤ M * e2 (-(X - x)) := Int.mul_le_mul_of_nonneg_right h1 (by omega)
        rw [← e2_add (by omega) (by omega)] at a
        have : e2 52 ≤ e2 (L - 1 + -(X - x)) := e2_le (by omega)
        rw [e2_52] at this
        omega
  · rw [e2_zero (k := -(X - x)) (by omega), Int.mul_one]
    refine ⟨Int.ediv_nonneg (by omega) (by omega), ?_, ?_⟩
    · apply Int.ediv_lt_of_lt_mul hp
      have a : e2 L ≤ e2 (53 + (X - x)) := e2_le (by omega)
      rw [e2_add (by omega) (by omega), e2_53] at a
      omega
    · by_cases hx : X = -1074
      · exact Or.inl hx
      · right
        apply Int.le_ediv_of_mul_le hp
        have a : e2 (52 + (X - x)) ≤ e2 (L - 1) := e2_le (by omega)
        rw [e2_add (by omega) (by omega), e2_52] at a
        omega
/-- how many bits two places lie apart -/
theorem e2_shift {P T : Int} (hP : 0 ≤ P) (hd : 0 ≤ P - T) : e2 P * e2 (-T) = e2 (P - T) * e2 T := by
  by_cases h : 0 ≤ T
  · rw [e2_zero (k := -T) (by omega), Int.mul_one, ← e2_add hd h]; congr 1; omega
  · rw [e2_zero (k := T) (by omega), Int.mul_one, ← e2_add hP (by omega)]; congr 1
theorem cut_num {M L x : Int} (hM : 0 < M) : M * e2 (x + 1074) = cutM M L x * e2 (cutX L x + 1074) * e2 (-(x + 1074)) + M % e2 (cutX L x - x) * e2 (x + 1074) := by
  unfold cutM
  have hX : cutX L x = max (x + L - 53) (-1074) := rfl
  generalize cutX L x = X at *
  by_cases hd : 0 ≤ X - x
  · have s := e2_shift (P := X + 1074) (T := x + 1074) (by omega) (by omega)
    have e0 : X + 1074 - (x + 1074) = X - x := by omega
    rw [e0] at s
    by_cases h0 : X - x = 0
    · rw [h0] at s ⊢
      rw [Int.neg_zero, e2_zero (Int.le_refl 0), Int.ediv_one, Int.mul_one, Int.emod_one, Int.zero_mul, Int.add_zero, Int.mul_assoc, s, e2_zero (Int.le_refl 0), Int.one_mul]
    · rw [e2_zero (k := -(X - x)) (by omega), Int.mul_one, Int.mul_assoc, s, ← Int.mul_assoc, ← Int.add_mul]
      congr 1
      exact (Int.ediv_mul_add_emod M _).symm
  · rw [e2_zero (k := X - x) (by omega), Int.ediv_one, Int.emod_one, Int.zero_mul, Int.add_zero, e2_zero (k := -(x + 1074)) (by omega), Int.mul_one, Int.mul_assoc, ← e2_add (by omega) (by omega)]
    congr 2; omega
/-- the bits that fall -/
theorem beh_bits {M D z u : Int} {more : Bool} (hM : 0 < M) (hD : 1 ≤ D) (hz : 0 ≤ z) (hu : u % 2 = 1) (hMu : M = e2 z * u) :
    BehK (M % e2 D) (e2 D) more (if M / e2 (D - 1) % 2 = 1 then (if more = true ∨ z < D - 1 then 3 else 2) else (if more = true ∨ z < D - 1 then 1 else 0)) := by
  have hh := e2_pos (D - 1)
  have e : e2 D = 2 * e2 (D - 1) := by
    have : D = 1 + (D - 1) := by omega
    rw [this, e2_add (by omega) (by omega), e2_one]; congr 2; omega
  have lo0 : (M % e2 (D - 1) = 0) ↔ ¬ z < D - 1 := by
    constructor
    · intro h hc
      have s : e2 (D - 1) = e2 z * (2 * e2 (D - 1 - z - 1)) := by
        have : D - 1 = z + (1 + (D - 1 - z - 1)) := by omega
        rw [this, e2_add hz (by omega), e2_add (by omega) (by omega), e2_one]
        congr 4; omega
      have dv : e2 (D - 1) ∣ M := Int.dvd_of_emod_eq_zero h
      rw [hMu, s] at dv
      have := Int.dvd_of_mul_dvd_mul_left (by have := e2_pos z; omega) dv
      have : (2 : Int) ∣ u := Int.dvd_trans ⟨_, rfl⟩ this
      omega
    · intro hc
      apply Int.emod_eq_zero_of_dvd
      rw [hMu]
      have s : e2 z = e2 (D - 1) * e2 (z - (D - 1)) := by rw [← e2_add (by omega) (by omega)]; congr 1; omega
      rw [s, Int.mul_assoc]
      exact ⟨_, rfl⟩
  have r : M % e2 D = M / e2 (D - 1) % 2 * e2 (D - 1) + M % e2 (D - 1) := by
    have q1 := Int.ediv_mul_add_emod M (e2 (D - 1))
    have q2 := Int.ediv_mul_add_emod (M / e2 (D - 1)) 2
    have hl0 := Int.emod_nonneg M (show e2 (D - 1) ≠ 0 by omega)
    have hl1 := Int.emod_lt_of_pos M hh
    have hq : M / e2 (D - 1) % 2 = 0 ∨ M / e2 (D - 1) % 2 = 1 := by omega
    rw [e]
    generalize e2 (D - 1) = h at *
    generalize M % h = lo at *
    generalize M / h = Q at *
    have key : M = (Q % 2 * h + lo) + 2 * h * (Q / 2) := by
      rw [← q1]
      have : Q * h = (Q / 2 * 2 + Q % 2) * h := by rw [q2]
      rw [this, Int.add_mul, show 2 * h * (Q / 2) = Q / 2 * 2 * h by rw [Int.mul_comm (2 * h), Int.mul_assoc (Q / 2)]]
      omega
    rw [key, Int.add_mul_emod_self_left]
    apply Int.emod_eq_of_lt
    · rcases hq with hq | hq <;> rw [hq] <;> omega
    · rcases hq with hq | hq <;> rw [hq] <;> omega
  have hl0 := Int.emod_nonneg M (show e2 (D - 1) ≠ 0 by omega)
  have hl1 := Int.emod_lt_of_pos M hh
  have hq : M / e2 (D - 1) % 2 = 0 ∨ M / e2 (D - 1) % 2 = 1 := by omega
  rw [r, e]
  generalize M % e2 (D - 1) = lo at *
  generalize e2 (D - 1) = h at *
  have hb : more = true ∨ more = false := by cases more <;> simp
  unfold BehK
  rcases hq with hq | hq <;> rw [hq]
  · rw [if_neg (by omega)]
    by_cases hm : more = true ∨ z < D - 1
    · rw [if_pos hm]
      right; left
      refine ⟨rfl, by omega, ?_⟩
      rcases hm with hm | hm
      · exact Or.inr hm
      · left; have : lo ≠ 0 := fun h => lo0.mp h hm
        omega
    · rw [if_neg hm]
      have h1 : ¬ z < D - 1 := fun h => hm (Or.inr h)
      have h2 : lo = 0 := lo0.mpr h1
      left
      refine ⟨rfl, by omega, ?_⟩
      rcases hb with hb | hb
      · exact absurd (Or.inl hb) hm
      · exact hb
  · rw [if_pos rfl]
    by_cases hm : more = true ∨ z < D - 1
    · rw [if_pos hm]
      right; right; right
      refine ⟨rfl, ?_⟩
      by_cases h0 : lo = 0
      · right
        refine ⟨by omega, ?_⟩
        rcases hm with hm | hm
        · exact hm
        · exact absurd hm (lo0.mp h0)
      · left; omega
    · rw [if_neg hm]
      have h1 : ¬ z < D - 1 := fun h => hm (Or.inr h)
      have h2 : lo = 0 := lo0.mpr h1
      right; right; left
      refine ⟨rfl, by omega, ?_⟩
      rcases hb with hb | hb
      · exact absurd (Or.inl hb) hm
      · exact hb
end Go.Proofs.YtndeimdfklhaiaaGreatDoor.Ar
