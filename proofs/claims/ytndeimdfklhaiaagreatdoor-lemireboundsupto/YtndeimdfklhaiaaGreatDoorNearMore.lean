/- Plain numbers: what rounding means: the nearest, the neighbours, the order, a little more. -/
import Derived.Test.YtndeimdfklhaiaaGreatDoorNearMath
namespace Go.Proofs.YtndeimdfklhaiaaGreatDoor.Ar
open Go.RowKit
set_option linter.unusedVariables false

theorem agn_cases (A B n : Int) (more : Bool) : (A < n * B ∧ agn A B n more = -1) ∨ (A = n * B ∧ agn A B n more = (if more = true then 1 else 0)) ∨ (n * B < A ∧ agn A B n more = 1) := by
  unfold agn
  by_cases h : A < n * B
  · exact Or.inl ⟨h, by rw [if_pos h]⟩
  · by_cases h2 : A = n * B
    · exact Or.inr (Or.inl ⟨h2, by rw [if_neg h, if_pos h2]⟩)
    · exact Or.inr (Or.inr ⟨by omega, by rw [if_neg h, if_neg h2]⟩)
theorem agn_no (A B n : Int) : (A < n * B ∧ agn A B n false = -1) ∨ (A = n * B ∧ agn A B n false = 0) ∨ (n * B < A ∧ agn A B n false = 1) := agn_cases A B n false
theorem most_odd : mostP % 2 = 1 := by decide
/-- the two together, against twice the number -/
theorem mid_mul (d B : Int) : (numW d + nxtN d) * B = numW d * B + nxtN d * B := Int.add_mul _ _ _
theorem nxt_gt (d : Int) : numW d < nxtN d := by unfold nxtN; have := pow_pos (stepN d); omega
theorem even_up {A B d : Int} {neg : Bool} : upP A B false neg 0 d = true ↔ ((numW d + nxtN d) * B < 2 * A ∨ (2 * A = (numW d + nxtN d) * B ∧ d % 2 = 1)) := by
  have e : upP A B false neg 0 d = (decide (0 < agn (2 * A) B (numW d + nxtN d) false) || (decide (agn (2 * A) B (numW d + nxtN d) false = 0) && decide (d % 2 = 1))) := rfl
  rw [e]
  rcases agn_no (2 * A) B (numW d + nxtN d) with ⟨h, k⟩ | ⟨h, k⟩ | ⟨h, k⟩
  · rw [k]; simp; omega
  · rw [k]; simp; omega
  · rw [k]; simp; omega
/-- Even's answer is the nearest -/
theorem even_near {A B b e : Int} {neg : Bool} (hB : 0 < B) (h : RoundIs A B false neg 0 b e) :
    (e = 70 ∧ b = 0 ∧ (numW mostP + nxtN mostP) * B ≤ 2 * A) ∨
    (e = 0 ∧ ∃ d, 0 ≤ d ∧ d ≤ mostP ∧ b = d + sgB neg ∧ 2 * A ≤ (numW d + nxtN d) * B ∧ (2 * A = (numW d + nxtN d) * B → d % 2 = 0 ∧ d ≠ mostP) ∧
      (d ≠ 0 → (numW (d - 1) + numW d) * B ≤ 2 * A ∧ ((numW (d - 1) + numW d) * B = 2 * A → d % 2 = 0))) := by
  obtain ⟨d, ⟨a1, a2, a3, a4⟩, h⟩ := h
  have hm := most_odd
  rcases h with ⟨c, rfl, rfl⟩ | ⟨⟨c1, c2⟩, h⟩
  · right
    refine ⟨rfl, d, a1, a2, rfl, ?_⟩
    have key : 2 * A ≤ (numW d + nxtN d) * B ∧ (2 * A = (numW d + nxtN d) * B → d % 2 = 0) := by
      have hg : numW d * B < nxtN d * B := Int.mul_lt_mul_of_pos_right (nxt_gt d) hB
      rcases c with c | c
      · rcases agn_no A B (numW d) with ⟨h1, k⟩ | ⟨h1, k⟩ | ⟨h1, k⟩
        · omega
        · rw [mid_mul]; omega
        · omega
      · have hu : ¬ ((numW d + nxtN d) * B < 2 * A ∨ (2 * A = (numW d + nxtN d) * B ∧ d % 2 = 1)) := fun hh => by
          rw [even_up.mpr hh] at c; cases c
        omega
    refine ⟨key.1, fun hh => ⟨key.2 hh, fun hq => by have := key.2 hh; rw [hq] at this; omega⟩, fun h0 => ?_⟩
    have hl : numW (d - 1) < numW d := by
      have := num_succ (p := d - 1) (by omega) (by omega)
      rw [show d - 1 + 1 = d by omega] at this
      rw [this]; exact nxt_gt _
    have hg : numW (d - 1) * B < numW d * B := Int.mul_lt_mul_of_pos_right hl hB
    rw [Int.add_mul]
    omega
  · obtain hu := even_up.mp c2
    rcases h with ⟨rfl, rfl, rfl⟩ | ⟨hd, rfl, rfl⟩
    · left; refine ⟨rfl, rfl, by omega⟩
    · right
      have hs := num_succ a1 hd
      refine ⟨rfl, d + 1, by omega, by omega, rfl, ?_⟩
      have hlt : A < numW (d + 1) * B := by rcases a4 with a4 | a4 <;> omega
      have hg : numW (d + 1) * B < nxtN (d + 1) * B := Int.mul_lt_mul_of_pos_right (nxt_gt _) hB
      rw [mid_mul]
      refine ⟨by omega, fun hh => by omega, fun _ => ?_⟩
      rw [show d + 1 - 1 = d by omega, hs]
      rw [hs] at hg hlt
      omega
/-- Inward and Outward: the two neighbours -/
theorem inward_is {A B b e : Int} {neg : Bool} (h : RoundIs A B false neg 1 b e) : e = 0 ∧ ∃ d, BelP A B d ∧ b = d + sgB neg := by
  obtain ⟨d, hd, h⟩ := h
  rcases h with ⟨_, rfl, rfl⟩ | ⟨⟨_, c2⟩, _⟩
  · exact ⟨rfl, d, hd, rfl⟩
  · have : upP A B false neg 1 d = false := rfl
    rw [this] at c2; cases c2
theorem outward_is {A B b e : Int} {neg : Bool} (h : RoundIs A B false neg 2 b e) : ∃ d, BelP A B d ∧ ((A = numW d * B ∧ b = d + sgB neg ∧ e = 0) ∨ (numW d * B < A ∧ d = mostP ∧ b = 0 ∧ e = 70) ∨ (numW d * B < A ∧ d < mostP ∧ b = d + 1 + sgB neg ∧ e = 0)) := by
  obtain ⟨d, hd, h⟩ := h
  have hu : upP A B false neg 2 d = true := rfl
  obtain ⟨a1, a2, a3, a4⟩ := hd
  refine ⟨d, ⟨a1, a2, a3, a4⟩, ?_⟩
  rcases h with ⟨c, rfl, rfl⟩ | ⟨⟨c1, _⟩, h⟩
  · rcases c with c | c
    · rcases agn_no A B (numW d) with ⟨h1, k⟩ | ⟨h1, k⟩ | ⟨h1, k⟩
      · omega
      · exact Or.inl ⟨h1, rfl, rfl⟩
      · omega
    · rw [hu] at c; cases c
  · have hlt : numW d * B < A := by
      rcases agn_no A B (numW d) with ⟨h1, k⟩ | ⟨h1, k⟩ | ⟨h1, k⟩
      · omega
      · exact absurd k c1
      · exact h1
    rcases h with ⟨h1, h2, h3⟩ | ⟨h1, h2, h3⟩
    · exact Or.inr (Or.inl ⟨hlt, h1, h2, h3⟩)
    · exact Or.inr (Or.inr ⟨hlt, h1, h2, h3⟩)
/-- Up and Down are these, by the sign -/
theorem up_is {A B b e : Int} {neg more : Bool} : RoundIs A B more neg 3 b e ↔ RoundIs A B more neg (if neg = true then 1 else 2) b e := by
  have : ∀ d, upP A B more neg 3 d = upP A B more neg (if neg = true then 1 else 2) d := fun d => by cases neg <;> rfl
  unfold RoundIs
  simp only [this]
theorem down_is {A B b e : Int} {neg more : Bool} : RoundIs A B more neg 4 b e ↔ RoundIs A B more neg (if neg = true then 2 else 1) b e := by
  have : ∀ d, upP A B more neg 4 d = upP A B more neg (if neg = true then 2 else 1) d := fun d => by cases neg <;> rfl
  unfold RoundIs
  simp only [this]
/-- a little more: by any number of parts above two -/
theorem agn_more {A B n K : Int} (hK : 2 < K) : agn (2 * (A * K + 1)) (B * K) n false = agn (2 * A) B n true := by
  have e : n * (B * K) = n * B * K := by rw [Int.mul_assoc]
  have e2 : 2 * (A * K + 1) = 2 * A * K + 2 := by rw [Int.mul_add, Int.mul_assoc]; omega
  rcases agn_cases (2 * A) B n true with ⟨h, k⟩ | ⟨h, k⟩ | ⟨h, k⟩
  · rw [k]
    unfold agn
    rw [e, e2]
    have : (2 * A + 1) * K ≤ n * B * K := Int.mul_le_mul_of_nonneg_right (by omega) (by omega)
    rw [Int.add_mul, Int.one_mul] at this
    rw [if_pos (by omega)]
  · rw [k]
    unfold agn
    rw [e, e2, ← h, if_neg (by omega), if_neg (by omega)]
    rfl
  · rw [k]
    unfold agn
    rw [e, e2]
    have : n * B * K < 2 * A * K := Int.mul_lt_mul_of_pos_right h (by omega)
    rw [if_neg (by omega), if_neg (by omega)]
theorem agn_half (A B n : Int) (more : Bool) : agn (2 * A) B (2 * n) more = agn A B n more := by
  have e : 2 * n * B = n * B * 2 := by rw [Int.mul_assoc, Int.mul_comm]
  have e2 : 2 * A = A * 2 := Int.mul_comm _ _
  rw [agn_agn0, agn_agn0, e, e2, agn0_scale (by omega)]
theorem round_more {A B K mode b e : Int} {neg : Bool} (hK : 2 < K) : RoundIs (A * K + 1) (B * K) false neg mode b e ↔ RoundIs A B true neg mode b e := by
  have hb : ∀ d, BelP (A * K + 1) (B * K) d ↔ BelP A B d := fun d => by
    unfold BelP
    have key : ∀ n : Int, A * K + 1 < n * (B * K) ↔ A < n * B := fun n => by
      have e : n * (B * K) = n * B * K := by rw [Int.mul_assoc]
      rw [e]
      constructor
      · intro h
        apply Decidable.byContradiction
        intro hc
        have : n * B * K ≤ A * K := Int.mul_le_mul_of_nonneg_right (by omega) (by omega)
        omega
      · intro h
        have : (A + 1) * K ≤ n * B * K := Int.mul_le_mul_of_nonneg_right (by omega) (by omega)
        rw [Int.add_mul, Int.one_mul] at this
        omega
    have k1 := key (numW d)
    have k2 := key (numW (d + 1))
    rw [k2]
    constructor
    · rintro ⟨a1, a2, a3, a4⟩
      exact ⟨a1, a2, by omega, a4⟩
    · rintro ⟨a1, a2, a3, a4⟩
      exact ⟨a1, a2, by omega, a4⟩
  have ha : ∀ n, agn (A * K + 1) (B * K) n false = agn A B n true := fun n => by
    rw [← agn_half, agn_more hK, agn_half]
  have hu : ∀ d, upP (A * K + 1) (B * K) false neg mode d = upP A B true neg mode d := fun d => by
    unfold upP
    rw [agn_more hK]
  unfold RoundIs
  simp only [hb, ha, hu]
/-- the lesser is not rounded above the greater -/
theorem round_mono {A B A' B' mode b e b' e' : Int} {neg : Bool} (hB : 0 < B) (hB' : 0 < B') (hl : A * B' ≤ A' * B) (h : RoundIs A B false neg mode b e) (h' : RoundIs A' B' false neg mode b' e') (he : e = 0) (he' : e' = 0) : b ≤ b' := by
  obtain ⟨d, ⟨a1, a2, a3, a4⟩, h⟩ := h
  obtain ⟨d', ⟨b1, b2, b3, b4⟩, h'⟩ := h'
  -- held crosswise
  have cr : ∀ n : Int, n * B ≤ A → n * B' ≤ A' := fun n hn => by
    apply Decidable.byContradiction
    intro hc
    have h1 : n * B * B' ≤ A * B' := Int.mul_le_mul_of_nonneg_right hn (by omega)
    have h2 : A' * B < n * B' * B := Int.mul_lt_mul_of_pos_right (by omega) hB
    have h3 : n * B' * B = n * B * B' := by rw [Int.mul_assoc, Int.mul_comm B', ← Int.mul_assoc]
    omega
  have cs : ∀ n : Int, n * B < A → n * B' < A' := fun n hn => by
    apply Decidable.byContradiction
    intro hc
    have h1 : n * B * B' < A * B' := Int.mul_lt_mul_of_pos_right hn hB'
    have h2 : A' * B ≤ n * B' * B := Int.mul_le_mul_of_nonneg_right (by omega) (by omega)
    have h3 : n * B' * B = n * B * B' := by rw [Int.mul_assoc, Int.mul_comm B', ← Int.mul_assoc]
    omega
  have hdd : d ≤ d' := by
    apply Decidable.byContradiction
    intro hc
    have h1 := cr _ a3
    rcases b4 with b4 | b4
    · omega
    · have := num_mono (p := d' + 1) (q := d) (by omega) (by omega) a2
      have : numW (d' + 1) * B' ≤ numW d * B' := Int.mul_le_mul_of_nonneg_right this (by omega)
      omega
  -- the answers, without their sign
  have hb1 : b = d + sgB neg ∨ (b = d + 1 + sgB neg ∧ agn A B (numW d) false ≠ 0 ∧ upP A B false neg mode d = true) := by
    rcases h with ⟨_, h, _⟩ | ⟨⟨c1, c2⟩, ⟨_, _, x⟩ | ⟨_, h, _⟩⟩
    · exact Or.inl h
    · omega
    · exact Or.inr ⟨h, c1, c2⟩
  have hb2 : (b' = d' + sgB neg ∧ (agn A' B' (numW d') false = 0 ∨ upP A' B' false neg mode d' = false)) ∨ b' = d' + 1 + sgB neg := by
    rcases h' with ⟨c, h, _⟩ | ⟨_, ⟨_, _, x⟩ | ⟨_, h, _⟩⟩
    · exact Or.inl ⟨h, c⟩
    · omega
    · exact Or.inr h
  by_cases e0 : d = d'
  · subst e0
    rcases hb1 with hb1 | ⟨hb1, c1, c2⟩
    · rcases hb2 with ⟨hb2, _⟩ | hb2 <;> omega
    · rcases hb2 with ⟨hb2, c⟩ | hb2
      · exfalso
        have hgt : numW d * B < A := by
          rcases agn_no A B (numW d) with ⟨h1, k⟩ | ⟨h1, k⟩ | ⟨h1, k⟩
          · omega
          · exact absurd k c1
          · exact h1
        have hgt' := cs _ hgt
        rcases c with c | c
        · rcases agn_no A' B' (numW d) with ⟨h1, k⟩ | ⟨h1, k⟩ | ⟨h1, k⟩ <;> omega
        · unfold upP at c c2
          by_cases m1 : mode = 1
          · rw [if_pos m1] at c2; cases c2
          · rw [if_neg m1] at c c2
            by_cases m2 : mode = 2
            · rw [if_pos m2] at c; cases c
            · rw [if_neg m2] at c c2
              by_cases m3 : mode = 3
              · rw [if_pos m3] at c c2; rw [c] at c2; cases c2
              · rw [if_neg m3] at c c2
                by_cases m4 : mode = 4
                · rw [if_pos m4] at c c2; rw [c] at c2; cases c2
                · rw [if_neg m4] at c c2
                  have c2' : (numW d + nxtN d) * B < 2 * A ∨ (2 * A = (numW d + nxtN d) * B ∧ d % 2 = 1) := even_up (neg := neg).mp c2
                  have c' : ¬ ((numW d + nxtN d) * B' < 2 * A' ∨ (2 * A' = (numW d + nxtN d) * B' ∧ d % 2 = 1)) := fun hh => by
                    have := even_up (neg := neg).mpr hh
                    have e9 : upP A' B' false neg 0 d = false := c
                    rw [e9] at this; cases this
                  -- twice the numbers, crosswise
                  have h2 : (2 * A) * B' ≤ (2 * A') * B := by rw [Int.mul_assoc, Int.mul_assoc]; omega
                  generalize numW d + nxtN d = n at *
                  have h3 : n * B' * B = n * B * B' := by rw [Int.mul_assoc, Int.mul_comm B', ← Int.mul_assoc]
                  rcases c2' with c2' | ⟨c2', c3⟩
                  · have h4 : n * B * B' < 2 * A * B' := Int.mul_lt_mul_of_pos_right c2' hB'
                    have h5 : ¬ (2 * A' ≤ n * B') := fun hh => by
                      have : 2 * A' * B ≤ n * B' * B := Int.mul_le_mul_of_nonneg_right hh (by omega)
                      omega
                    omega
                  · have h5 : ¬ (2 * A' < n * B') := fun hh => by
                      have : 2 * A' * B < n * B' * B := Int.mul_lt_mul_of_pos_right hh hB
                      rw [c2'] at h2
                      omega
                    omega
      · omega
  · rcases hb1 with hb1 | ⟨hb1, _, _⟩ <;> rcases hb2 with ⟨hb2, _⟩ | hb2 <;> omega
end Go.Proofs.YtndeimdfklhaiaaGreatDoor.Ar
