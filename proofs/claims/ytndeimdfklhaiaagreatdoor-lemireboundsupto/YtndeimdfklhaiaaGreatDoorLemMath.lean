/- Plain numbers: lemire's rounding. -/
import Derived.Test.YtndeimdfklhaiaaGreatDoorNearQuo
namespace Go.Proofs.YtndeimdfklhaiaaGreatDoor.Ar
open Go.RowKit
set_option linter.unusedVariables false

/-! ### a rest below the last place, of a whole of 55 bits and more -/
theorem snapL {W T m : Int} {j : Nat} (hW : 18014398509481984 ≤ W) (hm : m < 18014398509481984) (hm0 : 0 ≤ m) (h : W * e2 T < m * 2 ^ j * e2 (-T)) : W * e2 T + e2 T ≤ m * 2 ^ j * e2 (-T) := by
  by_cases hT : 0 ≤ T
  · rw [e2_zero (k := -T) (by omega), Int.mul_one] at h ⊢
    obtain ⟨t, rfl⟩ : ∃ t : Nat, T = t := ⟨T.toNat, by omega⟩
    have e : e2 (t : Int) = 2 ^ t := by unfold e2; rw [Int.toNat_natCast]
    rw [e] at h ⊢
    have ht : t ≤ j := by
      apply Decidable.byContradiction
      intro hc
      have hp := pow_pos j
      have s : (2 : Int) ^ t = 2 ^ j * 2 ^ (t - j) := by rw [← Int.pow_add]; congr 1; omega
      have hq := pow_pos (t - j)
      have h3 : m * 2 ^ j ≤ W * 2 ^ t := by
        rw [s, Int.mul_comm W, Int.mul_assoc, Int.mul_comm m]
        apply Int.mul_le_mul_of_nonneg_left _ (by omega)
        rw [Int.mul_comm]
        have h5 : W * 1 ≤ W * 2 ^ (t - j) := Int.mul_le_mul_of_nonneg_left (by omega) (by omega)
        omega
      omega
    have s : (2 : Int) ^ j = 2 ^ (j - t) * 2 ^ t := by rw [← Int.pow_add]; congr 1; omega
    rw [s, ← Int.mul_assoc] at h ⊢
    have hp := pow_pos t
    have h5 : W < m * 2 ^ (j - t) := (lt_scale hp).mp h
    have h6 : (W + 1) * 2 ^ t ≤ m * 2 ^ (j - t) * 2 ^ t := Int.mul_le_mul_of_nonneg_right (by omega) (by omega)
    rw [Int.add_mul, Int.one_mul] at h6
    exact h6
  · rw [e2_zero (k := T) (by omega)] at h ⊢
    omega
theorem snapL2 {W T m : Int} {j : Nat} (hW : 18014398509481984 ≤ W) (hm : m < 18014398509481984) (hm0 : 0 ≤ m) (h : 2 * (W * e2 T) < m * 2 ^ j * e2 (-T)) : 2 * (W * e2 T + e2 T) ≤ m * 2 ^ j * e2 (-T) := by
  by_cases hT : 0 ≤ T
  · have e : e2 (T + 1) = 2 * e2 T := by rw [e2_add hT (by omega), e2_one, Int.mul_comm]
    have e0 : e2 (-(T + 1)) = e2 (-T) := by rw [e2_zero (by omega), e2_zero (by omega)]
    have := snapL (W := W) (T := T + 1) (m := m) (j := j) hW hm hm0
    rw [e, e0, show W * (2 * e2 T) = 2 * (W * e2 T) by rw [← Int.mul_assoc, Int.mul_comm W 2, Int.mul_assoc]] at this
    have := this h
    omega
  · rw [e2_zero (k := T) (by omega)] at h ⊢
    have e : e2 (-T) = 2 * e2 (-T - 1) := by
      have : e2 (1 + (-T - 1)) = e2 1 * e2 (-T - 1) := e2_add (by omega) (by omega)
      rw [show 1 + (-T - 1) = -T by omega, e2_one] at this
      exact this
    have e9 : m * 2 ^ j * (2 * e2 (-T - 1)) = 2 * (m * 2 ^ j * e2 (-T - 1)) := Int.mul_left_comm _ _ _
    rw [e, e9] at h ⊢
    omega
/-- whole with its rest: rounded as whole and a little more -/
theorem round_restL {W T G F mode b e : Int} {more neg : Bool} (hG : 0 < G) (hF0 : 0 ≤ F) (hF1 : F < G) (hmore : more = true ↔ F ≠ 0) (hW : F = 0 ∨ 18014398509481984 ≤ W) :
    RoundIs ((W * G + F) * e2 T) (G * e2 (-T)) false neg mode b e ↔ RoundIs (W * e2 T) (e2 (-T)) more neg mode b e := by
  have hu := e2_pos T
  have a1 : ∀ d, 0 ≤ d → d ≤ mostP → agn ((W * G + F) * e2 T) (G * e2 (-T)) (numW d) false = agn (W * e2 T) (e2 (-T)) (numW d) more := fun d h0 h1 => by
    refine agn_rest hu hG hF0 hF1 hmore (hW.imp id fun hW => ?_)
    obtain ⟨m, j, e1, e2', e3, _⟩ := pat_test h0 h1
    rw [e1]
    exact snapL hW (by omega) e2'
  have a2 : ∀ d, 0 ≤ d → d ≤ mostP → agn (2 * ((W * G + F) * e2 T)) (G * e2 (-T)) (numW d + nxtN d) false = agn (2 * (W * e2 T)) (e2 (-T)) (numW d + nxtN d) more := fun d h0 h1 => by
    have q1 : 2 * ((W * G + F) * e2 T) = (W * G + F) * (2 * e2 T) := by rw [← Int.mul_assoc, Int.mul_comm 2, Int.mul_assoc]
    have q2 : 2 * (W * e2 T) = W * (2 * e2 T) := by rw [← Int.mul_assoc, Int.mul_comm 2, Int.mul_assoc]
    rw [q1, q2]
    refine agn_rest (by omega) hG hF0 hF1 hmore (hW.imp id fun hW => ?_)
    obtain ⟨m, j, _, e2', e3, e1⟩ := pat_test h0 h1
    rw [e1]
    have := snapL2 (T := T) (m := 2 * m + 1) (j := j) hW (by omega) (by omega)
    rw [q2, show 2 * (W * e2 T + e2 T) = 2 * (W * e2 T) + 2 * e2 T by omega, q2] at this
    exact this
  have key : ∀ d, 0 ≤ d → d ≤ mostP → ((W * G + F) * e2 T < numW d * (G * e2 (-T)) ↔ W * e2 T < numW d * e2 (-T)) := fun d h0 h1 => by
    have h := a1 d h0 h1
    rcases agn_cases ((W * G + F) * e2 T) (G * e2 (-T)) (numW d) false with ⟨x, k⟩ | ⟨x, k⟩ | ⟨x, k⟩ <;> rcases agn_cases (W * e2 T) (e2 (-T)) (numW d) more with ⟨y, l⟩ | ⟨y, l⟩ | ⟨y, l⟩ <;> rw [k, l] at h <;>
      first
        | exact ⟨fun _ => y, fun _ => x⟩
        | exact ⟨fun z => absurd z (by omega), fun z => absurd z (by omega)⟩
        | (exfalso; revert h; split <;> simp)
        | (exfalso; simp at h)
  have hb : ∀ d, BelP ((W * G + F) * e2 T) (G * e2 (-T)) d ↔ BelP (W * e2 T) (e2 (-T)) d := fun d => by
    unfold BelP
    constructor
    · rintro ⟨c1, c2, c3, c4⟩
      have k1 := key d c1 c2
      refine ⟨c1, c2, by omega, ?_⟩
      rcases c4 with c4 | c4
      · exact Or.inl c4
      · by_cases he : d = mostP
        · exact Or.inl he
        · exact Or.inr ((key (d + 1) (by omega) (by omega)).mp c4)
    · rintro ⟨c1, c2, c3, c4⟩
      have k1 := key d c1 c2
      refine ⟨c1, c2, by omega, ?_⟩
      rcases c4 with c4 | c4
      · exact Or.inl c4
      · by_cases he : d = mostP
        · exact Or.inl he
        · exact Or.inr ((key (d + 1) (by omega) (by omega)).mpr c4)
  have hu2 : ∀ d, 0 ≤ d → d ≤ mostP → upP ((W * G + F) * e2 T) (G * e2 (-T)) false neg mode d = upP (W * e2 T) (e2 (-T)) more neg mode d := fun d h0 h1 => by
    unfold upP
    rw [a2 d h0 h1]
  unfold RoundIs
  constructor
  · rintro ⟨d, h1, h2⟩
    refine ⟨d, (hb d).mp h1, ?_⟩
    rw [← a1 d h1.1 h1.2.1, ← hu2 d h1.1 h1.2.1]
    exact h2
  · rintro ⟨d, h1, h2⟩
    refine ⟨d, (hb d).mpr h1, ?_⟩
    rw [a1 d h1.1 h1.2.1, hu2 d h1.1 h1.2.1]
    exact h2
/-! ### powers of two moved between the number and its exponent -/
theorem step2 (X : Int) (k : Nat) : 2 ^ k * e2 X * e2 (-(X + k)) = e2 (X + k) * e2 (-X) := by
  have hk : e2 (k : Int) = 2 ^ k := by unfold e2; rw [Int.toNat_natCast]
  by_cases h : 0 ≤ X
  · rw [e2_zero (k := -(X + k)) (by omega), e2_zero (k := -X) (by omega), Int.mul_one, Int.mul_one, ← hk, Int.mul_comm, ← e2_add h (by omega)]
  · rw [e2_zero (k := X) (by omega), Int.mul_one]
    by_cases h2 : 0 ≤ X + k
    · rw [e2_zero (k := -(X + k)) (by omega), Int.mul_one, ← hk, ← e2_add h2 (by omega)]
      congr 1; omega
    · rw [e2_zero (k := X + k) (by omega), Int.one_mul, ← hk, ← e2_add (by omega) (by omega)]
      congr 1; omega
theorem scB_pos' {D x : Int} (hD : 0 < D) : 0 < scB D x := by unfold scB; exact Int.mul_pos hD (e2_pos _)
theorem round_move {W x mode b e : Int} {k : Nat} {more neg : Bool} : RoundIs (scA (W * 2 ^ k) (x - k)) (scB 1 (x - k)) more neg mode b e ↔ RoundIs (scA W x) (scB 1 x) more neg mode b e := by
  apply round_cross (scB_pos' (by omega)) (scB_pos' (by omega))
  unfold scA scB
  have h := step2 (x - k + 1074) k
  have e1 : x - k + 1074 + k = x + 1074 := by omega
  rw [e1] at h
  rw [Int.one_mul, Int.one_mul, Int.mul_assoc, Int.mul_assoc, ← Int.mul_assoc (2 ^ k), h, Int.mul_assoc]
/-- a number with a rest, as a whole with a greater exponent and a little more -/
theorem round_restS {W F x mode b e : Int} {g : Nat} {more neg : Bool} (hF0 : 0 ≤ F) (hF1 : F < 2 ^ g) (hmore : more = true ↔ F ≠ 0) (hW : F = 0 ∨ 18014398509481984 ≤ W) :
    RoundIs (scA W (x + g)) (scB 1 (x + g)) more neg mode b e ↔ RoundIs (scA (W * 2 ^ g + F) x) (scB 1 x) false neg mode b e := by
  have hG : (0 : Int) < 2 ^ g := pow_pos g
  have r := round_restL (T := x + g + 1074) (mode := mode) (neg := neg) (b := b) (e := e) hG hF0 hF1 hmore hW
  have h1 : RoundIs (scA W (x + g)) (scB 1 (x + g)) more neg mode b e ↔ RoundIs (W * e2 (x + g + 1074)) (e2 (-(x + g + 1074))) more neg mode b e := by unfold scA scB; rw [Int.one_mul]
  rw [h1, ← r]
  apply round_cross (Int.mul_pos hG (e2_pos _)) (scB_pos' (by omega))
  unfold scA scB
  have h := step2 (x + 1074) g
  have e1 : x + 1074 + g = x + g + 1074 := by omega
  rw [e1] at h
  rw [Int.one_mul, Int.mul_assoc, Int.mul_assoc, ← h]
  congr 1
  rw [← Int.mul_assoc, Int.mul_comm (e2 (x + 1074))]
theorem round_restD {W D F N x mode b e : Int} {more neg : Bool} (hD : 0 < D) (hN : N = W * D + F) (hF0 : 0 ≤ F) (hF1 : F < D) (hmore : more = true ↔ F ≠ 0) (hW : F = 0 ∨ 18014398509481984 ≤ W) :
    RoundIs (scA W x) (scB 1 x) more neg mode b e ↔ RoundIs (scA N x) (scB D x) false neg mode b e := by
  have r := round_restL (T := x + 1074) (mode := mode) (neg := neg) (b := b) (e := e) hD hF0 hF1 hmore hW
  have h1 : RoundIs (scA W x) (scB 1 x) more neg mode b e ↔ RoundIs (W * e2 (x + 1074)) (e2 (-(x + 1074))) more neg mode b e := by unfold scA scB; rw [Int.one_mul]
  rw [h1, ← r, hN]
  exact Iff.rfl
/-! ### one word, rounded -/
/-- does the mantissa go on to the next one? -/
def upB (kept rest : Int) (more : Bool) : Bool := if rest = 9223372036854775808 ∧ more = false then decide (kept % 2 = 1) else decide (9223372036854775808 ≤ rest)
/-- what lies behind -/
def kB (r P : Int) (more : Bool) : Int := if r = 0 ∧ more = false then 0 else if 2 * r < P then 1 else if 2 * r = P ∧ more = false then 2 else 3
theorem kB_beh {r P : Int} {more : Bool} (h0 : 0 ≤ r) (hP : 0 < P) : BehK r P more (kB r P more) := by
  unfold kB BehK
  by_cases h1 : r = 0 ∧ more = false
  · rw [if_pos h1]; left; exact ⟨rfl, h1.1, h1.2⟩
  · rw [if_neg h1]
    by_cases h2 : 2 * r < P
    · rw [if_pos h2]; right; left
      refine ⟨rfl, h2, ?_⟩
      by_cases hr : r = 0
      · right
        cases more
        · exact absurd ⟨hr, rfl⟩ h1
        · rfl
      · left; omega
    · rw [if_neg h2]
      by_cases h3 : 2 * r = P ∧ more = false
      · rw [if_pos h3]; right; right; left; exact ⟨rfl, h3.1, h3.2⟩
      · rw [if_neg h3]; right; right; right
        refine ⟨rfl, ?_⟩
        by_cases h4 : 2 * r = P
        · right
          refine ⟨h4, ?_⟩
          cases more
          · exact absurd ⟨h4, rfl⟩ h3
          · rfl
        · left; omega
theorem kB_on {r P m : Int} {more : Bool} : onK false 0 m (kB r P more) = if 2 * r = P ∧ r ≠ 0 ∧ more = false then decide (m % 2 = 1) else decide (P ≤ 2 * r ∧ (r ≠ 0 ∨ more = true)) := by
  unfold kB onK
  rw [if_pos (rfl : (0 : Int) = 0)]
  by_cases h1 : r = 0 ∧ more = false
  · rw [if_pos h1, if_neg (fun h => h.2.1 h1.1)]
    simp [h1.1, h1.2]
  · rw [if_neg h1]
    by_cases h2 : 2 * r < P
    · rw [if_pos h2, if_neg (by omega)]
      have : ¬ (P ≤ 2 * r) := by omega
      simp [this]
    · rw [if_neg h2]
      have hor : r ≠ 0 ∨ more = true := by
        by_cases hr : r = 0
        · right
          cases more
          · exact absurd ⟨hr, rfl⟩ h1
          · rfl
        · exact Or.inl hr
      have h2' : P ≤ 2 * r := by omega
      by_cases h3 : 2 * r = P ∧ more = false
      · have hr : r ≠ 0 := by
          rcases hor with h | h
          · exact h
          · rw [h3.2] at h; cases h
        rw [if_pos h3, if_pos ⟨h3.1, hr, h3.2⟩]
        simp
      · rw [if_neg h3, if_neg (fun h => h3 ⟨h.1, h.2.2⟩)]
        simp [hor, h2']
/-- the word's cut: what is kept, what lies behind -/
theorem lem_cut {word D m : Int} {more : Bool} (h0 : 9223372036854775808 ≤ word) (h1 : word < 18446744073709551616) (hD : 11 ≤ D) :
    srHi word 0 (clampN D) = word / e2 D ∧ upB m (srLo word 0 (clampN D)) more = onK false 0 m (kB (word % e2 D) (e2 D) more) := by
  by_cases hl : D ≤ 64
  · obtain ⟨t, rfl⟩ : ∃ t : Nat, D = t := ⟨D.toNat, by omega⟩
    have hc : clampN (t : Int) = t := by unfold clampN; rw [if_neg (by omega), if_neg (by omega), Int.toNat_natCast]
    have he : e2 (t : Int) = 2 ^ t := by unfold e2; rw [Int.toNat_natCast]
    rw [hc, he]
    have hP := pow_pos t
    have hQ := pow_pos (64 - t)
    have hPQ : (2 : Int) ^ t * 2 ^ (64 - t) = 18446744073709551616 := by rw [← Int.pow_add, show t + (64 - t) = 64 by omega]; rfl
    have h2 : (2 : Int) ≤ 2 ^ t := by
      have : (2 : Int) ^ t = 2 * 2 ^ (t - 1) := by
        have q : t = (t - 1) + 1 := by omega
        rw [q, Int.pow_succ, Int.mul_comm]; rfl
      have := pow_pos (t - 1)
      omega
    have hw := Int.ediv_mul_add_emod word (2 ^ t)
    have hr0 := Int.emod_nonneg word (show (2 : Int) ^ t ≠ 0 by omega)
    have hr1 := Int.emod_lt_of_pos word hP
    unfold srHi srLo
    generalize (2 : Int) ^ t = P at *
    generalize (2 : Int) ^ (64 - t) = Q at *
    generalize word / P = a at *
    generalize word % P = r at *
    have hrQ0 : 0 ≤ r * Q := Int.mul_nonneg hr0 (by omega)
    have hrQ1 : r * Q < 18446744073709551616 := by rw [← hPQ]; exact Int.mul_lt_mul_of_pos_right hr1 hQ
    have e1 : (word * 18446744073709551616 + 0) / P = a * 18446744073709551616 + r * Q := by
      have : word * 18446744073709551616 + 0 = (a * 18446744073709551616 + r * Q) * P := by
        rw [← hw, ← hPQ]
        grind
      rw [this, Int.mul_ediv_cancel _ (by omega)]
    rw [e1]
    have e2' : (a * 18446744073709551616 + r * Q) / 18446744073709551616 = a := by omega
    have e3 : (a * 18446744073709551616 + r * Q) % 18446744073709551616 = r * Q := by omega
    rw [e2', e3]
    refine ⟨rfl, ?_⟩
    rw [kB_on]
    unfold upB
    have hh : (2 : Int) * (r * Q) = 2 * r * Q := by rw [Int.mul_assoc]
    have k1 : r * Q = 9223372036854775808 ↔ 2 * r = P := by
      constructor
      · intro h
        have : 2 * r * Q = P * Q := by rw [hPQ, ← hh, h]; rfl
        exact Int.eq_of_mul_eq_mul_right (by omega) this
      · intro h
        have : 2 * r * Q = P * Q := by rw [h]
        rw [hPQ, ← hh] at this
        omega
    have k2 : 9223372036854775808 ≤ r * Q ↔ P ≤ 2 * r := by
      constructor
      · intro h
        have : P * Q ≤ 2 * r * Q := by rw [hPQ, ← hh]; omega
        exact Int.le_of_mul_le_mul_right this hQ
      · intro h
        have : P * Q ≤ 2 * r * Q := Int.mul_le_mul_of_nonneg_right h (by omega)
        rw [hPQ, ← hh] at this
        omega
    by_cases c : 2 * r = P ∧ more = false
    · rw [if_pos ⟨k1.mpr c.1, c.2⟩, if_pos ⟨c.1, by omega, c.2⟩]
    · rw [if_neg (fun h => c ⟨k1.mp h.1, h.2⟩), if_neg (fun h => c ⟨h.1, h.2.2⟩)]
      apply decide_eq_decide.mpr
      rw [k2]
      constructor
      · intro h
        exact ⟨h, Or.inl (by omega)⟩
      · exact fun h => h.1
  · have hc : 65 ≤ clampN D ∧ clampN D ≤ 128 := by unfold clampN; rw [if_neg (by omega)]; split <;> omega
    obtain ⟨u, hu⟩ : ∃ u : Nat, clampN D = 65 + u := ⟨clampN D - 65, by omega⟩
    have hE : e2 65 ≤ e2 D := e2_le (by omega)
    have h65 : e2 65 = 36893488147419103232 := rfl
    rw [h65] at hE
    have d0 : word / e2 D = 0 := Int.ediv_eq_zero_of_lt (by omega) (by omega)
    have m0 : word % e2 D = word := Int.emod_eq_of_lt (by omega) (by omega)
    have hp : (2 : Int) ^ (clampN D) = 36893488147419103232 * 2 ^ u := by rw [hu, Int.pow_add]; rfl
    have hu0 := pow_pos u
    have q1 : (word * 18446744073709551616 + 0) / 2 ^ (clampN D) < 9223372036854775808 := by
      apply Int.ediv_lt_of_lt_mul (by rw [hp]; omega)
      rw [hp]
      omega
    have q0 : 0 ≤ (word * 18446744073709551616 + 0) / 2 ^ (clampN D) := Int.ediv_nonneg (by omega) (by rw [hp]; omega)
    unfold srHi srLo
    generalize (word * 18446744073709551616 + 0) / 2 ^ (clampN D) = q at *
    rw [d0, m0]
    refine ⟨by omega, ?_⟩
    have e3 : q % 18446744073709551616 = q := by omega
    rw [e3, kB_on]
    unfold upB
    rw [if_neg (by omega), if_neg (by omega)]
    apply decide_eq_decide.mpr
    constructor
    · intro h; omega
    · intro h; omega
theorem join_stay {m X : Int} (h0 : 0 ≤ m) (h1 : m < 9007199254740992) (hX : -1074 ≤ X) (h2 : X = -1074 ∨ 4503599627370496 ≤ m) :
    (X ≤ 971 → JoinIs false m X ((X + 1074) * 4503599627370496 + m) 0) ∧ (971 < X → JoinIs false m X 0 61) := by
  have hs : sgB false = 0 := rfl
  by_cases hm : m = 0
  · have : X = -1074 := by omega
    subst hm this
    refine ⟨fun _ => Or.inl ⟨rfl, by rw [hs]; rfl, rfl⟩, fun h => by omega⟩
  · have hn : Nf m X m X := ⟨sm_refl m X, hX, by omega, h1, h2⟩
    refine ⟨fun h => Or.inr ⟨hm, Or.inl ⟨m, X, hn, h, by rw [hs]; omega, rfl⟩⟩, fun h => Or.inr ⟨hm, Or.inr ⟨fun M Y hY => ?_, rfl, rfl⟩⟩⟩
    obtain ⟨_, rfl⟩ := nf_uniq hn hY
    exact h
theorem join_next {m X : Int} (h0 : 0 ≤ m) (h1 : m < 9007199254740992) (hX : -1074 ≤ X) (h2 : X = -1074 ∨ 4503599627370496 ≤ m) :
    (X ≤ 971 → (X + 1074) * 4503599627370496 + m < mostP → JoinIs false (m + 1) X ((X + 1074) * 4503599627370496 + m + 1) 0) ∧ (X ≤ 971 → (X + 1074) * 4503599627370496 + m = mostP → JoinIs false (m + 1) X 0 61) ∧ (971 < X → JoinIs false (m + 1) X 0 61) := by
  have hs : sgB false = 0 := rfl
  have em : mostP = 9218868437227405311 := rfl
  by_cases hm : m + 1 < 9007199254740992
  · obtain ⟨j1, j2⟩ := join_stay (m := m + 1) (X := X) (by omega) hm hX (by omega)
    refine ⟨fun h _ => ?_, fun h h' => ?_, j2⟩
    · rw [Int.add_assoc]; exact j1 h
    · rw [em] at h'; omega
  · have e : m = 9007199254740991 := by omega
    subst e
    have hn : Nf (9007199254740991 + 1) X 4503599627370496 (X + 1) := by
      refine ⟨Or.inr ⟨by omega, ?_⟩, by omega, by omega, by omega, Or.inr (by omega)⟩
      rw [show X + 1 - X = 1 by omega, e2_one]; rfl
    refine ⟨fun h h' => ?_, fun h h' => ?_, fun h => ?_⟩
    · exact Or.inr ⟨by omega, Or.inl ⟨_, _, hn, by rw [em] at h'; omega, by rw [hs]; omega, rfl⟩⟩
    · refine Or.inr ⟨by omega, Or.inr ⟨fun M Y hY => ?_, rfl, rfl⟩⟩
      obtain ⟨_, rfl⟩ := nf_uniq hn hY
      rw [em] at h'; omega
    · refine Or.inr ⟨by omega, Or.inr ⟨fun M Y hY => ?_, rfl, rfl⟩⟩
      obtain ⟨_, rfl⟩ := nf_uniq hn hY
      omega
/-- what is rounded, by the word's mantissa and what Join makes of it -/
theorem lem_rounded {word exp X kept rest m b c : Int} {more : Bool} (h0 : 9223372036854775808 ≤ word) (h1 : word < 18446744073709551616) (hX : X = max (exp + 11) (-1074))
    (hk : kept = srHi word 0 (clampN (X - exp))) (hr : rest = srLo word 0 (clampN (X - exp))) (hm : m = if upB kept rest more = true then kept + 1 else kept) (hj : JoinIs false m X b c) :
    (c = 0 ∧ RoundIs (scA word exp) (scB 1 exp) more false 0 b 0) ∨ (c = 61 ∧ RoundIs (scA word exp) (scB 1 exp) more false 0 0 70) := by
  have hq : e2 (64 - 1) ≤ word := by rw [show (64 - 1 : Int) = 63 by rfl, e2_63]; exact h0
  have hq2 : word < e2 64 := by rw [e2_64]; exact h1
  have hcX : cutX 64 exp = X := by unfold cutX; rw [hX]; congr 1; omega
  obtain ⟨f0, f1, f2⟩ := cut_form (x := exp) (show 0 < word by omega) (by omega) hq hq2
  have hn := cut_num (M := word) (L := 64) (x := exp) (by omega)
  have hcM : cutM word 64 exp = word / e2 (X - exp) := by unfold cutM; rw [hcX, e2_zero (k := -(X - exp)) (by omega), Int.mul_one]
  rw [hcM] at f0 f1 f2 hn
  rw [hcX] at f2 hn
  obtain ⟨l1, l2⟩ := lem_cut (m := kept) (more := more) h0 h1 (show 11 ≤ X - exp by omega)
  rw [l1] at hk
  rw [← hr] at l2
  rw [l2] at hm
  rw [← hk] at f0 f1 f2 hn
  have hp := e2_pos (X - exp)
  have hbeh := kB_beh (more := more) (Int.emod_nonneg word (show e2 (X - exp) ≠ 0 by omega)) hp
  have hB := scB_pos' (D := 1) (x := exp) (by omega)
  have hs : sgB false = 0 := rfl
  have hXX : -1074 ≤ X := by omega
  obtain ⟨j1, j2⟩ := join_stay f0 f1 hXX f2
  obtain ⟨n1, n2, n3⟩ := join_next f0 f1 hXX f2
  by_cases hx : X ≤ 971
  · obtain ⟨p0, p1, p2, p3, p4⟩ := pat_at f0 f1 hXX hx f2
    have hS : e2 (X - exp) * e2 (exp + 1074) = 2 ^ stepN ((X + 1074) * 4503599627370496 + kept) * scB 1 exp := by
      rw [p3]
      unfold scB
      rw [Int.one_mul, e2_shift (P := X + 1074) (T := exp + 1074) (by omega) (by omega)]
      congr 2; omega
    have hA : scA word exp = numW ((X + 1074) * 4503599627370496 + kept) * scB 1 exp + word % e2 (X - exp) * e2 (exp + 1074) := by
      rw [p2]
      unfold scA scB
      rw [Int.one_mul]
      exact hn
    have hq := e2_pos (exp + 1074)
    obtain ⟨r1, r2, r3⟩ := round_at (neg := false) (mode := 0) hB p0 p1 hA hS (Int.mul_nonneg (Int.emod_nonneg _ (by omega)) (by omega)) (Int.mul_lt_mul_of_pos_right (Int.emod_lt_of_pos _ hp) hq) (behK_scale hq hbeh) (by omega) (by omega)
    have hpar : onK false 0 ((X + 1074) * 4503599627370496 + kept) (kB (word % e2 (X - exp)) (e2 (X - exp)) more) = onK false 0 kept (kB (word % e2 (X - exp)) (e2 (X - exp)) more) := onK_par p4
    rw [hpar] at r1 r2 r3
    rw [hs] at r1 r2
    generalize onK false 0 kept (kB (word % e2 (X - exp)) (e2 (X - exp)) more) = g at *
    cases g
    · rw [if_neg (by simp)] at hm
      rw [hm] at hj
      obtain ⟨rfl, rfl⟩ := joinIs_uniq hj (j1 hx)
      left
      refine ⟨rfl, ?_⟩
      have := r1 rfl
      rw [Int.add_zero] at this
      exact this
    · rw [if_pos rfl] at hm
      rw [hm] at hj
      by_cases hd : (X + 1074) * 4503599627370496 + kept < mostP
      · obtain ⟨rfl, rfl⟩ := joinIs_uniq hj (n1 hx hd)
        left
        refine ⟨rfl, ?_⟩
        have := r2 rfl hd
        rw [Int.add_zero] at this
        exact this
      · obtain ⟨rfl, rfl⟩ := joinIs_uniq hj (n2 hx (by omega))
        right
        exact ⟨rfl, r3 rfl (by omega)⟩
  · have hj' : JoinIs false m X 0 61 := by
      rw [hm]
      split
      · exact n3 (by omega)
      · exact j2 (by omega)
    obtain ⟨rfl, rfl⟩ := joinIs_uniq hj hj'
    right
    refine ⟨rfl, ?_⟩
    have hh := cut_huge (M := word) (L := 64) (x := exp) hq (by omega) (by omega)
    exact (round_huge (mode := 0) (neg := false) (more := more) hB hh).1 (by omega)
end Go.Proofs.YtndeimdfklhaiaaGreatDoor.Ar
