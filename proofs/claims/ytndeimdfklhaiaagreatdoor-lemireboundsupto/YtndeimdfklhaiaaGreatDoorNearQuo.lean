/- Plain numbers: near's Scaled and Quotient: what they come to is the rounded number. -/
import Derived.Test.YtndeimdfklhaiaaGreatDoorNearCut
namespace Go.Proofs.YtndeimdfklhaiaaGreatDoor.Ar
open Go.RowKit
set_option linter.unusedVariables false

theorem behK_scale {R S k c : Int} {more : Bool} (hc : 0 < c) (h : BehK R S more k) : BehK (R * c) (S * c) more k := by
  have e : 2 * (R * c) = 2 * R * c := (Int.mul_assoc 2 R c).symm
  unfold BehK at *
  rw [e]
  rcases h with ⟨a, b, d⟩ | ⟨a, b, d⟩ | ⟨a, b, d⟩ | ⟨a, b⟩
  · left; exact ⟨a, by rw [b, Int.zero_mul], d⟩
  · right; left; exact ⟨a, (lt_scale hc).mpr b, d.imp (fun d => Int.mul_pos d hc) id⟩
  · right; right; left; exact ⟨a, by rw [b], d⟩
  · right; right; right; exact ⟨a, b.imp (fun b => (lt_scale hc).mpr b) (fun b => ⟨by rw [b.1], b.2⟩)⟩
/-- one bit -/
def bitE (M i : Int) : Int := if i < 0 then 0 else M / e2 i % 2
/-- what 'behind' answers -/
def kK (q z D : Int) (more : Bool) : Int := if q = 1 then (if more = true ∨ z < D - 1 then 3 else 2) else (if more = true ∨ z < D - 1 then 1 else 0)
theorem beh_all {M D T S z u : Int} {more : Bool} (hM : 0 < M) (hz : 0 ≤ z) (hu : u % 2 = 1) (hMu : M = e2 z * u) (hS0 : 0 < S) (hS : 0 ≤ D → S = e2 D * e2 T) :
    BehK (M % e2 D * e2 T) S more (kK (bitE M (D - 1)) z D more) ∧ 0 ≤ M % e2 D * e2 T ∧ M % e2 D * e2 T < S := by
  have hT := e2_pos T
  by_cases hD : 1 ≤ D
  · have h := beh_bits (more := more) hM hD hz hu hMu
    have h' := behK_scale hT h
    rw [hS (by omega)]
    have eb : bitE M (D - 1) = M / e2 (D - 1) % 2 := by unfold bitE; rw [if_neg (by omega)]
    unfold kK
    rw [eb]
    have p := e2_pos D
    exact ⟨h', Int.mul_nonneg (Int.emod_nonneg _ (by omega)) (by omega), (lt_scale hT).mpr (Int.emod_lt_of_pos _ p)⟩
  · have eb : bitE M (D - 1) = 0 := by unfold bitE; rw [if_pos (by omega)]
    unfold kK
    rw [eb, e2_zero (k := D) (by omega), Int.emod_one, Int.zero_mul, if_neg (by omega)]
    refine ⟨?_, by omega, hS0⟩
    unfold BehK
    by_cases hm : more = true
    · rw [if_pos (Or.inl hm)]; right; left; exact ⟨rfl, by omega, Or.inr hm⟩
    · rw [if_neg (fun h => h.elim hm (by omega))]; left; exact ⟨rfl, rfl, by simpa using hm⟩
/-- cut and rounded: three ends -/
def CutEnds (A B : Int) (more neg : Bool) (mode d m k : Int) : Prop :=
    (onK neg mode m k = false → RoundIs A B more neg mode (d + sgB neg) 0) ∧ (onK neg mode m k = true → d < mostP → RoundIs A B more neg mode (d + 1 + sgB neg) 0) ∧ (onK neg mode m k = true → d = mostP → RoundIs A B more neg mode 0 70)
theorem cut_round {M L x z u mode : Int} {more neg : Bool} (hM : 0 < M) (hL : 1 ≤ L) (h1 : e2 (L - 1) ≤ M) (h2 : M < e2 L) (hz : 0 ≤ z) (hu : u % 2 = 1) (hMu : M = e2 z * u) (hm0 : 0 ≤ mode) (hm1 : mode ≤ 4) (hX : cutX L x ≤ 971) :
    CutEnds (scA M x) (scB 1 x) more neg mode ((cutX L x + 1074) * 4503599627370496 + cutM M L x) (cutM M L x) (kK (bitE M (cutX L x - x - 1)) z (cutX L x - x) more) := by
  obtain ⟨f0, f1, f2⟩ := cut_form (x := x) hM hL h1 h2
  have hX0 : -1074 ≤ cutX L x := by unfold cutX; omega
  obtain ⟨p0, p1, p2, p3, p4⟩ := pat_at f0 f1 hX0 hX f2
  have cn := cut_num (L := L) (x := x) hM
  have hB := e2_pos (-(x + 1074))
  have hP := e2_pos (cutX L x + 1074)
  have sh : 0 ≤ cutX L x - x → e2 (cutX L x + 1074) * e2 (-(x + 1074)) = e2 (cutX L x - x) * e2 (x + 1074) := fun h => by
    have := e2_shift (P := cutX L x + 1074) (T := x + 1074) (by omega) (by omega)
    rw [show cutX L x + 1074 - (x + 1074) = cutX L x - x by omega] at this
    exact this
  obtain ⟨b1, b2, b3⟩ := beh_all (D := cutX L x - x) (T := x + 1074) (S := e2 (cutX L x + 1074) * e2 (-(x + 1074))) (more := more) hM hz hu hMu (Int.mul_pos hP hB) sh
  unfold CutEnds
  rw [onK_par (d := cutM M L x) (d' := (cutX L x + 1074) * 4503599627370496 + cutM M L x) p4.symm]
  unfold scA scB
  rw [Int.one_mul]
  generalize (cutX L x + 1074) * 4503599627370496 + cutM M L x = d at *
  exact round_at (R := M % e2 (cutX L x - x) * e2 (x + 1074)) (S := e2 (cutX L x + 1074) * e2 (-(x + 1074))) hB p0 p1 (by rw [p2]; exact cn) (by rw [p3]) b2 b3 b1 hm0 hm1
/-- of nothing, at any place -/
theorem cut_none {x mode : Int} {more neg : Bool} (hm0 : 0 ≤ mode) (hm1 : mode ≤ 4) : CutEnds (scA 0 x) (scB 1 x) more neg mode 0 0 (if more = true then 1 else 0) := by
  have hB : 0 < scB 1 x := by unfold scB; rw [Int.one_mul]; exact e2_pos _
  have hA : scA 0 x = 0 := by unfold scA; rw [Int.zero_mul]
  unfold CutEnds
  have e : (2 : Int) ^ stepN 0 = 1 := by decide
  refine round_at (R := 0) (S := scB 1 x) hB (by omega) (by unfold mostP; omega) (by rw [hA, num_zero']; omega) (by rw [e, Int.one_mul]) (by omega) (by omega) ?_ hm0 hm1
  unfold BehK
  by_cases hm : more = true
  · rw [if_pos hm]; right; left; exact ⟨rfl, by omega, Or.inr hm⟩
  · rw [if_neg hm]; left; exact ⟨rfl, rfl, by simpa using hm⟩
/-- beyond the greatest -/
theorem cut_huge {M L x : Int} (h1 : e2 (L - 1) ≤ M) (hL : 1 ≤ L) (hx : 972 ≤ x + L - 53) : (numW mostP + nxtN mostP) * scB 1 x < 2 * scA M x := by
  unfold scA scB
  rw [Int.one_mul]
  refine huge_of (e2_pos _) ?_
  have hT := e2_pos (x + 1074)
  have a : e2 (L - 1) * e2 (x + 1074) ≤ M * e2 (x + 1074) := Int.mul_le_mul_of_nonneg_right h1 (by omega)
  refine Int.le_trans ?_ a
  by_cases h : 0 ≤ x + 1074
  · rw [e2_zero (k := -(x + 1074)) (by omega), Int.mul_one, ← e2_add (by omega) h]
    exact e2_le (by omega)
  · rw [e2_zero (k := x + 1074) (by omega), Int.mul_one, ← e2_add (by omega) (by omega)]
    exact e2_le (by omega)
/-- next to nothing -/
theorem cut_tiny {M L x : Int} (hM : 0 < M) (h2 : M < e2 L) (hL : 0 ≤ L) (hx : x + 1074 + L + 1 ≤ 0) : 0 < scA M x ∧ 2 * scA M x < scB 1 x := by
  unfold scA scB
  rw [Int.one_mul, e2_zero (k := x + 1074) (by omega), Int.mul_one]
  refine ⟨hM, ?_⟩
  have : e2 (1 + L) ≤ e2 (-(x + 1074)) := e2_le (by omega)
  rw [e2_add (by omega) hL, e2_one] at this
  omega
/-- all that is so small is rounded alike -/
theorem tiny_same {A B A' B' mode b e : Int} {more more' neg : Bool} (hB : 0 < B) (hB' : 0 < B') (h0 : 0 < A ∨ (A = 0 ∧ more = true)) (h0' : 0 < A' ∨ (A' = 0 ∧ more' = true)) (h : 2 * A < B) (h' : 2 * A' < B') (hm0 : 0 ≤ mode) (hm1 : mode ≤ 4)
    (hr : RoundIs A B more neg mode b e) : RoundIs A' B' more' neg mode b e := by
  obtain ⟨t1, t2⟩ := round_tiny (mode := mode) (neg := neg) hB h0 (by omega) h
  obtain ⟨s1, s2⟩ := round_tiny (mode := mode) (neg := neg) hB' h0' (by omega) h'
  have key : (mode = 2 ∨ (mode = 3 ∧ neg = false) ∨ (mode = 4 ∧ neg = true)) ∨ (mode = 0 ∨ mode = 1 ∨ (mode = 3 ∧ neg = true) ∨ (mode = 4 ∧ neg = false)) := by
    rcases mode_cases hm0 hm1 with rfl | rfl | rfl | rfl | rfl <;> cases neg <;> simp
  rcases key with k | k
  · obtain ⟨rfl, rfl⟩ := roundIs_uniq hB hr (t1 k); exact s1 k
  · obtain ⟨rfl, rfl⟩ := roundIs_uniq hB hr (t2 k); exact s2 k
/-- all that is so great is rounded alike -/
theorem huge_same {A B A' B' mode b e : Int} {more more' neg : Bool} (hB : 0 < B) (hB' : 0 < B') (h : (numW mostP + nxtN mostP) * B < 2 * A) (h' : (numW mostP + nxtN mostP) * B' < 2 * A') (hm0 : 0 ≤ mode) (hm1 : mode ≤ 4)
    (hr : RoundIs A B more neg mode b e) : RoundIs A' B' more' neg mode b e := by
  obtain ⟨t1, t2⟩ := round_huge (mode := mode) (neg := neg) (more := more) hB h
  obtain ⟨s1, s2⟩ := round_huge (mode := mode) (neg := neg) (more := more') hB' h'
  have key : (mode = 0 ∨ mode = 2 ∨ (mode = 3 ∧ neg = false) ∨ (mode = 4 ∧ neg = true)) ∨ (mode = 1 ∨ (mode = 3 ∧ neg = true) ∨ (mode = 4 ∧ neg = false)) := by
    rcases mode_cases hm0 hm1 with rfl | rfl | rfl | rfl | rfl <;> cases neg <;> simp
  rcases key with k | k
  · obtain ⟨rfl, rfl⟩ := roundIs_uniq hB hr (t1 k); exact s1 k
  · obtain ⟨rfl, rfl⟩ := roundIs_uniq hB hr (t2 k); exact s2 k
theorem scB_pos {D x : Int} (hD : 0 < D) : 0 < scB D x := by unfold scB; exact Int.mul_pos hD (e2_pos _)
/-- an exponent that is held far out counts as the farther one -/
theorem far_same {M L x F mode b e : Int} {more neg : Bool} (hM : 0 < M) (hL : 1 ≤ L) (h1 : e2 (L - 1) ≤ M) (h2 : M < e2 L) (hF : L + 1075 + 1100 ≤ F) (hm0 : 0 ≤ mode) (hm1 : mode ≤ 4)
    (hr : RoundIs (scA M (min (max x (-F)) F)) (scB 1 (min (max x (-F)) F)) more neg mode b e) : RoundIs (scA M x) (scB 1 x) more neg mode b e := by
  by_cases h : x < -F
  · have e : min (max x (-F)) F = -F := by omega
    rw [e] at hr
    obtain ⟨a1, a2⟩ := cut_tiny (x := x) hM h2 (by omega) (by omega)
    obtain ⟨b1, b2⟩ := cut_tiny (x := -F) hM h2 (by omega) (by omega)
    exact tiny_same (scB_pos (by omega)) (scB_pos (by omega)) (Or.inl b1) (Or.inl a1) b2 a2 hm0 hm1 hr
  · by_cases h' : F < x
    · have e : min (max x (-F)) F = F := by omega
      rw [e] at hr
      exact huge_same (scB_pos (by omega)) (scB_pos (by omega)) (cut_huge h1 hL (by omega)) (cut_huge h1 hL (by omega)) hm0 hm1 hr
    · have e : min (max x (-F)) F = x := by omega
      rw [e] at hr
      exact hr
/-! ### a quotient that is cut, with a rest -/
/-- a place that patterns and middles lie on -/
theorem test_snap {W T m : Int} {j : Nat} (hW : e2 64 ≤ W) (hm : m < 18014398509481984) (hm0 : 0 ≤ m) (h : W * e2 T < m * 2 ^ j * e2 (-T)) : W * e2 T + e2 T ≤ m * 2 ^ j * e2 (-T) := by
  by_cases hT : 0 ≤ T
  · rw [e2_zero (k := -T) (by omega), Int.mul_one] at h ⊢
    obtain ⟨t, rfl⟩ : ∃ t : Nat, T = t := ⟨T.toNat, by omega⟩
    have e : e2 (t : Int) = 2 ^ t := by unfold e2; rw [Int.toNat_natCast]
    rw [e] at h ⊢
    have ht : t ≤ j := by
      apply Decidable.byContradiction
      intro hc
      have hp := pow_pos j
      have s : (2 : Int) ^ t = 2 ^ j * 2 ^ (t - j) := by rw [← Int.pow_add]; congr 1; omega
      have hq := pow_pos (t - j)
      have h3 : m * 2 ^ j ≤ W * 2 ^ t := by
        rw [s, Int.mul_comm W, Int.mul_assoc, Int.mul_comm m]
        apply Int.mul_le_mul_of_nonneg_left _ (by omega)
        rw [Int.mul_comm]
        have h5 : W * 1 ≤ W * 2 ^ (t - j) := Int.mul_le_mul_of_nonneg_left (by omega) (by rw [e2_64] at hW; omega)
        rw [e2_64] at hW
        omega
      omega
    have s : (2 : Int) ^ j = 2 ^ (j - t) * 2 ^ t := by rw [← Int.pow_add]; congr 1; omega
    rw [s, ← Int.mul_assoc] at h ⊢
    have hp := pow_pos t
    have h5 : W < m * 2 ^ (j - t) := (lt_scale hp).mp h
    have h6 : (W + 1) * 2 ^ t ≤ m * 2 ^ (j - t) * 2 ^ t := Int.mul_le_mul_of_nonneg_right (by omega) (by omega)
    rw [Int.add_mul, Int.one_mul] at h6
    exact h6
  · rw [e2_zero (k := T) (by omega)] at h ⊢
    omega
theorem test_snap2 {W T m : Int} {j : Nat} (hW : e2 64 ≤ W) (hm : m < 18014398509481984) (hm0 : 0 ≤ m) (h : 2 * (W * e2 T) < m * 2 ^ j * e2 (-T)) : 2 * (W * e2 T + e2 T) ≤ m * 2 ^ j * e2 (-T) := by
  by_cases hT : 0 ≤ T
  · have e : e2 (T + 1) = 2 * e2 T := by rw [e2_add hT (by omega), e2_one, Int.mul_comm]
    have e0 : e2 (-(T + 1)) = e2 (-T) := by rw [e2_zero (by omega), e2_zero (by omega)]
    have := test_snap (W := W) (T := T + 1) (m := m) (j := j) hW hm hm0
    rw [e, e0, show W * (2 * e2 T) = 2 * (W * e2 T) by rw [← Int.mul_assoc, Int.mul_comm W 2, Int.mul_assoc]] at this
    have := this h
    omega
  · rw [e2_zero (k := T) (by omega)] at h ⊢
    have e : e2 (-T) = 2 * e2 (-T - 1) := by
      have : e2 (1 + (-T - 1)) = e2 1 * e2 (-T - 1) := e2_add (by omega) (by omega)
      rw [show 1 + (-T - 1) = -T by omega, e2_one] at this
      exact this
    have e9 : m * 2 ^ j * (2 * e2 (-T - 1)) = 2 * (m * 2 ^ j * e2 (-T - 1)) := Int.mul_left_comm _ _ _
    rw [e, e9] at h ⊢
    omega
/-- a rest below the last place is a little more -/
theorem agn_rest {W u v G F n : Int} {more : Bool} (hu : 0 < u) (hG : 0 < G) (hF0 : 0 ≤ F) (hF1 : F < G) (hmore : more = true ↔ F ≠ 0) (hs : F = 0 ∨ (W * u < n * v → W * u + u ≤ n * v)) :
    agn ((W * G + F) * u) (G * v) n false = agn (W * u) v n more := by
  have e1 : (W * G + F) * u = W * u * G + F * u := by rw [Int.add_mul, Int.mul_assoc, Int.mul_comm G, ← Int.mul_assoc]
  have e2 : n * (G * v) = n * v * G := by rw [Int.mul_comm G, Int.mul_assoc]
  have hFu : 0 ≤ F * u := Int.mul_nonneg hF0 (by omega)
  have hFu1 : F * u < u * G := by rw [Int.mul_comm u]; exact (lt_scale hu).mpr hF1
  rcases agn_cases (W * u) v n more with ⟨h, k⟩ | ⟨h, k⟩ | ⟨h, k⟩
  · rw [k]
    unfold agn
    rw [e1, e2, if_pos]
    rcases hs with hs | hs
    · rw [hs, Int.zero_mul, Int.add_zero]; exact (lt_scale hG).mpr h
    · have h5 : (W * u + u) * G ≤ n * v * G := Int.mul_le_mul_of_nonneg_right (hs h) (by omega)
      rw [Int.add_mul] at h5
      omega
  · rw [k]
    unfold agn
    rw [e1, e2, h, if_neg (by omega)]
    by_cases hF : F = 0
    · have : more = false := by
        have := hmore.mp
        cases more
        · rfl
        · exact absurd hF (this rfl)
      rw [hF, this, Int.zero_mul, if_pos (by omega)]
    · have hp := Int.mul_pos (show 0 < F by omega) hu
      rw [if_neg (by omega), if_pos (hmore.mpr hF)]
  · rw [k]
    unfold agn
    have := (lt_scale hG).mpr h
    rw [e1, e2, if_neg (by omega), if_neg (by omega)]
theorem pat_test {d : Int} (h0 : 0 ≤ d) (h1 : d ≤ mostP) : ∃ (m : Int) (j : Nat), numW d = m * 2 ^ j ∧ 0 ≤ m ∧ m < 9007199254740992 ∧ numW d + nxtN d = (2 * m + 1) * 2 ^ j := by
  obtain ⟨u1, f1, m1⟩ := size_fin h0 h1
  obtain ⟨p, e1, e2', e3, e4, e5, e6, e7⟩ := num_parts u1 f1
  refine ⟨spM d, p, e7, e3, e4, ?_⟩
  unfold nxtN stepN
  rw [e1, Int.toNat_natCast, e7]
  rw [Int.add_mul, Int.mul_assoc]
  omega
/-- whole with its rest: rounded as whole and a little more -/
theorem round_rest {W T G F mode b e : Int} {more neg : Bool} (hG : 0 < G) (hF0 : 0 ≤ F) (hF1 : F < G) (hmore : more = true ↔ F ≠ 0) (hW : F = 0 ∨ e2 64 ≤ W) :
    RoundIs ((W * G + F) * e2 T) (G * e2 (-T)) false neg mode b e ↔ RoundIs (W * e2 T) (e2 (-T)) more neg mode b e := by
  have hu := e2_pos T
  have a1 : ∀ d, 0 ≤ d → d ≤ mostP → agn ((W * G + F) * e2 T) (G * e2 (-T)) (numW d) false = agn (W * e2 T) (e2 (-T)) (numW d) more := fun d h0 h1 => by
    refine agn_rest hu hG hF0 hF1 hmore (hW.imp id fun hW => ?_)
    obtain ⟨m, j, e1, e2', e3, _⟩ := pat_test h0 h1
    rw [e1]
    exact test_snap hW (by omega) e2'
  have a2 : ∀ d, 0 ≤ d → d ≤ mostP → agn (2 * ((W * G + F) * e2 T)) (G * e2 (-T)) (numW d + nxtN d) false = agn (2 * (W * e2 T)) (e2 (-T)) (numW d + nxtN d) more := fun d h0 h1 => by
    have q1 : 2 * ((W * G + F) * e2 T) = (W * G + F) * (2 * e2 T) := by rw [← Int.mul_assoc, Int.mul_comm 2, Int.mul_assoc]
    have q2 : 2 * (W * e2 T) = W * (2 * e2 T) := by rw [← Int.mul_assoc, Int.mul_comm 2, Int.mul_assoc]
    rw [q1, q2]
    refine agn_rest (by omega) hG hF0 hF1 hmore (hW.imp id fun hW => ?_)
    obtain ⟨m, j, _, e2', e3, e1⟩ := pat_test h0 h1
    rw [e1]
    have := test_snap2 (T := T) (m := 2 * m + 1) (j := j) hW (by omega) (by omega)
    rw [q2, show 2 * (W * e2 T + e2 T) = 2 * (W * e2 T) + 2 * e2 T by omega, q2] at this
    exact this
  have key : ∀ d, 0 ≤ d → d ≤ mostP → ((W * G + F) * e2 T < numW d * (G * e2 (-T)) ↔ W * e2 T < numW d * e2 (-T)) := fun d h0 h1 => by
    have h := a1 d h0 h1
    rcases agn_cases ((W * G + F) * e2 T) (G * e2 (-T)) (numW d) false with ⟨x, k⟩ | ⟨x, k⟩ | ⟨x, k⟩ <;> rcases agn_cases (W * e2 T) (e2 (-T)) (numW d) more with ⟨y, l⟩ | ⟨y, l⟩ | ⟨y, l⟩ <;> rw [k, l] at h <;>
      first
        | exact ⟨fun _ => y, fun _ => x⟩
        | exact ⟨fun z => absurd z (by omega), fun z => absurd z (by omega)⟩
        | (exfalso; revert h; split <;> simp)
        | (exfalso; simp at h)
  have hb : ∀ d, BelP ((W * G + F) * e2 T) (G * e2 (-T)) d ↔ BelP (W * e2 T) (e2 (-T)) d := fun d => by
    unfold BelP
    constructor
    · rintro ⟨c1, c2, c3, c4⟩
      have k1 := key d c1 c2
      refine ⟨c1, c2, by omega, ?_⟩
      rcases c4 with c4 | c4
      · exact Or.inl c4
      · by_cases he : d = mostP
        · exact Or.inl he
        · exact Or.inr ((key (d + 1) (by omega) (by omega)).mp c4)
    · rintro ⟨c1, c2, c3, c4⟩
      have k1 := key d c1 c2
      refine ⟨c1, c2, by omega, ?_⟩
      rcases c4 with c4 | c4
      · exact Or.inl c4
      · by_cases he : d = mostP
        · exact Or.inl he
        · exact Or.inr ((key (d + 1) (by omega) (by omega)).mpr c4)
  have hu2 : ∀ d, 0 ≤ d → d ≤ mostP → upP ((W * G + F) * e2 T) (G * e2 (-T)) false neg mode d = upP (W * e2 T) (e2 (-T)) more neg mode d := fun d h0 h1 => by
    unfold upP
    rw [a2 d h0 h1]
  unfold RoundIs
  constructor
  · rintro ⟨d, h1, h2⟩
    refine ⟨d, (hb d).mp h1, ?_⟩
    rw [← a1 d h1.1 h1.2.1, ← hu2 d h1.1 h1.2.1]
    exact h2
  · rintro ⟨d, h1, h2⟩
    refine ⟨d, (hb d).mpr h1, ?_⟩
    rw [a1 d h1.1 h1.2.1, hu2 d h1.1 h1.2.1]
    exact h2
/-- N by D, as the program divides it: N times two to the -x is W times D times two to the x, and F -/
theorem round_quot {N D x W F mode b e : Int} {more neg : Bool} (hD : 0 < D) (hN : N * e2 (-x) = W * (D * e2 x) + F) (hF0 : 0 ≤ F) (hF1 : F < D * e2 x) (hmore : more = true ↔ F ≠ 0) (hW : F = 0 ∨ e2 64 ≤ W) :
    RoundIs (scA W x) (scB 1 x) more neg mode b e ↔ RoundIs (scA N 0) (scB D 0) false neg mode b e := by
  have hG := Int.mul_pos hD (e2_pos x)
  unfold scA scB
  rw [Int.one_mul, ← round_rest hG hF0 hF1 hmore hW, ← hN]
  apply round_cross (Int.mul_pos hG (e2_pos _)) (Int.mul_pos hD (e2_pos _))
  have e1 : (0 + 1074 : Int) = 1074 := by omega
  rw [e1, e2_zero (k := -1074) (by omega), Int.mul_one]
  have key : e2 (-x) * e2 (x + 1074) = e2 1074 * e2 x * e2 (-(x + 1074)) := by
    by_cases h1 : 0 ≤ x
    · rw [e2_zero (k := -x) (by omega), e2_zero (k := -(x + 1074)) (by omega), Int.one_mul, Int.mul_one, ← e2_add (by omega) h1]
      congr 1; omega
    · rw [e2_zero (k := x) (by omega), Int.mul_one]
      by_cases h2 : 0 ≤ x + 1074
      · rw [e2_zero (k := -(x + 1074)) (by omega), Int.mul_one, ← e2_add (by omega) h2]
        congr 1; omega
      · rw [e2_zero (k := x + 1074) (by omega), Int.mul_one, ← e2_add (by omega) (by omega)]
        congr 1; omega
  rw [Int.mul_assoc N, key]
  generalize e2 1074 = a
  generalize e2 x = c
  generalize e2 (-(x + 1074)) = f
  simp only [Int.mul_left_comm, Int.mul_comm]
end Go.Proofs.YtndeimdfklhaiaaGreatDoor.Ar
