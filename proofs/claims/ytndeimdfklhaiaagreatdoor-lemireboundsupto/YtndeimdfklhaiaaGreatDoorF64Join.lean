/- Plain numbers: the one pattern of a mantissa and an exponent. -/
import Derived.Test.YtndeimdfklhaiaaGreatDoorF64Math
namespace Go.Proofs.YtndeimdfklhaiaaGreatDoor.Ar
open Go.RowKit
set_option linter.unusedVariables false

/-- two to a number (one, where it is below none) -/
def e2 (k : Int) : Int := 2 ^ k.toNat
theorem e2_pos (k : Int) : 0 < e2 k := pow_pos _
theorem e2_zero {k : Int} (h : k ≤ 0) : e2 k = 1 := by
  unfold e2
  have : k.toNat = 0 := by omega
  rw [this]; rfl
theorem e2_add {j k : Int} (hj : 0 ≤ j) (hk : 0 ≤ k) : e2 (j + k) = e2 j * e2 k := by
  unfold e2
  have : (j + k).toNat = j.toNat + k.toNat := by omega
  rw [this, Int.pow_add]
theorem e2_le {j k : Int} (h : j ≤ k) : e2 j ≤ e2 k := by
  unfold e2
  rw [← pow_cast, ← pow_cast]
  exact Int.ofNat_le.mpr (Nat.pow_le_pow_right (by omega) (by omega))
theorem e2_one : e2 1 = 2 := rfl
theorem e2_52 : e2 52 = 4503599627370496 := rfl
theorem e2_53 : e2 53 = 9007199254740992 := rfl
theorem e2_63 : e2 63 = 9223372036854775808 := rfl
theorem e2_64 : e2 64 = 18446744073709551616 := rfl
theorem mul_can {a b c : Int} (h : a * c = b * c) (hc : 0 < c) : a = b := Int.eq_of_mul_eq_mul_right (by omega) h
/-- m times two to the x is M times two to the X -/
def Sm (m x M X : Int) : Prop := (X ≤ x ∧ M = m * e2 (x - X)) ∨ (x ≤ X ∧ m = M * e2 (X - x))
theorem sm_iff {m x M X : Int} (L : Int) (h1 : L ≤ x) (h2 : L ≤ X) : Sm m x M X ↔ m * e2 (x - L) = M * e2 (X - L) := by
  unfold Sm
  constructor
  · rintro (⟨h, e⟩ | ⟨h, e⟩)
    · rw [e, Int.mul_assoc, ← e2_add (by omega) (by omega)]
      congr 2; omega
    · rw [e, Int.mul_assoc, ← e2_add (by omega) (by omega)]
      congr 2; omega
  · intro e
    by_cases h : X ≤ x
    · left
      refine ⟨h, ?_⟩
      have s : e2 (x - L) = e2 (x - X) * e2 (X - L) := by rw [← e2_add (by omega) (by omega)]; congr 1; omega
      rw [s, ← Int.mul_assoc] at e
      exact (mul_can e (e2_pos _)).symm
    · right
      refine ⟨by omega, ?_⟩
      have s : e2 (X - L) = e2 (X - x) * e2 (x - L) := by rw [← e2_add (by omega) (by omega)]; congr 1; omega
      rw [s, ← Int.mul_assoc] at e
      exact mul_can e (e2_pos _)
theorem sm_refl (m x : Int) : Sm m x m x := Or.inl ⟨Int.le_refl _, by rw [Int.sub_self, e2_zero (Int.le_refl 0), Int.mul_one]⟩
theorem sm_symm {m x M X : Int} (h : Sm m x M X) : Sm M X m x := by
  unfold Sm at *
  rcases h with ⟨h, e⟩ | ⟨h, e⟩
  · exact Or.inr ⟨h, e⟩
  · exact Or.inl ⟨h, e⟩
theorem sm_trans {a x b y c z : Int} (h : Sm a x b y) (k : Sm b y c z) : Sm a x c z := by
  have h1 : min x (min y z) ≤ x := by omega
  have h2 : min x (min y z) ≤ y := by omega
  have h3 : min x (min y z) ≤ z := by omega
  rw [sm_iff _ h1 h2] at h
  rw [sm_iff _ h2 h3] at k
  rw [sm_iff _ h1 h3]
  exact h.trans k
theorem sm_up {m x : Int} {k : Nat} : Sm (m * 2 ^ k) (x - k) m x := by
  refine Or.inr ⟨by omega, ?_⟩
  have : (x - (x - (k : Int))) = k := by omega
  rw [this]
  unfold e2
  rw [Int.toNat_natCast]
theorem sm_pos {m x M X : Int} (h : Sm m x M X) (h0 : 0 < m) : 0 < M := by
  rcases h with ⟨_, e⟩ | ⟨_, e⟩
  · rw [e]; exact Int.mul_pos h0 (e2_pos _)
  · rw [e] at h0
    exact Int.pos_of_mul_pos_left h0 (e2_pos _) 
/-- the form that a pattern has its number in -/
def Nf (m x M X : Int) : Prop := Sm m x M X ∧ -1074 ≤ X ∧ 0 < M ∧ M < 9007199254740992 ∧ (X = -1074 ∨ 4503599627370496 ≤ M)
theorem nf_gap {M X N Y : Int} (h : Sm M X N Y) (hl : X < Y) (hN : 4503599627370496 ≤ N) : 9007199254740992 ≤ M := by
  rcases h with ⟨h, _⟩ | ⟨h, e⟩
  · omega
  · have h2 : 2 ≤ e2 (Y - X) := by rw [← e2_one]; exact e2_le (by omega)
    have : N * 2 ≤ N * e2 (Y - X) := Int.mul_le_mul_of_nonneg_left h2 (by omega)
    rw [e]; omega
theorem nf_uniq {m x M X N Y : Int} (h : Nf m x M X) (k : Nf m x N Y) : M = N ∧ X = Y := by
  obtain ⟨s, a1, a2, a3, a4⟩ := h
  obtain ⟨t, b1, b2, b3, b4⟩ := k
  have st := sm_trans (sm_symm s) t
  have ts := sm_symm st
  have : X = Y := by
    by_cases l : X < Y
    · have := nf_gap st l (by omega); omega
    · by_cases g : Y < X
      · have := nf_gap ts g (by omega); omega
      · omega
  subst this
  refine ⟨?_, rfl⟩
  rw [sm_iff X (Int.le_refl _) (Int.le_refl _)] at st
  exact mul_can st (e2_pos _)
/-- what Join answers -/
def JoinIs (s : Bool) (m x b e : Int) : Prop :=
  (m = 0 ∧ b = sgB s ∧ e = 0) ∨ (m ≠ 0 ∧ ((∃ M X, Nf m x M X ∧ X ≤ 971 ∧ b = sgB s + (X + 1074) * 4503599627370496 + M ∧ e = 0) ∨ ((∀ M X, Nf m x M X → 971 < X) ∧ b = 0 ∧ e = 61)))
theorem joinIs_uniq {s : Bool} {m x b e b' e' : Int} (h : JoinIs s m x b e) (k : JoinIs s m x b' e') : b = b' ∧ e = e' := by
  rcases h with ⟨h0, h1, h2⟩ | ⟨h0, h⟩
  · rcases k with ⟨_, k1, k2⟩ | ⟨k0, _⟩
    · exact ⟨h1.trans k1.symm, h2.trans k2.symm⟩
    · exact absurd h0 k0
  · rcases k with ⟨k0, _⟩ | ⟨_, k⟩
    · exact absurd k0 h0
    · rcases h with ⟨M, X, hn, hx, hb, he⟩ | ⟨hn, hb, he⟩
      · rcases k with ⟨M', X', kn, kx, kb, ke⟩ | ⟨kn, _, _⟩
        · obtain ⟨rfl, rfl⟩ := nf_uniq hn kn
          exact ⟨hb.trans kb.symm, he.trans ke.symm⟩
        · have := kn M X hn; omega
      · rcases k with ⟨M', X', kn, kx, _, _⟩ | ⟨_, kb, ke⟩
        · have := hn M' X' kn; omega
        · exact ⟨hb.trans kb.symm, he.trans ke.symm⟩
theorem U_join {s : Bool} {m x b e : Int} (h : JoinIs s m x b e) : U b := by
  unfold U
  have hs : sgB s = 0 ∨ sgB s = 9223372036854775808 := by unfold sgB; split <;> simp
  rcases h with ⟨_, rfl, _⟩ | ⟨_, ⟨M, X, hn, hx, rfl, _⟩ | ⟨_, rfl, _⟩⟩
  · omega
  · obtain ⟨_, a1, a2, a3, a4⟩ := hn; omega
  · omega
/-! ### too far off -/
theorem far_above {m x M X : Int} (hm : 0 < m) (hx : 1023 < x) (h : Nf m x M X) : 971 < X := by
  obtain ⟨s, a1, a2, a3, a4⟩ := h
  by_cases hX : 971 < X
  · exact hX
  · rcases s with ⟨h, e⟩ | ⟨h, e⟩
    · have h2 : e2 53 ≤ e2 (x - X) := e2_le (by omega)
      have : 1 * e2 (x - X) ≤ m * e2 (x - X) := Int.mul_le_mul_of_nonneg_right (by omega) (by have := e2_pos (x - X); omega)
      rw [e2_53] at h2
      omega
    · omega
theorem far_below {m x M X : Int} (hm : U m) (hx : x < -1137) (h : Nf m x M X) : False := by
  obtain ⟨s, a1, a2, a3, a4⟩ := h
  unfold U at hm
  rcases s with ⟨h, e⟩ | ⟨h, e⟩
  · omega
  · have h2 : e2 64 ≤ e2 (X - x) := e2_le (by omega)
    have : 1 * e2 (X - x) ≤ M * e2 (X - x) := Int.mul_le_mul_of_nonneg_right (by omega) (by have := e2_pos (X - x); omega)
    rw [e2_64] at h2
    omega
theorem join_far {s : Bool} {m x : Int} (hm : U m) (h0 : m ≠ 0) (hx : x < -1137 ∨ 1023 < x) : JoinIs s m x 0 61 := by
  refine Or.inr ⟨h0, Or.inr ⟨?_, rfl, rfl⟩⟩
  intro M X h
  rcases hx with hx | hx
  · exact (far_below hm hx h).elim
  · exact far_above (by unfold U at hm; omega) hx h
/-! ### the program's way -/
/-- where the mantissa comes to stand -/
def atX (m x : Int) : Int := max (x + lenW m - 53) (-1074)
theorem at_right {m x M X : Int} (hm : U m) (h0 : m ≠ 0) (h : Nf m x M X) : X = atX m x := by
  obtain ⟨k, hk, e, l1, l2⟩ := lenW_pos hm h0
  obtain ⟨s, a1, a2, a3, a4⟩ := h
  have hmp : 0 < m := by unfold U at hm; omega
  unfold atX
  rw [e]
  have q1 : (2 : Int) ^ k = e2 k := by unfold e2; rw [Int.toNat_natCast]
  have q0 : ((k : Int) + 1).toNat = k + 1 := by omega
  have q2 : (2 : Int) ^ (k + 1) = e2 (k + 1) := by unfold e2; rw [q0]
  clear q0
  rw [q1] at l1
  rw [q2] at l2
  have lo : X ≥ x + (k + 1) - 53 := by
    rcases s with ⟨h, e⟩ | ⟨h, e⟩
    · -- M = m * 2^(x-X) < 2^53
      apply Decidable.byContradiction
      intro hc
      have h2 : e2 53 ≤ e2 (k + (x - X)) := e2_le (by omega)
      rw [e2_add (by omega) (by omega)] at h2
      have : e2 k * e2 (x - X) ≤ m * e2 (x - X) := Int.mul_le_mul_of_nonneg_right l1 (by have := e2_pos (x - X); omega)
      rw [e2_53] at h2
      omega
    · apply Decidable.byContradiction
      intro hc
      have h2 : e2 (53 + (X - x)) ≤ e2 k := e2_le (by omega)
      rw [e2_add (by omega) (by omega)] at h2
      have : M * e2 (X - x) < e2 53 * e2 (X - x) := Int.mul_lt_mul_of_pos_right (by rw [e2_53]; omega) (e2_pos _)
      omega
  rcases a4 with a4 | a4
  · omega
  · have hi : X ≤ x + (k + 1) - 53 := by
      rcases s with ⟨h, e⟩ | ⟨h, e⟩
      · apply Decidable.byContradiction
        intro hc
        have h2 : e2 (k + 1 + (x - X)) ≤ e2 52 := e2_le (by omega)
        rw [e2_add (by omega) (by omega)] at h2
        have : m * e2 (x - X) < e2 (k + 1) * e2 (x - X) := Int.mul_lt_mul_of_pos_right l2 (e2_pos _)
        rw [e2_52] at h2
        omega
      · apply Decidable.byContradiction
        intro hc
        have h2 : e2 (k + 1) ≤ e2 (52 + (X - x)) := e2_le (by omega)
        rw [e2_add (j := 52) (k := X - x) (by omega) (by omega)] at h2
        have : e2 52 * e2 (X - x) ≤ M * e2 (X - x) := Int.mul_le_mul_of_nonneg_right (by rw [e2_52]; omega) (by have := e2_pos (X - x); omega)
        omega
    omega
theorem at_bd {m x : Int} (hm : U m) (h0 : m ≠ 0) : ∃ k : Nat, k < 64 ∧ lenW m = k + 1 ∧ e2 k ≤ m ∧ m < e2 (k + 1) := by
  obtain ⟨k, hk, e, l1, l2⟩ := lenW_pos hm h0
  refine ⟨k, hk, e, ?_, ?_⟩
  · unfold e2; rw [Int.toNat_natCast]; exact l1
  · unfold e2; have : ((k : Int) + 1).toNat = k + 1 := by omega
    rw [this]; exact l2
/-- moved up: nothing is lost -/
theorem nf_up {m x : Int} (hm : U m) (h0 : m ≠ 0) (hx : atX m x ≤ x) : Nf m x (m * e2 (x - atX m x)) (atX m x) := by
  obtain ⟨k, hk, e, l1, l2⟩ := at_bd (x := x) hm h0
  have hmp : 0 < m := by unfold U at hm; omega
  have hat : atX m x = max (x + (k + 1) - 53) (-1074) := by unfold atX; rw [e]
  generalize atX m x = A at *
  have hp := e2_pos (x - A)
  refine ⟨Or.inl ⟨hx, rfl⟩, by omega, Int.mul_pos hmp hp, ?_, ?_⟩
  · have h2 : e2 (k + 1 + (x - A)) ≤ e2 53 := e2_le (by omega)
    rw [e2_add (by omega) (by omega)] at h2
    have : m * e2 (x - A) < e2 (k + 1) * e2 (x - A) := Int.mul_lt_mul_of_pos_right l2 hp
    rw [e2_53] at h2
    omega
  · by_cases hA : A = -1074
    · exact Or.inl hA
    · right
      have h2 : e2 52 ≤ e2 (k + (x - A)) := e2_le (by omega)
      rw [e2_add (by omega) (by omega)] at h2
      have : e2 k * e2 (x - A) ≤ m * e2 (x - A) := Int.mul_le_mul_of_nonneg_right l1 (by omega)
      rw [e2_52] at h2
      omega
/-- moved down: nothing is lost if the low bits are none -/
theorem nf_down {m x : Int} (hm : U m) (h0 : m ≠ 0) (hx : x ≤ atX m x) (hl : m % e2 (atX m x - x) = 0) : Nf m x (m / e2 (atX m x - x)) (atX m x) := by
  obtain ⟨k, hk, e, l1, l2⟩ := at_bd (x := x) hm h0
  have hmp : 0 < m := by unfold U at hm; omega
  have hat : atX m x = max (x + (k + 1) - 53) (-1074) := by unfold atX; rw [e]
  generalize atX m x = A at *
  have hp := e2_pos (A - x)
  have hd : m / e2 (A - x) * e2 (A - x) = m := Int.ediv_mul_cancel (Int.dvd_of_emod_eq_zero hl)
  generalize m / e2 (A - x) = M at *
  have hM : 0 < M := by
    apply Decidable.byContradiction
    intro hc
    have : M * e2 (A - x) ≤ 0 * e2 (A - x) := Int.mul_le_mul_of_nonneg_right (by omega) (by omega)
    omega
  refine ⟨Or.inr ⟨hx, hd.symm⟩, by omega, hM, ?_, ?_⟩
  · apply Decidable.byContradiction
    intro hc
    have h2 : e2 (k + 1) ≤ e2 (53 + (A - x)) := e2_le (by omega)
    rw [e2_add (j := 53) (k := A - x) (by omega) (by omega)] at h2
    have : e2 53 * e2 (A - x) ≤ M * e2 (A - x) := Int.mul_le_mul_of_nonneg_right (by rw [e2_53]; omega) (by omega)
    omega
  · by_cases hA : A = -1074
    · exact Or.inl hA
    · right
      apply Decidable.byContradiction
      intro hc
      have h2 : e2 (52 + (A - x)) ≤ e2 k := e2_le (by omega)
      rw [e2_add (by omega) (by omega)] at h2
      have : M * e2 (A - x) < e2 52 * e2 (A - x) := Int.mul_lt_mul_of_pos_right (by rw [e2_52]; omega) hp
      omega
theorem lost_none {m x : Int} (hm : U m) (h0 : m ≠ 0) (hx : x ≤ atX m x) (hl : m % e2 (atX m x - x) ≠ 0) {M X : Int} : ¬ Nf m x M X := by
  intro h
  have hX := at_right hm h0 h
  obtain ⟨s, a1, a2, a3, a4⟩ := h
  rw [hX] at s
  rcases s with ⟨hh, e⟩ | ⟨hh, e⟩
  · have : atX m x = x := by omega
    rw [this, Int.sub_self, e2_zero (Int.le_refl 0)] at hl
    exact hl (Int.emod_one _)
  · apply hl
    generalize atX m x - x = d at *
    rw [e]
    exact Int.mul_emod_left _ _
/-- the program's answer, by what the shifts leave -/
theorem join_ok {s : Bool} {m x M : Int} (h0 : m ≠ 0) (h : Nf m x M (atX m x)) (ha : atX m x ≤ 971) : JoinIs s m x (sgB s + (atX m x + 1074) * 4503599627370496 + M) 0 :=
  Or.inr ⟨h0, Or.inl ⟨M, atX m x, h, ha, rfl, rfl⟩⟩
theorem join_big {s : Bool} {m x : Int} (hm : U m) (h0 : m ≠ 0) (ha : 971 < atX m x) : JoinIs s m x 0 61 :=
  Or.inr ⟨h0, Or.inr ⟨fun M X h => by rw [at_right hm h0 h]; exact ha, rfl, rfl⟩⟩
theorem join_lost {s : Bool} {m x : Int} (hm : U m) (h0 : m ≠ 0) (hx : x ≤ atX m x) (hl : m % e2 (atX m x - x) ≠ 0) : JoinIs s m x 0 61 :=
  Or.inr ⟨h0, Or.inr ⟨fun M X h => (lost_none hm h0 hx hl h).elim, rfl, rfl⟩⟩
end Go.Proofs.YtndeimdfklhaiaaGreatDoor.Ar
