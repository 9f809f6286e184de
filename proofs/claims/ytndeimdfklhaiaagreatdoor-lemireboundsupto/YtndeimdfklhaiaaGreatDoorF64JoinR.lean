/- Plain numbers: what the shifts of Join leave; the document's way to the same form. -/
import Derived.Test.YtndeimdfklhaiaaGreatDoorF64Join
namespace Go.Proofs.YtndeimdfklhaiaaGreatDoor.Ar
open Go.RowKit
set_option linter.unusedVariables false

theorem clamp_none {n : Int} (h : n ≤ 0) : clampN n = 0 := by unfold clampN; rw [if_pos h]
theorem clamp_at {n : Int} (h : 0 ≤ n) (h' : n ≤ 128) : (clampN n : Int) = n := by
  unfold clampN; split
  · omega
  · split <;> omega
theorem pow_clamp {n : Int} (h : 0 ≤ n) (h' : n ≤ 128) : (2 : Int) ^ clampN n = e2 n := by
  unfold e2
  have := clamp_at h h'
  have : clampN n = n.toNat := by omega
  rw [this]
theorem shl_none {m n : Int} (hm : U m) (h : n ≤ 0) : shLo 0 m (clampN n) = m := by
  rw [clamp_none h]; unfold shLo U at *; simp; omega
theorem shl_some {m n : Int} (h : 0 ≤ n) (h' : n ≤ 128) (hm : 0 ≤ m * e2 n) (hb : m * e2 n < 9007199254740992) : shLo 0 m (clampN n) = m * e2 n := by
  unfold shLo
  rw [pow_clamp h h']
  simp
  omega
theorem shr_none {m n : Int} (hm : U m) (h : n ≤ 0) : srLo 0 m (clampN n) = m ∧ srLost 0 m (clampN n) = false := by
  rw [clamp_none h]; unfold srLo srLost U at *; simp [Int.emod_one]; omega
theorem shr_some {m n : Int} (hm : U m) (h : 0 ≤ n) (h' : n ≤ 128) : srLo 0 m (clampN n) = m / e2 n ∧ srLost 0 m (clampN n) = decide (m % e2 n ≠ 0) := by
  unfold srLo srLost
  rw [pow_clamp h h']
  simp
  have hp := e2_pos n
  unfold U at hm
  have h1 : 0 ≤ m / e2 n := Int.ediv_nonneg hm.1 (by omega)
  have h2 : m / e2 n ≤ m := Int.ediv_le_self _ hm.1
  omega
/-- the bounds of the place -/
theorem at_near {m x : Int} (hm : U m) (h0 : m ≠ 0) (h1 : -1137 ≤ x) (h2 : x ≤ 1023) : -1074 ≤ atX m x ∧ atX m x ≤ 1034 ∧ x - atX m x ≤ 52 ∧ atX m x - x ≤ 63 ∧ 1 ≤ lenW m ∧ lenW m ≤ 64 := by
  obtain ⟨k, hk, e, _, _⟩ := lenW_pos hm h0
  unfold atX
  rw [e]
  omega
/-! ### the document's way -/
theorem odd_none {m x M X : Int} (hs : Sm m x M X) (hodd : M % 2 = 1) (h : X < -1074 ∨ 9007199254740992 ≤ M) {N Y : Int} : ¬ Nf m x N Y := by
  rintro ⟨s, a1, a2, a3, a4⟩
  have st := sm_trans (sm_symm hs) s
  rcases st with ⟨l, e⟩ | ⟨l, e⟩
  · have hp := e2_pos (X - Y)
    rcases h with h | h
    · omega
    · have : M * 1 ≤ M * e2 (X - Y) := Int.mul_le_mul_of_nonneg_left (by omega) (by omega)
      omega
  · by_cases hl : X = Y
    · subst hl
      rw [Int.sub_self, e2_zero (Int.le_refl 0)] at e
      omega
    · have : e2 (Y - X) = e2 (Y - X - 1) * 2 := by
        rw [← e2_one, ← e2_add (by omega) (by omega)]; congr 1; omega
      rw [this, ← Int.mul_assoc] at e
      omega
theorem sm_half {m x M X : Int} (h : Sm m x M X) (he : M % 2 = 0) : Sm m x (M / 2) (X + 1) := by
  refine sm_trans h (Or.inr ⟨by omega, ?_⟩)
  have : X + 1 - X = 1 := by omega
  rw [this, e2_one]; omega
theorem sm_twice {m x M X : Int} (h : Sm m x M X) : Sm m x (M * 2) (X - 1) := by
  refine sm_trans h (Or.inl ⟨by omega, ?_⟩)
  have : X - (X - 1) = 1 := by omega
  rw [this, e2_one]
/-- the first loop: halved as long as it is even -/
def Jh (m x M X : Int) : Prop := Sm m x M X ∧ x ≤ X ∧ 0 < M ∧ U M ∧ X ≤ x + 64
theorem jh_start {m x : Int} (hm : U m) (h0 : m ≠ 0) : Jh m x m x := by
  refine ⟨sm_refl _ _, Int.le_refl _, ?_, hm, by omega⟩
  unfold U at hm; omega
theorem jh_step {m x M X : Int} (hm : U m) (h : Jh m x M X) (he : M % 2 = 0) : Jh m x (M / 2) (X + 1) := by
  obtain ⟨s, l, p, u, _⟩ := h
  have s' := sm_half s he
  refine ⟨s', by omega, by omega, by unfold U at *; omega, ?_⟩
  apply Decidable.byContradiction
  intro hc
  rcases s' with ⟨h, _⟩ | ⟨h, e⟩
  · omega
  · have h2 : e2 64 ≤ e2 (X + 1 - x) := e2_le (by omega)
    have : 1 * e2 (X + 1 - x) ≤ M / 2 * e2 (X + 1 - x) := Int.mul_le_mul_of_nonneg_right (by omega) (by have := e2_pos (X + 1 - x); omega)
    rw [e2_64] at h2
    unfold U at hm
    omega
/-- the second loop: doubled as long as it must be -/
def Jd (m x M X : Int) : Prop := Sm m x M X ∧ -1074 ≤ X ∧ 0 < M ∧ M < 9007199254740992 ∧ X ≤ 1264
theorem jd_step {m x M X : Int} (h : Jd m x M X) (h1 : -1074 < X) (h2 : M < 4503599627370496) : Jd m x (M * 2) (X - 1) := by
  obtain ⟨s, a1, a2, a3, a4⟩ := h
  exact ⟨sm_twice s, by omega, by omega, by omega, by omega⟩
theorem jd_end {m x M X : Int} (h : Jd m x M X) (h1 : X ≤ -1074 ∨ 4503599627370496 ≤ M) : Nf m x M X := by
  obtain ⟨s, a1, a2, a3, a4⟩ := h
  exact ⟨s, a1, a2, a3, by omega⟩
theorem joinR_odd {s : Bool} {m x M X : Int} (h0 : m ≠ 0) (hs : Sm m x M X) (hodd : M % 2 = 1) (h : X < -1074 ∨ 9007199254740992 ≤ M) : JoinIs s m x 0 61 :=
  Or.inr ⟨h0, Or.inr ⟨fun N Y k => (odd_none hs hodd h k).elim, rfl, rfl⟩⟩
theorem joinR_big {s : Bool} {m x M X : Int} (h0 : m ≠ 0) (h : Nf m x M X) (hx : 971 < X) : JoinIs s m x 0 61 :=
  Or.inr ⟨h0, Or.inr ⟨fun N Y k => by obtain ⟨_, rfl⟩ := nf_uniq h k; exact hx, rfl, rfl⟩⟩
theorem joinR_ok {s : Bool} {m x M X b : Int} (h0 : m ≠ 0) (h : Nf m x M X) (hx : X ≤ 971) (hb : b = sgB s + (X + 1074) * 4503599627370496 + M) : JoinIs s m x b 0 :=
  Or.inr ⟨h0, Or.inl ⟨M, X, h, hx, hb, rfl⟩⟩
/-! ### what Split tells is joined again -/
theorem split_nf {b : Int} (hf : ef b ≠ 2047) (h0 : spM b ≠ 0) : -1074 ≤ spX b ∧ spX b ≤ 971 ∧ 0 < spM b ∧ spM b < 9007199254740992 ∧ (spX b = -1074 ∨ 4503599627370496 ≤ spM b) := by
  have h1 := ef_bd b
  have h2 := fr_bd b
  unfold spM spX at *
  simp only [if_neg hf] at *
  split <;> simp_all <;> omega
theorem split_b {b : Int} (h : U b) (hf : ef b ≠ 2047) : b = sgB (spS b) + (spX b + 1074) * 4503599627370496 + spM b := by
  have h1 := ef_bd b
  have h2 := fr_bd b
  have h3 := mg_parts b
  unfold mg at h3
  unfold U at h
  unfold spM spX spS sgB at *
  simp only [if_neg hf] at *
  by_cases hs : 9223372036854775808 ≤ b
  · simp only [hs, decide_true, if_true]
    split <;> omega
  · have hd : decide (9223372036854775808 ≤ b) = false := by simpa using hs
    rw [hd, if_neg (by decide)]
    split <;> omega
theorem join_split {b : Int} (h : U b) (hf : ef b ≠ 2047) (k : Nat) : JoinIs (spS b) (spM b * 2 ^ k) (spX b - k) b 0 := by
  have hp := pow_pos k
  by_cases h0 : spM b = 0
  · left
    refine ⟨by rw [h0, Int.zero_mul], ?_, rfl⟩
    have hb := split_b h hf
    have h1 := ef_bd b
    have h2 := fr_bd b
    have hx : spX b = -1074 := by
      unfold spM spX at *
      simp only [if_neg hf] at *
      split at h0
      · rw [if_pos (by assumption)]
      · omega
    rw [hx, h0] at hb
    omega
  · obtain ⟨a1, a2, a3, a4, a5⟩ := split_nf hf h0
    right
    refine ⟨?_, Or.inl ⟨spM b, spX b, ⟨sm_up, a1, a3, a4, a5⟩, a2, split_b h hf, rfl⟩⟩
    have := Int.mul_pos a3 hp
    omega
end Go.Proofs.YtndeimdfklhaiaaGreatDoor.Ar
