import Derived.Test.YtceecgklgkiffaaGreatDoorBaseA
/- Plain numbers: patterns of binary64. -/
namespace Go.Proofs.YtceecgklgkiffaaGreatDoor.Ar
open Go.RowKit
set_option linter.unusedVariables false

/-- the pattern without its sign -/
def mg (b : Int) : Int := b % 9223372036854775808
/-- the exponent field -/
def ef (b : Int) : Int := b % 9223372036854775808 / 4503599627370496
/-- the fraction -/
def fr (b : Int) : Int := b % 4503599627370496
theorem U_63 : U 9223372036854775808 := by unfold U; omega
theorem size_bits {b : Int} (h : U b) : bits .andNot .u64 b 9223372036854775808 = mg b := by
  rw [andNot_and h U_63]
  unfold U at h
  have e0 : (18446744073709551615 - 9223372036854775808 : Int) = 9223372036854775807 := rfl
  rw [e0, u64_and b _ h.1 h.2 (by omega) (by omega)]
  have : (b.toNat &&& (9223372036854775807 : Int).toNat) = b.toNat % 9223372036854775808 := Nat.and_two_pow_sub_one_eq_mod b.toNat 63
  rw [this]; unfold mg; omega
theorem frac_bits {b : Int} (h : U b) : bits .and .u64 b 4503599627370495 = fr b := by
  unfold U at h
  rw [u64_and b _ h.1 h.2 (by omega) (by omega)]
  have : (b.toNat &&& (4503599627370495 : Int).toNat) = b.toNat % 4503599627370496 := Nat.and_two_pow_sub_one_eq_mod b.toNat 52
  rw [this]; unfold fr; omega
theorem sign_and {b : Int} (h : U b) : bits .and .u64 b 9223372036854775808 = b / 9223372036854775808 * 9223372036854775808 := by
  have ht := top_and h U_63
  have hu := U_bits_and h U_63
  have hm : bits .and .u64 b 9223372036854775808 % 9223372036854775808 = 0 := by
    unfold U at h
    rw [u64_and b _ h.1 h.2 (by omega) (by omega)]
    have e : (b.toNat &&& (9223372036854775808 : Int).toNat) % 2 ^ 63 = (b.toNat % 2 ^ 63) &&& ((9223372036854775808 : Int).toNat % 2 ^ 63) := Nat.and_mod_two_pow
    have e2 : ((9223372036854775808 : Int).toNat % 2 ^ 63) = 0 := rfl
    rw [e2, Nat.and_zero] at e
    have e3 : (2 : Nat) ^ 63 = 9223372036854775808 := rfl
    rw [e3] at e
    omega
  have e1 : top 9223372036854775808 = 1 := rfl
  rw [e1, Int.mul_one] at ht
  unfold top at ht
  unfold U at *
  omega
theorem sign_ne {b : Int} (h : U b) : (bits .and .u64 b 9223372036854775808 != 0) = decide (9223372036854775808 ≤ b) := by
  rw [sign_and h, Bool.eq_iff_iff]
  unfold U at h
  simp
  omega
theorem sign_or {b : Int} (h : U b) (hb : b < 9223372036854775808) : bits .or .u64 b 9223372036854775808 = b + 9223372036854775808 := by
  have ht := top_or h U_63
  have hu := U_bits_or h U_63
  have hm : bits .or .u64 b 9223372036854775808 % 9223372036854775808 = b := by
    unfold U at h
    rw [u64_or b _ h.1 h.2 (by omega) (by omega)]
    have e : (b.toNat ||| (9223372036854775808 : Int).toNat) % 2 ^ 63 = (b.toNat % 2 ^ 63) ||| ((9223372036854775808 : Int).toNat % 2 ^ 63) := Nat.or_mod_two_pow
    have e2 : ((9223372036854775808 : Int).toNat % 2 ^ 63) = 0 := rfl
    rw [e2, Nat.or_zero] at e
    have e3 : (2 : Nat) ^ 63 = 9223372036854775808 := rfl
    rw [e3] at e
    omega
  have e1 : top 9223372036854775808 = 1 := rfl
  rw [e1, Int.mul_one] at ht
  unfold top at ht
  unfold U at *
  omega
/-- the other sign -/
def negW (b : Int) : Int := if b < 9223372036854775808 then b + 9223372036854775808 else b - 9223372036854775808
theorem sign_xor {b : Int} (h : U b) : bits .xor .u64 b 9223372036854775808 = negW b := by
  have ht := top_xor h U_63
  have hu := U_bits_xor h U_63
  have hm : bits .xor .u64 b 9223372036854775808 % 9223372036854775808 = b % 9223372036854775808 := by
    unfold U at h
    rw [u64_xor b _ h.1 h.2 (by omega) (by omega)]
    have e : (b.toNat ^^^ (9223372036854775808 : Int).toNat) % 2 ^ 63 = (b.toNat % 2 ^ 63) ^^^ ((9223372036854775808 : Int).toNat % 2 ^ 63) := Nat.xor_mod_two_pow
    have e2 : ((9223372036854775808 : Int).toNat % 2 ^ 63) = 0 := rfl
    rw [e2, Nat.xor_zero] at e
    have e3 : (2 : Nat) ^ 63 = 9223372036854775808 := rfl
    rw [e3] at e
    omega
  have e1 : top 9223372036854775808 = 1 := rfl
  rw [e1, Int.mul_one] at ht
  unfold top at ht
  unfold negW
  unfold U at *
  split <;> omega
theorem U_negW {b : Int} (h : U b) : U (negW b) := by unfold U at *; unfold negW; split <;> omega
theorem hid_or {b : Int} (h0 : 0 ≤ b) (hb : b < 4503599627370496) : bits .or .u64 b 4503599627370496 = 4503599627370496 + b := by
  rw [u64_or b _ h0 (by omega) (by omega) (by omega), Nat.or_comm]
  have : ((4503599627370496 : Int).toNat ||| b.toNat) = (4503599627370496 : Int).toNat + b.toNat := nat_join 52 _ _ (by decide) (by omega)
  rw [this]; omega
theorem field_and {b : Int} (h : U b) : bits .and .u64 (b / 4503599627370496) 2047 = ef b := by
  unfold U at h
  rw [u64_and _ _ (by omega) (by omega) (by omega) (by omega)]
  have : ((b / 4503599627370496).toNat &&& (2047 : Int).toNat) = (b / 4503599627370496).toNat % 2048 := Nat.and_two_pow_sub_one_eq_mod _ 11
  rw [this]; unfold ef; omega

theorem mg_bd (b : Int) : 0 ≤ mg b ∧ mg b < 9223372036854775808 := by unfold mg; omega
theorem ef_bd (b : Int) : 0 ≤ ef b ∧ ef b ≤ 2047 := by unfold ef; omega
theorem fr_bd (b : Int) : 0 ≤ fr b ∧ fr b < 4503599627370496 := by unfold fr; omega
theorem U_mg (b : Int) : U (mg b) := by unfold U mg; omega
theorem U_fr (b : Int) : U (fr b) := by unfold U fr; omega
theorem mg_parts (b : Int) : mg b = ef b * 4503599627370496 + fr b := by unfold mg ef fr; omega
theorem ef_negW {b : Int} (h : U b) : ef (negW b) = ef b := by unfold U at h; unfold negW ef; split <;> omega
theorem fr_negW {b : Int} (h : U b) : fr (negW b) = fr b := by unfold U at h; unfold negW fr; split <;> omega
theorem mg_negW {b : Int} (h : U b) : mg (negW b) = mg b := by unfold U at h; unfold negW mg; split <;> omega
theorem negW_negW {b : Int} (h : U b) : negW (negW b) = b := by unfold U at h; unfold negW; split <;> split <;> omega

/-! ### what the functions answer -/
def clsW (b : Int) : Int := if ef b = 2047 then (if fr b = 0 then 3 else 4) else if ef b = 0 then (if fr b = 0 then 0 else 1) else 2
def fiE (b : Int) : Int := if ef b = 2047 then 60 else 0
def spS (b : Int) : Bool := if ef b = 2047 then false else decide (9223372036854775808 ≤ b)
def spM (b : Int) : Int := if ef b = 2047 then 0 else if ef b = 0 then fr b else 4503599627370496 + fr b
def spX (b : Int) : Int := if ef b = 2047 then 0 else if ef b = 0 then -1074 else ef b - 1075
def rk0 (b : Int) : Int := if b < 9223372036854775808 then b else -(b - 9223372036854775808)
def rkW (b : Int) : Int := if ef b = 2047 then 0 else rk0 b
def atE (r : Int) : Int := if r < -9218868437227405311 then 62 else if 9218868437227405311 < r then 62 else 0
def atW (r : Int) : Int := if r < -9218868437227405311 then 0 else if 9218868437227405311 < r then 0 else if r < 0 then 9223372036854775808 - r else r
def nxE (b : Int) : Int := if ef b = 2047 then 60 else if b = 9218868437227405311 then 62 else 0
def nxW (b : Int) : Int := if ef b = 2047 then 0 else if b = 9218868437227405311 then 0 else if b < 9223372036854775808 then b + 1 else if b = 9223372036854775808 then 1 else b - 1
def pvW (b : Int) : Int := if nxE (negW b) = 0 then negW (nxW (negW b)) else 0
def cmE (a b : Int) : Int := if ef a = 2047 then 60 else if ef b = 2047 then 60 else 0
def cmW (a b : Int) : Int := if ef a = 2047 then 0 else if ef b = 2047 then 0 else ord (rk0 a) (rk0 b)
def sgB (s : Bool) : Int := if s = true then 9223372036854775808 else 0
theorem U_spM (b : Int) : U (spM b) := by
  have := fr_bd b
  unfold U spM; split
  · omega
  · split <;> omega
theorem U_nxW {b : Int} (h : U b) : U (nxW b) := by unfold U at *; unfold nxW; repeat' split <;> omega
end Go.Proofs.YtceecgklgkiffaaGreatDoor.Ar

/- Plain numbers: the one pattern of a mantissa and an exponent. -/
namespace Go.Proofs.YtceecgklgkiffaaGreatDoor.Ar
open Go.RowKit
set_option linter.unusedVariables false

/-- two to a number (one, where it is below none) -/
def e2 (k : Int) : Int := 2 ^ k.toNat
theorem e2_pos (k : Int) : 0 < e2 k := pow_pos _
theorem e2_zero {k : Int} (h : k ≤ 0) : e2 k = 1 := by
  unfold e2
  have : k.toNat = 0 := by omega
  rw [this]; rfl
theorem e2_add {j k : Int} (hj : 0 ≤ j) (hk : 0 ≤ k) : e2 (j + k) = e2 j * e2 k := by
  unfold e2
  have : (j + k).toNat = j.toNat + k.toNat := by omega
  rw [this, Int.pow_add]
theorem e2_le {j k : Int} (h : j ≤ k) : e2 j ≤ e2 k := by
  unfold e2
  rw [← pow_cast, ← pow_cast]
  exact Int.ofNat_le.mpr (Nat.pow_le_pow_right (by omega) (by omega))
theorem e2_one : e2 1 = 2 := rfl
theorem e2_52 : e2 52 = 4503599627370496 := rfl
theorem e2_53 : e2 53 = 9007199254740992 := rfl
theorem e2_63 : e2 63 = 9223372036854775808 := rfl
theorem e2_64 : e2 64 = 18446744073709551616 := rfl
theorem mul_can {a b c : Int} (h : a * c = b * c) (hc : 0 < c) : a = b := Int.eq_of_mul_eq_mul_right (by omega) h
/-- m times two to the x is M times two to the X -/
def Sm (m x M X : Int) : Prop := (X ≤ x ∧ M = m * e2 (x - X)) ∨ (x ≤ X ∧ m = M * e2 (X - x))
theorem sm_iff {m x M X : Int} (L : Int) (h1 : L ≤ x) (h2 : L ≤ X) : Sm m x M X ↔ m * e2 (x - L) = M * e2 (X - L) := by
  unfold Sm
  constructor
  · rintro (⟨h, e⟩ | ⟨h, e⟩)
    · rw [e, Int.mul_assoc, ← e2_add (by omega) (by omega)]
      congr 2; omega
    · rw [e, Int.mul_assoc, ← e2_add (by omega) (by omega)]
      congr 2; omega
  · intro e
    by_cases h : X ≤ x
    · left
      refine ⟨h, ?_⟩
      have s : e2 (x - L) = e2 (x - X) * e2 (X - L) := by rw [← e2_add (by omega) (by omega)]; congr 1; omega
      rw [s, ← Int.mul_assoc] at e
      exact (mul_can e (e2_pos _)).symm
    · right
      refine ⟨by omega, ?_⟩
      have s : e2 (X - L) = e2 (X - x) * e2 (x - L) := by rw [← e2_add (by omega) (by omega)]; congr 1; omega
      rw [s, ← Int.mul_assoc] at e
      exact mul_can e (e2_pos _)
theorem sm_refl (m x : Int) : Sm m x m x := Or.inl ⟨Int.le_refl _, by rw [Int.sub_self, e2_zero (Int.le_refl 0), Int.mul_one]⟩
theorem sm_symm {m x M X : Int} (h : Sm m x M X) : Sm M X m x := by
  unfold Sm at *
  rcases h with ⟨h, e⟩ | ⟨h, e⟩
  · exact Or.inr ⟨h, e⟩
  · exact Or.inl ⟨h, e⟩
theorem sm_trans {a x b y c z : Int} (h : Sm a x b y) (k : Sm b y c z) : Sm a x c z := by
  have h1 : min x (min y z) ≤ x := by omega
  have h2 : min x (min y z) ≤ y := by omega
  have h3 : min x (min y z) ≤ z := by omega
  rw [sm_iff _ h1 h2] at h
  rw [sm_iff _ h2 h3] at k
  rw [sm_iff _ h1 h3]
  exact h.trans k
theorem sm_up {m x : Int} {k : Nat} : Sm (m * 2 ^ k) (x - k) m x := by
  refine Or.inr ⟨by omega, ?_⟩
  have : (x - (x - (k : Int))) = k := by omega
  rw [this]
  unfold e2
  rw [Int.toNat_natCast]
theorem sm_pos {m x M X : Int} (h : Sm m x M X) (h0 : 0 < m) : 0 < M := by
  rcases h with ⟨_, e⟩ | ⟨_, e⟩
  · rw [e]; exact Int.mul_pos h0 (e2_pos _)
  · rw [e] at h0
    exact Int.pos_of_mul_pos_left h0 (e2_pos _) 
/-- the form that a pattern has its number in -/
def Nf (m x M X : Int) : Prop := Sm m x M X ∧ -1074 ≤ X ∧ 0 < M ∧ M < 9007199254740992 ∧ (X = -1074 ∨ 4503599627370496 ≤ M)
theorem nf_gap {M X N Y : Int} (h : Sm M X N Y) (hl : X < Y) (hN : 4503599627370496 ≤ N) : 9007199254740992 ≤ M := by
  rcases h with ⟨h, _⟩ | ⟨h, e⟩
  · omega
  · have h2 : 2 ≤ e2 (Y - X) := by rw [← e2_one]; exact e2_le (by omega)
    have : N * 2 ≤ N * e2 (Y - X) := Int.mul_le_mul_of_nonneg_left h2 (by omega)
    rw [e]; omega
theorem nf_uniq {m x M X N Y : Int} (h : Nf m x M X) (k : Nf m x N Y) : M = N ∧ X = Y := by
  obtain ⟨s, a1, a2, a3, a4⟩ := h
  obtain ⟨t, b1, b2, b3, b4⟩ := k
  have st := sm_trans (sm_symm s) t
  have ts := sm_symm st
  have : X = Y := by
    by_cases l : X < Y
    · have := nf_gap st l (by omega); omega
    · by_cases g : Y < X
      · have := nf_gap ts g (by omega); omega
      · omega
  subst this
  refine ⟨?_, rfl⟩
  rw [sm_iff X (Int.le_refl _) (Int.le_refl _)] at st
  exact mul_can st (e2_pos _)
/-- what Join answers -/
def JoinIs (s : Bool) (m x b e : Int) : Prop :=
  (m = 0 ∧ b = sgB s ∧ e = 0) ∨ (m ≠ 0 ∧ ((∃ M X, Nf m x M X ∧ X ≤ 971 ∧ b = sgB s + (X + 1074) * 4503599627370496 + M ∧ e = 0) ∨ ((∀ M X, Nf m x M X → 971 < X) ∧ b = 0 ∧ e = 61)))
theorem joinIs_uniq {s : Bool} {m x b e b' e' : Int} (h : JoinIs s m x b e) (k : JoinIs s m x b' e') : b = b' ∧ e = e' := by
  rcases h with ⟨h0, h1, h2⟩ | ⟨h0, h⟩
  · rcases k with ⟨_, k1, k2⟩ | ⟨k0, _⟩
    · exact ⟨h1.trans k1.symm, h2.trans k2.symm⟩
    · exact absurd h0 k0
  · rcases k with ⟨k0, _⟩ | ⟨_, k⟩
    · exact absurd k0 h0
    · rcases h with ⟨M, X, hn, hx, hb, he⟩ | ⟨hn, hb, he⟩
      · rcases k with ⟨M', X', kn, kx, kb, ke⟩ | ⟨kn, _, _⟩
        · obtain ⟨rfl, rfl⟩ := nf_uniq hn kn
          exact ⟨hb.trans kb.symm, he.trans ke.symm⟩
        · have := kn M X hn; omega
      · rcases k with ⟨M', X', kn, kx, _, _⟩ | ⟨_, kb, ke⟩
        · have := hn M' X' kn; omega
        · exact ⟨hb.trans kb.symm, he.trans ke.symm⟩
theorem U_join {s : Bool} {m x b e : Int} (h : JoinIs s m x b e) : U b := by
  unfold U
  have hs : sgB s = 0 ∨ sgB s = 9223372036854775808 := by unfold sgB; split <;> simp
  rcases h with ⟨_, rfl, _⟩ | ⟨_, ⟨M, X, hn, hx, rfl, _⟩ | ⟨_, rfl, _⟩⟩
  · omega
  · obtain ⟨_, a1, a2, a3, a4⟩ := hn; omega
  · omega
/-! ### too far off -/
theorem far_above {m x M X : Int} (hm : 0 < m) (hx : 1023 < x) (h : Nf m x M X) : 971 < X := by
  obtain ⟨s, a1, a2, a3, a4⟩ := h
  by_cases hX : 971 < X
  · exact hX
  · rcases s with ⟨h, e⟩ | ⟨h, e⟩
    · have h2 : e2 53 ≤ e2 (x - X) := e2_le (by omega)
      have : 1 * e2 (x - X) ≤ m * e2 (x - X) := Int.mul_le_mul_of_nonneg_right (by omega) (by have := e2_pos (x - X); omega)
      rw [e2_53] at h2
      omega
    · omega
theorem far_below {m x M X : Int} (hm : U m) (hx : x < -1137) (h : Nf m x M X) : False := by
  obtain ⟨s, a1, a2, a3, a4⟩ := h
  unfold U at hm
  rcases s with ⟨h, e⟩ | ⟨h, e⟩
  · omega
  · have h2 : e2 64 ≤ e2 (X - x) := e2_le (by omega)
    have : 1 * e2 (X - x) ≤ M * e2 (X - x) := Int.mul_le_mul_of_nonneg_right (by omega) (by have := e2_pos (X - x); omega)
    rw [e2_64] at h2
    omega
theorem join_far {s : Bool} {m x : Int} (hm : U m) (h0 : m ≠ 0) (hx : x < -1137 ∨ 1023 < x) : JoinIs s m x 0 61 := by
  refine Or.inr ⟨h0, Or.inr ⟨?_, rfl, rfl⟩⟩
  intro M X h
  rcases hx with hx | hx
  · exact (far_below hm hx h).elim
  · exact far_above (by unfold U at hm; omega) hx h
/-! ### the program's way -/
/-- where the mantissa comes to stand -/
def atX (m x : Int) : Int := max (x + lenW m - 53) (-1074)
theorem at_right {m x M X : Int} (hm : U m) (h0 : m ≠ 0) (h : Nf m x M X) : X = atX m x := by
  obtain ⟨k, hk, e, l1, l2⟩ := lenW_pos hm h0
  obtain ⟨s, a1, a2, a3, a4⟩ := h
  have hmp : 0 < m := by unfold U at hm; omega
  unfold atX
  rw [e]
  have q1 : (2 : Int) ^ k = e2 k := by unfold e2; rw [Int.toNat_natCast]
  have q0 : ((k : Int) + 1).toNat = k + 1 := by omega
  have q2 : (2 : Int) ^ (k + 1) = e2 (k + 1) := by unfold e2; rw [q0]
  clear q0
  rw [q1] at l1
  rw [q2] at l2
  have lo : X ≥ x + (k + 1) - 53 := by
    rcases s with ⟨h, e⟩ | ⟨h, e⟩
    · -- M = m * 2^(x-X) < 2^53
      apply Decidable.byContradiction
      intro hc
      have h2 : e2 53 ≤ e2 (k + (x - X)) := e2_le (by omega)
      rw [e2_add (by omega) (by omega)] at h2
      have : e2 k * e2 (x - X) ≤ m * e2 (x - X) := Int.mul_le_mul_of_nonneg_right l1 (by have := e2_pos (x - X); omega)
      rw [e2_53] at h2
      omega
    · apply Decidable.byContradiction
      intro hc
      have h2 : e2 (53 + (X - x)) ≤ e2 k := e2_le (by omega)
      rw [e2_add (by omega) (by omega)] at h2
      have : M * e2 (X - x) < e2 53 * e2 (X - x) := Int.mul_lt_mul_of_pos_right (by rw [e2_53]; omega) (e2_pos _)
      omega
  rcases a4 with a4 | a4
  · omega
  · have hi : X ≤ x + (k + 1) - 53 := by
      rcases s with ⟨h, e⟩ | ⟨h, e⟩
      · apply Decidable.byContradiction
        intro hc
        have h2 : e2 (k + 1 + (x - X)) ≤ e2 52 := e2_le (by omega)
        rw [e2_add (by omega) (by omega)] at h2
        have : m * e2 (x - X) < e2 (k + 1) * e2 (x - X) := Int.mul_lt_mul_of_pos_right l2 (e2_pos _)
        rw [e2_52] at h2
        omega
      · apply Decidable.byContradiction
        intro hc
        have h2 : e2 (k + 1) ≤ e2 (52 + (X - x)) := e2_le (by omega)
        rw [e2_add (j := 52) (k := X - x) (by omega) (by omega)] at h2
        have : e2 52 * e2 (X - x) ≤ M * e2 (X - x) := Int.mul_le_mul_of_nonneg_right (by rw [e2_52]; omega) (by have := e2_pos (X - x); omega)
        omega
    omega
theorem at_bd {m x : Int} (hm : U m) (h0 : m ≠ 0) : ∃ k : Nat, k < 64 ∧ lenW m = k + 1 ∧ e2 k ≤ m ∧ m < e2 (k + 1) := by
  obtain ⟨k, hk, e, l1, l2⟩ := lenW_pos hm h0
  refine ⟨k, hk, e, ?_, ?_⟩
  · unfold e2; rw [Int.toNat_natCast]; exact l1
  · unfold e2; have : ((k : Int) + 1).toNat = k + 1 := by omega
    rw [this]; exact l2
/-- moved up: nothing is lost -/
theorem nf_up {m x : Int} (hm : U m) (h0 : m ≠ 0) (hx : atX m x ≤ x) : Nf m x (m * e2 (x - atX m x)) (atX m x) := by
  obtain ⟨k, hk, e, l1, l2⟩ := at_bd (x := x) hm h0
  have hmp : 0 < m := by unfold U at hm; omega
  have hat : atX m x = max (x + (k + 1) - 53) (-1074) := by unfold atX; rw [e]
  generalize atX m x = A at *
  have hp := e2_pos (x - A)
  refine ⟨Or.inl ⟨hx, rfl⟩, by omega, Int.mul_pos hmp hp, ?_, ?_⟩
  · have h2 : e2 (k + 1 + (x - A)) ≤ e2 53 := e2_le (by omega)
    rw [e2_add (by omega) (by omega)] at h2
    have : m * e2 (x - A) < e2 (k + 1) * e2 (x - A) := Int.mul_lt_mul_of_pos_right l2 hp
    rw [e2_53] at h2
    omega
  · by_cases hA : A = -1074
    · exact Or.inl hA
    · right
      have h2 : e2 52 ≤ e2 (k + (x - A)) := e2_le (by omega)
      rw [e2_add (by omega) (by omega)] at h2
      have : e2 k * e2 (x - A) ≤ m * e2 (x - A) := Int.mul_le_mul_of_nonneg_right l1 (by omega)
      rw [e2_52] at h2
      omega
/-- moved down: nothing is lost if the low bits are none -/
theorem nf_down {m x : Int} (hm : U m) (h0 : m ≠ 0) (hx : x ≤ atX m x) (hl : m % e2 (atX m x - x) = 0) : Nf m x (m / e2 (atX m x - x)) (atX m x) := by
  obtain ⟨k, hk, e, l1, l2⟩ := at_bd (x := x) hm h0
  have hmp : 0 < m := by unfold U at hm; omega
  have hat : atX m x = max (x + (k + 1) - 53) (-1074) := by unfold atX; rw [e]
  generalize atX m x = A at *
  have hp := e2_pos (A - x)
  have hd : m / e2 (A - x) * e2 (A - x) = m := Int.ediv_mul_cancel (Int.dvd_of_emod_eq_zero hl)
  generalize m / e2 (A - x) = M at *
  have hM : 0 < M := by
    apply Decidable.byContradiction
    intro hc
    have : M * e2 (A - x) ≤ 0 * e2 (A - x) := Int.mul_le_mul_of_nonneg_right (by omega) (by omega)
    omega
  refine ⟨Or.inr ⟨hx, hd.symm⟩, by omega, hM, ?_, ?_⟩
  · apply Decidable.byContradiction
    intro hc
    have h2 : e2 (k + 1) ≤ e2 (53 + (A - x)) := e2_le (by omega)
    rw [e2_add (j := 53) (k := A - x) (by omega) (by omega)] at h2
    have : e2 53 * e2 (A - x) ≤ M * e2 (A - x) := Int.mul_le_mul_of_nonneg_right (by rw [e2_53]; omega) (by omega)
    omega
  · by_cases hA : A = -1074
    · exact Or.inl hA
    · right
      apply Decidable.byContradiction
      intro hc
      have h2 : e2 (52 + (A - x)) ≤ e2 k := e2_le (by omega)
      rw [e2_add (by omega) (by omega)] at h2
      have : M * e2 (A - x) < e2 52 * e2 (A - x) := Int.mul_lt_mul_of_pos_right (by rw [e2_52]; omega) hp
      omega
theorem lost_none {m x : Int} (hm : U m) (h0 : m ≠ 0) (hx : x ≤ atX m x) (hl : m % e2 (atX m x - x) ≠ 0) {M X : Int} : ¬ Nf m x M X := by
  intro h
  have hX := at_right hm h0 h
  obtain ⟨s, a1, a2, a3, a4⟩ := h
  rw [hX] at s
  rcases s with ⟨hh, e⟩ | ⟨hh, e⟩
  · have : atX m x = x := by omega
    rw [this, Int.sub_self, e2_zero (Int.le_refl 0)] at hl
    exact hl (Int.emod_one _)
  · apply hl
    generalize atX m x - x = d at *
    rw [e]
    exact Int.mul_emod_left _ _
/-- the program's answer, by what the shifts leave -/
theorem join_ok {s : Bool} {m x M : Int} (h0 : m ≠ 0) (h : Nf m x M (atX m x)) (ha : atX m x ≤ 971) : JoinIs s m x (sgB s + (atX m x + 1074) * 4503599627370496 + M) 0 :=
  Or.inr ⟨h0, Or.inl ⟨M, atX m x, h, ha, rfl, rfl⟩⟩
theorem join_big {s : Bool} {m x : Int} (hm : U m) (h0 : m ≠ 0) (ha : 971 < atX m x) : JoinIs s m x 0 61 :=
  Or.inr ⟨h0, Or.inr ⟨fun M X h => by rw [at_right hm h0 h]; exact ha, rfl, rfl⟩⟩
theorem join_lost {s : Bool} {m x : Int} (hm : U m) (h0 : m ≠ 0) (hx : x ≤ atX m x) (hl : m % e2 (atX m x - x) ≠ 0) : JoinIs s m x 0 61 :=
  Or.inr ⟨h0, Or.inr ⟨fun M X h => (lost_none hm h0 hx hl h).elim, rfl, rfl⟩⟩
end Go.Proofs.YtceecgklgkiffaaGreatDoor.Ar

/- Plain numbers: what the shifts of Join leave; the document's way to the same form. -/
namespace Go.Proofs.YtceecgklgkiffaaGreatDoor.Ar
open Go.RowKit
set_option linter.unusedVariables false

theorem clamp_none {n : Int} (h : n ≤ 0) : clampN n = 0 := by unfold clampN; rw [if_pos h]
theorem clamp_at {n : Int} (h : 0 ≤ n) (h' : n ≤ 128) : (clampN n : Int) = n := by
  unfold clampN; split
  · omega
  · split <;> omega
theorem pow_clamp {n : Int} (h : 0 ≤ n) (h' : n ≤ 128) : (2 : Int) ^ clampN n = e2 n := by
  unfold e2
  have := clamp_at h h'
  have : clampN n = n.toNat := by omega
  rw [this]
theorem shl_none {m n : Int} (hm : U m) (h : n ≤ 0) : shLo 0 m (clampN n) = m := by
  rw [clamp_none h]; unfold shLo U at *; simp; omega
theorem shl_some {m n : Int} (h : 0 ≤ n) (h' : n ≤ 128) (hm : 0 ≤ m * e2 n) (hb : m * e2 n < 9007199254740992) : shLo 0 m (clampN n) = m * e2 n := by
  unfold shLo
  rw [pow_clamp h h']
  simp
  omega
theorem shr_none {m n : Int} (hm : U m) (h : n ≤ 0) : srLo 0 m (clampN n) = m ∧ srLost 0 m (clampN n) = false := by
  rw [clamp_none h]; unfold srLo srLost U at *; simp [Int.emod_one]; omega
theorem shr_some {m n : Int} (hm : U m) (h : 0 ≤ n) (h' : n ≤ 128) : srLo 0 m (clampN n) = m / e2 n ∧ srLost 0 m (clampN n) = decide (m % e2 n ≠ 0) := by
  unfold srLo srLost
  rw [pow_clamp h h']
  simp
  have hp := e2_pos n
  unfold U at hm
  have h1 : 0 ≤ m / e2 n := Int.ediv_nonneg hm.1 (by omega)
  have h2 : m / e2 n ≤ m := Int.ediv_le_self _ hm.1
  omega
/-- the bounds of the place -/
theorem at_near {m x : Int} (hm : U m) (h0 : m ≠ 0) (h1 : -1137 ≤ x) (h2 : x ≤ 1023) : -1074 ≤ atX m x ∧ atX m x ≤ 1034 ∧ x - atX m x ≤ 52 ∧ atX m x - x ≤ 63 ∧ 1 ≤ lenW m ∧ lenW m ≤ 64 := by
  obtain ⟨k, hk, e, _, _⟩ := lenW_pos hm h0
  unfold atX
  rw [e]
  omega
/-! ### the document's way -/
theorem odd_none {m x M X : Int} (hs : Sm m x M X) (hodd : M % 2 = 1) (h : X < -1074 ∨ 9007199254740992 ≤ M) {N Y : Int} : ¬ Nf m x N Y := by
  rintro ⟨s, a1, a2, a3, a4⟩
  have st := sm_trans (sm_symm hs) s
  rcases st with ⟨l, e⟩ | ⟨l, e⟩
  · have hp := e2_pos (X - Y)
    rcases h with h | h
    · omega
    · have : M * 1 ≤ M * e2 (X - Y) := Int.mul_le_mul_of_nonneg_left (by omega) (by omega)
      omega
  · by_cases hl : X = Y
    · subst hl
      rw [Int.sub_self, e2_zero (Int.le_refl 0)] at e
      omega
    · have : e2 (Y - X) = e2 (Y - X - 1) * 2 := by
        rw [← e2_one, ← e2_add (by omega) (by omega)]; congr 1; omega
      rw [this, ← Int.mul_assoc] at e
      omega
theorem sm_half {m x M X : Int} (h : Sm m x M X) (he : M % 2 = 0) : Sm m x (M / 2) (X + 1) := by
  refine sm_trans h (Or.inr ⟨by omega, ?_⟩)
  have : X + 1 - X = 1 := by omega
  rw [this, e2_one]; omega
theorem sm_twice {m x M X : Int} (h : Sm m x M X) : Sm m x (M * 2) (X - 1) := by
  refine sm_trans h (Or.inl ⟨by omega, ?_⟩)
  have : X - (X - 1) = 1 := by omega
  rw [this, e2_one]
/-- the first loop: halved as long as it is even -/
def Jh (m x M X : Int) : Prop := Sm m x M X ∧ x ≤ X ∧ 0 < M ∧ U M ∧ X ≤ x + 64
theorem jh_start {m x : Int} (hm : U m) (h0 : m ≠ 0) : Jh m x m x := by
  refine ⟨sm_refl _ _, Int.le_refl _, ?_, hm, by omega⟩
  unfold U at hm; omega
theorem jh_step {m x M X : Int} (hm : U m) (h : Jh m x M X) (he : M % 2 = 0) : Jh m x (M / 2) (X + 1) := by
  obtain ⟨s, l, p, u, _⟩ := h
  have s' := sm_half s he
  refine ⟨s', by omega, by omega, by unfold U at *; omega, ?_⟩
  apply Decidable.byContradiction
  intro hc
  rcases s' with ⟨h, _⟩ | ⟨h, e⟩
  · omega
  · have h2 : e2 64 ≤ e2 (X + 1 - x) := e2_le (by omega)
    have : 1 * e2 (X + 1 - x) ≤ M / 2 * e2 (X + 1 - x) := Int.mul_le_mul_of_nonneg_right (by omega) (by have := e2_pos (X + 1 - x); omega)
    rw [e2_64] at h2
    unfold U at hm
    omega
/-- the second loop: doubled as long as it must be -/
def Jd (m x M X : Int) : Prop := Sm m x M X ∧ -1074 ≤ X ∧ 0 < M ∧ M < 9007199254740992 ∧ X ≤ 1264
theorem jd_step {m x M X : Int} (h : Jd m x M X) (h1 : -1074 < X) (h2 : M < 4503599627370496) : Jd m x (M * 2) (X - 1) := by
  obtain ⟨s, a1, a2, a3, a4⟩ := h
  exact ⟨sm_twice s, by omega, by omega, by omega, by omega⟩
theorem jd_end {m x M X : Int} (h : Jd m x M X) (h1 : X ≤ -1074 ∨ 4503599627370496 ≤ M) : Nf m x M X := by
  obtain ⟨s, a1, a2, a3, a4⟩ := h
  exact ⟨s, a1, a2, a3, by omega⟩
theorem joinR_odd {s : Bool} {m x M X : Int} (h0 : m ≠ 0) (hs : Sm m x M X) (hodd : M % 2 = 1) (h : X < -1074 ∨ 9007199254740992 ≤ M) : JoinIs s m x 0 61 :=
  Or.inr ⟨h0, Or.inr ⟨fun N Y k => (odd_none hs hodd h k).elim, rfl, rfl⟩⟩
theorem joinR_big {s : Bool} {m x M X : Int} (h0 : m ≠ 0) (h : Nf m x M X) (hx : 971 < X) : JoinIs s m x 0 61 :=
  Or.inr ⟨h0, Or.inr ⟨fun N Y k => by obtain ⟨_, rfl⟩ := nf_uniq h k; exact hx, rfl, rfl⟩⟩
theorem joinR_ok {s : Bool} {m x M X b : Int} (h0 : m ≠ 0) (h : Nf m x M X) (hx : X ≤ 971) (hb : b = sgB s + (X + 1074) * 4503599627370496 + M) : JoinIs s m x b 0 :=
  Or.inr ⟨h0, Or.inl ⟨M, X, h, hx, hb, rfl⟩⟩
/-! ### what Split tells is joined again -/
theorem split_nf {b : Int} (hf : ef b ≠ 2047) (h0 : spM b ≠ 0) : -1074 ≤ spX b ∧ spX b ≤ 971 ∧ 0 < spM b ∧ spM b < 9007199254740992 ∧ (spX b = -1074 ∨ 4503599627370496 ≤ spM b) := by
  have h1 := ef_bd b
  have h2 := fr_bd b
  unfold spM spX at *
  simp only [if_neg hf] at *
  split <;> simp_all <;> omega
theorem split_b {b : Int} (h : U b) (hf : ef b ≠ 2047) : b = sgB (spS b) + (spX b + 1074) * 4503599627370496 + spM b := by
  have h1 := ef_bd b
  have h2 := fr_bd b
  have h3 := mg_parts b
  unfold mg at h3
  unfold U at h
  unfold spM spX spS sgB at *
  simp only [if_neg hf] at *
  by_cases hs : 9223372036854775808 ≤ b
  · simp only [hs, decide_true, if_true]
    split <;> omega
  · have hd : decide (9223372036854775808 ≤ b) = false := by simpa using hs
    rw [hd, if_neg (by decide)]
    split <;> omega
theorem join_split {b : Int} (h : U b) (hf : ef b ≠ 2047) (k : Nat) : JoinIs (spS b) (spM b * 2 ^ k) (spX b - k) b 0 := by
  have hp := pow_pos k
  by_cases h0 : spM b = 0
  · left
    refine ⟨by rw [h0, Int.zero_mul], ?_, rfl⟩
    have hb := split_b h hf
    have h1 := ef_bd b
    have h2 := fr_bd b
    have hx : spX b = -1074 := by
      unfold spM spX at *
      simp only [if_neg hf] at *
      split at h0
      · rw [if_pos (by assumption)]
      · omega
    rw [hx, h0] at hb
    omega
  · obtain ⟨a1, a2, a3, a4, a5⟩ := split_nf hf h0
    right
    refine ⟨?_, Or.inl ⟨spM b, spX b, ⟨sm_up, a1, a3, a4, a5⟩, a2, split_b h hf, rfl⟩⟩
    have := Int.mul_pos a3 hp
    omega
end Go.Proofs.YtceecgklgkiffaaGreatDoor.Ar

/- Plain numbers: neighbours, order, ranks. -/
namespace Go.Proofs.YtceecgklgkiffaaGreatDoor.Ar
open Go.RowKit
set_option linter.unusedVariables false

/-- the number is a pattern's, finite or not, by its size -/
theorem fin_no {b : Int} (h : ef b = 2047) : 9218868437227405312 ≤ mg b := by unfold ef at h; unfold mg; omega
theorem fin_yes {b : Int} (h : ef b ≠ 2047) : mg b ≤ 9218868437227405311 := by unfold ef at h; unfold mg; omega
theorem fin_of {b : Int} (h : mg b ≤ 9218868437227405311) : ef b ≠ 2047 := by unfold mg at h; unfold ef; omega
theorem rk0_mg {b : Int} (h : U b) : (b < 9223372036854775808 ∧ rk0 b = mg b ∧ b = mg b) ∨ (9223372036854775808 ≤ b ∧ rk0 b = -mg b ∧ b = mg b + 9223372036854775808) := by
  unfold U at h
  unfold rk0 mg
  split <;> omega
theorem cls_ge (b : Int) : (3 ≤ clsW b) ↔ ef b = 2047 := by
  unfold clsW
  split
  · split <;> simp_all
  · split
    · split <;> simp_all
    · simp_all
theorem cls_bd (b : Int) : 0 ≤ clsW b ∧ clsW b ≤ 4 := by
  unfold clsW
  split
  · split <;> omega
  · split
    · split <;> omega
    · omega
theorem cls_zero (b : Int) : clsW b = 0 ↔ (ef b ≠ 2047 ∧ spM b = 0) := by
  have h2 := fr_bd b
  unfold clsW spM
  split
  · split <;> simp_all
  · split
    · split <;> simp_all
    · simp_all; omega
theorem cls_negW {b : Int} (h : U b) : clsW (negW b) = clsW b := by unfold clsW; rw [ef_negW h, fr_negW h]
theorem fiE_negW {b : Int} (h : U b) : fiE (negW b) = fiE b := by unfold fiE; rw [ef_negW h]
theorem rk0_negW {b : Int} (h : U b) : rk0 (negW b) = -rk0 b := by unfold U at h; unfold rk0 negW; split <;> split <;> omega
theorem rkW_negW {b : Int} (h : U b) : rkW (negW b) = -rkW b := by unfold rkW; rw [ef_negW h, rk0_negW h]; split <;> omega
theorem ord_neg (a b : Int) : ord (-b) (-a) = ord a b := by unfold ord; split <;> (try split) <;> (try split) <;> (try split) <;> omega
theorem cmE_negW {a b : Int} (h : U a) (k : U b) : cmE (negW b) (negW a) = cmE a b := by unfold cmE; rw [ef_negW h, ef_negW k]; split <;> split <;> rfl
theorem cmW_negW {a b : Int} (h : U a) (k : U b) : cmW (negW b) (negW a) = cmW a b := by
  unfold cmW; rw [ef_negW h, ef_negW k, rk0_negW h, rk0_negW k, ord_neg]; split <;> split <;> rfl
theorem pvW_negW {a : Int} (h : U a) : pvW (negW a) = if nxE a = 0 then negW (nxW a) else 0 := by unfold pvW; rw [negW_negW h]
/-! ### neighbours -/
theorem nx_fin {b : Int} (h : nxE b = 0) : ef b ≠ 2047 ∧ b ≠ 9218868437227405311 := by
  unfold nxE at h
  split at h
  · omega
  · split at h <;> simp_all
theorem nx_mg {b : Int} (h : U b) (he : nxE b = 0) : (b < 9223372036854775808 ∧ nxW b = mg b + 1 ∧ b = mg b ∧ mg b < 9218868437227405311) ∨ (b = 9223372036854775808 ∧ mg b = 0 ∧ nxW b = 1) ∨ (9223372036854775808 < b ∧ b = mg b + 9223372036854775808 ∧ nxW b = mg b + 9223372036854775807 ∧ 0 < mg b ∧ mg b ≤ 9218868437227405311) := by
  obtain ⟨h1, h2⟩ := nx_fin he
  have h3 := fin_yes h1
  unfold nxW
  rw [if_neg h1, if_neg h2]
  unfold U at h
  unfold mg at *
  split
  · omega
  · split <;> omega
theorem nx_next {b : Int} (h : U b) (he : nxE b = 0) : ef (nxW b) ≠ 2047 ∧ rk0 (nxW b) = rk0 b + 1 ∧ U (nxW b) := by
  obtain ⟨h1, h2⟩ := nx_fin he
  have h3 := rk0_mg h
  have hu := U_nxW h
  have h5 := rk0_mg hu
  refine ⟨?_, ?_, hu⟩
  · apply fin_of
    rcases nx_mg h he with ⟨a, b, c, d⟩ | ⟨a, b, c⟩ | ⟨a, b, c, d, e⟩ <;> unfold mg at * <;> omega
  · rcases nx_mg h he with ⟨a, b, c, d⟩ | ⟨a, b, c⟩ | ⟨a, b, c, d, e⟩ <;> omega
theorem ord_lt {a b : Int} (h : a < b) : ord a b = -1 := by unfold ord; rw [if_pos h]
theorem ord_eq {a b : Int} (h : a = b) : ord a b = 0 := by unfold ord; rw [if_neg (by omega), if_neg (by omega)]
theorem ord_cases (a b : Int) : (a < b ∧ ord a b = -1) ∨ (a = b ∧ ord a b = 0) ∨ (b < a ∧ ord a b = 1) := by
  unfold ord; split
  · left; omega
  · split <;> omega
theorem prev_back {b : Int} (h : U b) (he : nxE b = 0) : nxE (negW (nxW b)) = 0 ∧ ef (pvW (nxW b)) ≠ 2047 ∧ rk0 (pvW (nxW b)) = rk0 b ∧ U (pvW (nxW b)) := by
  obtain ⟨h1, h2, h3⟩ := nx_next h he
  have hb := rk0_mg h
  have hm := fin_yes (nx_fin he).1
  have un := U_negW h3
  have rn := rk0_negW h3
  have e0 : nxE (negW (nxW b)) = 0 := by
    unfold nxE
    rw [ef_negW h3, if_neg h1, if_neg]
    intro hc
    have := rk0_mg un
    rw [hc] at this
    have hmm := mg_bd b
    have e : mg 9218868437227405311 = 9218868437227405311 := rfl
    rw [e] at this
    rw [hc] at rn
    omega
  have h4 := nx_next un e0
  refine ⟨e0, ?_, ?_, ?_⟩
  · unfold pvW; rw [if_pos e0, ef_negW h4.2.2]; exact h4.1
  · unfold pvW; rw [if_pos e0, rk0_negW h4.2.2, h4.2.1, rn, h2]; omega
  · unfold pvW; rw [if_pos e0]; exact U_negW h4.2.2
end Go.Proofs.YtceecgklgkiffaaGreatDoor.Ar

/- package f64: the fields of a pattern, Class, Split, Neg, the neighbours, the order. -/
namespace Go.Proofs.YtceecgklgkiffaaGreatDoor
open Go.ChangeShapes Go.WideShapes Go.ChangeAt Go.RowKit
open Ar
set_option linter.unusedVariables false

theorem results_tmp4 {fn : Func} {t u v x : Tmp} (h : fn.results = #[.tmp t, .tmp u, .tmp v, .tmp x]) (tmps : Array Value) (P : Program) (w : World) :
    (results fn tmps).run P w = .ok (.tuple #[tmps.getD t undef, tmps.getD u undef, tmps.getD v undef, tmps.getD x undef]) w := by
  simp [results, h]
theorem ret_b {p q : Bool} (h : p = q) : Ending.returned (.bool p) = .returned (.bool q) := by rw [h]
theorem beq_if {a b : Int} {p : Bool} (h : (a = b) ↔ (p = true)) : (a == b) = p := by rw [Bool.eq_iff_iff]; simpa using h

theorem f6size_any {b : Int} (hb : U b) (w : World) :
    Calls Tryz.prog 117 #[.int .u64 b] w fun e w' => e = .returned (.int .u64 (mg b)) ∧ w = w' := by
  go_enter Tryz.func117, Tryz.ntmps117
  go_wp2
  go_ret
  exact ⟨ret_int (size_bits hb), rfl⟩
theorem f6fraction_any {b : Int} (hb : U b) (w : World) :
    Calls Tryz.prog 67 #[.int .u64 b] w fun e w' => e = .returned (.int .u64 (fr b)) ∧ w = w' := by
  go_enter Tryz.func67, Tryz.ntmps67
  go_wp2
  go_ret
  exact ⟨ret_int (frac_bits hb), rfl⟩
theorem f6negative_any {b : Int} (hb : U b) (w : World) :
    Calls Tryz.prog 74 #[.int .u64 b] w fun e w' => e = .returned (.bool (decide (9223372036854775808 ≤ b))) ∧ w = w' := by
  go_enter Tryz.func74, Tryz.ntmps74
  go_wp2
  go_ret
  exact ⟨ret_b (sign_ne hb), rfl⟩
theorem f6field_any {b : Int} (hb : U b) (w : World) :
    Calls Tryz.prog 69 #[.int .u64 b] w fun e w' => e = .returned (.int .i64 (ef b)) ∧ w = w' := by
  have hm := mg_bd b
  go_enter Tryz.func69, Tryz.ntmps69
  go_wp2_with (go_at_call 117; refine (f6size_any hb _).mono ?_; rintro e w' ⟨rfl, rfl⟩)
  go_ret
  refine ⟨ret_int ?_, rfl⟩
  rfl
theorem f6finite_any {b : Int} (hb : U b) (w : World) :
    Calls Tryz.prog 68 #[.int .u64 b] w fun e w' => e = .returned (.bool (ef b != 2047)) ∧ w = w' := by
  go_enter Tryz.func68, Tryz.ntmps68
  go_wp2_with (go_at_call 69; refine (f6field_any hb _).mono ?_; rintro e w' ⟨rfl, rfl⟩)
  go_ret
  exact ⟨rfl, rfl⟩
theorem f6Neg_any {b : Int} (hb : U b) (w : World) :
    Calls Tryz.prog 23 #[.int .u64 b] w fun e w' => e = .returned (.int .u64 (negW b)) ∧ w = w' := by
  go_enter Tryz.func23, Tryz.ntmps23
  go_wp2
  go_ret
  exact ⟨ret_int (sign_xor hb), rfl⟩
theorem f6rank_any {b : Int} (hb : U b) (w : World) :
    Calls Tryz.prog 198 #[.int .u64 b] w fun e w' => e = .returned (.int .i64 (rk0 b)) ∧ w = w' := by
  have hm := mg_bd b
  have hr := rk0_mg hb
  by_cases hn : 9223372036854775808 ≤ b
  · have hd : decide (9223372036854775808 ≤ b) = true := by simpa using hn
    have E : Hid (-mg b = rk0 b) := by rw [Hid]; omega
    have hN := fun w => f6negative_any hb w
    rw [hd] at hN
    clear hr hd hn
    go_enter Tryz.func198, Tryz.ntmps198
    go_wp2_with (first | (go_at_call 74; refine (hN _).mono ?_; rintro e w' ⟨rfl, rfl⟩) | (go_at_call 117; refine (f6size_any hb _).mono ?_; rintro e w' ⟨rfl, rfl⟩))
    go_ret
    exact ⟨ret_int E.out, rfl⟩
  · have hd : decide (9223372036854775808 ≤ b) = false := by simpa using hn
    have E : Hid (mg b = rk0 b) := by rw [Hid]; omega
    have hN := fun w => f6negative_any hb w
    rw [hd] at hN
    clear hr hd hn
    go_enter Tryz.func198, Tryz.ntmps198
    go_wp2_with (first | (go_at_call 74; refine (hN _).mono ?_; rintro e w' ⟨rfl, rfl⟩) | (go_at_call 117; refine (f6size_any hb _).mono ?_; rintro e w' ⟨rfl, rfl⟩))
    go_ret
    exact ⟨ret_int E.out, rfl⟩
end Go.Proofs.YtceecgklgkiffaaGreatDoor

/- package f64: Class, Split, the neighbours, the order, ranks. -/
namespace Go.Proofs.YtceecgklgkiffaaGreatDoor
open Go.ChangeShapes Go.WideShapes Go.ChangeAt Go.RowKit
open Ar
set_option linter.unusedVariables false
set_option linter.unusedSimpArgs false

theorem ret_biii {k l m : IntKind} {p q : Bool} {a b c d e f : Int} (h : p = q) (h' : a = b) (h'' : c = d) (h3 : e = f) : Ending.returned (.tuple #[.bool p, .int k a, .int l c, .int m e]) = .returned (.tuple #[.bool q, .int k b, .int l d, .int m f]) := by rw [h, h', h'', h3]
theorem isNaN6_any (a : Int) (w : World) : Calls Tryz.prog 215 #[.int .i64 a] w fun e w' => e = .returned (.bool false) ∧ w = w' := by
  have t : (a != a) = false := by simp
  go_enter Tryz.func215, Tryz.ntmps215
  go_wp2
  go_ret
  exact ⟨rfl, rfl⟩
theorem compare6_any (a b : Int) (w : World) : Calls Tryz.prog 197 #[.int .i64 a, .int .i64 b] w fun e w' => e = .returned (.int .i64 (ord a b)) ∧ w = w' := by
  rcases ord_cases a b with ⟨h, E0⟩ | ⟨h, E0⟩ | ⟨h, E0⟩
  all_goals
    rw [E0]
    clear E0
    go_enter Tryz.func197, Tryz.ntmps197
    go_wp2_with (go_at_call 215; refine (isNaN6_any _ _).mono ?_; rintro e w' ⟨rfl, rfl⟩)
    go_ret
    exact ⟨rfl, rfl⟩

theorem f6Class_w {b : Int} (hb : U b) {p q r : Bool} (h1 : (ef b != 2047) = p) (h2 : (ef b != 0) = q) (h3 : (fr b == 0) = r) (w : World) :
    Calls Tryz.prog 29 #[.int .u64 b] w fun e w' => e = .returned (.int .i64 (clsW b)) ∧ w = w' := by
  have hc : clsW b = if p = true then (if q = true then 2 else if r = true then 0 else 1) else (if r = true then 3 else 4) := by
    subst h1 h2 h3
    unfold clsW
    simp
  rw [hc]
  clear hc
  cases p <;> cases q <;> cases r
  all_goals
    go_enter Tryz.func29, Tryz.ntmps29
    go_wp2_with (first | (go_at_call 68; refine (f6finite_any hb _).mono ?_; rintro e w' ⟨rfl, rfl⟩) | (go_at_call 69; refine (f6field_any hb _).mono ?_; rintro e w' ⟨rfl, rfl⟩) | (go_at_call 67; refine (f6fraction_any hb _).mono ?_; rintro e w' ⟨rfl, rfl⟩))
    go_ret
    exact ⟨rfl, rfl⟩
theorem f6Class_any {b : Int} (hb : U b) (w : World) :
    Calls Tryz.prog 29 #[.int .u64 b] w fun e w' => e = .returned (.int .i64 (clsW b)) ∧ w = w' := f6Class_w hb rfl rfl rfl w

theorem cls_of (b : Int) : (ef b = 2047 ∧ (clsW b = 3 ∨ clsW b = 4) ∧ spS b = false ∧ spM b = 0 ∧ spX b = 0 ∧ fiE b = 60) ∨ (ef b ≠ 2047 ∧ (clsW b = 0 ∨ clsW b = 1) ∧ spS b = decide (9223372036854775808 ≤ b) ∧ spM b = fr b ∧ spX b = -1074 ∧ fiE b = 0) ∨ (ef b ≠ 2047 ∧ clsW b = 2 ∧ spS b = decide (9223372036854775808 ≤ b) ∧ spM b = 4503599627370496 + fr b ∧ spX b = ef b - 1075 ∧ fiE b = 0) := by
  unfold clsW spS spM spX fiE
  by_cases h : ef b = 2047
  · left
    simp only [if_pos h]
    refine ⟨h, ?_, by simp⟩
    split <;> simp
  · right
    simp only [if_neg h]
    by_cases h0 : ef b = 0
    · left
      simp only [if_pos h0]
      refine ⟨h, ?_, by simp⟩
      split <;> simp
    · right
      simp only [if_neg h0]
      exact ⟨h, by simp⟩
theorem f6Split_any {b : Int} (hb : U b) (w : World) :
    Calls Tryz.prog 34 #[.int .u64 b] w fun e w' => e = .returned (.tuple #[.bool (spS b), .int .u64 (spM b), .int .i64 (spX b), .int .i64 (fiE b)]) ∧ w = w' := by
  have hK := fun w => f6Class_any hb w
  have hf := fr_bd b
  have he := ef_bd b
  have ho := hid_or hf.1 hf.2
  rcases cls_of b with ⟨h, hc, e1, e2, e3, e4⟩ | ⟨h, hc, e1, e2, e3, e4⟩ | ⟨h, hc, e1, e2, e3, e4⟩
  · rw [e1, e2, e3, e4]
    clear e1 e2 e3 e4 h ho
    rcases hc with hc | hc
    all_goals
      rw [hc] at hK
      clear hc
      go_enter Tryz.func34, Tryz.ntmps34
      go_wp2_with (first | (go_at_call 29; refine (hK _).mono ?_; rintro e w' ⟨rfl, rfl⟩) | (go_at_call 67; refine (f6fraction_any hb _).mono ?_; rintro e w' ⟨rfl, rfl⟩))
      ((try simp only [Exit.inBlock, Exit.then]); refine bodyPost_ret (results_tmp4 rfl _ _ _) rfl ?_)
      exact ⟨rfl, rfl⟩
  · rw [e1, e2, e3, e4]
    clear e1 e2 e3 e4 h ho
    rcases hc with hc | hc
    all_goals
      rw [hc] at hK
      clear hc
      go_enter Tryz.func34, Tryz.ntmps34
      go_wp2_with (first | (go_at_call 29; refine (hK _).mono ?_; rintro e w' ⟨rfl, rfl⟩) | (go_at_call 67; refine (f6fraction_any hb _).mono ?_; rintro e w' ⟨rfl, rfl⟩) | (go_at_call 74; refine (f6negative_any hb _).mono ?_; rintro e w' ⟨rfl, rfl⟩))
      ((try simp only [Exit.inBlock, Exit.then]); refine bodyPost_ret (results_tmp4 rfl _ _ _) rfl ?_)
      exact ⟨rfl, rfl⟩
  · rw [e1, e2, e3, e4]
    rw [hc] at hK
    have O : Hid (bits .or .u64 (fr b) 4503599627370496 = 4503599627370496 + fr b) := ho
    clear e1 e2 e3 e4 h ho hc
    go_enter Tryz.func34, Tryz.ntmps34
    go_wp2_with (first | (go_at_call 29; refine (hK _).mono ?_; rintro e w' ⟨rfl, rfl⟩) | (go_at_call 67; refine (f6fraction_any hb _).mono ?_; rintro e w' ⟨rfl, rfl⟩) | (go_at_call 74; refine (f6negative_any hb _).mono ?_; rintro e w' ⟨rfl, rfl⟩) | (go_at_call 69; refine (f6field_any hb _).mono ?_; rintro e w' ⟨rfl, rfl⟩))
    ((try simp only [Exit.inBlock, Exit.then]); refine bodyPost_ret (results_tmp4 rfl _ _ _) rfl ?_)
    exact ⟨ret_biii rfl O.out rfl rfl, rfl⟩
theorem f6Cmp_any {a b : Int} (ha : U a) (hb : U b) (w : World) :
    Calls Tryz.prog 167 #[.int .u64 a, .int .u64 b] w fun e w' => e = .returned (.tuple #[.int .i64 (cmW a b), .int .i64 (cmE a b)]) ∧ w = w' := by
  have hF := fun w => f6finite_any ha w
  have hG := fun w => f6finite_any hb w
  unfold cmW cmE
  by_cases h : ef a = 2047
  · have q : (ef a != 2047) = false := bne_of h
    rw [q] at hF
    rw [if_pos h, if_pos h]
    clear h q
    go_enter Tryz.func167, Tryz.ntmps167
    go_wp2_with fail
    refine (hF _).mono ?_
    rintro e w' ⟨rfl, rfl⟩
    go_wp2_with fail
    go_ret2
    exact ⟨rfl, rfl⟩
  · have q : (ef a != 2047) = true := bne_yes h
    rw [q] at hF
    rw [if_neg h, if_neg h]
    clear h q
    by_cases h : ef b = 2047
    · have q : (ef b != 2047) = false := bne_of h
      rw [q] at hG
      rw [if_pos h, if_pos h]
      clear h q
      go_enter Tryz.func167, Tryz.ntmps167
      go_wp2_with fail
      refine (hF _).mono ?_
      rintro e w' ⟨rfl, rfl⟩
      go_wp2_with fail
      refine (hG _).mono ?_
      rintro e w' ⟨rfl, rfl⟩
      go_wp2_with fail
      go_ret2
      exact ⟨rfl, rfl⟩
    · have q : (ef b != 2047) = true := bne_yes h
      rw [q] at hG
      rw [if_neg h, if_neg h]
      clear h q
      go_enter Tryz.func167, Tryz.ntmps167
      go_wp2_with fail
      refine (hF _).mono ?_
      rintro e w' ⟨rfl, rfl⟩
      go_wp2_with fail
      refine (hG _).mono ?_
      rintro e w' ⟨rfl, rfl⟩
      go_wp2_with fail
      refine (f6rank_any ha _).mono ?_
      rintro e w' ⟨rfl, rfl⟩
      go_wp2_with fail
      refine (f6rank_any hb _).mono ?_
      rintro e w' ⟨rfl, rfl⟩
      go_wp2_with (go_at_call 197; refine (compare6_any _ _ _).mono ?_; rintro e w' ⟨rfl, rfl⟩)
      go_ret2
      exact ⟨rfl, rfl⟩
theorem f6Next_any {b : Int} (hb : U b) (w : World) :
    Calls Tryz.prog 166 #[.int .u64 b] w fun e w' => e = .returned (.tuple #[.int .u64 (nxW b), .int .i64 (nxE b)]) ∧ w = w' := by
  have hF := fun w => f6finite_any hb w
  have hN := fun w => f6negative_any hb w
  have hS := fun w => f6size_any hb w
  have hu := hb
  unfold U at hu
  unfold nxW nxE
  by_cases h : ef b = 2047
  · have q : (ef b != 2047) = false := bne_of h
    rw [q] at hF
    rw [if_pos h, if_pos h]
    clear h q
    go_enter Tryz.func166, Tryz.ntmps166
    go_wp2_with ((go_at_call 68; refine (hF _).mono ?_; rintro e w' ⟨rfl, rfl⟩))
    go_ret2
    exact ⟨rfl, rfl⟩
  · have q : (ef b != 2047) = true := bne_yes h
    rw [q] at hF
    rw [if_neg h, if_neg h]
    clear h q
    by_cases h : b = 9218868437227405311
    · have q : (b == 9218868437227405311) = true := beq_of h
      rw [if_pos h, if_pos h]
      clear h
      go_enter Tryz.func166, Tryz.ntmps166
      go_wp2_with ((go_at_call 68; refine (hF _).mono ?_; rintro e w' ⟨rfl, rfl⟩))
      go_ret2
      exact ⟨rfl, rfl⟩
    · have q : (b == 9218868437227405311) = false := beq_no h
      rw [if_neg h, if_neg h]
      clear h
      by_cases h : b < 9223372036854775808
      · have d : decide (9223372036854775808 ≤ b) = false := by simpa using h
        have m : mg b = b := by unfold mg; omega
        rw [d] at hN
        rw [m] at hS
        rw [if_pos h]
        clear d m
        go_enter Tryz.func166, Tryz.ntmps166
        go_wp2_with (first | (go_at_call 68; refine (hF _).mono ?_; rintro e w' ⟨rfl, rfl⟩) | (go_at_call 74; refine (hN _).mono ?_; rintro e w' ⟨rfl, rfl⟩) | (go_at_call 117; refine (hS _).mono ?_; rintro e w' ⟨rfl, rfl⟩))
        go_ret2
        exact ⟨rfl, rfl⟩
      · have d : decide (9223372036854775808 ≤ b) = true := by simpa using h
        rw [d] at hN
        rw [if_neg h]
        clear d
        by_cases k : b = 9223372036854775808
        · have m : mg b = 0 := by unfold mg; omega
          rw [m] at hS
          rw [if_pos k]
          clear m h k
          go_enter Tryz.func166, Tryz.ntmps166
          go_wp2_with (first | (go_at_call 68; refine (hF _).mono ?_; rintro e w' ⟨rfl, rfl⟩) | (go_at_call 74; refine (hN _).mono ?_; rintro e w' ⟨rfl, rfl⟩) | (go_at_call 117; refine (hS _).mono ?_; rintro e w' ⟨rfl, rfl⟩))
          go_ret2
          exact ⟨rfl, rfl⟩
        · have m : (mg b != 0) = true := bne_yes (by unfold mg; omega)
          rw [if_neg k]
          go_enter Tryz.func166, Tryz.ntmps166
          go_wp2_with (first | (go_at_call 68; refine (hF _).mono ?_; rintro e w' ⟨rfl, rfl⟩) | (go_at_call 74; refine (hN _).mono ?_; rintro e w' ⟨rfl, rfl⟩) | (go_at_call 117; refine (hS _).mono ?_; rintro e w' ⟨rfl, rfl⟩))
          go_ret2
          exact ⟨rfl, rfl⟩
theorem f6Prev_any {b : Int} (hb : U b) (w : World) :
    Calls Tryz.prog 133 #[.int .u64 b] w fun e w' => e = .returned (.tuple #[.int .u64 (pvW b), .int .i64 (nxE (negW b))]) ∧ w = w' := by
  have hn := U_negW hb
  have hx := U_nxW hn
  have hN := fun w => f6Next_any hn w
  have h1 := fun w => f6Neg_any hb w
  have h2 := fun w => f6Neg_any hx w
  by_cases h : nxE (negW b) = 0
  · have E : Hid (negW (nxW (negW b)) = pvW b) := by rw [Hid]; unfold pvW; rw [if_pos h]
    rw [h] at hN ⊢
    clear h
    go_enter Tryz.func133, Tryz.ntmps133
    go_wp2_with fail
    refine (h1 _).mono ?_
    rintro e w' ⟨rfl, rfl⟩
    go_wp2_with fail
    refine (hN _).mono ?_
    rintro e w' ⟨rfl, rfl⟩
    go_wp2_with fail
    refine (h2 _).mono ?_
    rintro e w' ⟨rfl, rfl⟩
    go_wp2_with fail
    go_ret2
    exact ⟨ret_two E.out rfl, rfl⟩
  · have E : Hid (0 = pvW b) := by rw [Hid]; unfold pvW; rw [if_neg h]
    have q : (nxE (negW b) != 0) = true := bne_yes h
    clear h
    go_enter Tryz.func133, Tryz.ntmps133
    go_wp2_with fail
    refine (h1 _).mono ?_
    rintro e w' ⟨rfl, rfl⟩
    go_wp2_with fail
    refine (hN _).mono ?_
    rintro e w' ⟨rfl, rfl⟩
    go_wp2_with fail
    go_ret2
    exact ⟨ret_two E.out rfl, rfl⟩

end Go.Proofs.YtceecgklgkiffaaGreatDoor

/- package f64: Join. -/
namespace Go.Proofs.YtceecgklgkiffaaGreatDoor
open Go.ChangeShapes Go.WideShapes Go.ChangeAt Go.RowKit
open Ar
set_option linter.unusedVariables false

/-- what comes of the shifts -/
def JoinGo (s : Bool) (m x A M2 : Int) (L : Bool) : Prop :=
  (L = true ∧ JoinIs s m x 0 61) ∨ (L = false ∧ 971 < A ∧ JoinIs s m x 0 61) ∨ (L = false ∧ A ≤ 971 ∧ 0 < M2 ∧ M2 < 9007199254740992 ∧ JoinIs s m x (sgB s + ((A + 1074) * 4503599627370496 + M2)) 0)
end Go.Proofs.YtceecgklgkiffaaGreatDoor

/- plumbref06: the document's answers but Join. -/
namespace Go.Proofs.YtceecgklgkiffaaGreatDoor
open Go.ChangeShapes Go.WideShapes Go.ChangeAt Go.RowKit
open Ar
set_option linter.unusedVariables false
set_option linter.unusedSimpArgs false

theorem top_is {b : Int} (hb : U b) : (b / 9223372036854775808 == 1) = decide (9223372036854775808 ≤ b) := by
  unfold U at hb
  rw [Bool.eq_iff_iff]; simp; omega
theorem ret_bii {k l : IntKind} {p q : Bool} {a b c d : Int} (h : p = q) (h' : a = b) (h'' : c = d) : Ending.returned (.tuple #[.bool p, .int k a, .int l c]) = .returned (.tuple #[.bool q, .int k b, .int l d]) := by rw [h, h', h'']
theorem r6fields_any {b : Int} (hb : U b) (w : World) :
    Calls Tryz.prog 125 #[.int .u64 b] w fun e w' => e = .returned (.tuple #[.bool (decide (9223372036854775808 ≤ b)), .int .i64 (ef b), .int .u64 (fr b)]) ∧ w = w' := by
  have h1 := field_and hb
  have h2 := frac_bits hb
  have h3 := top_is hb
  have h4 := ef_bd b
  go_enter Tryz.func125, Tryz.ntmps125
  go_wp2
  go_ret3
  refine ⟨ret_bii ?_ ?_ ?_, rfl⟩
  · first | rfl | exact h3
  · first | rfl | exact h1 | (rw [IntKind.wrap_i64]; omega)
  · first | rfl | exact h2
theorem r6Split_any {b : Int} (hb : U b) (w : World) :
    Calls Tryz.prog 84 #[.int .u64 b] w fun e w' => e = .returned (.tuple #[.bool (spS b), .int .u64 (spM b), .int .i64 (spX b), .int .i64 (fiE b)]) ∧ w = w' := by
  have hFl := fun w => r6fields_any hb w
  have h1 := ef_bd b
  have h2 := fr_bd b
  unfold spS spM spX fiE
  generalize decide (9223372036854775808 ≤ b) = s at *
  generalize ef b = E at *
  generalize fr b = F at *
  by_cases e : E = 2047
  · simp only [if_pos e]
    have q : (E == 2047) = true := beq_of e
    clear e
    go_enter Tryz.func84, Tryz.ntmps84
    go_wp2_with ((go_at_call 125; refine (hFl _).mono ?_; rintro e w' ⟨rfl, rfl⟩))
    ((try simp only [Exit.inBlock, Exit.then]); refine bodyPost_ret (results_tmp4 rfl _ _ _) rfl ?_)
    exact ⟨rfl, rfl⟩
  · simp only [if_neg e]
    have q : (E == 2047) = false := beq_no e
    by_cases e0 : E = 0
    · simp only [if_pos e0]
      have k : (E == 0) = true := beq_of e0
      clear e e0
      go_enter Tryz.func84, Tryz.ntmps84
      go_wp2_with ((go_at_call 125; refine (hFl _).mono ?_; rintro e w' ⟨rfl, rfl⟩))
      ((try simp only [Exit.inBlock, Exit.then]); refine bodyPost_ret (results_tmp4 rfl _ _ _) rfl ?_)
      exact ⟨rfl, rfl⟩
    · simp only [if_neg e0]
      have k : (E == 0) = false := beq_no e0
      clear e e0
      go_enter Tryz.func84, Tryz.ntmps84
      go_wp2_with ((go_at_call 125; refine (hFl _).mono ?_; rintro e w' ⟨rfl, rfl⟩))
      ((try simp only [Exit.inBlock, Exit.then]); refine bodyPost_ret (results_tmp4 rfl _ _ _) rfl ?_)
      exact ⟨rfl, rfl⟩

end Go.Proofs.YtceecgklgkiffaaGreatDoor

/- plumblaw06: alive. -/
namespace Go.Proofs.YtceecgklgkiffaaGreatDoor
open Go.ChangeShapes Go.WideShapes Go.ChangeAt Go.RowKit
open Ar
set_option linter.unusedVariables false

theorem join_three {b e : Int} (h : JoinIs true 3 (-1) b e) : b = 13832806255468478464 ∧ e = 0 := by
  refine joinIs_uniq h (Or.inr ⟨by decide, Or.inl ⟨6755399441055744, -52, ⟨Or.inl ⟨by decide, ?_⟩, by decide, by decide, by decide, by decide⟩, by decide, ?_, rfl⟩⟩)
  · have : e2 (-1 - -52) = 2251799813685248 := rfl
    rw [this]; rfl
  · rfl
theorem al1 : spS 4607182418800017408 = false := by decide
theorem al2 : spM 4607182418800017408 = 4503599627370496 := by decide
theorem al3 : spX 4607182418800017408 = -52 := by decide
theorem al4 : fiE 4607182418800017408 = 0 := by decide
theorem al5 : nxW 4607182418800017408 = 4607182418800017409 := by decide
theorem al6 : nxE 4607182418800017408 = 0 := by decide
theorem U_al : U 4607182418800017408 := by unfold U; omega
theorem U_3 : U 3 := by unfold U; omega
end Go.Proofs.YtceecgklgkiffaaGreatDoor
