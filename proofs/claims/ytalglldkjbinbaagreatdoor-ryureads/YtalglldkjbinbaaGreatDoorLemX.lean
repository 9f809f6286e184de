/- Plain numbers: where Fast is sure it is the number itself, rounded. -/
import Derived.Test.YtalglldkjbinbaaGreatDoorLemS
namespace Go.Proofs.YtalglldkjbinbaaGreatDoor
open Go.RowKit
open Na Ar
set_option linter.unusedVariables false
namespace Ar
/-- the number m times ten to the e, by a numerator and a denominator -/
def exN (m e : Int) : Int := if 0 ≤ e then m * 10 ^ e.toNat else m
def exD (e : Int) : Int := if 0 ≤ e then 1 else 10 ^ (-e).toNat
theorem exD_pos (e : Int) : 0 < exD e := by unfold exD; split; omega; exact Int.pow_pos (by omega)
def ExIs (m e b E : Int) : Prop := RoundIs (scA (exN m e) 0) (scB (exD e) 0) false false 0 b E
theorem small_ex {m e b : Int} (h : SmlI m e b) : ExIs m e b 0 := by
  unfold SmlI at h
  unfold ExIs exN exD
  by_cases h0 : 0 ≤ e
  · rw [if_pos h0] at h; rw [if_pos h0, if_pos h0]; exact h
  · rw [if_neg h0] at h; rw [if_neg h0, if_neg h0]; exact h
theorem scB_flat (D : Int) : scB D 0 = D := by unfold scB; rw [e2_zero (by omega), Int.mul_one]
theorem ex_uniq {m e b E b' E' : Int} (h : ExIs m e b E) (h' : ExIs m e b' E') : b = b' ∧ E = E' := roundIs_uniq (scB_pos' (exD_pos e)) h h'
/-! ### there is an answer; the order -/
theorem bel_some {A B : Int} (hA : 0 ≤ A) : ∃ d, BelP A B d := by
  have key : ∀ (n : Nat) (lo hi : Int), hi - lo = n → HalfI A B lo hi → ∃ d, BelP A B d := by
    intro n
    induction n with
    | zero => exact fun lo hi e h => ⟨lo, hav_end h (by omega)⟩
    | succ n ih =>
      intro lo hi e h
      by_cases hq : numW hi * B ≤ A
      · exact ⟨hi, hav_end (hav_up h (by omega) (Int.le_refl _) hq) (by omega)⟩
      · exact ih lo (hi - 1) (by omega) (hav_down h (by omega) (Int.le_refl _) (by omega))
  exact key (mostP - 0).toNat 0 mostP (by decide) (hav_start hA)
theorem round_some {A B : Int} (hA : 0 ≤ A) : ∃ b E, RoundIs A B false false 0 b E := by
  obtain ⟨d, hd⟩ := bel_some (B := B) hA
  by_cases h : agn A B (numW d) false = 0 ∨ upP A B false false 0 d = false
  · exact ⟨_, _, d, hd, Or.inl ⟨h, rfl, rfl⟩⟩
  · have h1 : agn A B (numW d) false ≠ 0 := fun q => h (Or.inl q)
    have h2 : upP A B false false 0 d = true := by
      cases hu : upP A B false false 0 d
      · exact absurd (Or.inr hu) h
      · rfl
    by_cases hm : d = mostP
    · exact ⟨_, _, d, hd, Or.inr ⟨⟨h1, h2⟩, Or.inl ⟨hm, rfl, rfl⟩⟩⟩
    · exact ⟨_, _, d, hd, Or.inr ⟨⟨h1, h2⟩, Or.inr ⟨by have := hd.2.1; omega, rfl, rfl⟩⟩⟩
theorem round_over {A B b E : Int} (hB : 0 < B) (h : RoundIs A B false false 0 b E) : (E = 70 ∧ b = 0 ∧ (numW mostP + nxtN mostP) * B ≤ 2 * A) ∨ (E = 0 ∧ 0 ≤ b ∧ b ≤ mostP ∧ 2 * A < (numW mostP + nxtN mostP) * B) := by
  rcases even_near hB h with h | ⟨h, d, d0, d1, hb, h2, h3, _⟩
  · exact Or.inl h
  · right
    have hs : sgB false = 0 := rfl
    rw [hs, Int.add_zero] at hb
    refine ⟨h, by omega, by omega, ?_⟩
    by_cases hm : d = mostP
    · subst hm
      by_cases hq : 2 * A = (numW mostP + nxtN mostP) * B
      · exact absurd rfl (h3 hq).2
      · omega
    · have hs2 := num_succ d0 (by omega)
      have n1 := num_mono (p := d) (q := mostP) d0 d1 (Int.le_refl _)
      have n2 := num_mono (p := d + 1) (q := mostP) (by omega) (by omega) (Int.le_refl _)
      have n3 := nxt_gt mostP
      rw [hs2] at n2
      have : (numW d + nxtN d) * B < (numW mostP + nxtN mostP) * B := Int.mul_lt_mul_of_pos_right (by omega) hB
      omega
/-- the greater number's answer is not below -/
theorem round_rise {A B A' B' b E b' E' : Int} (hB : 0 < B) (hB' : 0 < B') (hl : A * B' ≤ A' * B) (h : RoundIs A B false false 0 b E) (h' : RoundIs A' B' false false 0 b' E') :
    (E' = 70 ∧ b' = 0) ∨ (E = 0 ∧ E' = 0 ∧ b ≤ b') := by
  rcases round_over hB' h' with ⟨q1, q2, _⟩ | ⟨q1, q2, q3, q4⟩
  · exact Or.inl ⟨q1, q2⟩
  · right
    rcases round_over hB h with ⟨r1, r2, r3⟩ | ⟨r1, r2, r3, r4⟩
    · exfalso
      have a1 : (numW mostP + nxtN mostP) * B * B' ≤ 2 * A * B' := Int.mul_le_mul_of_nonneg_right r3 (by omega)
      have a2 : 2 * A' * B < (numW mostP + nxtN mostP) * B' * B := Int.mul_lt_mul_of_pos_right q4 hB
      have a3 : (numW mostP + nxtN mostP) * B' * B = (numW mostP + nxtN mostP) * B * B' := by rw [Int.mul_assoc, Int.mul_comm B', ← Int.mul_assoc]
      rw [Int.mul_assoc 2 A' B] at a2
      rw [Int.mul_assoc 2 A B'] at a1
      omega
    · exact ⟨r1, q1, round_mono hB hB' hl h h' r1 q1⟩
/-- between two that are rounded alike -/
theorem round_between {A B A1 B1 A2 B2 b E : Int} (hA : 0 ≤ A) (hB : 0 < B) (hB1 : 0 < B1) (hB2 : 0 < B2) (l1 : A1 * B ≤ A * B1) (l2 : A * B2 ≤ A2 * B) (h1 : RoundIs A1 B1 false false 0 b E) (h2 : RoundIs A2 B2 false false 0 b E) : RoundIs A B false false 0 b E := by
  obtain ⟨b', E', h⟩ := round_some (B := B) hA
  have r1 := round_rise hB1 hB l1 h1 h
  have r2 := round_rise hB hB2 l2 h h2
  rcases r1 with ⟨q1, q2⟩ | ⟨q1, q2, q3⟩
  · rcases r2 with ⟨s1, s2⟩ | ⟨s1, s2, s3⟩
    · rw [q1, q2] at h; rw [s1, s2]; exact h
    · omega
  · rcases r2 with ⟨s1, s2⟩ | ⟨s1, s2, s3⟩
    · omega
    · have e1 : b' = b := by omega
      rw [q2] at h; rw [q1, ← e1]; exact h
/-! ### the bounds of the table -/
theorem p10 (n : Nat) : (10 : Int) ^ n = 5 ^ n * 2 ^ n := by rw [← Int.mul_pow]; rfl
/-- five to the e, by a numerator and a denominator -/
def fvN (e : Int) : Int := if 0 ≤ e then 5 ^ e.toNat else 1
def fvD (e : Int) : Int := if 0 ≤ e then 1 else 5 ^ (-e).toNat
/-- powers, with the exponent out of sight -/
def t10 (n : Nat) : Int := 10 ^ n
theorem t10_cast (n : Nat) : ((10 ^ n : Nat) : Int) = t10 n := by unfold t10; rw [Int.natCast_pow]; rfl
theorem t10_pos (n : Nat) : 0 < t10 n := Int.pow_pos (by omega)
theorem t10_mono {a b : Nat} (h : a ≤ b) : t10 a ≤ t10 b := by
  unfold t10
  have e : (10 : Int) ^ b = 10 ^ a * 10 ^ (b - a) := by rw [← Int.pow_add]; congr 1; omega
  rw [e]
  have p1 : (0 : Int) < 10 ^ a := Int.pow_pos (by omega)
  have p2 : (0 : Int) < 10 ^ (b - a) := Int.pow_pos (by omega)
  have := Int.mul_le_mul_of_nonneg_left (show (1 : Int) ≤ 10 ^ (b - a) by omega) (Int.le_of_lt p1)
  omega
theorem e2_cast (n : Nat) : ((2 ^ n : Nat) : Int) = e2 (n : Int) := by unfold e2; rw [Int.toNat_natCast, Int.natCast_pow]; rfl
theorem blt_cast {a b : Nat} (h : Nat.blt (2 ^ a) (10 ^ b) = true) : e2 (a : Int) < t10 b := by
  rw [← e2_cast, ← t10_cast]
  exact Int.ofNat_lt.mpr (Nat.blt_eq.mp h)
theorem ble_cast {a b : Nat} (h : Nat.ble (2 ^ a) (10 ^ b) = true) : e2 (a : Int) ≤ t10 b := by
  rw [← e2_cast, ← t10_cast]
  exact Int.ofNat_le.mpr (Nat.le_of_ble_eq_true h)
theorem npow_split {b a c n : Nat} (h : a = c + n) : b ^ a = b ^ c * b ^ n := by rw [h, Nat.pow_add]
theorem tab_split {V X T n : Nat} {e : Int} (h : -(n : Int) ≤ e) : (V * 2 ^ X * 5 ^ n ≤ 5 ^ (e + n).toNat * 2 ^ T → (V : Int) * e2 (X : Int) * fvD e ≤ fvN e * e2 (T : Int)) ∧
    (5 ^ (e + n).toNat * 2 ^ T ≤ V * 2 ^ X * 5 ^ n → fvN e * e2 (T : Int) ≤ (V : Int) * e2 (X : Int) * fvD e) := by
  unfold fvN fvD
  have hf : ∀ n : Nat, ((5 ^ n : Nat) : Int) = 5 ^ n := fun n => by rw [Int.natCast_pow]; rfl
  rw [← e2_cast, ← e2_cast]
  generalize (2 : Nat) ^ T = T
  have h5 : 0 < (5 : Nat) ^ n := Nat.pow_pos (by omega)
  by_cases h0 : 0 ≤ e
  · rw [if_pos h0, if_pos h0, Int.mul_one, npow_split (show (e + n).toNat = e.toNat + n by omega), ← hf]
    generalize (5 : Nat) ^ n = F at *
    generalize (5 : Nat) ^ e.toNat = G at *
    generalize (2 : Nat) ^ X = P at *
    constructor
    · intro q
      have : V * P ≤ G * T := by
        apply Nat.le_of_mul_le_mul_right _ h5
        rw [Nat.mul_right_comm G T F]; exact q
      exact_mod_cast this
    · intro q
      have : G * T ≤ V * P := by
        apply Nat.le_of_mul_le_mul_right _ h5
        rw [Nat.mul_right_comm G T F]; exact q
      exact_mod_cast this
  · rw [if_neg h0, if_neg h0, Int.one_mul]
    have e1 : (5 : Nat) ^ n = 5 ^ (e + n).toNat * 5 ^ (-e).toNat := npow_split (by omega)
    have h6 : 0 < (5 : Nat) ^ (e + n).toNat := Nat.pow_pos (by omega)
    rw [e1, ← hf]
    generalize (5 : Nat) ^ (e + n).toNat = F at *
    generalize (5 : Nat) ^ (-e).toNat = G at *
    generalize (2 : Nat) ^ X = P at *
    constructor
    · intro q
      have : V * P * G ≤ T := by
        apply Nat.le_of_mul_le_mul_right _ h6
        rw [Nat.mul_comm T F, Nat.mul_assoc, Nat.mul_comm G F]; exact q
      exact_mod_cast this
    · intro q
      have : T ≤ V * P * G := by
        apply Nat.le_of_mul_le_mul_right _ h6
        rw [Nat.mul_comm T F, Nat.mul_assoc (V * P), Nat.mul_comm G F]; exact q
      exact_mod_cast this
theorem pX_is {e : Int} (h : inT e) : pX e + 1000 = (xN (e + 348).toNat : Int) := by unfold pX; omega
theorem tab_lo {e : Int} (h : inT e) : pV e * e2 (pX e + 1000) * fvD e ≤ fvN e * e2 ((1000 : Nat) : Int) := by
  have hi : (e + 348).toNat < 696 := by unfold inT at h; omega
  have := (tab_split (V := vN (e + 348).toNat) (X := xN (e + 348).toNat) (T := 1000) (n := 348) h.1).1 (vN_main hi).1
  rw [pX_is h]
  exact this
theorem tab_hi {e : Int} (h : inT e) : fvN e * e2 ((1000 : Nat) : Int) ≤ abV e * e2 (pX e + 1000) * fvD e := by
  have hi : (e + 348).toNat < 696 := by unfold inT at h; omega
  obtain ⟨m1, m2, m3⟩ := vN_main hi
  rw [pX_is h]
  cases hw : pW e
  · rw [abV_out hw]
    exact (tab_split (V := vN (e + 348).toNat + 1) (X := xN (e + 348).toNat) (T := 1000) (n := 348) h.1).2 (Nat.le_of_lt m2)
  · rw [abV_in hw]
    exact (tab_split (V := vN (e + 348).toNat) (X := xN (e + 348).toNat) (T := 1000) (n := 348) h.1).2 (Nat.le_of_eq (m3.mp hw).symm)
/-- two numbers with powers of two, held against one another -/
theorem hold_le {P D N x : Int} {K : Nat} (hx : 0 ≤ x + K) (hK : 1074 ≤ K) : (P * D * e2 (x + K) ≤ N * e2 K → scA P x * scB D 0 ≤ scA N 0 * scB 1 x) ∧ (N * e2 K ≤ P * D * e2 (x + K) → scA N 0 * scB 1 x ≤ scA P x * scB D 0) := by
  have hsc : scA P x * scB D 0 = P * D * e2 (x + 1074) := by rw [scB_flat]; unfold scA; rw [Int.mul_right_comm]
  have hsn : scA N 0 * scB 1 x = N * (e2 1074 * e2 (-(x + 1074))) := by unfold scA scB; rw [Int.one_mul, Int.zero_add, Int.mul_assoc]
  rw [hsc, hsn]
  by_cases h : 0 ≤ x + 1074
  · rw [e2_zero (k := -(x + 1074)) (by omega), Int.mul_one]
    have s1 : e2 (x + K) = e2 (x + 1074) * e2 (K - 1074) := by rw [← e2_add h (by omega)]; congr 1; omega
    have s2 : e2 (K : Int) = e2 1074 * e2 (K - 1074) := by rw [← e2_add (by omega) (by omega)]; congr 1; omega
    rw [s1, s2, ← Int.mul_assoc, ← Int.mul_assoc]
    have hp := e2_pos ((K : Int) - 1074)
    exact ⟨fun q => Int.le_of_mul_le_mul_right q hp, fun q => Int.le_of_mul_le_mul_right q hp⟩
  · rw [e2_zero (k := x + 1074) (by omega), Int.mul_one, ← e2_add (by omega) (by omega)]
    have s2 : e2 (K : Int) = e2 (1074 + -(x + 1074)) * e2 (x + K) := by rw [← e2_add (by omega) hx]; congr 1; omega
    rw [s2, ← Int.mul_assoc]
    have hp := e2_pos (x + K)
    exact ⟨fun q => Int.le_of_mul_le_mul_right q hp, fun q => Int.le_of_mul_le_mul_right q hp⟩
theorem ten_parts (m e : Int) (h0 : -348 ≤ e) (h1 : e ≤ 347) : exN m e * e2 (3000 : Nat) * fvD e = m * fvN e * exD e * e2 (e + (3000 : Nat)) := by
  unfold exN exD fvN fvD
  by_cases h : 0 ≤ e
  · rw [if_pos h, if_pos h, if_pos h, if_pos h, p10, e2_add h (by omega), Int.mul_one, Int.mul_one]
    have : e2 e = 2 ^ e.toNat := rfl
    rw [this]
    generalize e2 ((3000 : Nat) : Int) = Z
    generalize (5 : Int) ^ e.toNat = F
    generalize (2 : Int) ^ e.toNat = G
    grind
  · rw [if_neg h, if_neg h, if_neg h, if_neg h, p10, Int.mul_one]
    have s : e2 ((3000 : Nat) : Int) = 2 ^ (-e).toNat * e2 (e + (3000 : Nat)) := by
      have : (2 : Int) ^ (-e).toNat = e2 (-e) := rfl
      rw [this, ← e2_add (by omega) (by omega)]; congr 1; omega
    rw [s]
    generalize e2 (e + (3000 : Nat)) = Z
    generalize (5 : Int) ^ (-e).toNat = F
    generalize (2 : Int) ^ (-e).toNat = G
    grind
theorem fvD_pos (e : Int) : 0 < fvD e := by unfold fvD; split; omega; exact Int.pow_pos (by omega)
/-- what the table says, said of the numbers that are rounded -/
theorem bound_both {m e V : Int} (hm : 0 ≤ m) (h : inT e) : (V * e2 (pX e + 1000) * fvD e ≤ fvN e * e2 ((1000 : Nat) : Int) → scA (V * m) (pX e + e) * scB (exD e) 0 ≤ scA (exN m e) 0 * scB 1 (pX e + e)) ∧
    (fvN e * e2 ((1000 : Nat) : Int) ≤ V * e2 (pX e + 1000) * fvD e → scA (exN m e) 0 * scB 1 (pX e + e) ≤ scA (V * m) (pX e + e) * scB (exD e) 0) := by
  obtain ⟨x0, x1⟩ := pX_rng h
  have hh := h
  unfold inT at hh
  obtain ⟨q1, q2⟩ := hold_le (P := V * m) (D := exD e) (N := exN m e) (x := pX e + e) (K := 3000) (by omega) (by omega)
  have hf := fvD_pos e
  have hD := exD_pos e
  have tp := ten_parts m e hh.1 hh.2
  have s1 : e2 (pX e + e + (3000 : Nat)) = e2 (pX e + 1000) * e2 (e + 2000) := by rw [← e2_add (by omega) (by omega)]; congr 1; omega
  have s2 : e2 (e + (3000 : Nat)) = e2 ((1000 : Nat) : Int) * e2 (e + 2000) := by rw [← e2_add (by omega) (by omega)]; congr 1; omega
  have hZ := e2_pos (e + 2000)
  rw [s2] at tp
  rw [s1] at q1 q2
  generalize e2 ((3000 : Nat) : Int) = K at *
  generalize e2 (pX e + 1000) = A1 at *
  generalize e2 ((1000 : Nat) : Int) = A2 at *
  generalize e2 (e + 2000) = Z at *
  generalize exN m e = N at *
  generalize exD e = D at *
  generalize fvN e = F at *
  generalize fvD e = G at *
  have hmz : 0 ≤ m * D * Z := Int.mul_nonneg (Int.mul_nonneg hm (by omega)) (by omega)
  have g1 : V * m * D * (A1 * Z) * G = V * A1 * G * (m * D * Z) := by grind
  have g2 : N * K * G = F * A2 * (m * D * Z) := by rw [tp]; grind
  constructor
  · intro q
    apply q1
    apply Int.le_of_mul_le_mul_right _ hf
    rw [g1, g2]
    exact Int.mul_le_mul_of_nonneg_right q hmz
  · intro q
    apply q2
    apply Int.le_of_mul_le_mul_right _ hf
    rw [g1, g2]
    exact Int.mul_le_mul_of_nonneg_right q hmz
theorem exN_nonneg {m : Int} (h : 0 ≤ m) (e : Int) : 0 ≤ exN m e := by
  unfold exN
  split
  · exact Int.mul_nonneg h (Int.le_of_lt (Int.pow_pos (by omega)))
  · exact h
theorem scA_nonneg {N : Int} (h : 0 ≤ N) (x : Int) : 0 ≤ scA N x := Int.mul_nonneg h (Int.le_of_lt (e2_pos _))
theorem tens_low : Nat.blt (2 ^ 1139) (10 ^ 349) = true := by kernel_rfl
theorem tens_high : Nat.blt (2 ^ 1024) (10 ^ 348) = true := by kernel_rfl
/-- a sure answer is the number itself, rounded -/
theorem sure_ex {m e b E : Int} (hm : U m) (h : FastIs m e b E) (hE : E ≠ 100) : ExIs m e b E := by
  have hm0 : 0 ≤ m := hm.1
  rcases h with ⟨h, rfl, rfl⟩ | ⟨hz, h, rfl, rfl⟩ | ⟨hz, hin, b1, E1, b2, E2, r1, r2, h⟩
  · by_cases hz : m = 0
    · subst hz
      have : scA (exN 0 e) 0 = 0 := by unfold scA exN; split <;> simp
      unfold ExIs
      rw [this]
      exact round_none (neg := false) (scB_pos' (exD_pos e))
    · have he : e < -348 := h.resolve_left hz
      unfold ExIs
      have hN : exN m e = m := by unfold exN; rw [if_neg (by omega)]
      have hD : exD e = 10 ^ (-e).toNat := by unfold exD; rw [if_neg (by omega)]
      rw [hN, hD, scB_flat]
      have hpos : 0 < scA m 0 := Int.mul_pos (by omega) (e2_pos _)
      have hs : sgB false = 0 := rfl
      have := (round_tiny (A := scA m 0) (B := 10 ^ (-e).toNat) (mode := 0) (more := false) (neg := false) (Int.pow_pos (by omega)) (Or.inl hpos) (by omega) ?_).2 (by omega)
      · rw [hs] at this; exact this
      · have k1 : 2 * scA m 0 < e2 ((1139 : Nat) : Int) := by
          unfold scA
          have e3 : e2 ((1139 : Nat) : Int) = e2 65 * e2 (0 + 1074) := by rw [← e2_add (by omega) (by omega)]; congr 1
          have e4 : e2 65 = 36893488147419103232 := rfl
          rw [e3, e4]
          have hp := e2_pos (0 + 1074)
          have : 2 * (m * e2 (0 + 1074)) = 2 * m * e2 (0 + 1074) := by rw [Int.mul_assoc]
          rw [this]
          apply Int.mul_lt_mul_of_pos_right _ hp
          unfold U at hm
          omega
        have k2 := blt_cast (a := 1139) (b := 349) tens_low
        have k3 : t10 349 ≤ t10 (-e).toNat := t10_mono (by omega)
        have k4 : (10 : Int) ^ (-e).toNat = t10 (-e).toNat := rfl
        rw [k4]
        omega
  · unfold ExIs
    have hN : exN m e = m * 10 ^ e.toNat := by unfold exN; rw [if_pos (by omega)]
    have hD : exD e = 1 := by unfold exD; rw [if_pos (by omega)]
    rw [hN, hD, scB_flat]
    refine (round_huge (A := scA (m * 10 ^ e.toNat) 0) (B := 1) (mode := 0) (more := false) (neg := false) (by omega) (huge_of (by omega) ?_)).1 (by omega)
    unfold scA
    rw [Int.mul_one]
    have s : e2 2098 = e2 ((1024 : Nat) : Int) * e2 (0 + 1074) := by rw [← e2_add (by omega) (by omega)]; congr 1
    rw [s]
    apply Int.mul_le_mul_of_nonneg_right _ (Int.le_of_lt (e2_pos _))
    have k2 := blt_cast (a := 1024) (b := 348) tens_high
    have k3 : t10 348 ≤ t10 e.toNat := t10_mono (by omega)
    have k5 : (10 : Int) ^ e.toNat = t10 e.toNat := rfl
    rw [k5]
    have p3 := t10_pos e.toNat
    have k4 : 1 * t10 e.toNat ≤ m * t10 e.toNat := Int.mul_le_mul_of_nonneg_right (by omega) (by omega)
    omega
  · rcases h with ⟨rfl, rfl, rfl, rfl⟩ | ⟨_, _, h⟩
    · exact round_between (scA_nonneg (exN_nonneg hm0 e) 0) (scB_pos' (exD_pos e)) (scB_pos' (by omega)) (scB_pos' (by omega)) ((bound_both hm0 hin).1 (tab_lo hin)) ((bound_both hm0 hin).2 (tab_hi hin)) r1 r2
    · exact absurd h hE
end Ar
end Go.Proofs.YtalglldkjbinbaaGreatDoor
