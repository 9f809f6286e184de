/- Plain numbers: atof: decimals by their digits and exponents. -/
import Derived.Test.YtjeoiffloghonaaGreatDoorLemX
import Derived.Test.YtjeoiffloghonaaGreatDoorAtfMath
namespace Go.Proofs.YtjeoiffloghonaaGreatDoor
open Go.RowKit
open Ar
set_option linter.unusedVariables false
namespace Ar
theorem scA_flat (N : Int) : scA N 0 = N * pTwo 1074 := rfl
theorem ex_neg {N b E : Int} {k : Nat} (hk : 0 < k) : ExIs N (-(k : Int)) b E ↔ RoundIs (N * pTwo 1074) (pTen k) false false 0 b E := by
  have h1 : exN N (-(k : Int)) = N := by unfold exN; rw [if_neg (by omega)]
  have h2 : exD (-(k : Int)) = pTen k := by unfold exD; rw [if_neg (by omega), Int.neg_neg, Int.toNat_natCast]; rfl
  unfold ExIs
  rw [h1, h2, scB_flat, scA_flat]
theorem ex_pos {N b E : Int} {k : Nat} : ExIs N (k : Int) b E ↔ RoundIs (N * pTen k * pTwo 1074) 1 false false 0 b E := by
  have h1 : exN N (k : Int) = N * pTen k := by unfold exN; rw [if_pos (by omega), Int.toNat_natCast]; rfl
  have h2 : exD (k : Int) = 1 := by unfold exD; rw [if_pos (by omega)]
  unfold ExIs
  rw [h1, h2, scB_flat, scA_flat]
/-- zeros behind, the exponent less: the same number -/
theorem ex_shift {m e b E : Int} (t : Nat) : ExIs (m * pTen t) e b E ↔ ExIs m (e + t) b E := by
  apply round_cross (scB_pos' (exD_pos e)) (scB_pos' (exD_pos (e + t)))
  rw [scB_flat, scB_flat]
  unfold scA
  rw [Int.mul_right_comm, Int.mul_right_comm (exN m (e + t))]
  apply congrArg (· * e2 (0 + 1074))
  have key : ∀ a b c : Nat, a = b + c → (10 : Int) ^ a = 10 ^ b * 10 ^ c := fun a b c h => by rw [h, Int.pow_add]
  unfold exN exD pTen
  by_cases h : 0 ≤ e
  · rw [if_pos h, if_pos (by omega), if_pos (by omega), if_pos h, Int.mul_one, Int.mul_one, key (e + t).toNat t e.toNat (by omega), Int.mul_assoc]
  · by_cases h0 : 0 ≤ e + t
    · rw [if_neg h, if_pos h0, if_pos h0, if_neg h, Int.mul_one, Int.mul_assoc, ← key t (e + t).toNat (-e).toNat (by omega)]
    · rw [if_neg h, if_neg h0, if_neg h0, if_neg h, Int.mul_assoc, ← key (-e).toNat t (-(e + t)).toNat (by omega)]
theorem exN_mono {m n e : Int} (h : m ≤ n) : exN m e ≤ exN n e := by
  unfold exN
  split
  · exact Int.mul_le_mul_of_nonneg_right h (Int.le_of_lt (Int.pow_pos (by omega)))
  · exact h
/-- between two that are rounded alike -/
theorem ex_between {m n N e b E : Int} (h0 : 0 ≤ m) (h1 : m ≤ N) (h2 : N ≤ n) (q1 : ExIs m e b E) (q2 : ExIs n e b E) : ExIs N e b E := by
  have hB := scB_pos' (x := 0) (exD_pos e)
  have mono : ∀ {a c : Int}, a ≤ c → scA (exN a e) 0 * scB (exD e) 0 ≤ scA (exN c e) 0 * scB (exD e) 0 := fun {a c} h =>
    Int.mul_le_mul_of_nonneg_right (Int.mul_le_mul_of_nonneg_right (exN_mono h) (Int.le_of_lt (e2_pos _))) (Int.le_of_lt hB)
  exact round_between (scA_nonneg (exN_nonneg (by omega) e) 0) hB hB hB (mono h1) (mono h2) q1 q2
theorem pT_lt {a b : Nat} (h : Nat.blt (2 ^ a) (10 ^ b) = true) : pTwo a < pTen b := by
  have h2 := Int.ofNat_lt.mpr (Nat.blt_eq.mp h)
  rw [cTen, cTwo] at h2
  exact h2
theorem low_nat : Nat.blt (2 ^ 1075) (10 ^ 324) = true := by kernel_rfl
theorem high_nat : Nat.blt (2 ^ 1024) (10 ^ 309) = true := by kernel_rfl
/-- below half the least pattern -/
theorem ex_tiny {N e : Int} {L : Nat} (h0 : 0 < N) (h1 : N < pTen L) (h : (L : Int) + e ≤ -324) : ExIs N e 0 0 := by
  obtain ⟨k, rfl⟩ : ∃ k : Nat, e = -(k : Int) := ⟨(-e).toNat, by omega⟩
  rw [ex_neg (by omega)]
  have hs : sgB false = 0 := rfl
  have p := pTwo_pos 1074
  have := (round_tiny (A := N * pTwo 1074) (B := pTen k) (mode := 0) (more := false) (neg := false) (pTen_pos _) (Or.inl (Int.mul_pos h0 p)) (Int.le_of_lt (Int.mul_pos h0 p)) ?_).2 (by omega)
  · rw [hs] at this; exact this
  · have e1 : pTen k = pTen L * pTen (k - L) := by rw [← pTen_add]; congr 1; omega
    have e2' : pTen 324 ≤ pTen (k - L) := pTen_mono (by omega)
    have e3 := pT_lt low_nat
    have e4 : pTwo 1075 = pTwo 1074 * 2 := by
      have := pTwo_add 1074 1
      exact this
    have q : 2 * (N * pTwo 1074) = N * pTwo 1075 := by rw [e4]; simp only [Int.mul_left_comm, Int.mul_comm]
    rw [q, e1]
    have r1 : N * pTwo 1075 < N * pTen (k - L) := Int.mul_lt_mul_of_pos_left (by omega) h0
    have r2 : N * pTen (k - L) ≤ pTen L * pTen (k - L) := Int.mul_le_mul_of_nonneg_right (by omega) (Int.le_of_lt (pTen_pos _))
    omega
/-- beyond the reach -/
theorem ex_huge {N e : Int} {L : Nat} (h1 : pTen L ≤ N) (h : 309 ≤ (L : Int) + e) : ExIs N e 0 70 := by
  have pl := pTen_pos L
  have hN : 0 < N := by omega
  have base : pTwo 1024 * exD e ≤ exN N e := by
    have hh := pT_lt high_nat
    by_cases he : 0 ≤ e
    · obtain ⟨k, rfl⟩ : ∃ k : Nat, e = (k : Int) := ⟨e.toNat, by omega⟩
      have a1 : exN N (k : Int) = N * pTen k := by unfold exN; rw [if_pos (by omega), Int.toNat_natCast]; rfl
      have a2 : exD (k : Int) = 1 := by unfold exD; rw [if_pos (by omega)]
      rw [a1, a2, Int.mul_one]
      have e1 : pTen (L + k) = pTen L * pTen k := pTen_add _ _
      have e2' : pTen 309 ≤ pTen (L + k) := pTen_mono (by omega)
      have e3 : pTen L * pTen k ≤ N * pTen k := Int.mul_le_mul_of_nonneg_right h1 (Int.le_of_lt (pTen_pos _))
      omega
    · obtain ⟨k, rfl⟩ : ∃ k : Nat, e = -(k : Int) := ⟨(-e).toNat, by omega⟩
      have a1 : exN N (-(k : Int)) = N := by unfold exN; rw [if_neg (by omega)]
      have a2 : exD (-(k : Int)) = pTen k := by unfold exD; rw [if_neg (by omega), Int.neg_neg, Int.toNat_natCast]; rfl
      rw [a1, a2]
      have e1 : pTen L = pTen (L - k) * pTen k := by rw [← pTen_add]; congr 1; omega
      have e2' : pTen 309 ≤ pTen (L - k) := pTen_mono (by omega)
      have e3 : pTwo 1024 * pTen k ≤ pTen (L - k) * pTen k := Int.mul_le_mul_of_nonneg_right (by omega) (Int.le_of_lt (pTen_pos _))
      omega
  unfold ExIs
  rw [scB_flat]
  refine (round_huge (mode := 0) (more := false) (neg := false) (exD_pos e) (huge_of (exD_pos e) ?_)).1 (by omega)
  have s : e2 2098 = pTwo 1024 * e2 (0 + 1074) := by
    have : pTwo 1024 = e2 1024 := rfl
    rw [this, ← e2_add (by omega) (by omega)]; congr 1
  unfold scA
  rw [s, Int.mul_right_comm]
  exact Int.mul_le_mul_of_nonneg_right base (Int.le_of_lt (e2_pos _))
/-- digits times a power of five, and twos -/
theorem ex_five {N b E : Int} {k : Nat} (h : RoundIs (scA (N * 5 ^ k) (k : Int)) (scB 1 (k : Int)) false false 0 b E) : ExIs N (k : Int) b E := by
  rw [ex_pos]
  have e1 : scB 1 (k : Int) = 1 := by unfold scB; rw [e2_zero (by omega), Int.mul_one]
  have e3 : e2 ((k : Int) + 1074) = pTwo k * pTwo 1074 := by
    rw [e2_add (by omega) (by omega)]
    have : e2 (k : Int) = pTwo k := by unfold e2 pTwo; rw [Int.toNat_natCast]
    rw [this]; rfl
  have e4 : (5 : Int) ^ k = pFive k := rfl
  rw [e1] at h
  unfold scA at h
  rw [e3, e4] at h
  have : N * pTen k * pTwo 1074 = N * pFive k * (pTwo k * pTwo 1074) := by
    rw [pTen_split]
    generalize pFive k = F
    generalize pTwo k = P
    generalize pTwo 1074 = Q
    simp only [Int.mul_assoc]
  rw [this]; exact h
/-- many digits: only whether there is something behind the 768th -/
theorem ex_short {H r e b E : Int} {t : Nat} (hH : pTen 767 ≤ H) (hr0 : 0 < r) (hr1 : r < pTen (t + 1)) :
    ExIs (H * 10 + 1) (e + t) b E ↔ ExIs (H * pTen (t + 1) + r) e b E := by
  have p10 : pTen 1 = 10 := rfl
  by_cases hs : 0 ≤ e + t + 1
  · have g1 : ExIs (H * pTen (t + 1) + r) e 0 70 := by
      refine ex_huge (L := 767 + (t + 1)) ?_ (by omega)
      rw [pTen_add]
      have := Int.mul_le_mul_of_nonneg_right hH (Int.le_of_lt (pTen_pos (t + 1)))
      omega
    have g2 : ExIs (H * 10 + 1) (e + t) 0 70 := by
      refine ex_huge (L := 767 + 1) ?_ (by omega)
      rw [pTen_add, p10]
      omega
    constructor
    · intro h
      obtain ⟨rfl, rfl⟩ := ex_uniq h g2
      exact g1
    · intro h
      obtain ⟨rfl, rfl⟩ := ex_uniq h g1
      exact g2
  · obtain ⟨k, hk⟩ : ∃ k : Nat, e + t + 1 = -(k : Int) := ⟨(-(e + t + 1)).toNat, by omega⟩
    have i1 : e + t = -((1 + k : Nat) : Int) := by omega
    have i2 : e = -((t + 1 + k : Nat) : Int) := by omega
    rw [i1, ex_neg (by omega)]
    conv => rhs; rw [i2]
    rw [ex_neg (by omega)]
    have d1 := dec_sticky (H := H) (r := 1) (mode := 0) (b := b) (e := E) (t := 1) (k := k) (neg := false) hH (by omega) (by rw [p10]; omega)
    have d2 := dec_sticky (H := H) (r := r) (mode := 0) (b := b) (e := E) (t := t + 1) (k := k) (neg := false) hH hr0 hr1
    rw [p10] at d1
    exact d1.trans d2.symm
end Ar
end Go.Proofs.YtjeoiffloghonaaGreatDoor
