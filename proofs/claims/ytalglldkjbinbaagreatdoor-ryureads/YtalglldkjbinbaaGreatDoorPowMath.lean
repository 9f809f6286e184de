-- powers of five in 128 bits: the numbers, by themselves
import Derived.Test.YtalglldkjbinbaaGreatDoorBaseE
import Derived.KernelRfl
namespace Go.Proofs.YtalglldkjbinbaaGreatDoor
open Go.ChangeShapes Go.WideShapes Go.ChangeAt Go.RowKit
open Na Ar
set_option linter.unusedVariables false
namespace Na
def bN (n : Nat) : Nat := Nat.log2 (5 ^ n) + 1
/-- at i: of five to the i - 348 -/
def vN (i : Nat) : Nat := if 348 ≤ i then (if bN (i - 348) ≤ 128 then 5 ^ (i - 348) * 2 ^ (128 - bN (i - 348)) else 5 ^ (i - 348) / 2 ^ (bN (i - 348) - 128)) else 2 ^ (bN (348 - i) + 127) / 5 ^ (348 - i)
/-- the frame, and 1000 more -/
def xN (i : Nat) : Nat := if 348 ≤ i then bN (i - 348) + 872 else 873 - bN (348 - i)
def whN (i : Nat) : Bool := Nat.ble 348 i && Nat.ble i 403
def allB (f : Nat → Bool) : Nat → Bool
  | 0 => true
  | n + 1 => f n && allB f n
theorem allB_at {f : Nat → Bool} {k : Nat} (h : allB f k = true) {i : Nat} (hi : i < k) : f i = true := by
  induction k with
  | zero => omega
  | succ k ih =>
    have h' : (f k && allB f k) = true := h
    rw [Bool.and_eq_true] at h'
    by_cases e : i = k
    · rw [e]; exact h'.1
    · exact ih h'.2 (by omega)
def chkV (i : Nat) : Bool :=
  Nat.ble 170141183460469231731687303715884105728 (vN i) && (Nat.blt (vN i) 340282366920938463463374607431768211456 && (whN i || Nat.blt (vN i + 1) 340282366920938463463374607431768211456))
def chkF (i : Nat) : Bool :=
  Nat.ble (vN i * 2 ^ xN i * 5 ^ 348) (5 ^ i * 2 ^ 1000) && (Nat.blt (5 ^ i * 2 ^ 1000) ((vN i + 1) * 2 ^ xN i * 5 ^ 348) && (whN i == Nat.beq (vN i * 2 ^ xN i * 5 ^ 348) (5 ^ i * 2 ^ 1000)))
def chkX (i : Nat) : Bool := Nat.ble (xN i) 2000 && (Nat.beq ((i * 1741647 + 508060) / 524288 + 64) (xN i + i) && ((Nat.ble 348 i && (Nat.ble (bN (i - 348)) 900 && (Nat.ble (bN (i - 348)) 128 == Nat.ble i 403))) || (Nat.ble i 347 && Nat.ble (bN (348 - i)) 850)))
/-- the logarithm to ten, and 362 more -/
def kN (i : Nat) : Nat := (i * 315653 + 800912) / 1048576
def chkK (i : Nat) : Bool := Nat.ble (10 ^ kN i * 2 ^ 1200) (2 ^ i * 10 ^ 362) && (Nat.blt (2 ^ i * 10 ^ 362) (10 ^ (kN i + 1) * 2 ^ 1200) && (Nat.beq i 1200 || Nat.blt (10 ^ kN i * 2 ^ 1200) (2 ^ i * 10 ^ 362)))
theorem chkV_all : allB chkV 696 = true := by kernel_rfl
theorem chkF_all : allB chkF 696 = true := by kernel_rfl
theorem chkX_all : allB chkX 696 = true := by kernel_rfl
theorem chkK_all : allB chkK 2401 = true := by kernel_rfl
theorem vN_rng {i : Nat} (h : i < 696) : 170141183460469231731687303715884105728 ≤ vN i ∧ vN i < 340282366920938463463374607431768211456 ∧ (whN i = false → vN i + 1 < 340282366920938463463374607431768211456) := by
  have c := allB_at chkV_all h
  unfold chkV at c
  rw [Bool.and_eq_true, Bool.and_eq_true, Bool.or_eq_true] at c
  refine ⟨Nat.le_of_ble_eq_true c.1, Nat.blt_eq.mp c.2.1, fun q => ?_⟩
  rcases c.2.2 with e | e
  · rw [q] at e; cases e
  · exact Nat.blt_eq.mp e
theorem vN_main {i : Nat} (h : i < 696) : vN i * 2 ^ xN i * 5 ^ 348 ≤ 5 ^ i * 2 ^ 1000 ∧ 5 ^ i * 2 ^ 1000 < (vN i + 1) * 2 ^ xN i * 5 ^ 348 ∧ (whN i = true ↔ vN i * 2 ^ xN i * 5 ^ 348 = 5 ^ i * 2 ^ 1000) := by
  have c := allB_at chkF_all h
  unfold chkF at c
  rw [Bool.and_eq_true, Bool.and_eq_true] at c
  refine ⟨Nat.le_of_ble_eq_true c.1, Nat.blt_eq.mp c.2.1, ?_⟩
  have e := eq_of_beq c.2.2
  rw [e]
  exact ⟨Nat.eq_of_beq_eq_true, fun q => by rw [q]; exact Nat.beq_refl _⟩
theorem xN_rng {i : Nat} (h : i < 696) : xN i ≤ 2000 ∧ (i * 1741647 + 508060) / 524288 + 64 = xN i + i := by
  have c := allB_at chkX_all h
  unfold chkX at c
  rw [Bool.and_eq_true, Bool.and_eq_true] at c
  exact ⟨Nat.le_of_ble_eq_true c.1, Nat.eq_of_beq_eq_true c.2.1⟩
theorem bN_pos {n : Nat} (h : n ≤ 347) : bN n ≤ 900 ∧ (bN n ≤ 128 ↔ n ≤ 55) := by
  have c := allB_at chkX_all (show n + 348 < 696 by omega)
  unfold chkX at c
  rw [Bool.and_eq_true, Bool.and_eq_true, Bool.or_eq_true, Bool.and_eq_true, Bool.and_eq_true, Bool.and_eq_true, Nat.add_sub_cancel] at c
  rcases c.2.2 with ⟨_, c1, c2⟩ | ⟨c1, _⟩
  · refine ⟨Nat.le_of_ble_eq_true c1, ?_⟩
    have e := eq_of_beq c2
    constructor
    · intro q
      have : Nat.ble (bN n) 128 = true := Nat.ble_eq.mpr q
      rw [this] at e
      have := Nat.le_of_ble_eq_true e.symm
      omega
    · intro q
      have : Nat.ble (n + 348) 403 = true := Nat.ble_eq.mpr (by omega)
      rw [this] at e
      exact Nat.le_of_ble_eq_true e
  · have := Nat.le_of_ble_eq_true c1
    omega
theorem bN_neg {n : Nat} (h : n ≤ 348) (h1 : 1 ≤ n) : bN n ≤ 850 := by
  have c := allB_at chkX_all (show 348 - n < 696 by omega)
  unfold chkX at c
  rw [Bool.and_eq_true, Bool.and_eq_true, Bool.or_eq_true, Bool.and_eq_true, Bool.and_eq_true, Bool.and_eq_true] at c
  rcases c.2.2 with ⟨c1, _⟩ | ⟨_, c1⟩
  · have := Nat.le_of_ble_eq_true c1
    omega
  · have := Nat.le_of_ble_eq_true c1
    rw [show 348 - (348 - n) = n by omega] at this
    exact this
theorem kN_main {i : Nat} (h : i < 2401) : 10 ^ kN i * 2 ^ 1200 ≤ 2 ^ i * 10 ^ 362 ∧ 2 ^ i * 10 ^ 362 < 10 ^ (kN i + 1) * 2 ^ 1200 ∧ (i ≠ 1200 → 10 ^ kN i * 2 ^ 1200 < 2 ^ i * 10 ^ 362) := by
  have c := allB_at chkK_all h
  unfold chkK at c
  rw [Bool.and_eq_true, Bool.and_eq_true, Bool.or_eq_true] at c
  refine ⟨Nat.le_of_ble_eq_true c.1, Nat.blt_eq.mp c.2.1, fun q => ?_⟩
  rcases c.2.2 with e | e
  · exact absurd (Nat.eq_of_beq_eq_true e) q
  · exact Nat.blt_eq.mp e
/-- of five to the e: the highest 128 bits, the frame; whole or not -/
def pV (e : Int) : Int := (vN (e + 348).toNat : Int)
def pX (e : Int) : Int := (xN (e + 348).toNat : Int) - 1000
def pW (e : Int) : Bool := whN (e + 348).toNat
def inT (e : Int) : Prop := -348 ≤ e ∧ e ≤ 347
theorem pW_is (e : Int) (h : inT e) : pW e = decide (0 ≤ e ∧ e ≤ 55) := by
  unfold pW whN
  unfold inT at h
  rw [Bool.eq_iff_iff, Bool.and_eq_true, Nat.ble_eq, Nat.ble_eq, decide_eq_true_eq]
  omega
theorem pV_rng {e : Int} (h : inT e) : 170141183460469231731687303715884105728 ≤ pV e ∧ pV e < 340282366920938463463374607431768211456 ∧ (pW e = false → pV e + 1 < 340282366920938463463374607431768211456) := by
  unfold inT at h
  have r := vN_rng (i := (e + 348).toNat) (by omega)
  unfold pV pW
  refine ⟨by omega, by omega, fun q => ?_⟩
  have := r.2.2 q
  omega
theorem pX_log {e : Int} (h : inT e) : e * 1741647 / 524288 = pX e + 127 + e := by
  unfold inT at h
  have r := (xN_rng (i := (e + 348).toNat) (by omega)).2
  unfold pX
  omega
theorem pX_rng {e : Int} (h : inT e) : -1000 ≤ pX e ∧ pX e ≤ 1000 := by
  unfold inT at h
  have r := (xN_rng (i := (e + 348).toNat) (by omega)).1
  unfold pX
  omega
theorem pX_step {e : Int} (h : inT e) (h' : inT (e + 1)) : pX (e + 1) - pX e = 2 ∨ pX (e + 1) - pX e = 3 := by
  have a := pX_log h
  have b := pX_log h'
  omega
theorem bits_five (n : Nat) : bitsN ((5 : Int) ^ n) = (bN n : Int) := by
  have p : (0 : Int) < 5 ^ n := Int.pow_pos (by omega)
  unfold bitsN bN
  rw [if_neg (by omega)]
  have : ((5 : Int) ^ n).toNat = 5 ^ n := by
    have e : (5 : Int) ^ n = ((5 ^ n : Nat) : Int) := by simp
    rw [e, Int.toNat_natCast]
  rw [this]; rfl
/-- from 1 on -/
theorem pV_less {n : Nat} (h : n ≤ 55) : pV (n : Int) = 5 ^ n * 2 ^ (128 - bN n) ∧ pX (n : Int) = (bN n : Int) - 128 ∧ bN n ≤ 128 := by
  have b := (bN_pos (show n ≤ 347 by omega)).2.mpr h
  have e : ((n : Int) + 348).toNat = n + 348 := by omega
  unfold pV pX vN xN
  have q : 348 ≤ n + 348 := by omega
  rw [e, if_pos q, if_pos q, Nat.add_sub_cancel, if_pos b]
  refine ⟨by simp, by omega, b⟩
theorem pV_more {n : Nat} (h : n ≤ 347) (h1 : 55 < n) : pV (n : Int) = 5 ^ n / 2 ^ (bN n - 128) ∧ pX (n : Int) = (bN n : Int) - 128 ∧ 128 < bN n := by
  have b : ¬ bN n ≤ 128 := fun q => by have := (bN_pos h).2.mp q; omega
  have e : ((n : Int) + 348).toNat = n + 348 := by omega
  unfold pV pX vN xN
  have q : 348 ≤ n + 348 := by omega
  rw [e, if_pos q, if_pos q, Nat.add_sub_cancel, if_neg b]
  refine ⟨by simp, by omega, by omega⟩
/-- below 1 -/
theorem pV_under {n : Nat} (h : n ≤ 348) (h1 : 1 ≤ n) : pV (-(n : Int)) = 2 ^ (bN n + 127) / 5 ^ n ∧ pX (-(n : Int)) = -((bN n : Int) + 127) := by
  have b := bN_neg h h1
  have e : (-(n : Int) + 348).toNat = 348 - n := by omega
  unfold pV pX vN xN
  have q : ¬ 348 ≤ 348 - n := by omega
  rw [e, if_neg q, if_neg q, show 348 - (348 - n) = n by omega]
  refine ⟨by simp, by omega⟩
theorem pV_words {e : Int} (h : inT e) : words (pV e) = [pV e % 18446744073709551616, pV e / 18446744073709551616] ∧ U (pV e % 18446744073709551616) ∧ U (pV e / 18446744073709551616) ∧ 9223372036854775808 ≤ pV e / 18446744073709551616 := by
  obtain ⟨a, b, _⟩ := pV_rng h
  have u1 : U (pV e % 18446744073709551616) := by unfold U; omega
  have u2 : U (pV e / 18446744073709551616) := by unfold U; omega
  have t := two_words u1 u2 (by omega)
  refine ⟨?_, u1, u2, by omega⟩
  rw [← t, Int.emod_add_mul_ediv]
end Na
end Go.Proofs.YtalglldkjbinbaaGreatDoor
