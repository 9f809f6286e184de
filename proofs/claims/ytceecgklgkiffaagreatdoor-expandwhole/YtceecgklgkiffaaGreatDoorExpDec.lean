/- Layer 13: all digits of a count of two to the -1074. -/
import Derived.Test.YtceecgklgkiffaaGreatDoorExpMath
namespace Go.Proofs.YtceecgklgkiffaaGreatDoor
set_option linter.unusedVariables false
namespace Ep
/-- 1074, and two to it -/
def dX : Nat := 1074
def dT : Nat := 2 ^ dX
theorem dT_pos : 0 < dT := Nat.pow_pos (by omega)
/-- A units are N times ten to the e, N has L digits, the last is not 0 -/
structure Dec (A N L : Nat) (e : Int) : Prop where
  eq : N * 10 ^ e.toNat * dT = A * 10 ^ (-e).toNat
  L1 : 1 ≤ L
  lo : 10 ^ (L - 1) ≤ N
  hi : N < 10 ^ L
  last : N % 10 ≠ 0
theorem strip_tens : ∀ (X : Nat), 0 < X → ∃ k U, X = U * 10 ^ k ∧ U % 10 ≠ 0
  | X, h => by
    by_cases h0 : X % 10 = 0
    · obtain ⟨k, U, h1, h2⟩ := strip_tens (X / 10) (by omega)
      exact ⟨k + 1, U, by rw [Nat.pow_succ, ← Nat.mul_assoc, ← h1]; omega, h2⟩
    · exact ⟨0, X, by simp, h0⟩
theorem digits_of : ∀ (X : Nat), 0 < X → ∃ L, 1 ≤ L ∧ 10 ^ (L - 1) ≤ X ∧ X < 10 ^ L
  | X, h => by
    by_cases h0 : X < 10
    · exact ⟨1, Nat.le_refl _, by simp; omega, by simpa using h0⟩
    · obtain ⟨L, h1, h2, h3⟩ := digits_of (X / 10) (by omega)
      refine ⟨L + 1, by omega, ?_, ?_⟩
      · obtain ⟨j, rfl⟩ : ∃ j, L = j + 1 := ⟨L - 1, by omega⟩
        rw [show j + 1 - 1 = j by omega] at h2
        rw [show j + 1 + 1 - 1 = j + 1 by omega, Nat.pow_succ]
        omega
      · rw [Nat.pow_succ]
        omega
theorem digits_uniq {X L M : Nat} (h1 : 10 ^ (L - 1) ≤ X) (h2 : X < 10 ^ L) (g1 : 10 ^ (M - 1) ≤ X) (g2 : X < 10 ^ M) (hL : 1 ≤ L) (hM : 1 ≤ M) : L = M := by
  rcases Nat.lt_trichotomy L M with q | q | q
  · have := Nat.pow_le_pow_right (n := 10) (by omega) (show L ≤ M - 1 by omega)
    omega
  · exact q
  · have := Nat.pow_le_pow_right (n := 10) (by omega) (show M ≤ L - 1 by omega)
    omega
theorem tens_uniq {U V : Nat} {k l : Nat} (h : U * 10 ^ k = V * 10 ^ l) (hU : U % 10 ≠ 0) (hV : V % 10 ≠ 0) : U = V ∧ k = l := by
  have key : ∀ {U V k l : Nat}, U * 10 ^ k = V * 10 ^ l → U % 10 ≠ 0 → k ≤ l → k = l := fun {U V k l} h hU hkl => by
    obtain ⟨j, rfl⟩ : ∃ j, l = k + j := ⟨l - k, by omega⟩
    have p : 0 < 10 ^ k := Nat.pow_pos (by omega)
    have : U = V * 10 ^ j := by
      rw [Nat.pow_add, Nat.mul_comm (10 ^ k), ← Nat.mul_assoc] at h
      exact Nat.eq_of_mul_eq_mul_right p h
    cases j with
    | zero => rfl
    | succ i =>
      exfalso
      apply hU
      rw [this, Nat.pow_succ, ← Nat.mul_assoc]
      exact Nat.mul_mod_left _ _
  have hkl : k = l := by
    rcases Nat.le_total k l with q | q
    · exact key h hU q
    · exact (key h.symm hV q).symm
  subst hkl
  exact ⟨Nat.eq_of_mul_eq_mul_right (Nat.pow_pos (by omega)) h, rfl⟩
/-- from a fraction with a power of two below -/
theorem dec_of {A B p N L k : Nat} (hp : p ≤ dX) (hA : A = B * 2 ^ (dX - p)) (h : B * 5 ^ p = N * 10 ^ k) (h1 : 1 ≤ L) (h2 : 10 ^ (L - 1) ≤ N) (h3 : N < 10 ^ L) (h4 : N % 10 ≠ 0) : Dec A N L ((k : Int) - (p : Int)) := by
  refine ⟨?_, h1, h2, h3, h4⟩
  have e2 : dT = 2 ^ (dX - p) * 2 ^ p := by unfold dT; rw [← Nat.pow_add]; congr 1; omega
  have e10 : (10 : Nat) ^ p = 5 ^ p * 2 ^ p := by rw [← Nat.mul_pow]
  have main : N * 10 ^ k * dT = A * 10 ^ p := by
    rw [← h, hA, e2, e10]
    generalize 2 ^ (dX - p) = x1
    generalize 2 ^ p = x2
    generalize 5 ^ p = x3
    ac_rfl
  by_cases q : p ≤ k
  · obtain ⟨j, rfl⟩ : ∃ j, k = j + p := ⟨k - p, by omega⟩
    have a1 : (((j + p : Nat) : Int) - (p : Int)).toNat = j := by omega
    have a2 : (-(((j + p : Nat) : Int) - (p : Int))).toNat = 0 := by omega
    rw [a1, a2, Nat.pow_zero, Nat.mul_one]
    refine Nat.eq_of_mul_eq_mul_right (Nat.pow_pos (n := p) (show 0 < 10 by omega)) ?_
    rw [← main, Nat.pow_add]
    generalize dT = x1
    generalize 10 ^ j = x2
    generalize 10 ^ p = x3
    ac_rfl
  · obtain ⟨j, rfl⟩ : ∃ j, p = j + k := ⟨p - k, by omega⟩
    have a1 : ((k : Int) - ((j + k : Nat) : Int)).toNat = 0 := by omega
    have a2 : (-((k : Int) - ((j + k : Nat) : Int))).toNat = j := by omega
    rw [a1, a2, Nat.pow_zero, Nat.mul_one]
    refine Nat.eq_of_mul_eq_mul_right (Nat.pow_pos (n := k) (show 0 < 10 by omega)) ?_
    rw [Nat.mul_assoc A, ← Nat.pow_add, ← main]
    generalize dT = x1
    generalize 10 ^ k = x2
    ac_rfl
theorem dec_ex {A : Nat} (h : 0 < A) : ∃ N L e, Dec A N L e := by
  obtain ⟨k, N, h1, h2⟩ := strip_tens (A * 5 ^ dX) (Nat.mul_pos h (Nat.pow_pos (by omega)))
  have hN : 0 < N := by
    rcases Nat.eq_zero_or_pos N with q | q
    · rw [q] at h2; exact absurd rfl h2
    · exact q
  obtain ⟨L, g1, g2, g3⟩ := digits_of N hN
  exact ⟨N, L, _, dec_of (p := dX) (Nat.le_refl _) (by rw [Nat.sub_self, Nat.pow_zero, Nat.mul_one]) h1 g1 g2 g3 h2⟩
theorem dec_uniq {A N L N' L' : Nat} {e e' : Int} (h : Dec A N L e) (h' : Dec A N' L' e') : N = N' ∧ L = L' ∧ e = e' := by
  have p1 : N * 10 ^ (e.toNat + (-e').toNat) = N' * 10 ^ (e'.toNat + (-e).toNat) := by
    refine Nat.eq_of_mul_eq_mul_right dT_pos ?_
    have a := h.eq
    have b := h'.eq
    rw [Nat.pow_add, Nat.pow_add]
    generalize dT = T at *
    generalize 10 ^ e.toNat = x1 at *
    generalize 10 ^ (-e').toNat = x2 at *
    generalize 10 ^ e'.toNat = x3 at *
    generalize 10 ^ (-e).toNat = x4 at *
    have c1 : N * (x1 * x2) * T = N * x1 * T * x2 := by ac_rfl
    have c2 : N' * (x3 * x4) * T = N' * x3 * T * x4 := by ac_rfl
    rw [c1, c2, a, b]
    ac_rfl
  obtain ⟨q1, q2⟩ := tens_uniq p1 h.last h'.last
  subst q1
  exact ⟨rfl, digits_uniq h.lo h.hi h'.lo h'.hi h.L1 h'.L1, by omega⟩
/-- the number that Fixed writes -/
def fxR (A n : Nat) : Nat := rq (A * 10 ^ n) dT
theorem dec_fixed {A N L n : Nat} {e : Int} (h : Dec A N L e) : (∀ t : Nat, (L : Int) + e + (n : Int) = (t : Int) → rn L N t = fxR A n) ∧ ((L : Int) + e + (n : Int) < 0 → fxR A n = 0) := by
  have heq := h.eq
  have hN := h.hi
  unfold fxR
  by_cases q : 0 ≤ e + (n : Int)
  · have key : A * 10 ^ n = N * 10 ^ (e + (n : Int)).toNat * dT := by
      by_cases he : 0 ≤ e
      · rw [show (-e).toNat = 0 by omega, Nat.pow_zero, Nat.mul_one] at heq
        rw [← heq, show (e + (n : Int)).toNat = e.toNat + n by omega, Nat.pow_add]
        generalize dT = x1
        generalize 10 ^ e.toNat = x2
        generalize 10 ^ n = x3
        ac_rfl
      · rw [show e.toNat = 0 by omega, Nat.pow_zero, Nat.mul_one] at heq
        obtain ⟨j, hj⟩ : ∃ j, j = (e + (n : Int)).toNat := ⟨_, rfl⟩
        have hs : (-e).toNat + j = n := by omega
        have hn : 10 ^ n = 10 ^ (-e).toNat * 10 ^ j := by rw [← Nat.pow_add, hs]
        rw [← hj, hn, ← Nat.mul_assoc, ← heq]
        generalize dT = x1
        generalize 10 ^ j = x2
        ac_rfl
    refine ⟨fun t ht => ?_, fun ht => by omega⟩
    unfold rn
    rw [if_pos (by omega), key, rq_whole dT_pos, show t - L = (e + (n : Int)).toNat by omega]
  · obtain ⟨k, hk⟩ : ∃ k : Nat, (k : Int) = -(e + (n : Int)) := ⟨(-(e + (n : Int))).toNat, by omega⟩
    rw [show e.toNat = 0 by omega, Nat.pow_zero, Nat.mul_one, show (-e).toNat = n + k by omega, Nat.pow_add] at heq
    have hcr : N * dT = A * 10 ^ n * 10 ^ k := by rw [heq, Nat.mul_assoc]
    have hc : rq N (10 ^ k) = rq (A * 10 ^ n) dT := rq_cross (Nat.pow_pos (by omega)) dT_pos hcr
    refine ⟨fun t ht => ?_, fun ht => ?_⟩
    · unfold rn
      rw [if_neg (by omega), show L - t = k by omega]
      exact hc
    · rw [← hc]
      have h10 : 10 ^ (L + 1) ≤ 10 ^ k := Nat.pow_le_pow_right (by omega) (by omega)
      rw [Nat.pow_succ] at h10
      unfold rq up
      rw [Nat.div_eq_of_lt (by omega), Nat.mod_eq_of_lt (by omega), decide_eq_false (by omega), decide_eq_false (p := 2 * N = 10 ^ k) (by omega)]
      rfl
/-- how many digits are written: n behind the point, one at least ahead -/
def Mok (R n M : Nat) : Prop := (M = n + 1 ∧ R < 10 ^ (n + 1)) ∨ (n + 1 < M ∧ 10 ^ (M - 1) ≤ R ∧ R < 10 ^ M)
theorem mok_uniq {R n M M' : Nat} (h : Mok R n M) (h' : Mok R n M') : M = M' := by
  have key : ∀ {M}, n + 1 < M → 10 ^ (M - 1) ≤ R → ¬ R < 10 ^ (n + 1) := fun {M} a b c => by
    have := Nat.pow_le_pow_right (n := 10) (by omega) (show n + 1 ≤ M - 1 by omega)
    omega
  rcases h with ⟨a, b⟩ | ⟨a, b, c⟩ <;> rcases h' with ⟨a', b'⟩ | ⟨a', b', c'⟩
  · omega
  · exact absurd b (key a' b')
  · exact absurd b' (key a b)
  · exact digits_uniq b c b' c' (by omega) (by omega)
/-- the length of the rounded row -/
def rl (L N t : Nat) : Nat := if rn L N t < 10 ^ t then t else t + 1
theorem rl_fits {L N t : Nat} (h : N < 10 ^ L) : rn L N t < 10 ^ rl L N t ∧ rl L N t ≤ t + 1 := by
  have := rn_le (n := t) h
  unfold rl
  split
  · omega
  · refine ⟨?_, Nat.le_refl _⟩
    rw [Nat.pow_succ]
    have := Nat.pow_pos (n := t) (show 0 < 10 by omega)
    omega
theorem rn_lo {L N t : Nat} (h1 : 1 ≤ L) (h2 : 10 ^ (L - 1) ≤ N) (ht : 1 ≤ t) : 10 ^ (t - 1) ≤ rn L N t := by
  unfold rn
  by_cases q : L ≤ t
  · rw [if_pos q]
    have := Nat.mul_le_mul_right (10 ^ (t - L)) h2
    rw [← Nat.pow_add, show L - 1 + (t - L) = t - 1 by omega] at this
    exact this
  · rw [if_neg q]
    unfold rq
    have : 10 ^ (t - 1) ≤ N / 10 ^ (L - t) := by
      rw [Nat.le_div_iff_mul_le (Nat.pow_pos (by omega)), ← Nat.pow_add, show t - 1 + (L - t) = L - 1 by omega]
      exact h2
    omega
theorem mok_of {L N t n : Nat} (h1 : 1 ≤ L) (h2 : 10 ^ (L - 1) ≤ N) (h3 : N < 10 ^ L) : Mok (rn L N t) n (max (rl L N t) (n + 1)) := by
  have hf := rl_fits (t := t) h3
  unfold Mok
  by_cases q : rl L N t ≤ n + 1
  · left
    refine ⟨by omega, ?_⟩
    have := Nat.pow_le_pow_right (n := 10) (by omega) q
    omega
  · right
    have e : max (rl L N t) (n + 1) = rl L N t := by omega
    rw [e]
    refine ⟨by omega, ?_, hf.1⟩
    have hlo := rn_lo (t := t) h1 h2 (by unfold rl at q; split at q <;> omega)
    unfold rl at q ⊢
    split
    · exact hlo
    · rw [Nat.add_sub_cancel]
      omega
end Ep
end Go.Proofs.YtceecgklgkiffaaGreatDoor
