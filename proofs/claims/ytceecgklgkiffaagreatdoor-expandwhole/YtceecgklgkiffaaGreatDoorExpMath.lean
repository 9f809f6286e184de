/- Layer 13: rows of decimal digits. -/
import Derived.KernelRfl
namespace Go.Proofs.YtceecgklgkiffaaGreatDoor
set_option linter.unusedVariables false
namespace Ep
/-- so many digits of a number, the last ones -/
def dg : Nat → Nat → List UInt8
  | 0, _ => []
  | m + 1, X => dg m (X / 10) ++ [UInt8.ofNat (48 + X % 10)]
theorem dg_len (m X : Nat) : (dg m X).length = m := by
  induction m generalizing X with
  | zero => rfl
  | succ m ih => simp [dg, ih]
theorem dg_split (m k X : Nat) : dg (m + k) X = dg m (X / 10 ^ k) ++ dg k X := by
  induction k generalizing X with
  | zero => simp [dg]
  | succ k ih =>
    have e : dg (m + (k + 1)) X = dg (m + k) (X / 10) ++ [UInt8.ofNat (48 + X % 10)] := rfl
    have e2 : dg (k + 1) X = dg k (X / 10) ++ [UInt8.ofNat (48 + X % 10)] := rfl
    rw [e, e2, ih, Nat.div_div_eq_div_mul, Nat.pow_succ, Nat.mul_comm 10 (10 ^ k), List.append_assoc]
theorem dg_mod (k X : Nat) : dg k (X % 10 ^ k) = dg k X := by
  induction k generalizing X with
  | zero => rfl
  | succ k ih =>
    have e1 : dg (k + 1) (X % 10 ^ (k + 1)) = dg k (X % 10 ^ (k + 1) / 10) ++ [UInt8.ofNat (48 + X % 10 ^ (k + 1) % 10)] := rfl
    have e2 : dg (k + 1) X = dg k (X / 10) ++ [UInt8.ofNat (48 + X % 10)] := rfl
    have e3 : X % 10 ^ (k + 1) % 10 = X % 10 := by rw [Nat.pow_succ, Nat.mod_mul_left_mod]
    have e4 : X % 10 ^ (k + 1) / 10 = X / 10 % 10 ^ k := by rw [Nat.pow_succ, Nat.mod_mul_left_div_self]
    rw [e1, e2, e3, e4, ih]
theorem dg_zero (m : Nat) : dg m 0 = List.replicate m 48 := by
  induction m with
  | zero => rfl
  | succ m ih =>
    have e : dg (m + 1) 0 = dg m (0 / 10) ++ [UInt8.ofNat (48 + 0 % 10)] := rfl
    rw [e, Nat.zero_div, ih, List.replicate_succ']
    rfl
theorem dg_pad (j : Nat) {m X : Nat} (h : X < 10 ^ m) : dg (j + m) X = List.replicate j 48 ++ dg m X := by
  rw [dg_split, Nat.div_eq_of_lt h, dg_zero]
theorem dg_join {m k : Nat} (A : Nat) {C : Nat} (h : C < 10 ^ k) : dg (m + k) (A * 10 ^ k + C) = dg m A ++ dg k C := by
  have p : 0 < 10 ^ k := Nat.pow_pos (by omega)
  rw [dg_split, Nat.mul_comm, Nat.mul_add_div p, Nat.div_eq_of_lt h, Nat.add_zero, ← dg_mod k (10 ^ k * A + C), Nat.mul_add_mod, Nat.mod_eq_of_lt h]
theorem dg_tens (m k X : Nat) : dg (m + k) (X * 10 ^ k) = dg m X ++ List.replicate k 48 := by
  have := dg_join (m := m) (k := k) X (C := 0) (Nat.pow_pos (by omega))
  rw [Nat.add_zero, dg_zero] at this
  exact this
theorem dg_cons (m X : Nat) : dg (m + 1) X = UInt8.ofNat (48 + X / 10 ^ m % 10) :: dg m X := by
  rw [Nat.add_comm, dg_split]
  have e : dg 1 (X / 10 ^ m) = dg 0 (X / 10 ^ m / 10) ++ [UInt8.ofNat (48 + X / 10 ^ m % 10)] := rfl
  rw [e]
  rfl
theorem dch_nat {d : Nat} (h : d < 10) : (UInt8.ofNat (48 + d)).toNat = 48 + d := by
  rw [UInt8.toNat_ofNat']
  omega
theorem dg_range (m X : Nat) : ∀ x ∈ dg m X, 48 ≤ x.toNat ∧ x.toNat ≤ 57 := by
  induction m generalizing X with
  | zero => intro x hx; cases hx
  | succ m ih =>
    intro x hx
    have e : dg (m + 1) X = dg m (X / 10) ++ [UInt8.ofNat (48 + X % 10)] := rfl
    rw [e] at hx
    rcases List.mem_append.1 hx with h | h
    · exact ih _ x h
    · rw [List.mem_singleton] at h
      rw [h, dch_nat (Nat.mod_lt _ (by omega))]
      omega
/-- the digit at a place -/
theorem dg_at {m X j : Nat} (h : j < m) : (dg m X)[j]? = some (UInt8.ofNat (48 + X / 10 ^ (m - 1 - j) % 10)) := by
  obtain ⟨k, rfl⟩ : ∃ k, m = j + (1 + k) := ⟨m - j - 1, by omega⟩
  rw [dg_split, List.getElem?_append_right (by rw [dg_len]; exact Nat.le_refl _), dg_len, Nat.sub_self, Nat.add_comm 1 k, dg_cons, show j + (k + 1) - 1 - j = k by omega]
  rfl
theorem dg_take {m n X : Nat} (h : n ≤ m) : (dg m X).take n = dg n (X / 10 ^ (m - n)) := by
  obtain ⟨k, rfl⟩ : ∃ k, m = n + k := ⟨m - n, by omega⟩
  rw [dg_split, List.take_left' (dg_len _ _), Nat.add_sub_cancel_left]
theorem dg_drop {m n X : Nat} (h : n ≤ m) : (dg m X).drop n = dg (m - n) X := by
  obtain ⟨k, rfl⟩ : ∃ k, m = n + k := ⟨m - n, by omega⟩
  rw [dg_split, List.drop_left' (dg_len _ _), Nat.add_sub_cancel_left]
theorem dg_inj {m X Y : Nat} (hX : X < 10 ^ m) (hY : Y < 10 ^ m) (h : dg m X = dg m Y) : X = Y := by
  induction m generalizing X Y with
  | zero => simp at hX hY; omega
  | succ m ih =>
    have e1 : dg (m + 1) X = dg m (X / 10) ++ [UInt8.ofNat (48 + X % 10)] := rfl
    have e2 : dg (m + 1) Y = dg m (Y / 10) ++ [UInt8.ofNat (48 + Y % 10)] := rfl
    rw [e1, e2] at h
    have hl := List.append_inj h (by rw [dg_len, dg_len])
    have a := ih (X := X / 10) (Y := Y / 10) (by rw [Nat.pow_succ] at hX; omega) (by rw [Nat.pow_succ] at hY; omega) hl.1
    have b : UInt8.ofNat (48 + X % 10) = UInt8.ofNat (48 + Y % 10) := by simpa using hl.2
    have c := congrArg UInt8.toNat b
    rw [dch_nat (Nat.mod_lt _ (by omega)), dch_nat (Nat.mod_lt _ (by omega))] at c
    omega
/-- rounded to the nearest, of two as near the even one -/
def up (P Q : Nat) : Bool := decide (Q < 2 * (P % Q)) || (decide (2 * (P % Q) = Q) && decide (P / Q % 2 = 1))
def rq (P Q : Nat) : Nat := P / Q + if up P Q = true then 1 else 0
theorem up_scale {c P Q : Nat} (hc : 0 < c) : up (P * c) (Q * c) = up P Q := by
  unfold up
  rw [Nat.mul_mod_mul_right, Nat.mul_div_mul_right _ _ hc]
  have e1 : decide (Q * c < 2 * (P % Q * c)) = decide (Q < 2 * (P % Q)) := by
    refine decide_eq_decide.2 ?_
    rw [← Nat.mul_assoc]
    exact Nat.mul_lt_mul_right hc
  have e2 : decide (2 * (P % Q * c) = Q * c) = decide (2 * (P % Q) = Q) := by
    refine decide_eq_decide.2 ?_
    rw [← Nat.mul_assoc]
    exact Nat.mul_left_inj (by omega)
  rw [e1, e2]
theorem rq_scale {c P Q : Nat} (hc : 0 < c) : rq (P * c) (Q * c) = rq P Q := by
  unfold rq
  rw [up_scale hc, Nat.mul_div_mul_right _ _ hc]
theorem rq_cross {P Q P' Q' : Nat} (hQ : 0 < Q) (hQ' : 0 < Q') (h : P * Q' = P' * Q) : rq P Q = rq P' Q' := by
  rw [← rq_scale (P := P) (Q := Q) hQ', ← rq_scale (P := P') (Q := Q') hQ, h, Nat.mul_comm Q Q']
theorem rq_whole {X Q : Nat} (hQ : 0 < Q) : rq (X * Q) Q = X := by
  unfold rq
  have : up (X * Q) Q = false := by
    unfold up
    rw [Nat.mul_mod_left]
    simp
    omega
  rw [this, Nat.mul_div_cancel _ hQ]
  rfl
theorem rq_mono {P P' Q : Nat} (hQ : 0 < Q) (h : P ≤ P') : rq P Q ≤ rq P' Q := by
  have d := Nat.div_le_div_right (c := Q) h
  unfold rq
  by_cases e : P / Q = P' / Q
  · rw [e]
    have hm : P % Q ≤ P' % Q := by
      have a := Nat.div_add_mod P Q
      have b := Nat.div_add_mod P' Q
      rw [e] at a
      omega
    by_cases u : up P Q = true
    · have u' : up P' Q = true := by
        unfold up at u ⊢
        rw [e] at u
        simp only [Bool.or_eq_true, Bool.and_eq_true, decide_eq_true_eq] at u ⊢
        omega
      rw [if_pos u, if_pos u']
      exact Nat.le_refl _
    · rw [if_neg u]
      omega
  · split <;> split <;> omega
/-- within half a unit, at half a unit even -/
theorem rq_half {P Q : Nat} (hQ : 0 < Q) : 2 * (rq P Q * Q) ≤ 2 * P + Q ∧ 2 * P ≤ 2 * (rq P Q * Q) + Q ∧ ((2 * (rq P Q * Q) = 2 * P + Q ∨ 2 * P = 2 * (rq P Q * Q) + Q) → rq P Q % 2 = 0) := by
  have a := Nat.div_add_mod P Q
  have m := Nat.mod_lt P hQ
  unfold rq
  by_cases u : up P Q = true
  · rw [if_pos u]
    unfold up at u
    simp only [Bool.or_eq_true, Bool.and_eq_true, decide_eq_true_eq] at u
    rw [Nat.add_mul, Nat.one_mul, Nat.mul_comm (P / Q) Q]
    refine ⟨by omega, by omega, fun h => ?_⟩
    omega
  · rw [if_neg u]
    unfold up at u
    simp only [Bool.or_eq_true, Bool.and_eq_true, decide_eq_true_eq] at u
    rw [Nat.add_zero, Nat.mul_comm (P / Q) Q]
    refine ⟨by omega, by omega, fun h => ?_⟩
    omega
/-- the whole number that the first n of L digits are, rounded by those behind them -/
def rn (L N n : Nat) : Nat := if L ≤ n then N * 10 ^ (n - L) else rq N (10 ^ (L - n))
theorem rn_le {L N n : Nat} (h : N < 10 ^ L) : rn L N n ≤ 10 ^ n ∧ (L ≤ n → rn L N n < 10 ^ n) := by
  unfold rn
  by_cases g : L ≤ n
  · rw [if_pos g]
    have e : 10 ^ n = 10 ^ L * 10 ^ (n - L) := by rw [← Nat.pow_add]; congr 1; omega
    have : N * 10 ^ (n - L) < 10 ^ L * 10 ^ (n - L) := (Nat.mul_lt_mul_right (Nat.pow_pos (by omega))).2 h
    omega
  · rw [if_neg g]
    have e : 10 ^ L = 10 ^ n * 10 ^ (L - n) := by rw [← Nat.pow_add]; congr 1; omega
    have hd : N / 10 ^ (L - n) < 10 ^ n := by
      rw [Nat.div_lt_iff_lt_mul (Nat.pow_pos (by omega))]
      omega
    refine ⟨?_, fun q => by omega⟩
    unfold rq
    split <;> omega
/-- the row of it -/
def rw13 (L N n : Nat) : List UInt8 := dg (if rn L N n < 10 ^ n then n else n + 1) (rn L N n)
/-- the order of lists of bytes -/
def cmpL : List UInt8 → List UInt8 → Int
  | [], [] => 0
  | [], _ :: _ => -1
  | _ :: _, [] => 1
  | a :: l, b :: m => if a.toNat < b.toNat then -1 else if b.toNat < a.toNat then 1 else cmpL l m
theorem cmp_five {k T : Nat} (hk : 1 ≤ k) (hT : T < 10 ^ k) (h0 : T % 10 ≠ 0) : cmpL (dg k T) [53] = if 2 * T < 10 ^ k then -1 else if 10 ^ k < 2 * T then 1 else 0 := by
  obtain ⟨j, rfl⟩ : ∃ j, k = j + 1 := ⟨k - 1, by omega⟩
  rw [dg_cons]
  have p : 0 < 10 ^ j := Nat.pow_pos (by omega)
  have hq : T / 10 ^ j < 10 := by
    rw [Nat.div_lt_iff_lt_mul p]
    rw [Nat.pow_succ] at hT
    omega
  rw [Nat.mod_eq_of_lt hq]
  have hdm := Nat.div_add_mod T (10 ^ j)
  have hml := Nat.mod_lt T p
  have e10 : 10 ^ (j + 1) = 10 * 10 ^ j := by rw [Nat.pow_succ, Nat.mul_comm]
  generalize hqd : T / 10 ^ j = q at *
  unfold cmpL
  rw [dch_nat hq, show (53 : UInt8).toNat = 53 from rfl]
  rcases Nat.lt_trichotomy q 5 with g | g | g
  · rw [if_pos (by omega), if_pos]
    have : 10 ^ j * q ≤ 10 ^ j * 4 := Nat.mul_le_mul_left _ (by omega)
    omega
  · subst g
    rw [if_neg (by omega), if_neg (by omega)]
    cases j with
    | zero =>
      simp at hml hdm e10
      have : T = 5 := by omega
      subst this
      rfl
    | succ i =>
      have e : dg (i + 1) T = dg i (T / 10) ++ [UInt8.ofNat (48 + T % 10)] := rfl
      have hne : dg (i + 1) T ≠ [] := by rw [e]; simp
      have : T % 10 ^ (i + 1) ≠ 0 := by
        intro z
        have := Nat.mod_mul_left_mod T (10 ^ i) 10
        rw [← Nat.pow_succ, z] at this
        omega
      obtain ⟨x, l, hx⟩ := List.exists_cons_of_ne_nil hne
      rw [hx]
      unfold cmpL
      rw [if_neg (by omega), if_pos (by omega)]
  · rw [if_neg (by omega), if_pos (by omega), if_neg, if_pos]
    · have : 10 ^ j * 6 ≤ 10 ^ j * q := Nat.mul_le_mul_left _ (by omega)
      omega
    · have : 10 ^ j * 6 ≤ 10 ^ j * q := Nat.mul_le_mul_left _ (by omega)
      omega
/-- what goesUp tells -/
theorem goes_up {N n k : Nat} (hk : 1 ≤ k) (h0 : N % 10 ≠ 0) : up N (10 ^ k) = (decide (0 < cmpL (dg k N) [53]) || (decide (cmpL (dg k N) [53] = 0) && decide (N / 10 ^ k % 2 = 1))) := by
  have h1 : N % 10 ^ k % 10 ≠ 0 := by
    obtain ⟨j, rfl⟩ : ∃ j, k = j + 1 := ⟨k - 1, by omega⟩
    rw [Nat.pow_succ, Nat.mod_mul_left_mod]
    exact h0
  rw [← dg_mod, cmp_five hk (Nat.mod_lt _ (Nat.pow_pos (by omega))) h1]
  unfold up
  rcases Nat.lt_trichotomy (2 * (N % 10 ^ k)) (10 ^ k) with g | g | g
  · rw [if_pos g, decide_eq_false (by omega), decide_eq_false (p := 2 * (N % 10 ^ k) = 10 ^ k) (by omega)]
    simp
  · rw [if_neg (by omega), if_neg (by omega), decide_eq_false (by omega), decide_eq_true g]
    simp
  · rw [if_neg (by omega), if_pos g, decide_eq_true g]
    simp
/-- the parity of a digit's byte -/
theorem odd_byte {n X : Nat} (hn : 1 ≤ n) : ∃ c, (dg n X)[n - 1]? = some c ∧ c.toNat % 2 = X % 2 ∧ c.toNat < 128 := by
  refine ⟨_, dg_at (by omega), ?_⟩
  rw [Nat.sub_self, Nat.pow_zero, Nat.div_one, dch_nat (Nat.mod_lt _ (by omega))]
  omega
/-- one more: nines behind a digit that is none -/
theorem next_nines {n Q j : Nat} (hj : j < n) (h9 : Q % 10 ^ j = 10 ^ j - 1) (hd : Q / 10 ^ j % 10 ≠ 9) : dg (n - j - 1) (Q / 10 ^ (j + 1)) ++ (UInt8.ofNat (48 + Q / 10 ^ j % 10 + 1) :: List.replicate j 48) = dg n (Q + 1) ∧ (Q < 10 ^ n → Q + 1 < 10 ^ n) := by
  have p : 0 < 10 ^ j := Nat.pow_pos (by omega)
  have hdm := Nat.div_add_mod Q (10 ^ j)
  have e1 : Q + 1 = (Q / 10 ^ j + 1) * 10 ^ j := by rw [Nat.add_mul, Nat.one_mul, Nat.mul_comm]; omega
  have hq := Nat.mod_lt (Q / 10 ^ j) (show 0 < 10 by omega)
  obtain ⟨i, rfl⟩ : ∃ i, n = i + 1 + j := ⟨n - j - 1, by omega⟩
  have e2 : dg (i + 1) (Q / 10 ^ j + 1) = dg i (Q / 10 ^ j / 10) ++ [UInt8.ofNat (48 + (Q / 10 ^ j % 10 + 1))] := by
    have e : dg (i + 1) (Q / 10 ^ j + 1) = dg i ((Q / 10 ^ j + 1) / 10) ++ [UInt8.ofNat (48 + (Q / 10 ^ j + 1) % 10)] := rfl
    rw [e, show (Q / 10 ^ j + 1) / 10 = Q / 10 ^ j / 10 by omega, show (Q / 10 ^ j + 1) % 10 = Q / 10 ^ j % 10 + 1 by omega]
  refine ⟨?_, fun hb => ?_⟩
  · rw [e1, dg_tens, e2, Nat.div_div_eq_div_mul, Nat.pow_succ, show i + 1 + j - j - 1 = i by omega, List.append_assoc]
    rfl
  · have hb' : Q / 10 ^ j < 10 ^ (i + 1) := by
      rw [Nat.div_lt_iff_lt_mul p, ← Nat.pow_add]
      exact hb
    rw [e1, Nat.pow_add]
    refine (Nat.mul_lt_mul_right p).2 ?_
    rw [Nat.pow_succ] at hb' ⊢
    omega
theorem nines_next {Q j : Nat} (h9 : Q % 10 ^ j = 10 ^ j - 1) (hd : Q / 10 ^ j % 10 = 9) : Q % 10 ^ (j + 1) = 10 ^ (j + 1) - 1 := by
  have p : 0 < 10 ^ j := Nat.pow_pos (by omega)
  rw [Nat.pow_succ, Nat.mod_mul, h9, hd]
  omega
end Ep
end Go.Proofs.YtceecgklgkiffaaGreatDoor
