/- Layer 13: the numbers of ExpandCuts. -/
import Derived.Test.YtceecgklgkiffabGreatDoorExpL
import Derived.Test.YtceecgklgkiffabGreatDoorRatD
import Derived.Test.YtceecgklgkiffabGreatDoorNearMm
namespace Go.Proofs.YtceecgklgkiffabGreatDoor
open Go.ChangeShapes Go.WideShapes Go.ChangeAt Go.RowKit
open Na Ar Ep
set_option linter.unusedVariables false
namespace Ep
def u1024 : Nat := 1024
def u309 : Nat := 309
def u324 : Nat := 324
theorem two_ten : Nat.blt ((2 : Nat) ^ u1024) ((10 : Nat) ^ u309) = true := by kernel_rfl
theorem two_ten2 : Nat.blt ((2 : Nat) ^ dX) ((10 : Nat) ^ u324) = true := by kernel_rfl
theorem pow10_lt {a b : Nat} (h : 10 ^ a < 10 ^ b) : a < b := (Nat.pow_lt_pow_iff_right (by omega)).1 h
theorem pow10_cancel {a b : Nat} (h : 10 ^ a ≤ 10 ^ b) : a ≤ b := (Nat.pow_le_pow_iff_right (by omega)).1 h
theorem szA_top {b : Int} (hu : U b) (hf : ef b ≠ 2047) : szA b < 2 ^ u1024 * dT := by
  obtain ⟨P, e1, e2', e3, e4, e5, e6, e7⟩ := num_parts hu hf
  obtain ⟨m, hm⟩ := Int.eq_ofNat_of_zero_le e3
  have hA : szA b = m * 2 ^ P := by
    unfold szA
    rw [e7, hm]
    have : ((m : Int) * 2 ^ P) = ((m * 2 ^ P : Nat) : Int) := by push_cast; rfl
    rw [this]
    rfl
  have hm53 : m < 2 ^ 53 := by omega
  have hd : dX = 1074 := rfl
  have h1 : u1024 = 1024 := rfl
  unfold dT
  rw [hA, ← Nat.pow_add]
  have hp : 2 ^ 53 * 2 ^ P ≤ 2 ^ (u1024 + dX) := by
    rw [← Nat.pow_add]
    exact Nat.pow_le_pow_right (by omega) (by omega)
  have := (Nat.mul_lt_mul_right (a := 2 ^ P) (Nat.pow_pos (by omega))).2 hm53
  omega
theorem dec_top {b : Int} (hu : U b) (hf : ef b ≠ 2047) {N L : Nat} {x : Int} (h : Dec (szA b) N L x) : (L : Int) + x ≤ 309 ∧ -324 < (L : Int) + x := by
  have hA0 : 1 ≤ szA b := by
    rcases Nat.eq_zero_or_pos (szA b) with q | q
    · exfalso
      have := h.eq
      rw [q, Nat.zero_mul] at this
      have hN : 0 < N := by
        have := h.lo
        have := Nat.pow_pos (n := L - 1) (show 0 < 10 by omega)
        omega
      have := Nat.mul_pos (Nat.mul_pos hN (Nat.pow_pos (n := x.toNat) (show 0 < 10 by omega))) dT_pos
      omega
    · exact q
  have hA := szA_top hu hf
  have heq := h.eq
  have hlo := h.lo
  have hhi := h.hi
  have hL := h.L1
  generalize szA b = A at *
  have hT := dT_pos
  have t1 : 2 ^ u1024 < 10 ^ u309 := by have := two_ten; simpa [Nat.blt_eq] using this
  have t2 : dT < 10 ^ u324 := by have := two_ten2; unfold dT; simpa [Nat.blt_eq] using this
  have h3 : u309 = 309 := rfl
  have h4 : u324 = 324 := rfl
  obtain ⟨xp, hxp⟩ : ∃ xp, xp = x.toNat := ⟨_, rfl⟩
  obtain ⟨xn, hxn⟩ : ∃ xn, xn = (-x).toNat := ⟨_, rfl⟩
  rw [← hxp, ← hxn] at heq
  have hx : x = (xp : Int) - (xn : Int) := by omega
  have pn : 0 < 10 ^ xn := Nat.pow_pos (by omega)
  have pp : 0 < 10 ^ xp := Nat.pow_pos (by omega)
  constructor
  · -- N * 10^xp * dT = A * 10^xn < 2^1024 * dT * 10^xn
    have a1 : N * 10 ^ xp * dT < 10 ^ u309 * 10 ^ xn * dT := by
      rw [heq]
      have b1 : A * 10 ^ xn < 2 ^ u1024 * dT * 10 ^ xn := (Nat.mul_lt_mul_right pn).2 hA
      have b2 : 2 ^ u1024 * (dT * 10 ^ xn) ≤ 10 ^ u309 * (dT * 10 ^ xn) := Nat.mul_le_mul_right _ (by omega)
      have e1 : 2 ^ u1024 * dT * 10 ^ xn = 2 ^ u1024 * (dT * 10 ^ xn) := Nat.mul_assoc _ _ _
      have e2 : 10 ^ u309 * 10 ^ xn * dT = 10 ^ u309 * (dT * 10 ^ xn) := by rw [Nat.mul_assoc, Nat.mul_comm (10 ^ xn)]
      omega
    have a2 : N * 10 ^ xp < 10 ^ u309 * 10 ^ xn := Nat.lt_of_mul_lt_mul_right a1
    have a3 : 10 ^ (L - 1) * 10 ^ xp ≤ N * 10 ^ xp := Nat.mul_le_mul_right _ hlo
    rw [← Nat.pow_add] at a2 a3
    have a4 := pow10_lt (Nat.lt_of_le_of_lt a3 a2)
    omega
  · have a1 : 10 ^ xn ≤ A * 10 ^ xn := Nat.le_mul_of_pos_left _ hA0
    have a2 : N * 10 ^ xp * dT < 10 ^ L * 10 ^ xp * 10 ^ u324 := by
      have c1 : N * 10 ^ xp < 10 ^ L * 10 ^ xp := (Nat.mul_lt_mul_right pp).2 hhi
      exact Nat.mul_lt_mul_of_lt_of_le c1 (Nat.le_of_lt t2) (Nat.pow_pos (by omega))
    rw [heq, ← Nat.pow_add, ← Nat.pow_add] at a2
    have a4 := pow10_lt (Nat.lt_of_le_of_lt a1 a2)
    omega
/-- ten to a power that may be below 0, as a Rat: moved -/
theorem dcR_move (W : Nat) (y : Int) (k : Nat) : dcR (W * 10 ^ k) y = dcR W (y + k) := by
  unfold dcR
  have h0 : ∀ (V : Nat) z, 0 ≤ dcN V z := fun V z => Int.mul_nonneg (by omega) (Int.pow_nonneg (by omega))
  rw [mk_eq (h0 _ _) (dcD_pos _) (h0 _ _) (dcD_pos _)]
  show dcN (W * 10 ^ k) y * dcD (y + k) = dcN W (y + k) * dcD y
  unfold dcN dcD
  have e : (((W * 10 ^ k : Nat) : Int)) = (W : Int) * 10 ^ k := by push_cast; rfl
  rw [e]
  have e2 : k + y.toNat + (-(y + (k : Int))).toNat = (y + (k : Int)).toNat + (-y).toNat := by omega
  have e3 : (W : Int) * 10 ^ k * 10 ^ y.toNat * 10 ^ (-(y + (k : Int))).toNat = (W : Int) * 10 ^ (k + y.toNat + (-(y + (k : Int))).toNat) := by rw [Int.pow_add, Int.pow_add]; ac_rfl
  have e4 : (W : Int) * 10 ^ (y + (k : Int)).toNat * 10 ^ (-y).toNat = (W : Int) * 10 ^ ((y + (k : Int)).toNat + (-y).toNat) := by rw [Int.pow_add]; ac_rfl
  rw [e3, e4, e2]
theorem mkR_diffU {P Q E : Int} (hE : 0 < E) : mkR false P E - mkR false Q E = mkR (decide (P < Q)) (if P < Q then Q - P else P - Q) E := by
  rw [mkR_div false hE, mkR_div false hE, mkR_div _ hE]
  have e : sg (decide (P < Q)) (if P < Q then Q - P else P - Q) = P - Q := by
    by_cases h : P < Q
    · rw [if_pos h, decide_eq_true h]
      simp only [sg, if_true]
      omega
    · rw [if_neg h, decide_eq_false h]
      rfl
  rw [e]
  show ((P : Int) : Rat) / _ - ((Q : Int) : Rat) / _ = _
  rw [Rat.div_def, Rat.div_def, Rat.div_def, Rat.intCast_sub, Rat.sub_eq_add_neg, Rat.sub_eq_add_neg, Rat.add_mul, Rat.neg_mul]
def adiff (P Q : Nat) : Nat := if P < Q then Q - P else P - Q
theorem dcR_diff (P Q : Nat) (y : Int) : dcR P y - dcR Q y = mkR (decide (dcN P y < dcN Q y)) (dcN (adiff P Q) y) (dcD y) := by
  unfold dcR
  rw [mkR_diffU (dcD_pos y)]
  congr 1
  have p : (0 : Int) < 10 ^ y.toNat := Int.pow_pos (by omega)
  unfold dcN adiff
  by_cases h : P < Q
  · have h' : (P : Int) * 10 ^ y.toNat < (Q : Int) * 10 ^ y.toNat := (Int.mul_lt_mul_right p).2 (by omega)
    rw [if_pos h, if_pos h', ← Int.sub_mul]
    congr 1
    omega
  · have h' : ¬ (P : Int) * 10 ^ y.toNat < (Q : Int) * 10 ^ y.toNat := fun q => h (by have := (Int.mul_lt_mul_right p).1 q; omega)
    rw [if_neg h, if_neg h', ← Int.sub_mul]
    congr 1
    omega
theorem ord_le {P Q : Nat} {y : Int} (h : P ≤ Q) : ∃ K, ordR (dcR P y) (dcR Q y) = K ∧ -1 ≤ K ∧ K ≤ 0 := by
  refine ⟨_, rfl, ?_⟩
  have p : (0 : Int) < 10 ^ y.toNat := Int.pow_pos (by omega)
  unfold dcR
  have h0 : ∀ (V : Nat) z, 0 ≤ dcN V z := fun V z => Int.mul_nonneg (by omega) (Int.pow_nonneg (by omega))
  rw [ordR_mk (h0 _ _) (dcD_pos _) (h0 _ _) (dcD_pos _)]
  show -1 ≤ ordN (dcN P y * dcD y) (dcN Q y * dcD y) ∧ ordN (dcN P y * dcD y) (dcN Q y * dcD y) ≤ 0
  have : dcN P y * dcD y ≤ dcN Q y * dcD y := by
    refine Int.mul_le_mul_of_nonneg_right ?_ (Int.le_of_lt (dcD_pos y))
    unfold dcN
    exact Int.mul_le_mul_of_nonneg_right (by omega) (Int.le_of_lt p)
  unfold ordN
  split
  · omega
  · split <;> omega
/-- Precise lies within half a unit -/
theorem cuts_half {A n D N L : Nat} {X x : Int} (hd : Dec A N L x) (h1 : 1 ≤ n) (hP : (rn L N n < 10 ^ n ∧ D = rn L N n ∧ X = (L : Int) + x - n) ∨ (rn L N n = 10 ^ n ∧ D = 10 ^ (n - 1) ∧ X = (L : Int) + x - n + 1)) :
    ∃ (s : Bool) (W : Nat) (y : Int), dcR D X - dcR N x = mkR s (dcN W y) (dcD y) ∧ (∃ K, ordR (dcR W y) (dcR 5 (X - 1)) = K ∧ -1 ≤ K ∧ K ≤ 0) := by
  by_cases hln : L ≤ n
  · have hlt := (rn_le (n := n) hd.hi).2 hln
    have hR : rn L N n = N * 10 ^ (n - L) := by unfold rn; rw [if_pos hln]
    obtain ⟨_, hD, hX⟩ : rn L N n < 10 ^ n ∧ D = rn L N n ∧ X = (L : Int) + x - n := by
      rcases hP with h | h
      · exact h
      · omega
    have e1 : dcR N x = dcR D X := by
      rw [hD, hR, dcR_move]
      congr 1
      omega
    refine ⟨_, _, _, by rw [e1]; exact dcR_diff D D X, ?_⟩
    have w0 : adiff D D = 0 := by unfold adiff; rw [if_neg (by omega)]; omega
    have e2 : dcR 0 X = dcR 0 (X - 1) := by
      have := dcR_move 0 (X - 1) 1
      rw [Nat.zero_mul] at this
      rw [this]
      congr 1
      omega
    rw [w0, e2]
    exact ord_le (by omega)
  · obtain ⟨k, hk⟩ : ∃ k, k = L - n := ⟨_, rfl⟩
    have hR : rn L N n = rq N (10 ^ k) := by unfold rn; rw [if_neg hln, hk]
    have hp : 0 < 10 ^ k := Nat.pow_pos (by omega)
    have hq := rq_half (P := N) (Q := 10 ^ k) hp
    rw [← hR] at hq
    have e1 : dcR D X = dcR (rn L N n * 10 ^ k) x := by
      rcases hP with ⟨_, hD, hX⟩ | ⟨h10, hD, hX⟩
      · rw [dcR_move, hD]
        congr 1
        omega
      · have : rn L N n * 10 ^ k = 10 ^ (n - 1) * 10 ^ (k + 1) := by
          rw [h10, ← Nat.pow_add, ← Nat.pow_add]
          congr 1
          omega
        rw [this, dcR_move, hD]
        congr 1
        omega
    refine ⟨_, _, _, by rw [e1]; exact dcR_diff _ N x, ?_⟩
    have hW : 2 * adiff (rn L N n * 10 ^ k) N ≤ 10 ^ k := by
      unfold adiff
      generalize rn L N n * 10 ^ k = y at *
      split <;> omega
    rcases hP with ⟨_, hD, hX⟩ | ⟨h10, hD, hX⟩
    · have e2 : dcR 5 (X - 1) = dcR (5 * 10 ^ (k - 1)) x := by
        rw [dcR_move]
        congr 1
        omega
      rw [e2]
      refine ord_le ?_
      have : 10 ^ k = 10 * 10 ^ (k - 1) := by
        obtain ⟨j, hj⟩ : ∃ j, k = j + 1 := ⟨k - 1, by omega⟩
        rw [hj, Nat.add_sub_cancel, Nat.pow_succ, Nat.mul_comm]
      omega
    · have e2 : dcR 5 (X - 1) = dcR (5 * 10 ^ k) x := by
        rw [dcR_move]
        congr 1
        omega
      rw [e2]
      exact ord_le (by omega)
theorem cuts_first {A n D N L : Nat} {X x : Int} (hd : Dec A N L x) (h1 : 1 ≤ n) (hP : (rn L N n < 10 ^ n ∧ D = rn L N n ∧ X = (L : Int) + x - n) ∨ (rn L N n = 10 ^ n ∧ D = 10 ^ (n - 1) ∧ X = (L : Int) + x - n + 1)) : 10 ^ (n - 1) ≤ D := by
  rcases hP with ⟨_, hD, _⟩ | ⟨_, hD, _⟩
  · rw [hD]
    exact rn_lo hd.L1 hd.lo h1
  · omega
theorem cuts_all {A n D N L : Nat} {X x : Int} (hd : Dec A N L x) (hln : L ≤ n) (hP : (rn L N n < 10 ^ n ∧ D = rn L N n ∧ X = (L : Int) + x - n) ∨ (rn L N n = 10 ^ n ∧ D = 10 ^ (n - 1) ∧ X = (L : Int) + x - n + 1)) : dg n D = dg L N ++ List.replicate (n - L) 48 ∧ X = x - ((n - L : Nat) : Int) := by
  have hlt := (rn_le (n := n) hd.hi).2 hln
  obtain ⟨_, hD, hX⟩ : rn L N n < 10 ^ n ∧ D = rn L N n ∧ X = (L : Int) + x - n := by
    rcases hP with h | h
    · exact h
    · omega
  refine ⟨?_, by omega⟩
  have hR : rn L N n = N * 10 ^ (n - L) := by unfold rn; rw [if_pos hln]
  rw [hD, hR]
  obtain ⟨k, rfl⟩ : ∃ k, n = L + k := ⟨n - L, by omega⟩
  rw [Nat.add_sub_cancel_left, dg_tens]
/-- where Fixed reaches as far it is exact -/
theorem cuts_exact {b : Int} (hf : ef b ≠ 2047) {N L n : Nat} {x : Int} (hd : Dec (szA b) N L x) (hn : -x ≤ (n : Int)) : dcR (fxR (szA b) n) (-(n : Int)) = dcR N x := by
  obtain ⟨f1, _⟩ := dec_fixed (n := n) hd
  have hL := hd.L1
  obtain ⟨T, hT⟩ : ∃ T : Nat, (L : Int) + x + n = T := ⟨((L : Int) + x + n).toNat, by omega⟩
  rw [← f1 T hT]
  have hR : rn L N T = N * 10 ^ (T - L) := by unfold rn; rw [if_pos (by omega)]
  rw [hR, dcR_move]
  congr 1
  omega
end Ep
end Go.Proofs.YtceecgklgkiffabGreatDoor
