/- Division of long numbers: the guess by the highest words, in plain numbers and in lists. -/
import Derived.Test.YthjfjpdgjhidfabGreatBaseB
namespace Go.Proofs.YthjfjpdgjhidfabGreat
open Go.ChangeShapes Go.WideShapes Go.ChangeAt Go.RowKit
open Na Ar
set_option linter.unusedVariables false
namespace Na
/-- the parts of divisor V and of the words R above it -/
structure Kn (P V R v1 v2 uh ul u2 : Int) : Prop where
  p : 0 < P
  v1p : 0 < v1
  v2p : 0 ≤ v2 ∧ v2 < 18446744073709551616
  u2p : 0 ≤ u2
  vlo : v1 * (18446744073709551616 * P) + v2 * P ≤ V
  vhi : V < v1 * (18446744073709551616 * P) + v2 * P + P
  rlo : (uh * 18446744073709551616 + ul) * (18446744073709551616 * P) + u2 * P ≤ R
  rhi : R < (uh * 18446744073709551616 + ul) * (18446744073709551616 * P) + u2 * P + P
  u2h : u2 < 18446744073709551616
theorem Kn.pos {P V R v1 v2 uh ul u2 : Int} (h : Kn P V R v1 v2 uh ul u2) : 0 < V := by
  have a : 0 ≤ v2 * P := Int.mul_nonneg h.v2p.1 (Int.le_of_lt h.p)
  have b : 0 < v1 * (18446744073709551616 * P) := Int.mul_pos h.v1p (by have := h.p; omega)
  have := h.vlo
  omega
/-- the guess is never too small -/
theorem Kn.first {P V R v1 v2 uh ul u2 q r : Int} (h : Kn P V R v1 v2 uh ul u2) (hq : 0 ≤ q) (e : q * v1 + r = uh * 18446744073709551616 + ul) (hr : r < v1) : R < (q + 1) * V := by
  have hp := h.p
  obtain ⟨Z, hZ⟩ : ∃ Z, Z = 18446744073709551616 * P := ⟨_, rfl⟩
  have a := h.vlo
  have b := h.rhi
  have u := h.u2h
  rw [← hZ] at a b
  have c : u2 * P + P ≤ Z := by
    have : (u2 + 1) * P ≤ 18446744073709551616 * P := Int.mul_le_mul_of_nonneg_right (by omega) (by omega)
    rw [Int.add_mul, Int.one_mul] at this
    omega
  have d : 0 ≤ v2 * P := Int.mul_nonneg h.v2p.1 (by omega)
  have e2 : (uh * 18446744073709551616 + ul + 1) * Z ≤ (q + 1) * v1 * Z := Int.mul_le_mul_of_nonneg_right (by rw [Int.add_mul, Int.one_mul]; omega) (by omega)
  rw [Int.add_mul, Int.one_mul, Int.mul_assoc] at e2
  have f : (q + 1) * (v1 * Z) ≤ (q + 1) * V := Int.mul_le_mul_of_nonneg_left (by omega) (by omega)
  omega
/-- what the next words tell to be too great is too great -/
theorem Kn.less {P V R v1 v2 uh ul u2 q r : Int} (h : Kn P V R v1 v2 uh ul u2) (hq : 0 ≤ q) (e : q * v1 + r = uh * 18446744073709551616 + ul) (ht : r * 18446744073709551616 + u2 < q * v2) : R < q * V := by
  have hp := h.p
  have a := h.vlo
  have b := h.rhi
  have f : q * (v1 * (18446744073709551616 * P) + v2 * P) ≤ q * V := Int.mul_le_mul_of_nonneg_left a hq
  have g : (r * 18446744073709551616 + u2 + 1) * P ≤ q * v2 * P := Int.mul_le_mul_of_nonneg_right (by omega) (by omega)
  rw [← e] at b
  have e1 : q * (v1 * (18446744073709551616 * P) + v2 * P) = q * v1 * (18446744073709551616 * P) + q * v2 * P := by rw [Int.mul_add, Int.mul_assoc, Int.mul_assoc]
  rw [e1] at f
  have e2 : (q * v1 + r) * (18446744073709551616 * P) = q * v1 * (18446744073709551616 * P) + r * 18446744073709551616 * P := by rw [Int.add_mul, Int.mul_assoc r]
  rw [e2] at b
  rw [Int.add_mul, Int.add_mul, Int.one_mul] at g
  omega
/-- what they do not is at most one too great -/
theorem Kn.near {P V R v1 v2 uh ul u2 q r : Int} (h : Kn P V R v1 v2 uh ul u2) (hq : 0 ≤ q) (hqb : q < 18446744073709551616) (e : q * v1 + r = uh * 18446744073709551616 + ul) (ht : q * v2 ≤ r * 18446744073709551616 + u2) : q * V < R + V := by
  have hp := h.p
  have a := h.vhi
  have a0 := h.vlo
  have b := h.rlo
  have v1p := h.v1p
  obtain ⟨s, hs⟩ : ∃ s, s = V - (v1 * (18446744073709551616 * P) + v2 * P) := ⟨_, rfl⟩
  have es : V = v1 * (18446744073709551616 * P) + v2 * P + s := by omega
  have f : q * V = q * v1 * (18446744073709551616 * P) + q * v2 * P + q * s := by rw [es, Int.mul_add, Int.mul_add, Int.mul_assoc, Int.mul_assoc]
  have g : q * v2 * P ≤ (r * 18446744073709551616 + u2) * P := Int.mul_le_mul_of_nonneg_right ht (by omega)
  have s1 : q * s ≤ q * P := Int.mul_le_mul_of_nonneg_left (by omega) hq
  have s2 : q * P < 18446744073709551616 * P := Int.mul_lt_mul_of_pos_right hqb hp
  have v0 : 1 * (18446744073709551616 * P) ≤ v1 * (18446744073709551616 * P) := Int.mul_le_mul_of_nonneg_right (by omega) (by omega)
  have d : 0 ≤ v2 * P := Int.mul_nonneg h.v2p.1 (by omega)
  rw [← e] at b
  have e2 : (q * v1 + r) * (18446744073709551616 * P) = q * v1 * (18446744073709551616 * P) + r * 18446744073709551616 * P := by rw [Int.add_mul, Int.mul_assoc r]
  rw [e2] at b
  rw [Int.add_mul] at g
  omega
/-- a rest that is no word any more tells nothing -/
theorem Kn.full {P V R v1 v2 uh ul u2 q r : Int} (h : Kn P V R v1 v2 uh ul u2) (hq : 0 ≤ q) (hqb : q < 18446744073709551616) (hr : 18446744073709551616 ≤ r) : q * v2 ≤ r * 18446744073709551616 + u2 := by
  have v2p := h.v2p
  have a : q * v2 ≤ 18446744073709551616 * v2 := Int.mul_le_mul_of_nonneg_right (by omega) v2p.1
  have := h.u2p
  omega
/-- taken away: it was right -/
theorem take_right {V R W W' Z uh b q : Int} (hR : R = W + Z * uh) (hV : V ≤ Z) (h1 : R < (q + 1) * V) (hw : 0 ≤ W' ∧ W' < Z) (e : W' - Z * b = W - q * V) (hb : b ≤ uh) : W' = R - q * V ∧ 0 ≤ W' ∧ W' < V := by
  rw [Int.add_mul, Int.one_mul] at h1
  have e2 : R - q * V = W' + Z * (uh - b) := by rw [Int.mul_sub]; omega
  by_cases g : uh = b
  · subst g
    rw [Int.sub_self, Int.mul_zero] at e2
    omega
  · have : Z * 1 ≤ Z * (uh - b) := Int.mul_le_mul_of_nonneg_left (by omega) (by omega)
    omega
/-- taken away: it was one too great -/
theorem take_over {V R W W' W2 Z uh b q c : Int} (hR : R = W + Z * uh) (hV : V ≤ Z) (h2 : q * V < R + V) (hw : 0 ≤ W' ∧ W' < Z) (e : W' - Z * b = W - q * V) (hb : uh < b) (hw2 : 0 ≤ W2 ∧ W2 < Z) (e2 : W2 + Z * c = W' + V) (hc : c = 0 ∨ c = 1) :
    W2 = R - (q - 1) * V ∧ 0 ≤ W2 ∧ W2 < V := by
  rw [Int.sub_mul, Int.one_mul]
  have e3 : R - q * V + V = W2 + Z * (c + uh - b) := by
    have : Z * (c + uh - b) = Z * c + Z * uh - Z * b := by rw [Int.mul_sub, Int.mul_add]
    omega
  have e4 : R - q * V = W' + Z * (uh - b) := by rw [Int.mul_sub]; omega
  have neg : Z * (uh - b) ≤ Z * (-1) := Int.mul_le_mul_of_nonneg_left (by omega) (by omega)
  by_cases g : c + uh - b = 0
  · rw [g, Int.mul_zero] at e3
    omega
  · by_cases g2 : 1 ≤ c + uh - b
    · have : Z * 1 ≤ Z * (c + uh - b) := Int.mul_le_mul_of_nonneg_left g2 (by omega)
      omega
    · have : Z * (c + uh - b) ≤ Z * (-1) := Int.mul_le_mul_of_nonneg_left (by omega) (by omega)
      omega
theorem win_succ {us : List Int} {o m : Nat} (h : o + m < us.length) : Na.win us o (m + 1) = Na.win us o m + 18446744073709551616 ^ m * us.getD (o + m) 0 := by
  unfold Na.win num
  rw [take_valB (by rw [List.length_drop]; omega)]
  have : (us.drop o).getD m 0 = us.getD (o + m) 0 := by simp [List.getD_eq_getElem?_getD, List.getElem?_drop]
  rw [this]
theorem win_three {us : List Int} {o k : Nat} (h : o + (k + 2) < us.length) : Na.win us o (k + 3) = Na.win us o k + 18446744073709551616 ^ k * us.getD (o + k) 0 + 18446744073709551616 * 18446744073709551616 ^ k * us.getD (o + (k + 1)) 0 + 18446744073709551616 * 18446744073709551616 * 18446744073709551616 ^ k * us.getD (o + (k + 2)) 0 := by
  have e1 : (18446744073709551616 : Int) ^ (k + 1) = 18446744073709551616 * 18446744073709551616 ^ k := by rw [Int.pow_succ, Int.mul_comm]
  have e2 : (18446744073709551616 : Int) ^ (k + 2) = 18446744073709551616 * 18446744073709551616 * 18446744073709551616 ^ k := by rw [Int.pow_succ, e1, Int.mul_comm, Int.mul_assoc]
  rw [win_succ (o := o) (m := k + 2) h, win_succ (o := o) (m := k + 1) (by omega), win_succ (o := o) (m := k) (by omega), e1, e2]
theorem win_two {us : List Int} {o k : Nat} (h : o + (k + 1) < us.length) : Na.win us o (k + 2) = Na.win us o k + 18446744073709551616 ^ k * us.getD (o + k) 0 + 18446744073709551616 * 18446744073709551616 ^ k * us.getD (o + (k + 1)) 0 := by
  have e1 : (18446744073709551616 : Int) ^ (k + 1) = 18446744073709551616 * 18446744073709551616 ^ k := by rw [Int.pow_succ, Int.mul_comm]
  rw [win_succ (o := o) (m := k + 1) (by omega), win_succ (o := o) (m := k) (by omega), e1]
/-- the parts, of lists: v of k + 2 words, u's words from j on -/
theorem kn_lists {us vs : List Int} {j k : Nat} (hu : Ws us) (hv : Ws vs) (hl : vs.length = k + 2) (hj : j + (k + 2) < us.length) (hv1 : vs.getD (k + 1) 0 ≠ 0) :
    Kn (18446744073709551616 ^ k) (num vs) (Na.win us j (k + 3)) (vs.getD (k + 1) 0) (vs.getD k 0) (us.getD (j + (k + 2)) 0) (us.getD (j + (k + 1)) 0) (us.getD (j + k) 0) := by
  have p := wpow_pos k
  have g1 := hv.getAnyB (k + 1)
  have g2 := hv.getAnyB k
  have g3 := hu.getAnyB (j + k)
  have ev : num vs = Na.win vs 0 (k + 2) := (win_all hl).symm
  have e1 := win_two (us := vs) (o := 0) (k := k) (by omega)
  rw [Nat.zero_add, Nat.zero_add] at e1
  have e2 := win_three (us := us) (o := j) (k := k) hj
  have w1 := win_nonneg hv 0 k
  have w2 := win_lt hv (o := 0) (m := k) (by omega)
  have w3 := win_nonneg hu j k
  have w4 := win_lt hu (o := j) (m := k) (by omega)
  generalize (18446744073709551616 : Int) ^ k = P at *
  generalize vs.getD (k + 1) 0 = a at *
  generalize vs.getD k 0 = b at *
  generalize us.getD (j + (k + 2)) 0 = c at *
  generalize us.getD (j + (k + 1)) 0 = d at *
  generalize us.getD (j + k) 0 = e at *
  have f1 : a * (18446744073709551616 * P) = 18446744073709551616 * P * a := Int.mul_comm _ _
  have f2 : b * P = P * b := Int.mul_comm _ _
  have f3 : e * P = P * e := Int.mul_comm _ _
  have f4 : (c * 18446744073709551616 + d) * (18446744073709551616 * P) = 18446744073709551616 * 18446744073709551616 * P * c + 18446744073709551616 * P * d := by grind
  refine ⟨p, by omega, g2, g3.1, ?_, ?_, ?_, ?_, g3.2⟩
  · rw [ev, e1, f1, f2]; omega
  · rw [ev, e1, f1, f2]; omega
  · rw [e2, f4, f3]; omega
  · rw [e2, f4, f3]; omega
/-- what holds ahead of the guess for the word j of the quotient: U0 the number, shifted -/
structure DvI (U0 : Int) (vs us qs : List Int) (j : Nat) : Prop where
  wu : Ws us
  wq : Ws qs
  sum : num us + num vs * num qs = U0
  low : num us < num vs * 18446744073709551616 ^ j
  zer : ∀ i, i < j → qs.getD i 0 = 0
theorem DvI.top {U0 : Int} {vs us qs : List Int} {j n : Nat} (h : DvI U0 vs us qs (j + 1)) (hj : j + (n + 1) ≤ us.length) : Na.win us j (n + 1) < num vs * 18446744073709551616 := by
  have s := win_split (us := us) (o := j) (m := n + 1) hj
  have l := h.low
  have a := num_nonneg (h.wu.take j)
  have b := num_nonneg (h.wu.drop (j + (n + 1)))
  have p := wpow_pos j
  have c : 0 ≤ 18446744073709551616 ^ (j + (n + 1)) * num (us.drop (j + (n + 1))) := Int.mul_nonneg (Int.le_of_lt (wpow_pos _)) b
  have d : 18446744073709551616 ^ j * Na.win us j (n + 1) < 18446744073709551616 ^ j * (num vs * 18446744073709551616) := by
    have : (18446744073709551616 : Int) ^ j * (num vs * 18446744073709551616) = num vs * 18446744073709551616 ^ (j + 1) := by rw [Int.pow_succ]; grind
    omega
  exact Int.lt_of_mul_lt_mul_left d (Int.le_of_lt p)
/-- one word of the quotient is done -/
theorem DvI.next {U0 q : Int} {vs us qs ts : List Int} {j n : Nat} (h : DvI U0 vs us qs (j + 1)) (hq : 0 ≤ q ∧ q < 18446744073709551616) (hj : j + n < us.length) (hjq : j < qs.length)
    (wt : Ws ts) (lt : ts.length = us.length) (t1 : ts.take j = us.take j) (t2 : ts.drop (j + n) = us.drop (j + n)) (e : Na.win ts j n = Na.win us j (n + 1) - q * num vs) (hlt : Na.win ts j n < num vs) (hvn : num vs ≤ 18446744073709551616 ^ n) :
    DvI U0 vs (ts.set (j + n) 0) (qs.set j q) j := by
  have su := win_split (us := us) (o := j) (m := n) (by omega)
  have st := win_split (us := ts) (o := j) (m := n) (by omega)
  have sw := win_succ (us := us) (o := j) (m := n) hj
  rw [t1, t2] at st
  have g : ts.getD (j + n) 0 = us.getD (j + n) 0 := getD_drop t2
  have n0 := h.wu.getAnyB (j + n)
  have ns : num (ts.set (j + n) 0) = num ts + 18446744073709551616 ^ (j + n) * (0 - ts.getD (j + n) 0) := val_set 0 (by omega)
  have z : qs.getD j 0 = 0 := h.zer j (by omega)
  have nq : num (qs.set j q) = num qs + 18446744073709551616 ^ j * (q - qs.getD j 0) := val_set q hjq
  rw [z, Int.sub_zero] at nq
  have key : num (ts.set (j + n) 0) = num us - 18446744073709551616 ^ j * (q * num vs) := by
    rw [ns, g, st, su]
    rw [e, sw, Int.pow_add]
    generalize (18446744073709551616 : Int) ^ j = P
    generalize (18446744073709551616 : Int) ^ n = Q
    generalize num (us.drop (j + n)) = D
    grind
  refine ⟨wt.set _ (by omega), h.wq.set _ hq, ?_, ?_, ?_⟩
  · rw [key, nq, ← h.sum]
    generalize (18446744073709551616 : Int) ^ j = P
    generalize num vs = V
    grind
  · have a := num_bd (h.wu.take j)
    rw [List.length_take, Nat.min_eq_left (by omega)] at a
    have p := wpow_pos j
    have : num us - 18446744073709551616 ^ j * (q * num vs) = num (us.take j) + 18446744073709551616 ^ j * Na.win ts j n + 18446744073709551616 ^ (j + n + 1) * num (us.drop (j + n + 1)) := by
      have s2 := win_split (us := us) (o := j) (m := n + 1) (by omega)
      rw [s2, e, Int.mul_sub, ← Nat.add_assoc]
      omega
    have dz : num (us.drop (j + n + 1)) = 0 := by
      have b := num_nonneg (h.wu.drop (j + n + 1))
      by_cases hz : num (us.drop (j + n + 1)) = 0
      · exact hz
      · exfalso
        have s2 := win_split (us := us) (o := j) (m := n + 1) (by omega)
        have l := h.low
        have wn := win_nonneg h.wu j (n + 1)
        have tn := num_nonneg (h.wu.take j)
        have m1 : (18446744073709551616 : Int) ^ (j + (n + 1)) * 1 ≤ 18446744073709551616 ^ (j + (n + 1)) * num (us.drop (j + (n + 1))) := Int.mul_le_mul_of_nonneg_left (by rw [← Nat.add_assoc]; omega) (Int.le_of_lt (wpow_pos _))
        have m2 : 0 ≤ 18446744073709551616 ^ j * Na.win us j (n + 1) := Int.mul_nonneg (Int.le_of_lt p) wn
        have m3 : num vs * 18446744073709551616 ^ (j + 1) ≤ 18446744073709551616 ^ n * 18446744073709551616 ^ (j + 1) := Int.mul_le_mul_of_nonneg_right hvn (Int.le_of_lt (wpow_pos _))
        have m4 : (18446744073709551616 : Int) ^ n * 18446744073709551616 ^ (j + 1) = 18446744073709551616 ^ (j + (n + 1)) := by rw [← Int.pow_add]; congr 1; omega
        omega
    rw [key, this, dz, Int.mul_zero, Int.add_zero]
    have m : (18446744073709551616 : Int) ^ j * (Na.win ts j n + 1) ≤ 18446744073709551616 ^ j * num vs := Int.mul_le_mul_of_nonneg_left (by omega) (Int.le_of_lt p)
    rw [Int.mul_add, Int.mul_one] at m
    rw [Int.mul_comm (num vs)]
    omega
  · intro i hi
    rw [List.getD_eq_getElem?_getD, List.getElem?_set_ne (by omega), ← List.getD_eq_getElem?_getD]
    exact h.zer i (by omega)
end Na
end Go.Proofs.YthjfjpdgjhidfabGreat
