/- plumbref03: DivMod, bit by bit: what holds on the way. -/
import Derived.Test.YthjfjpdgjhidfabGreatRef3Mul
namespace Go.Proofs.YthjfjpdgjhidfabGreat
open Go.ChangeShapes Go.WideShapes Go.ChangeAt Go.RowKit
open Na Ar
set_option linter.unusedVariables false
namespace Na
theorem getD_num {xs : List Int} (h : Ws xs) (j : Nat) : xs.getD j 0 = num xs / 18446744073709551616 ^ j % 18446744073709551616 := by
  by_cases hj : j < xs.length
  · rw [← num_drop h (Nat.le_of_lt hj)]
    have e : num (xs.drop j) = xs.getD j 0 + 18446744073709551616 * num (xs.drop (j + 1)) := val_drop hj
    have g : U (xs.getD j 0) := h.get hj
    unfold U at g
    rw [e, Int.add_mul_emod_self_left, Int.emod_eq_of_lt g.1 g.2]
  · have e : xs.getD j 0 = 0 := by rw [List.getD_eq_getElem?_getD, List.getElem?_eq_none (by omega)]; rfl
    have l : num xs < 18446744073709551616 ^ xs.length := val_lt (by omega) h
    have m : (18446744073709551616 : Int) ^ xs.length ≤ 18446744073709551616 ^ j := wpow_mono (by omega)
    rw [e, Int.ediv_eq_zero_of_lt (num_nonneg h) (by omega)]
    rfl
theorem bit_word {A : Int} {i : Nat} : A / 18446744073709551616 ^ (i / 64) % 18446744073709551616 / 2 ^ (i % 64) % 2 = A / 2 ^ i % 2 := by
  rw [← div_shift A i]
  generalize A / 18446744073709551616 ^ (i / 64) = Y
  have s := pow_split (show i % 64 ≤ 64 by omega)
  have hk : i % 64 < 64 := Nat.mod_lt _ (by omega)
  generalize i % 64 = k at *
  have p := p2pos k
  have d := Int.mul_ediv_add_emod Y 18446744073709551616
  have e : (2 : Int) ^ (64 - k) = 2 * 2 ^ (63 - k) := by rw [show 64 - k = (63 - k) + 1 by omega, Int.pow_succ]; omega
  have f : Y = Y % 18446744073709551616 + 2 ^ k * (2 * (2 ^ (63 - k) * (Y / 18446744073709551616))) := by
    have : (2 : Int) ^ k * (2 * (2 ^ (63 - k) * (Y / 18446744073709551616))) = 18446744073709551616 * (Y / 18446744073709551616) := by
      rw [← s, e]; grind
    rw [this]; omega
  generalize Y % 18446744073709551616 = y at *
  rw [f, Int.add_mul_ediv_left _ _ (by omega), Int.add_mul_emod_self_left]
/-- the rest doubled and a bit behind it: k words done, c carried -/
def DblI (ds : List Int) (c0 : Int) (k : Nat) (c : Int) (us : List Int) : Prop := Ws us ∧ us.length = ds.length ∧ (c = 0 ∨ c = 1) ∧ us.drop k = ds.drop k ∧
  num us + 18446744073709551616 ^ k * c = num ds + num (ds.take k) + c0
theorem dblI_start {ds : List Int} {c0 : Int} (h : Ws ds) (hc : c0 = 0 ∨ c0 = 1) : DblI ds c0 0 c0 ds := ⟨h, rfl, hc, rfl, by simp [num, val]⟩
def dblW (v c : Int) : Int := v * 2 % 18446744073709551616 + c
def dblC (v : Int) : Int := v / 9223372036854775808
theorem dblC_01 {v : Int} (h : U v) : dblC v = 0 ∨ dblC v = 1 := by unfold U at h; unfold dblC; omega
theorem dblI_step {ds us : List Int} {c0 c : Int} {k : Nat} (h : DblI ds c0 k c us) (hk : k < us.length) : DblI ds c0 (k + 1) (dblC (us.getD k 0)) (us.set k (dblW (us.getD k 0) c)) := by
  obtain ⟨h1, h2, h3, h4, h5⟩ := h
  have gu : U (us.getD k 0) := h1.get hk
  have ed : us.getD k 0 = ds.getD k 0 := getD_drop h4
  refine ⟨h1.set _ (by unfold dblW; unfold U at gu; omega), by rw [List.length_set]; exact h2, dblC_01 gu, ?_, ?_⟩
  · rw [List.drop_set_of_lt (by omega)]
    have := congrArg (List.drop 1) h4
    rw [List.drop_drop, List.drop_drop] at this
    exact this
  · have e : us.getD k 0 + us.getD k 0 + c = dblW (us.getD k 0) c + 18446744073709551616 * dblC (us.getD k 0) := by
      unfold dblW dblC; unfold U at gu; omega
    have p := put_word (j := k) (c := c) (p := us.getD k 0) hk e
    have t : num (ds.take (k + 1)) = num (ds.take k) + 18446744073709551616 ^ k * ds.getD k 0 := take_valB (by omega)
    rw [p, h5, t, ed]
    omega
theorem dblI_done {ds us : List Int} {c0 c : Int} (h : DblI ds c0 ds.length c us) (hb : 2 * num ds + c0 < 18446744073709551616 ^ ds.length) : Ws us ∧ us.length = ds.length ∧ num us = 2 * num ds + c0 := by
  obtain ⟨h1, h2, h3, h4, h5⟩ := h
  rw [List.take_of_length_le (Nat.le_refl _)] at h5
  have n0 := num_nonneg h1
  refine ⟨h1, h2, ?_⟩
  rcases h3 with rfl | rfl
  · omega
  · omega
/-- the divisor taken away: k words done, b borrowed -/
def SbI (ds vs : List Int) (k : Nat) (b : Int) (us : List Int) : Prop := Ws us ∧ us.length = ds.length ∧ (b = 0 ∨ b = 1) ∧ us.drop k = ds.drop k ∧
  num us + num (vs.take k) = num ds + 18446744073709551616 ^ k * b
theorem sbI_start {ds vs : List Int} (h : Ws ds) : SbI ds vs 0 0 ds := ⟨h, rfl, Or.inl rfl, rfl, by simp [num, val]⟩
def sbW (w v b : Int) : Int := (w - v - b) % 18446744073709551616
def sbB (w v b : Int) : Int := if w < v ∨ (w = v ∧ b = 1) then 1 else 0
theorem sbB_01 (w v b : Int) : sbB w v b = 0 ∨ sbB w v b = 1 := by unfold sbB; split <;> simp
theorem sb_eq {w v b : Int} (hw : U w) (hv : U v) (hb : b = 0 ∨ b = 1) : w - v - b = sbW w v b - 18446744073709551616 * sbB w v b := by
  unfold U at *
  unfold sbW sbB
  split <;> omega
theorem sbI_step {ds vs us : List Int} {b : Int} {k : Nat} (h : SbI ds vs k b us) (hv : Ws vs) (hk : k < us.length) (hkv : k < vs.length) : SbI ds vs (k + 1) (sbB (us.getD k 0) (vs.getD k 0) b) (us.set k (sbW (us.getD k 0) (vs.getD k 0) b)) := by
  obtain ⟨h1, h2, h3, h4, h5⟩ := h
  have gu : U (us.getD k 0) := h1.get hk
  have gv : U (vs.getD k 0) := hv.get hkv
  have e := sb_eq gu gv h3
  refine ⟨h1.set _ (by unfold sbW; omega), by rw [List.length_set]; exact h2, sbB_01 _ _ _, ?_, ?_⟩
  · rw [List.drop_set_of_lt (by omega)]
    have := congrArg (List.drop 1) h4
    rw [List.drop_drop, List.drop_drop] at this
    exact this
  · have t : num (vs.take (k + 1)) = num (vs.take k) + 18446744073709551616 ^ k * vs.getD k 0 := take_valB hkv
    have s : num (us.set k (sbW (us.getD k 0) (vs.getD k 0) b)) = num us + 18446744073709551616 ^ k * (sbW (us.getD k 0) (vs.getD k 0) b - us.getD k 0) := val_set _ hk
    rw [s, t, Int.pow_succ]
    generalize sbB (us.getD k 0) (vs.getD k 0) b = b' at *
    generalize sbW (us.getD k 0) (vs.getD k 0) b = lo at *
    generalize us.getD k 0 = w at *
    generalize vs.getD k 0 = v at *
    generalize (18446744073709551616 : Int) ^ k = P at *
    have e2 : lo = w - v - b + 18446744073709551616 * b' := by omega
    subst e2
    grind
theorem sbI_done {ds vs us : List Int} {b : Int} (h : SbI ds vs ds.length b us) (hl : vs.length = ds.length) (hle : num vs ≤ num ds) : Ws us ∧ us.length = ds.length ∧ num us = num ds - num vs := by
  obtain ⟨h1, h2, h3, h4, h5⟩ := h
  rw [List.take_of_length_le (by omega)] at h5
  have l : num us < 18446744073709551616 ^ us.length := val_lt (by omega) h1
  rw [h2] at l
  refine ⟨h1, h2, ?_⟩
  rcases h3 with rfl | rfl
  · omega
  · omega
theorem two_div (X : Int) (i : Nat) : X / 2 ^ i = 2 * (X / 2 ^ (i + 1)) + X / 2 ^ i % 2 := by
  have : X / 2 ^ (i + 1) = X / 2 ^ i / 2 := by rw [Int.pow_succ, Int.ediv_ediv_of_nonneg (Int.le_of_lt (p2pos i))]
  rw [this]; omega
/-- the bits from i on are divided -/
def DvO (X D : Int) (i : Nat) (q r : List Int) : Prop := Ws q ∧ Ws r ∧ num r = X / 2 ^ i % D ∧ num q = X / 2 ^ i / D * 2 ^ i
theorem dv_small {Y D c : Int} (hD : 0 < D) (hc : c = 0 ∨ c = 1) (h : 2 * (Y % D) + c < D) : (2 * Y + c) % D = 2 * (Y % D) + c ∧ (2 * Y + c) / D = 2 * (Y / D) := by
  have m0 := Int.emod_nonneg Y (show D ≠ 0 by omega)
  have d := Int.mul_ediv_add_emod Y D
  generalize Y % D = r at *
  generalize Y / D = q at *
  have e : 2 * Y + c = (2 * r + c) + D * (2 * q) := by rw [← d]; grind
  rw [e, Int.add_mul_emod_self_left, Int.add_mul_ediv_left _ _ (by omega), Int.emod_eq_of_lt (by omega) h, Int.ediv_eq_zero_of_lt (by omega) h]
  omega
theorem dv_great {Y D c : Int} (hD : 0 < D) (hc : c = 0 ∨ c = 1) (h : D ≤ 2 * (Y % D) + c) : (2 * Y + c) % D = 2 * (Y % D) + c - D ∧ (2 * Y + c) / D = 2 * (Y / D) + 1 := by
  have m0 := Int.emod_nonneg Y (show D ≠ 0 by omega)
  have m1 := Int.emod_lt_of_pos Y hD
  have d := Int.mul_ediv_add_emod Y D
  generalize Y % D = r at *
  generalize Y / D = q at *
  have e : 2 * Y + c = (2 * r + c - D) + D * (2 * q + 1) := by rw [← d]; grind
  rw [e, Int.add_mul_emod_self_left, Int.add_mul_ediv_left _ _ (by omega), Int.emod_eq_of_lt (by omega) (by omega), Int.ediv_eq_zero_of_lt (by omega) (by omega)]
  omega
theorem dvO_start {X D : Int} {n m l : Nat} (h0 : 0 ≤ X) (hX : X < 2 ^ n) : DvO X D n (List.replicate m 0) (List.replicate l 0) := by
  have e : X / 2 ^ n = 0 := Int.ediv_eq_zero_of_lt h0 hX
  refine ⟨Dg_zeros (by omega) _, Dg_zeros (by omega) _, ?_, ?_⟩
  · rw [e]; show val _ _ = _; rw [val_zeros]; simp
  · rw [e]; show val _ _ = _; rw [val_zeros]; simp
theorem dvO_less {X D : Int} {i : Nat} {q r us : List Int} (hD : 0 < D) (h : DvO X D (i + 1) q r) (hu : Ws us) (hn : num us = 2 * num r + X / 2 ^ i % 2) (hl : num us < D) : DvO X D i q us := by
  obtain ⟨h1, h2, h3, h4⟩ := h
  have hc : X / 2 ^ i % 2 = 0 ∨ X / 2 ^ i % 2 = 1 := by omega
  have t := two_div X i
  rw [h3] at hn
  have s := dv_small hD hc (by rw [← hn]; exact hl)
  rw [← t] at s
  refine ⟨h1, hu, by rw [hn, s.1], ?_⟩
  rw [h4, s.2, Int.pow_succ]; grind
theorem dvO_more {X D : Int} {i : Nat} {q r us q' r' : List Int} (hD : 0 < D) (h : DvO X D (i + 1) q r) (hn : num us = 2 * num r + X / 2 ^ i % 2) (hl : D ≤ num us) (hr : Ws r') (hrn : num r' = num us - D) (hq : Ws q') (hqn : num q' = num q + 2 ^ i) : DvO X D i q' r' := by
  obtain ⟨h1, h2, h3, h4⟩ := h
  have hc : X / 2 ^ i % 2 = 0 ∨ X / 2 ^ i % 2 = 1 := by omega
  have t := two_div X i
  rw [h3] at hn
  have s := dv_great hD hc (by rw [← hn]; exact hl)
  rw [← t] at s
  refine ⟨hq, hr, by rw [hrn, hn, s.1], ?_⟩
  rw [hqn, h4, s.2, Int.pow_succ]; grind
/-- the word into which bit i goes has none below that one, nor it -/
theorem dvO_free {X D : Int} {i : Nat} {q r : List Int} (h : DvO X D (i + 1) q r) : ∃ z, 0 ≤ z ∧ q.getD (i / 64) 0 = z * 2 ^ (i % 64 + 1) := by
  obtain ⟨h1, h2, h3, h4⟩ := h
  have g := getD_num h1 (i / 64)
  have gn : 0 ≤ num q / 18446744073709551616 ^ (i / 64) % 18446744073709551616 := Int.emod_nonneg _ (by omega)
  rw [h4] at g gn
  rw [g]
  generalize X / 2 ^ (i + 1) / D = Z at *
  have e1 : (2 : Int) ^ (i + 1) = 18446744073709551616 ^ (i / 64) * 2 ^ (i % 64 + 1) := by
    have : (18446744073709551616 : Int) ^ (i / 64) = 2 ^ (64 * (i / 64)) := by rw [Int.pow_mul]; rfl
    rw [this, ← Int.pow_add]; congr 1; omega
  have pp : 0 < (18446744073709551616 : Int) ^ (i / 64) := Int.pow_pos (by omega)
  have e2 : Z * 2 ^ (i + 1) / 18446744073709551616 ^ (i / 64) = Z * 2 ^ (i % 64 + 1) := by
    rw [e1]
    have : Z * (18446744073709551616 ^ (i / 64) * 2 ^ (i % 64 + 1)) = 18446744073709551616 ^ (i / 64) * (Z * 2 ^ (i % 64 + 1)) := by grind
    rw [this, Int.mul_ediv_cancel_left _ (by omega)]
  rw [e2] at gn ⊢
  have s := pow_split (show i % 64 + 1 ≤ 64 by omega)
  have p := p2pos (i % 64 + 1)
  generalize (2 : Int) ^ (i % 64 + 1) = P at *
  generalize (2 : Int) ^ (64 - (i % 64 + 1)) = Q at *
  have e3 : Z * P % 18446744073709551616 = Z % Q * P := by
    rw [← s, Int.mul_comm Z, Int.mul_comm Q, Int.mul_emod_mul_of_pos _ _ p, Int.mul_comm]
  rw [e3] at gn ⊢
  refine ⟨Z % Q, ?_, rfl⟩
  have q0 : Q ≠ 0 := by intro h; rw [h] at s; omega
  exact Int.emod_nonneg _ q0
theorem or_bit {W z : Int} {k : Nat} (hk : k < 64) (hW : U W) (h : W = z * 2 ^ (k + 1)) : bits .or .u64 W (2 ^ k) = W + 2 ^ k ∧ W + 2 ^ k < 18446744073709551616 := by
  have p := p2pos k
  have lt : (2 : Int) ^ k < 2 ^ (k + 1) := by rw [Int.pow_succ]; omega
  have o := or_parts (x := z) (y := 2 ^ k) (show k + 1 ≤ 64 by omega) (by omega) lt
  have w1 : IntKind.u64.wrap (z * 2 ^ (k + 1)) = W := by rw [wrapU, ← h]; unfold U at hW; exact Int.emod_eq_of_lt hW.1 hW.2
  have w2 : z * 2 ^ (k + 1) % 18446744073709551616 = W := by rw [← h]; unfold U at hW; exact Int.emod_eq_of_lt hW.1 hW.2
  rw [w1, w2] at o
  refine ⟨o, ?_⟩
  have s := pow_split (show k + 1 ≤ 64 by omega)
  unfold U at hW
  have pq := p2pos (64 - (k + 1))
  rw [Int.pow_succ] at h s
  generalize (2 : Int) ^ k = P at *
  generalize (2 : Int) ^ (64 - (k + 1)) = Q at *
  have hz : z < Q := by
    by_cases g : z < Q
    · exact g
    · have : Q * (P * 2) ≤ z * (P * 2) := Int.mul_le_mul_of_nonneg_right (by omega) (by omega)
      rw [s] at this
      omega
  have : (z + 1) * (P * 2) ≤ Q * (P * 2) := Int.mul_le_mul_of_nonneg_right (by omega) (by omega)
  rw [s, Int.add_mul] at this
  omega
theorem q_bit {q : List Int} {i : Nat} (h : Ws q) (hi : i / 64 < q.length) (hlt : q.getD (i / 64) 0 + 2 ^ (i % 64) < 18446744073709551616) : Ws (q.set (i / 64) (q.getD (i / 64) 0 + 2 ^ (i % 64))) ∧ num (q.set (i / 64) (q.getD (i / 64) 0 + 2 ^ (i % 64))) = num q + 2 ^ i := by
  have g : U (q.getD (i / 64) 0) := h.get hi
  have p := p2pos (i % 64)
  unfold U at g
  refine ⟨h.set _ (by omega), ?_⟩
  have s : num (q.set (i / 64) (q.getD (i / 64) 0 + 2 ^ (i % 64))) = num q + 18446744073709551616 ^ (i / 64) * (q.getD (i / 64) 0 + 2 ^ (i % 64) - q.getD (i / 64) 0) := val_set _ hi
  rw [s]
  have : (18446744073709551616 : Int) ^ (i / 64) = 2 ^ (64 * (i / 64)) := by rw [Int.pow_mul]; rfl
  have e : q.getD (i / 64) 0 + 2 ^ (i % 64) - q.getD (i / 64) 0 = 2 ^ (i % 64) := by omega
  rw [e, this, ← Int.pow_add]
  congr 2; omega
end Na
end Go.Proofs.YthjfjpdgjhidfabGreat
