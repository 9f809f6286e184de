/- Plain numbers: atof: digits behind the places of patterns and middles. -/
import Derived.Test.YtjeoiffloghonaaGreatDoorBaseK
import Derived.KernelRfl
namespace Go.Proofs.YtjeoiffloghonaaGreatDoor
open Go.RowKit
set_option linter.unusedVariables false
namespace Ar
/-- whole with its rest, where no pattern and no middle lies between whole and the next -/
theorem round_snap {W u v G F mode b e : Int} {more neg : Bool} (hu : 0 < u) (hG : 0 < G) (hF0 : 0 ≤ F) (hF1 : F < G) (hmore : more = true ↔ F ≠ 0)
    (s1 : ∀ d, 0 ≤ d → d ≤ mostP → W * u < numW d * v → W * u + u ≤ numW d * v)
    (s2 : ∀ d, 0 ≤ d → d ≤ mostP → W * (2 * u) < (numW d + nxtN d) * v → W * (2 * u) + 2 * u ≤ (numW d + nxtN d) * v) :
    RoundIs ((W * G + F) * u) (G * v) false neg mode b e ↔ RoundIs (W * u) v more neg mode b e := by
  have a1 : ∀ d, 0 ≤ d → d ≤ mostP → agn ((W * G + F) * u) (G * v) (numW d) false = agn (W * u) v (numW d) more := fun d h0 h1 =>
    agn_rest hu hG hF0 hF1 hmore (Or.inr (s1 d h0 h1))
  have a2 : ∀ d, 0 ≤ d → d ≤ mostP → agn (2 * ((W * G + F) * u)) (G * v) (numW d + nxtN d) false = agn (2 * (W * u)) v (numW d + nxtN d) more := fun d h0 h1 => by
    have q1 : 2 * ((W * G + F) * u) = (W * G + F) * (2 * u) := by rw [← Int.mul_assoc, Int.mul_comm 2, Int.mul_assoc]
    have q2 : 2 * (W * u) = W * (2 * u) := by rw [← Int.mul_assoc, Int.mul_comm 2, Int.mul_assoc]
    rw [q1, q2]
    exact agn_rest (by omega) hG hF0 hF1 hmore (Or.inr (s2 d h0 h1))
  have key : ∀ d, 0 ≤ d → d ≤ mostP → ((W * G + F) * u < numW d * (G * v) ↔ W * u < numW d * v) := fun d h0 h1 => by
    have h := a1 d h0 h1
    rcases agn_cases ((W * G + F) * u) (G * v) (numW d) false with ⟨x, k⟩ | ⟨x, k⟩ | ⟨x, k⟩ <;> rcases agn_cases (W * u) v (numW d) more with ⟨y, l⟩ | ⟨y, l⟩ | ⟨y, l⟩ <;> rw [k, l] at h <;>
      first
        | exact ⟨fun _ => y, fun _ => x⟩
        | exact ⟨fun z => absurd z (by omega), fun z => absurd z (by omega)⟩
        | (exfalso; revert h; split <;> simp)
        | (exfalso; simp at h)
  have hb : ∀ d, BelP ((W * G + F) * u) (G * v) d ↔ BelP (W * u) v d := fun d => by
    unfold BelP
    constructor
    · rintro ⟨c1, c2, c3, c4⟩
      have k1 := key d c1 c2
      refine ⟨c1, c2, by omega, ?_⟩
      rcases c4 with c4 | c4
      · exact Or.inl c4
      · by_cases he : d = mostP
        · exact Or.inl he
        · exact Or.inr ((key (d + 1) (by omega) (by omega)).mp c4)
    · rintro ⟨c1, c2, c3, c4⟩
      have k1 := key d c1 c2
      refine ⟨c1, c2, by omega, ?_⟩
      rcases c4 with c4 | c4
      · exact Or.inl c4
      · by_cases he : d = mostP
        · exact Or.inl he
        · exact Or.inr ((key (d + 1) (by omega) (by omega)).mpr c4)
  have hu2 : ∀ d, 0 ≤ d → d ≤ mostP → upP ((W * G + F) * u) (G * v) false neg mode d = upP (W * u) v more neg mode d := fun d h0 h1 => by
    unfold upP
    rw [a2 d h0 h1]
  unfold RoundIs
  constructor
  · rintro ⟨d, h1, h2⟩
    refine ⟨d, (hb d).mp h1, ?_⟩
    rw [← a1 d h1.1 h1.2.1, ← hu2 d h1.1 h1.2.1]
    exact h2
  · rintro ⟨d, h1, h2⟩
    refine ⟨d, (hb d).mpr h1, ?_⟩
    rw [a1 d h1.1 h1.2.1, hu2 d h1.1 h1.2.1]
    exact h2
/-! ### 768 digits are enough -/
/-- powers, with the exponent out of sight -/
def pTen (n : Nat) : Int := 10 ^ n
def pFive (n : Nat) : Int := 5 ^ n
def pTwo (n : Nat) : Int := 2 ^ n
theorem pTen_pos (n : Nat) : 0 < pTen n := Int.pow_pos (by omega)
theorem pFive_pos (n : Nat) : 0 < pFive n := Int.pow_pos (by omega)
theorem pTwo_pos (n : Nat) : 0 < pTwo n := Int.pow_pos (by omega)
theorem pTen_add (a b : Nat) : pTen (a + b) = pTen a * pTen b := Int.pow_add _ _ _
theorem pTwo_add (a b : Nat) : pTwo (a + b) = pTwo a * pTwo b := Int.pow_add _ _ _
theorem pTen_split (n : Nat) : pTen n = pFive n * pTwo n := by unfold pTen pFive pTwo; rw [← Int.mul_pow]; rfl
theorem pFive_mono {a b : Nat} (h : a ≤ b) : pFive a ≤ pFive b := by
  have e : pFive b = pFive a * pFive (b - a) := by unfold pFive; rw [← Int.pow_add]; congr 1; omega
  have p1 := pFive_pos a
  have p2 := pFive_pos (b - a)
  have := Int.mul_le_mul_of_nonneg_left (show (1 : Int) ≤ pFive (b - a) by omega) (Int.le_of_lt p1)
  rw [e]; omega
theorem pTen_mono {a b : Nat} (h : a ≤ b) : pTen a ≤ pTen b := by
  have e : pTen b = pTen a * pTen (b - a) := by rw [← pTen_add]; congr 1; omega
  have p1 := pTen_pos a
  have p2 := pTen_pos (b - a)
  have := Int.mul_le_mul_of_nonneg_left (show (1 : Int) ≤ pTen (b - a) by omega) (Int.le_of_lt p1)
  rw [e]; omega
theorem pTwo_mono {a b : Nat} (h : a ≤ b) : pTwo a ≤ pTwo b := by
  have e : pTwo b = pTwo a * pTwo (b - a) := by rw [← pTwo_add]; congr 1; omega
  have p1 := pTwo_pos a
  have p2 := pTwo_pos (b - a)
  have := Int.mul_le_mul_of_nonneg_left (show (1 : Int) ≤ pTwo (b - a) by omega) (Int.le_of_lt p1)
  rw [e]; omega
theorem cTen (n : Nat) : ((10 ^ n : Nat) : Int) = pTen n := by unfold pTen; rw [Int.natCast_pow]; rfl
theorem cFive (n : Nat) : ((5 ^ n : Nat) : Int) = pFive n := by unfold pFive; rw [Int.natCast_pow]; rfl
theorem cTwo (n : Nat) : ((2 ^ n : Nat) : Int) = pTwo n := by unfold pTwo; rw [Int.natCast_pow]; rfl
theorem few_nat : Nat.blt (18014398509481984 * 5 ^ 1074) (10 ^ 767) = true := by kernel_rfl
theorem few_up {a b : Nat} (h : Nat.blt (18014398509481984 * 5 ^ a) (10 ^ b) = true) : 18014398509481984 * pFive a < pTen b := by
  have h2 := Int.ofNat_lt.mpr (Nat.blt_eq.mp h)
  rw [Int.natCast_mul, cTen, cFive] at h2
  exact h2
theorem few_dig : 18014398509481984 * pFive 1074 < pTen 767 := few_up few_nat
theorem dec_snap {H m : Int} {j k c : Nat} (hc : c ≤ 1075) (hH : pTen 767 ≤ H) (hm0 : 0 ≤ m) (hm : m < 18014398509481984) (h : H * pTwo c < m * pTwo j * pTen k) : H * pTwo c + pTwo c ≤ m * pTwo j * pTen k := by
  have e : m * pTwo j * pTen k = m * pFive k * pTwo (j + k) := by
    rw [pTen_split, pTwo_add, Int.mul_assoc, Int.mul_assoc]
    congr 1
    rw [Int.mul_left_comm]
  rw [e] at h ⊢
  have hp := pTwo_pos c
  by_cases hk : c ≤ j + k
  · have s : pTwo (j + k) = pTwo (j + k - c) * pTwo c := by rw [← pTwo_add]; congr 1; omega
    rw [s, ← Int.mul_assoc] at h ⊢
    have h5 : H < m * pFive k * pTwo (j + k - c) := (lt_scale hp).mp h
    have h6 : (H + 1) * pTwo c ≤ m * pFive k * pTwo (j + k - c) * pTwo c := Int.mul_le_mul_of_nonneg_right (by omega) (by omega)
    rw [Int.add_mul, Int.one_mul] at h6
    exact h6
  · exfalso
    have f1 := pFive_mono (a := k) (b := 1074) (by omega)
    have f0 := pFive_pos k
    have f2 := few_dig
    have q1 : m * pFive k ≤ 18014398509481984 * pFive 1074 := Int.le_trans (Int.mul_le_mul_of_nonneg_right (by omega) (by omega)) (Int.mul_le_mul_of_nonneg_left f1 (by omega))
    have q0 : 0 ≤ m * pFive k := Int.mul_nonneg hm0 (by omega)
    have t1 := pTwo_mono (a := j + k) (b := c) (by omega)
    have q2 : m * pFive k * pTwo (j + k) ≤ m * pFive k * pTwo c := Int.mul_le_mul_of_nonneg_left t1 q0
    have q3 : m * pFive k * pTwo c ≤ H * pTwo c := Int.mul_le_mul_of_nonneg_right (by omega) (by omega)
    omega
/-- digits behind the 767th: just that there is something -/
theorem dec_sticky {H r mode b e : Int} {t k : Nat} {neg : Bool} (hH : pTen 767 ≤ H) (hr0 : 0 < r) (hr1 : r < pTen t) :
    RoundIs ((H * pTen t + r) * pTwo 1074) (pTen (t + k)) false neg mode b e ↔ RoundIs (H * pTwo 1074) (pTen k) true neg mode b e := by
  rw [pTen_add]
  refine round_snap (pTwo_pos _) (pTen_pos _) (by omega) hr1 (by simp; omega) (fun d h0 h1 => ?_) (fun d h0 h1 => ?_)
  · obtain ⟨m, j, e1, e2', e3, _⟩ := pat_test h0 h1
    rw [e1]
    exact dec_snap (by omega) hH e2' (by omega)
  · obtain ⟨m, j, _, e2', e3, e1⟩ := pat_test h0 h1
    rw [e1]
    have q : 2 * pTwo 1074 = pTwo 1075 := by
      have := pTwo_add 1 1074
      rw [show 1 + 1074 = 1075 from rfl] at this
      rw [this]
      rfl
    rw [q]
    exact dec_snap (m := 2 * m + 1) (by omega) hH (by omega) (by omega)
/-- likewise in base sixteen, where a whole of 64 bits is enough -/
theorem hex_rest {W r x mode b e : Int} {t : Nat} {neg more : Bool} (hr0 : 0 ≤ r) (hr1 : r < e2 t) (hm : more = true ↔ r ≠ 0) (hW : r = 0 ∨ e2 64 ≤ W) :
    RoundIs (scA (W * e2 t + r) x) (scB 1 x) false neg mode b e ↔ RoundIs (scA W (x + t)) (scB 1 (x + t)) more neg mode b e := by
  have h := round_rest (W := W) (T := x + t + 1074) (G := e2 t) (F := r) (mode := mode) (b := b) (e := e) (more := more) (neg := neg) (e2_pos _) hr0 hr1 hm hW
  have es : scB 1 (x + t) = e2 (-(x + t + 1074)) := by unfold scB; rw [Int.one_mul]
  have ea : scA W (x + t) = W * e2 (x + t + 1074) := rfl
  rw [es, ea, ← h]
  unfold scA scB
  rw [Int.one_mul]
  apply round_cross (e2_pos _) (Int.mul_pos (e2_pos _) (e2_pos _))
  generalize W * e2 t + r = N
  have key : e2 (x + 1074) * (e2 t * e2 (-(x + t + 1074))) = e2 (x + t + 1074) * e2 (-(x + 1074)) := by
    by_cases h1 : 0 ≤ x + 1074
    · rw [e2_zero (k := -(x + t + 1074)) (by omega), e2_zero (k := -(x + 1074)) (by omega), Int.mul_one, Int.mul_one, ← e2_add h1 (by omega)]
      congr 1; omega
    · rw [e2_zero (k := x + 1074) (by omega), Int.one_mul]
      by_cases h2 : 0 ≤ x + t + 1074
      · rw [e2_zero (k := -(x + t + 1074)) (by omega), Int.mul_one, ← e2_add h2 (by omega)]
        congr 1; omega
      · rw [e2_zero (k := x + t + 1074) (by omega), Int.one_mul, ← e2_add (by omega) (by omega)]
        congr 1; omega
  rw [Int.mul_assoc, key, Int.mul_assoc]
/-- many digits: only whether there is something behind -/
theorem hex_short {W r x b E : Int} {t : Nat} (hW : e2 64 ≤ W) (hr0 : 0 < r) (hr1 : r < e2 ((4 * (t + 1) : Nat) : Int)) :
    RoundIs (scA (W * 16 + 1) (x + 4 * t)) (scB 1 (x + 4 * t)) false false 0 b E ↔ RoundIs (scA (W * e2 ((4 * (t + 1) : Nat) : Int) + r) x) (scB 1 x) false false 0 b E := by
  have e4 : e2 ((4 : Nat) : Int) = 16 := rfl
  have a := hex_rest (W := W) (r := 1) (x := x + 4 * t) (mode := 0) (b := b) (e := E) (t := 4) (neg := false) (more := true) (by omega) (by rw [e4]; omega) (by simp) (Or.inr hW)
  have c := hex_rest (W := W) (r := r) (x := x) (mode := 0) (b := b) (e := E) (t := 4 * (t + 1)) (neg := false) (more := true) (by omega) hr1 (by simp; omega) (Or.inr hW)
  rw [e4] at a
  have i : x + 4 * (t : Int) + ((4 : Nat) : Int) = x + ((4 * (t + 1) : Nat) : Int) := by omega
  rw [i] at a
  exact a.trans c.symm
theorem hex_shift {W x b E : Int} (t : Nat) : RoundIs (scA (W * e2 (t : Int)) x) (scB 1 x) false false 0 b E ↔ RoundIs (scA W (x + t)) (scB 1 (x + t)) false false 0 b E := by
  have c := hex_rest (W := W) (r := 0) (x := x) (mode := 0) (b := b) (e := E) (t := t) (neg := false) (more := false) (by omega) (e2_pos _) (by simp) (Or.inl rfl)
  rw [Int.add_zero] at c
  exact c
end Ar
end Go.Proofs.YtjeoiffloghonaaGreatDoor
