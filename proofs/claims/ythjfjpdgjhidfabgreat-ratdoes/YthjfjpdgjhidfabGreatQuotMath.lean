/- Euclid's steps foreseen (Lehmer), common divisors, roots by Newton's steps: in plain numbers. -/
import Derived.Test.YthjfjpdgjhidfabGreatBaseB
namespace Go.Proofs.YthjfjpdgjhidfabGreat
set_option linter.unusedVariables false
namespace Na
/-- so many steps of Euclid's on the top parts x0, y0, and what they come to -/
structure Fs (x0 y0 : Int) (k : Nat) (ua ub va vb x y : Int) : Prop where
  nn : 0 ≤ ua ∧ 0 ≤ ub ∧ 0 ≤ va ∧ 1 ≤ vb
  e1 : x0 = vb * x + ub * y
  e2 : y0 = va * x + ua * y
  dt : ua * vb - ub * va = if k % 2 = 0 then 1 else -1
  st : (k = 0 ∧ ua = 1 ∧ ub = 0 ∧ va = 0 ∧ vb = 1 ∧ y ≤ x) ∨ (1 ≤ k ∧ ua ≤ ub ∧ va ≤ vb ∧ 1 ≤ ub ∧ 1 ≤ va ∧ y < x)
  y0 : 0 ≤ y
theorem fs_start {x0 y0 : Int} (h : 0 ≤ y0) (hl : y0 ≤ x0) : Fs x0 y0 0 1 0 0 1 x0 y0 :=
  ⟨by omega, by omega, by omega, by simp, Or.inl ⟨rfl, rfl, rfl, rfl, rfl, hl⟩, h⟩
theorem Fs.step {x0 y0 : Int} {k : Nat} {ua ub va vb x y : Int} (h : Fs x0 y0 k ua ub va vb x y) (hy : y ≠ 0) :
    Fs x0 y0 (k + 1) va vb (ua + x / y * va) (ub + x / y * vb) y (x % y) := by
  obtain ⟨⟨n1, n2, n3, n4⟩, e1, e2, dt, st, hy0⟩ := h
  have hyp : 0 < y := by omega
  have hm := Int.emod_nonneg x hy
  have hl := Int.emod_lt_of_pos x hyp
  have hd := Int.mul_ediv_add_emod x y
  have hxy : y ≤ x := by rcases st with s | s <;> omega
  have hq : 1 ≤ x / y := by
    rw [Int.le_ediv_iff_mul_le hyp]; omega
  generalize x / y = q at *
  generalize x % y = r at *
  have hqv : 0 ≤ q * va := Int.mul_nonneg (by omega) n3
  have hqw : 1 * vb ≤ q * vb := Int.mul_le_mul_of_nonneg_right hq (by omega)
  refine ⟨⟨n3, by omega, by omega, by omega⟩, ?_, ?_, ?_, Or.inr ⟨by omega, ?_, ?_, by omega, ?_, hl⟩, hm⟩
  · rw [e1, ← hd]; grind
  · rw [e2, ← hd]; grind
  · have : va * (ub + q * vb) - vb * (ua + q * va) = -(ua * vb - ub * va) := by grind
    rw [this, dt]
    split <;> split <;> omega
  · rcases st with ⟨_, s1, s2, s3, s4, _⟩ | ⟨_, s1, s2, _⟩
    · omega
    · exact s2
  · rcases st with ⟨_, s1, s2, s3, s4, _⟩ | ⟨_, s1, s2, _⟩
    · subst s1 s2 s3 s4; omega
    · have : q * va ≤ q * vb := Int.mul_le_mul_of_nonneg_left s2 (by omega)
      omega
  · rcases st with ⟨_, s1, s2, s3, s4, _⟩ | ⟨_, s1, s2, s3, s4, _⟩
    · omega
    · have : 1 * va ≤ q * va := Int.mul_le_mul_of_nonneg_right hq n3
      omega
/-- no factor leaves a word -/
theorem Fs.word {x0 y0 : Int} {k : Nat} {ua ub va vb x y : Int} (h : Fs x0 y0 k ua ub va vb x y) (hx : 1 ≤ x) : vb ≤ x0 ∧ va ≤ y0 := by
  obtain ⟨⟨n1, n2, n3, n4⟩, e1, e2, dt, st, hy0⟩ := h
  have a : vb * 1 ≤ vb * x := Int.mul_le_mul_of_nonneg_left hx (by omega)
  have b : va * 1 ≤ va * x := Int.mul_le_mul_of_nonneg_left hx (by omega)
  have c : 0 ≤ ub * y := Int.mul_nonneg n2 hy0
  have d : 0 ≤ ua * y := Int.mul_nonneg n1 hy0
  omega
theorem Fs.both {x0 y0 : Int} {k : Nat} {ua ub va vb x y : Int} (h : Fs x0 y0 k ua ub va vb x y) (hx : 1 ≤ x) (hy : 1 ≤ y) : vb + ub ≤ x0 := by
  obtain ⟨⟨n1, n2, n3, n4⟩, e1, e2, dt, st, hy0⟩ := h
  have a : vb * 1 ≤ vb * x := Int.mul_le_mul_of_nonneg_left hx (by omega)
  have c : ub * 1 ≤ ub * y := Int.mul_le_mul_of_nonneg_left hy n2
  omega
/-- what the factors make of two numbers -/
structure Crs (k : Nat) (ua ub va vb a b a' b' : Int) : Prop where
  ea : a = vb * a' + ub * b'
  eb : b = va * a' + ua * b'
  ord : b' ≤ a'
  nn : 0 ≤ b'
  sm : a' + b' ≤ a
  da : a' = if k % 2 = 0 then ua * a - ub * b else ub * b - ua * a
  db : b' = if k % 2 = 0 then vb * b - va * a else va * a - vb * b
theorem Fs.course {x0 y0 H α β : Int} {k : Nat} {ua ub va vb x y : Int} (h : Fs x0 y0 k ua ub va vb x y) (hk : 1 ≤ k) (g1 : vb ≤ y) (g2 : vb + ub ≤ x - y) (hH : 0 < H) (ha : 0 ≤ α ∧ α < H) (hb : 0 ≤ β ∧ β < H) :
    ∃ a' b', Crs k ua ub va vb (x0 * H + α) (y0 * H + β) a' b' := by
  obtain ⟨⟨n1, n2, n3, n4⟩, e1, e2, dt, st, hy0⟩ := h
  rcases st with s | ⟨_, s1, s2, s3, s4, s5⟩
  · omega
  · by_cases hp : k % 2 = 0
    · rw [if_pos hp] at dt
      have b0 : (y - va) * H ≤ (vb * (y0 * H + β) - va * (x0 * H + α)) := by
        have m1 : va * α ≤ va * H := Int.mul_le_mul_of_nonneg_left (by omega) n3
        have m2 : 0 ≤ vb * β := Int.mul_nonneg (by omega) hb.1
        have : vb * (y0 * H + β) - va * (x0 * H + α) = (ua * vb - ub * va) * y * H + vb * β - va * α := by rw [e1, e2]; grind
        rw [this, dt, Int.one_mul, Int.sub_mul]; omega
      have b1 : 0 ≤ (y - va) * H := Int.mul_nonneg (by omega) (by omega)
      have ab : (x - y - (ub + vb)) * H ≤ (ua * (x0 * H + α) - ub * (y0 * H + β)) - (vb * (y0 * H + β) - va * (x0 * H + α)) := by
        have m1 : (ub + vb) * β ≤ (ub + vb) * H := Int.mul_le_mul_of_nonneg_left (by omega) (by omega)
        have m2 : 0 ≤ (ua + va) * α := Int.mul_nonneg (by omega) ha.1
        have : (ua * (x0 * H + α) - ub * (y0 * H + β)) - (vb * (y0 * H + β) - va * (x0 * H + α)) = (ua * vb - ub * va) * (x - y) * H + (ua + va) * α - (ub + vb) * β := by rw [e1, e2]; grind
        rw [this, dt, Int.one_mul, Int.sub_mul]; omega
      have ab1 : 0 ≤ (x - y - (ub + vb)) * H := Int.mul_nonneg (by omega) (by omega)
      have ea : x0 * H + α = vb * (ua * (x0 * H + α) - ub * (y0 * H + β)) + ub * (vb * (y0 * H + β) - va * (x0 * H + α)) := by
        have : vb * (ua * (x0 * H + α) - ub * (y0 * H + β)) + ub * (vb * (y0 * H + β) - va * (x0 * H + α)) = (ua * vb - ub * va) * (x0 * H + α) := by grind
        rw [this, dt, Int.one_mul]
      have eb : y0 * H + β = va * (ua * (x0 * H + α) - ub * (y0 * H + β)) + ua * (vb * (y0 * H + β) - va * (x0 * H + α)) := by
        have : va * (ua * (x0 * H + α) - ub * (y0 * H + β)) + ua * (vb * (y0 * H + β) - va * (x0 * H + α)) = (ua * vb - ub * va) * (y0 * H + β) := by grind
        rw [this, dt, Int.one_mul]
      refine ⟨ua * (x0 * H + α) - ub * (y0 * H + β), vb * (y0 * H + β) - va * (x0 * H + α), ea, eb, by omega, by omega, ?_, by rw [if_pos hp], by rw [if_pos hp]⟩
      generalize ua * (x0 * H + α) - ub * (y0 * H + β) = A at *
      generalize vb * (y0 * H + β) - va * (x0 * H + α) = C at *
      have m3 : 1 * A ≤ vb * A := Int.mul_le_mul_of_nonneg_right n4 (by omega)
      have m4 : 1 * C ≤ ub * C := Int.mul_le_mul_of_nonneg_right s3 (by omega)
      omega
    · rw [if_neg hp] at dt
      have b0 : (y - vb) * H ≤ (va * (x0 * H + α) - vb * (y0 * H + β)) := by
        have m1 : vb * β ≤ vb * H := Int.mul_le_mul_of_nonneg_left (by omega) (by omega)
        have m2 : 0 ≤ va * α := Int.mul_nonneg (by omega) ha.1
        have : va * (x0 * H + α) - vb * (y0 * H + β) = -((ua * vb - ub * va) * y * H) + va * α - vb * β := by rw [e1, e2]; grind
        rw [this, dt, Int.sub_mul, Int.neg_mul, Int.neg_mul, Int.one_mul, Int.neg_neg]; omega
      have b1 : 0 ≤ (y - vb) * H := Int.mul_nonneg (by omega) (by omega)
      have ab : (x - y - (ua + va)) * H ≤ (ub * (y0 * H + β) - ua * (x0 * H + α)) - (va * (x0 * H + α) - vb * (y0 * H + β)) := by
        have m1 : (ua + va) * α ≤ (ua + va) * H := Int.mul_le_mul_of_nonneg_left (by omega) (by omega)
        have m2 : 0 ≤ (ub + vb) * β := Int.mul_nonneg (by omega) hb.1
        have : (ub * (y0 * H + β) - ua * (x0 * H + α)) - (va * (x0 * H + α) - vb * (y0 * H + β)) = -((ua * vb - ub * va) * (x - y) * H) + (ub + vb) * β - (ua + va) * α := by rw [e1, e2]; grind
        rw [this, dt, Int.sub_mul, Int.neg_mul, Int.neg_mul, Int.one_mul, Int.neg_neg]; omega
      have ab1 : 0 ≤ (x - y - (ua + va)) * H := Int.mul_nonneg (by omega) (by omega)
      have ea : x0 * H + α = vb * (ub * (y0 * H + β) - ua * (x0 * H + α)) + ub * (va * (x0 * H + α) - vb * (y0 * H + β)) := by
        have : vb * (ub * (y0 * H + β) - ua * (x0 * H + α)) + ub * (va * (x0 * H + α) - vb * (y0 * H + β)) = -((ua * vb - ub * va) * (x0 * H + α)) := by grind
        rw [this, dt, Int.neg_mul, Int.one_mul, Int.neg_neg]
      have eb : y0 * H + β = va * (ub * (y0 * H + β) - ua * (x0 * H + α)) + ua * (va * (x0 * H + α) - vb * (y0 * H + β)) := by
        have : va * (ub * (y0 * H + β) - ua * (x0 * H + α)) + ua * (va * (x0 * H + α) - vb * (y0 * H + β)) = -((ua * vb - ub * va) * (y0 * H + β)) := by grind
        rw [this, dt, Int.neg_mul, Int.one_mul, Int.neg_neg]
      refine ⟨ub * (y0 * H + β) - ua * (x0 * H + α), va * (x0 * H + α) - vb * (y0 * H + β), ea, eb, by omega, by omega, ?_, by rw [if_neg hp], by rw [if_neg hp]⟩
      generalize ub * (y0 * H + β) - ua * (x0 * H + α) = A at *
      generalize va * (x0 * H + α) - vb * (y0 * H + β) = C at *
      have m3 : 1 * A ≤ vb * A := Int.mul_le_mul_of_nonneg_right n4 (by omega)
      have m4 : 1 * C ≤ ub * C := Int.mul_le_mul_of_nonneg_right s3 (by omega)
      omega
theorem Crs.gcd {k : Nat} {ua ub va vb a b a' b' : Int} (h : Crs k ua ub va vb a b a' b') : Int.gcd a' b' = Int.gcd a b := by
  apply Nat.dvd_antisymm
  · refine Int.ofNat_dvd.mp (Int.dvd_coe_gcd ?_ ?_)
    · rw [h.ea]; exact Int.dvd_add (Int.dvd_trans (Int.gcd_dvd_left ..) (Int.dvd_mul_left _ _)) (Int.dvd_trans (Int.gcd_dvd_right ..) (Int.dvd_mul_left _ _))
    · rw [h.eb]; exact Int.dvd_add (Int.dvd_trans (Int.gcd_dvd_left ..) (Int.dvd_mul_left _ _)) (Int.dvd_trans (Int.gcd_dvd_right ..) (Int.dvd_mul_left _ _))
  · have d1 : (Int.gcd a b : Int) ∣ a := Int.gcd_dvd_left ..
    have d2 : (Int.gcd a b : Int) ∣ b := Int.gcd_dvd_right ..
    refine Int.ofNat_dvd.mp (Int.dvd_coe_gcd ?_ ?_)
    · rw [h.da]; split
      · exact Int.dvd_sub (Int.dvd_trans d1 (Int.dvd_mul_left _ _)) (Int.dvd_trans d2 (Int.dvd_mul_left _ _))
      · exact Int.dvd_sub (Int.dvd_trans d2 (Int.dvd_mul_left _ _)) (Int.dvd_trans d1 (Int.dvd_mul_left _ _))
    · rw [h.db]; split
      · exact Int.dvd_sub (Int.dvd_trans d2 (Int.dvd_mul_left _ _)) (Int.dvd_trans d1 (Int.dvd_mul_left _ _))
      · exact Int.dvd_sub (Int.dvd_trans d1 (Int.dvd_mul_left _ _)) (Int.dvd_trans d2 (Int.dvd_mul_left _ _))
theorem gcd_step (a b : Int) : Int.gcd b (a % b) = Int.gcd a b := by
  have e := Int.mul_ediv_add_emod a b
  apply Nat.dvd_antisymm
  · have d1 : (Int.gcd b (a % b) : Int) ∣ b := Int.gcd_dvd_left ..
    have d2 : (Int.gcd b (a % b) : Int) ∣ a % b := Int.gcd_dvd_right ..
    refine Int.ofNat_dvd.mp (Int.dvd_coe_gcd ?_ d1)
    have : (Int.gcd b (a % b) : Int) ∣ b * (a / b) + a % b := Int.dvd_add (Int.dvd_trans d1 (Int.dvd_mul_right _ _)) d2
    rw [e] at this; exact this
  · have d1 : (Int.gcd a b : Int) ∣ a := Int.gcd_dvd_left ..
    have d2 : (Int.gcd a b : Int) ∣ b := Int.gcd_dvd_right ..
    refine Int.ofNat_dvd.mp (Int.dvd_coe_gcd d2 ?_)
    have : (Int.gcd a b : Int) ∣ a - b * (a / b) := Int.dvd_sub d1 (Int.dvd_trans d2 (Int.dvd_mul_right _ _))
    have e2 : a - b * (a / b) = a % b := by omega
    rw [e2] at this; exact this
theorem gcd_twos {a b : Int} (i j : Nat) (ha : a % 2 = 1) (hb : b % 2 = 1) (ha0 : 0 ≤ a) (hb0 : 0 ≤ b) : (Int.gcd (a * 2 ^ i) (b * 2 ^ j) : Int) = (Int.gcd a b : Int) * 2 ^ (min i j) := by
  obtain ⟨m, rfl⟩ := Int.eq_ofNat_of_zero_le ha0
  obtain ⟨n, rfl⟩ := Int.eq_ofNat_of_zero_le hb0
  have e1 : ((m : Int) * 2 ^ i) = ((m * 2 ^ i : Nat) : Int) := by simp
  have e2 : ((n : Int) * 2 ^ j) = ((n * 2 ^ j : Nat) : Int) := by simp
  rw [e1, e2, Int.gcd_natCast_natCast, Int.gcd_natCast_natCast]
  have cm : ∀ k, Nat.Coprime m (2 ^ k) := fun k => Nat.Coprime.pow_right k (by
    rw [Nat.Coprime, Nat.gcd_comm, Nat.gcd_rec]
    have : m % 2 = 1 := by omega
    rw [this]; rfl)
  have cn : ∀ k, Nat.Coprime n (2 ^ k) := fun k => Nat.Coprime.pow_right k (by
    rw [Nat.Coprime, Nat.gcd_comm, Nat.gcd_rec]
    have : n % 2 = 1 := by omega
    rw [this]; rfl)
  have key : Nat.gcd (m * 2 ^ i) (n * 2 ^ j) = Nat.gcd m n * 2 ^ (min i j) := by
    by_cases h : i ≤ j
    · have s : n * 2 ^ j = (n * 2 ^ (j - i)) * 2 ^ i := by rw [Nat.mul_assoc, ← Nat.pow_add, Nat.sub_add_cancel h]
      rw [s, Nat.gcd_mul_right, Nat.min_eq_left h, Nat.Coprime.gcd_mul_right_cancel_right n (cm (j - i)).symm]
    · have s : m * 2 ^ i = (m * 2 ^ (i - j)) * 2 ^ j := by rw [Nat.mul_assoc, ← Nat.pow_add, Nat.sub_add_cancel (by omega)]
      rw [s, Nat.gcd_mul_right, Nat.min_eq_right (by omega), Nat.Coprime.gcd_mul_right_cancel m (cn (i - j)).symm]
  rw [key]; simp
/-- the greatest number whose square is not above -/
def IsRoot (x s : Int) : Prop := 0 ≤ s ∧ s * s ≤ x ∧ x < (s + 1) * (s + 1)
theorem IsRoot.unique {x s t : Int} (h : IsRoot x s) (k : IsRoot x t) : s = t := by
  obtain ⟨a, b, c⟩ := h
  obtain ⟨d, e, f⟩ := k
  by_cases g : s < t
  · have := Int.mul_le_mul (show s + 1 ≤ t by omega) (show s + 1 ≤ t by omega) (by omega) d
    omega
  · by_cases g2 : t < s
    · have := Int.mul_le_mul (show t + 1 ≤ s by omega) (show t + 1 ≤ s by omega) (by omega) a
      omega
    · omega
theorem newton_step {x s : Int} (hx : 0 < x) (hs : 0 < s) (h : x < (s + 1) * (s + 1)) (hq : x / s < s) : 0 < (s + x / s) / 2 ∧ (s + x / s) / 2 < s ∧ x < ((s + x / s) / 2 + 1) * ((s + x / s) / 2 + 1) := by
  have f : x < (x / s + 1) * s := by
    have := Int.mul_ediv_add_emod x s
    have := Int.emod_lt_of_pos x hs
    rw [Int.add_mul, Int.one_mul, Int.mul_comm]; omega
  have q0 : 0 ≤ x / s := Int.ediv_nonneg (by omega) (by omega)
  generalize x / s = q at *
  have hsq : 1 < s + q := by
    by_cases g : 1 < s + q
    · exact g
    · have : s = 1 ∧ q = 0 := by omega
      obtain ⟨rfl, rfl⟩ := this
      omega
  obtain ⟨t, ht⟩ : ∃ t, t = (s + q) / 2 := ⟨_, rfl⟩
  have t1 : s + q ≤ 2 * t + 1 := by omega
  rw [← ht]
  refine ⟨by omega, by omega, ?_⟩
  have a : (s + (q + 1)) * (s + (q + 1)) ≤ (2 * (t + 1)) * (2 * (t + 1)) := Int.mul_le_mul (by omega) (by omega) (by omega) (by omega)
  have b : 4 * ((q + 1) * s) ≤ (s + (q + 1)) * (s + (q + 1)) := by
    have : (s + (q + 1)) * (s + (q + 1)) = 4 * ((q + 1) * s) + (s - (q + 1)) * (s - (q + 1)) := by grind
    have p : 0 ≤ (s - (q + 1)) * (s - (q + 1)) := by
      by_cases g : 0 ≤ s - (q + 1)
      · exact Int.mul_nonneg g g
      · have := Int.mul_nonneg (show 0 ≤ -(s - (q + 1)) by omega) (show 0 ≤ -(s - (q + 1)) by omega)
        rw [Int.neg_mul_neg] at this; exact this
    omega
  have c : (2 * (t + 1)) * (2 * (t + 1)) = 4 * ((t + 1) * (t + 1)) := by grind
  omega
theorem newton_end {x s : Int} (hs : 0 < s) (h : x < (s + 1) * (s + 1)) (hq : s ≤ x / s) : IsRoot x s ∧ ((x % s = 0 ∧ x / s = s) ↔ s * s = x) := by
  have hd := Int.mul_ediv_add_emod x s
  have hm := Int.emod_nonneg x (show s ≠ 0 by omega)
  have l := Int.mul_le_mul_of_nonneg_left hq (show 0 ≤ s by omega)
  refine ⟨⟨by omega, by omega, h⟩, ⟨fun ⟨a, b⟩ => by rw [b, a] at hd; omega, fun e => ?_⟩⟩
  have b : x / s = s := by rw [← e]; exact Int.mul_ediv_cancel _ (by omega)
  rw [b] at hd
  exact ⟨by omega, b⟩
end Na
end Go.Proofs.YthjfjpdgjhidfabGreat
