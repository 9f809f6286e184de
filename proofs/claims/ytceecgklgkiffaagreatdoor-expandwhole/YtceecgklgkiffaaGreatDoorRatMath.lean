/- Rational numbers: a sign and two numbers; the order; what the four operations come to. -/
import Derived.Test.YtceecgklgkiffaaGreatDoorBaseD
namespace Go.Proofs.YtceecgklgkiffaaGreatDoor
set_option linter.unusedVariables false
set_option linter.unusedSimpArgs false

/-- a number with a sign -/
def sg (s : Bool) (A : Int) : Int := if s then -A else A
theorem sg_false (A : Int) : sg false A = A := rfl
theorem sg_true (A : Int) : sg true A = -A := rfl
theorem sg_abs (s : Bool) {A : Int} (hA : 0 ≤ A) : ((sg s A).natAbs : Int) = A := by
  cases s <;> simp [sg] <;> omega
theorem sg_toNat (s : Bool) {A : Int} (hA : 0 ≤ A) : (sg s A).natAbs = A.toNat := by
  cases s <;> simp [sg] <;> omega
/-- the number of a Rat by its sign and its size -/
theorem num_sg (q : Rat) : q.num = sg (decide (q.num < 0)) (q.num.natAbs : Int) := by
  by_cases h : q.num < 0 <;> simp [sg, h] <;> omega
theorem den_pos (q : Rat) : (0 : Int) < (q.den : Int) := by have := q.den_nz; omega
/-- num by den, with a sign -/
def mkR (s : Bool) (A B : Int) : Rat := mkRat (sg s A) B.toNat
section
variable {s : Bool} {A B : Int}
theorem toNat_ne (hB : 0 < B) : B.toNat ≠ 0 := by omega
theorem gcd_sg (s : Bool) (hA : 0 ≤ A) (hB : 0 < B) : B.toNat.gcd (sg s A).natAbs = Int.gcd A B := by
  rw [sg_toNat s hA, Int.gcd, Nat.gcd_comm, show A.natAbs = A.toNat by omega, show B.natAbs = B.toNat by omega]
theorem rat_num (hA : 0 ≤ A) (hB : 0 < B) : (mkR s A B).num = sg s (A / (Int.gcd A B : Int)) := by
  unfold mkR
  rw [Rat.num_mkRat, if_neg (toNat_ne hB), gcd_sg s hA hB]
  cases s
  · rfl
  · show -A / (Int.gcd A B : Int) = -(A / (Int.gcd A B : Int))
    exact Int.neg_ediv_of_dvd (Int.gcd_dvd_left ..)
theorem rat_abs (hA : 0 ≤ A) (hB : 0 < B) : ((mkR s A B).num.natAbs : Int) = A / (Int.gcd A B : Int) := by
  rw [rat_num hA hB, sg_abs]
  exact Int.ediv_nonneg hA (by omega)
theorem rat_den (hA : 0 ≤ A) (hB : 0 < B) : ((mkR s A B).den : Int) = B / (Int.gcd A B : Int) := by
  unfold mkR
  rw [Rat.den_mkRat, if_neg (toNat_ne hB), gcd_sg s hA hB, Int.natCast_ediv, Int.toNat_of_nonneg (Int.le_of_lt hB)]
theorem rat_neg (hA : 0 ≤ A) (hB : 0 < B) : decide ((mkR s A B).num < 0) = (s && decide (A / (Int.gcd A B : Int) ≠ 0)) := by
  have h0 : 0 ≤ A / (Int.gcd A B : Int) := Int.ediv_nonneg hA (by omega)
  rw [rat_num hA hB]
  generalize A / (Int.gcd A B : Int) = C at *
  cases s
  · simp [sg]; omega
  · show decide (-C < 0) = (true && decide (C ≠ 0))
    rw [Bool.true_and, decide_eq_decide]; omega
theorem rat_abs_le (hA : 0 ≤ A) (hB : 0 < B) : ((mkR s A B).num.natAbs : Int) ≤ A := by
  rw [rat_abs hA hB]; exact Int.ediv_le_self _ hA
theorem rat_den_le (hA : 0 ≤ A) (hB : 0 < B) : ((mkR s A B).den : Int) ≤ B := by
  rw [rat_den hA hB]; exact Int.ediv_le_self _ (Int.le_of_lt hB)
end
theorem coprime_of (q : Rat) : Int.gcd (q.num.natAbs : Int) (q.den : Int) = 1 := by
  have := q.reduced
  simpa [Int.gcd, Nat.Coprime] using this
theorem toNat_mul {a b : Nat} : ((a : Int) * (b : Int)).toNat = a * b := by
  rw [← Int.natCast_mul]; rfl
theorem mul_rat (p q : Rat) : mkR (decide (p.num < 0) != decide (q.num < 0)) ((p.num.natAbs : Int) * (q.num.natAbs : Int)) ((p.den : Int) * (q.den : Int)) = p * q := by
  rw [Rat.mul_def', mkR, toNat_mul]
  congr 1
  have a := num_sg p
  have b := num_sg q
  generalize (p.num.natAbs : Int) = x at *
  generalize (q.num.natAbs : Int) = y at *
  generalize decide (p.num < 0) = s at *
  generalize decide (q.num < 0) = t at *
  rw [a, b]
  cases s <;> cases t <;> simp [sg, Int.neg_mul, Int.mul_neg]
theorem add_rat (p q : Rat) (t : Bool) : mkRat (sg (decide (p.num < 0)) ((p.num.natAbs : Int) * (q.den : Int)) + sg t ((q.num.natAbs : Int) * (p.den : Int))) (p.den * q.den) = if t = decide (q.num < 0) then p + q else p - q := by
  have a := num_sg p
  have b := num_sg q
  split
  · next h =>
    rw [Rat.add_def', h]
    congr 1
    generalize (p.num.natAbs : Int) = x at *
    generalize (q.num.natAbs : Int) = y at *
    generalize decide (p.num < 0) = s at *
    generalize decide (q.num < 0) = t at *
    rw [a, b]
    cases s <;> cases t <;> simp [sg, Int.neg_mul]
  · next h =>
    rw [Rat.sub_def']
    congr 1
    have h' : t = !decide (q.num < 0) := by
      generalize decide (q.num < 0) = u at *
      cases t <;> cases u <;> simp at h ⊢
    rw [h']
    clear h h'
    generalize (p.num.natAbs : Int) = x at *
    generalize (q.num.natAbs : Int) = y at *
    generalize decide (p.num < 0) = s at *
    generalize decide (q.num < 0) = t at *
    rw [a, b]
    cases s <;> cases t <;> simp only [sg, Bool.not_false, Bool.not_true, if_true, Bool.false_eq_true, if_false, Int.neg_mul] <;> omega
theorem sum_same (s : Bool) (n m D : Int) (d : Nat) (hD : D.toNat = d) : mkR s (n + m) D = mkRat (sg s n + sg s m) d := by
  rw [mkR, hD]; congr 1; cases s <;> simp only [sg, if_true, Bool.false_eq_true, if_false]; omega
theorem sum_less (s t : Bool) (h : s ≠ t) (n m D : Int) (d : Nat) (hD : D.toNat = d) : mkR t (m - n) D = mkRat (sg s n + sg t m) d := by
  rw [mkR, hD]; congr 1; cases s <;> cases t <;> simp only [sg, if_true, Bool.false_eq_true, if_false] <;> first | exact absurd rfl h | omega
theorem sum_more (s t : Bool) (h : s ≠ t) (n m D : Int) (d : Nat) (hD : D.toNat = d) : mkR s (n - m) D = mkRat (sg s n + sg t m) d := by
  rw [mkR, hD]; congr 1; cases s <;> cases t <;> simp only [sg, if_true, Bool.false_eq_true, if_false] <;> first | exact absurd rfl h | omega
theorem div_rat (p q : Rat) (hq : q ≠ 0) : mkR (decide (p.num < 0) != decide (q.num < 0)) ((p.num.natAbs : Int) * (q.den : Int)) ((p.den : Int) * (q.num.natAbs : Int)) = p / q := by
  have h0 : q.num ≠ 0 := fun h => hq (Rat.num_eq_zero.mp h)
  rw [Rat.div_def, Rat.inv_def]
  conv => rhs; rw [← Rat.num_divInt_den p]
  rw [Rat.divInt_mul_divInt, mkR, toNat_mul, ← Rat.divInt_ofNat]
  have a := num_sg p
  have b := num_sg q
  rw [Int.natCast_mul]
  generalize (p.den : Int) = u at *
  generalize (q.den : Int) = v at *
  generalize (p.num.natAbs : Int) = x at *
  generalize (q.num.natAbs : Int) = y at *
  generalize decide (p.num < 0) = s at *
  generalize decide (q.num < 0) = t at *
  rw [a, b]
  cases s <;> cases t <;> simp only [sg, bne_self_eq_false, if_true, Bool.false_eq_true, if_false, Bool.bne_true, Bool.bne_false, Bool.not_false, Int.neg_mul, Int.mul_neg]
  · rw [← Rat.neg_divInt_neg, Int.neg_neg]
  · rw [← Rat.neg_divInt_neg]
/-- the order of two numbers: -1, 0 or 1 -/
def ordR (p q : Rat) : Int := if p < q then -1 else if p = q then 0 else 1
/-- the sign of a number -/
def sgnR (q : Rat) : Int := if q.num = 0 then 0 else if q.num < 0 then -1 else 1
theorem rat_lt (p q : Rat) : p < q ↔ p.num * (q.den : Int) < q.num * (p.den : Int) := Rat.lt_iff p q
theorem rat_eq (p q : Rat) : p = q ↔ p.num * (q.den : Int) = q.num * (p.den : Int) := Rat.eq_iff_mul_eq_mul
theorem ordR_num (p q : Rat) : ordR p q = if p.num * (q.den : Int) < q.num * (p.den : Int) then -1 else if p.num * (q.den : Int) = q.num * (p.den : Int) then 0 else 1 := by
  unfold ordR
  simp only [rat_lt p q, rat_eq p q]
theorem sgn_cmp (p q : Rat) (h : sgnR p ≠ sgnR q) : ordR p q = if sgnR p < sgnR q then -1 else 1 := by
  rw [ordR_num]
  have d1 := den_pos p
  have d2 := den_pos q
  have A : 0 < p.num → 0 < p.num * (q.den : Int) := fun h => Int.mul_pos h d2
  have B : p.num < 0 → p.num * (q.den : Int) < 0 := fun h => Int.mul_neg_of_neg_of_pos h d2
  have C : 0 < q.num → 0 < q.num * (p.den : Int) := fun h => Int.mul_pos h d1
  have D : q.num < 0 → q.num * (p.den : Int) < 0 := fun h => Int.mul_neg_of_neg_of_pos h d1
  have A0 : p.num = 0 → p.num * (q.den : Int) = 0 := fun h => by rw [h]; simp
  have C0 : q.num = 0 → q.num * (p.den : Int) = 0 := fun h => by rw [h]; simp
  generalize p.num * (q.den : Int) = x at *
  generalize q.num * (p.den : Int) = y at *
  unfold sgnR at *
  generalize p.num = a at *
  generalize q.num = b at *
  rcases Int.lt_trichotomy a 0 with ha | ha | ha <;> rcases Int.lt_trichotomy b 0 with hb | hb | hb <;> (repeat (split at h)) <;> (repeat' split) <;> omega
theorem ordR_self (p : Rat) : ordR p p = 0 := by unfold ordR; simp
theorem ordR_swap (p q : Rat) : ordR q p = - ordR p q := by
  rw [ordR_num, ordR_num]; (repeat' split) <;> omega
theorem ordR_zero {p q : Rat} : ordR p q = 0 ↔ p = q := by
  rw [ordR_num, rat_eq]
  (repeat' split) <;> omega
theorem ordR_neg {p q : Rat} : ordR p q < 0 ↔ p < q := by
  rw [ordR_num, rat_lt]; (repeat' split) <;> omega
theorem ordR_le {p q : Rat} : ordR p q ≤ 0 ↔ p ≤ q := by
  rw [Rat.le_iff, ordR_num]; (repeat' split) <;> omega
theorem ordR_bd (p q : Rat) : -1 ≤ ordR p q ∧ ordR p q ≤ 1 := by
  unfold ordR; (repeat' split) <;> omega
theorem ordR_of {p q : Rat} {n : Int} (h : -1 ≤ n ∧ n ≤ 1) (h0 : n < 0 ↔ p < q) (h1 : n = 0 ↔ p = q) : n = ordR p q := by
  unfold ordR
  (repeat' split)
  · next h' => have := h0.mpr h'; omega
  · next h' => have := h1.mpr h'; omega
  · next a b =>
    have := mt h0.mp a
    have := mt h1.mp b
    omega
theorem sub_sgn (p q : Rat) : sgnR (p - q) = ordR p q := by
  apply ordR_of
  · unfold sgnR; (repeat' split) <;> omega
  · rw [Rat.lt_iff_sub_pos]
    have e : q - p = -(p - q) := (Rat.neg_sub p q).symm
    rw [e]
    generalize p - q = r
    have e2 : (0 : Rat) < -r ↔ r.num < 0 := by
      rw [Rat.lt_iff]
      simp
    rw [e2]
    unfold sgnR
    (repeat' split) <;> omega
  · constructor
    · intro h
      have : (p - q).num = 0 := by unfold sgnR at h; (repeat' split at h) <;> omega
      have := Rat.num_eq_zero.mp this
      have e := Rat.sub_add_cancel (a := p) (b := q)
      rw [this, Rat.zero_add] at e
      exact e.symm
    · intro h
      rw [h, Rat.sub_self]; rfl
theorem ordR_add (p q r : Rat) : ordR (p + r) (q + r) = ordR p q := by
  apply ordR_of
  · exact ordR_bd _ _
  · rw [ordR_neg, Rat.add_lt_add_right]
  · rw [ordR_zero]; exact ⟨fun h => Rat.add_right_cancel r h, fun h => by rw [h]⟩
theorem ordR_mul (p q r : Rat) : ordR (p * r) (q * r) = ordR p q * sgnR r := by
  rcases Int.lt_trichotomy r.num 0 with h | h | h
  · have e : sgnR r = -1 := by unfold sgnR; (repeat' split) <;> omega
    have hr : 0 < -r := by rw [Rat.lt_iff]; simp; exact h
    have ne : r ≠ 0 := fun h' => by rw [h'] at h; simp at h
    rw [e, Int.mul_neg, Int.mul_one, ← ordR_swap]
    symm
    apply ordR_of (ordR_bd _ _)
    · rw [ordR_neg, ← Rat.mul_lt_mul_right hr, Rat.mul_neg, Rat.mul_neg, Rat.neg_lt_neg_iff]
    · rw [ordR_zero]
      constructor
      · intro h; rw [h]
      · intro h
        have a := Rat.mul_div_cancel (a := p) ne
        have b := Rat.mul_div_cancel (a := q) ne
        rw [← a, ← b, h]
  · have e : r = 0 := Rat.num_eq_zero.mp h
    have e' : sgnR r = 0 := by unfold sgnR; rw [if_pos h]
    rw [e', e, Rat.mul_zero, Rat.mul_zero, ordR_self]; omega
  · have e : sgnR r = 1 := by unfold sgnR; (repeat' split) <;> omega
    have hr : 0 < r := by rw [Rat.lt_iff]; simp; exact h
    have ne : r ≠ 0 := fun h' => by rw [h'] at h; simp at h
    rw [e, Int.mul_one]
    symm
    apply ordR_of (ordR_bd _ _)
    · rw [ordR_neg, Rat.mul_lt_mul_right hr]
    · rw [ordR_zero]
      constructor
      · intro h; rw [h]
      · intro h
        have a := Rat.mul_div_cancel (a := p) ne
        have b := Rat.mul_div_cancel (a := q) ne
        rw [← a, ← b, h]
theorem abs_cmp (p q : Rat) (h : sgnR p = sgnR q) : ordR p q = sg (decide (p.num < 0)) (if (p.num.natAbs : Int) * (q.den : Int) < (q.num.natAbs : Int) * (p.den : Int) then -1 else if (p.num.natAbs : Int) * (q.den : Int) = (q.num.natAbs : Int) * (p.den : Int) then 0 else 1) := by
  rw [ordR_num]
  have a := num_sg p
  have b := num_sg q
  have hs : p.num = 0 ∧ q.num = 0 ∨ decide (p.num < 0) = decide (q.num < 0) := by
    unfold sgnR at h
    by_cases e : p.num = 0
    · left; refine ⟨e, ?_⟩; rw [if_pos e] at h; (repeat' split at h) <;> omega
    · right
      rw [if_neg e] at h
      by_cases e2 : p.num < 0
      · have : q.num < 0 := by rw [if_pos e2] at h; (repeat' split at h) <;> omega
        simp [e2, this]
      · have : ¬ q.num < 0 := by rw [if_neg e2] at h; (repeat' split at h) <;> omega
        simp [e2, this]
  rcases hs with ⟨e1, e2⟩ | hs
  · rw [e1, e2]; simp [sg]
  · rw [← hs] at b
    generalize (p.num.natAbs : Int) = x at *
    generalize (q.num.natAbs : Int) = y at *
    generalize decide (p.num < 0) = s at *
    rw [a, b]
    cases s
    · simp [sg]
    · simp only [sg, if_true, Int.neg_mul]
      (repeat' split) <;> omega
end Go.Proofs.YtceecgklgkiffaaGreatDoor
