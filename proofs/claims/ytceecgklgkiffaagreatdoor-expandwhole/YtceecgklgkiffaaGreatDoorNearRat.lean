/- Rational numbers as they come, num by den: their order and their sums. -/
import Derived.Test.YtceecgklgkiffaaGreatDoorRatMath
namespace Go.Proofs.YtceecgklgkiffaaGreatDoor
open Na
set_option linter.unusedVariables false
theorem mkR_cross (s : Bool) {A B : Int} (hA : 0 ≤ A) (hB : 0 < B) : (mkR s A B).num * B = sg s A * ((mkR s A B).den : Int) := by
  have hg : 0 < (Int.gcd A B : Int) := by
    have : Int.gcd A B ≠ 0 := by
      intro e
      rw [Int.gcd_eq_zero_iff] at e
      omega
    omega
  have e1 := rat_num (s := s) hA hB
  have e2 := rat_den (s := s) hA hB
  rw [e1, e2]
  have dA : A / (Int.gcd A B : Int) * (Int.gcd A B : Int) = A := Int.ediv_mul_cancel (Int.gcd_dvd_left ..)
  have dB : B / (Int.gcd A B : Int) * (Int.gcd A B : Int) = B := Int.ediv_mul_cancel (Int.gcd_dvd_right ..)
  generalize (Int.gcd A B : Int) = g at *
  generalize A / g = a at *
  generalize B / g = b at *
  subst dA dB
  have c : a * (b * g) = a * g * b := by rw [Int.mul_comm b g, Int.mul_assoc]
  cases s
  · rw [sg_false, sg_false]; exact c
  · rw [sg_true, sg_true, Int.neg_mul, Int.neg_mul, c]
theorem mk_cross2 {s s' : Bool} {A B A' B' : Int} (hA : 0 ≤ A) (hB : 0 < B) (hA' : 0 ≤ A') (hB' : 0 < B') :
    (mkR s A B).num * ((mkR s' A' B').den : Int) * (B * B') = sg s A * B' * (((mkR s A B).den : Int) * ((mkR s' A' B').den : Int)) := by
  have h := mkR_cross s hA hB
  generalize (mkR s A B).num = n at *
  generalize ((mkR s A B).den : Int) = d at *
  generalize ((mkR s' A' B').den : Int) = d' at *
  have e1 : n * d' * (B * B') = n * B * (d' * B') := by rw [Int.mul_assoc, Int.mul_left_comm d', ← Int.mul_assoc]
  have e2 : sg s A * B' * (d * d') = sg s A * d * (d' * B') := by
    rw [Int.mul_assoc, Int.mul_left_comm B', Int.mul_comm B', ← Int.mul_assoc]
  rw [e1, e2, h]
theorem mk_lt {s s' : Bool} {A B A' B' : Int} (hA : 0 ≤ A) (hB : 0 < B) (hA' : 0 ≤ A') (hB' : 0 < B') : mkR s A B < mkR s' A' B' ↔ sg s A * B' < sg s' A' * B := by
  rw [rat_lt]
  have h1 := mk_cross2 (s := s) (s' := s') hA hB hA' hB'
  have h2 := mk_cross2 (s := s') (s' := s) hA' hB' hA hB
  have p1 := den_pos (mkR s A B)
  have p2 := den_pos (mkR s' A' B')
  have q1 : 0 < B * B' := Int.mul_pos hB hB'
  have q2 : 0 < ((mkR s A B).den : Int) * ((mkR s' A' B').den : Int) := Int.mul_pos p1 p2
  rw [Int.mul_comm B' B, Int.mul_comm ((mkR s' A' B').den : Int)] at h2
  have l : ∀ x y k : Int, 0 < k → (x * k < y * k ↔ x < y) := fun x y k hk => ⟨fun h => Int.lt_of_mul_lt_mul_right h (by omega), fun h => Int.mul_lt_mul_of_pos_right h hk⟩
  rw [← l _ _ _ q1, h1, h2, l _ _ _ q2]
theorem mk_eq {s s' : Bool} {A B A' B' : Int} (hA : 0 ≤ A) (hB : 0 < B) (hA' : 0 ≤ A') (hB' : 0 < B') : mkR s A B = mkR s' A' B' ↔ sg s A * B' = sg s' A' * B := by
  rw [rat_eq]
  have h1 := mk_cross2 (s := s) (s' := s') hA hB hA' hB'
  have h2 := mk_cross2 (s := s') (s' := s) hA' hB' hA hB
  have p1 := den_pos (mkR s A B)
  have p2 := den_pos (mkR s' A' B')
  have q1 : 0 < B * B' := Int.mul_pos hB hB'
  have q2 : 0 < ((mkR s A B).den : Int) * ((mkR s' A' B').den : Int) := Int.mul_pos p1 p2
  rw [Int.mul_comm B' B, Int.mul_comm ((mkR s' A' B').den : Int)] at h2
  have l : ∀ x y k : Int, 0 < k → (x * k = y * k ↔ x = y) := fun x y k hk => ⟨fun h => Int.eq_of_mul_eq_mul_right (by omega) h, fun h => by rw [h]⟩
  rw [← l _ _ _ q1, h1, h2, l _ _ _ q2]
theorem ordR_mk {s s' : Bool} {A B A' B' : Int} (hA : 0 ≤ A) (hB : 0 < B) (hA' : 0 ≤ A') (hB' : 0 < B') : ordR (mkR s A B) (mkR s' A' B') = ordN (sg s A * B') (sg s' A' * B) := by
  unfold ordR ordN
  simp only [mk_lt hA hB hA' hB', mk_eq hA hB hA' hB']
  split
  · rfl
  · split
    · rw [if_neg (by omega)]
    · rw [if_pos (by omega)]
theorem mkR_scale {s : Bool} {A B k : Int} (hA : 0 ≤ A) (hB : 0 < B) (hk : 0 < k) : mkR s (A * k) (B * k) = mkR s A B := by
  rw [mk_eq (Int.mul_nonneg hA (by omega)) (Int.mul_pos hB hk) hA hB]
  have : sg s (A * k) = sg s A * k := by
    cases s
    · rfl
    · rw [sg_true, sg_true, Int.neg_mul]
  rw [this, Int.mul_assoc, Int.mul_comm k B]
theorem add_mk {A B A' B' : Int} (hB : 0 < B) (hB' : 0 < B') : mkR false A B + mkR false A' B' = mkR false (A * B' + A' * B) (B * B') := by
  unfold mkR
  rw [sg_false, sg_false, sg_false, Rat.mkRat_add_mkRat _ _ (by omega) (by omega)]
  have e1 : (B.toNat : Int) = B := by omega
  have e2 : (B'.toNat : Int) = B' := by omega
  have e3 : (B * B').toNat = B.toNat * B'.toNat := by
    have : ((B.toNat * B'.toNat : Nat) : Int) = B * B' := by rw [Int.natCast_mul, e1, e2]
    omega
  rw [e1, e2, e3]
end Go.Proofs.YtceecgklgkiffaaGreatDoor
