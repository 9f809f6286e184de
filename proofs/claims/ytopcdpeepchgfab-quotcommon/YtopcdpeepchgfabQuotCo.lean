/- common divisors in the laws. -/
import Derived.Test.YtopcdpeepchgfabBaseD
import Derived.Test.YtopcdpeepchgfabQuotLive
namespace Go.Proofs.Ytopcdpeepchgfab
open Na Ar
set_option linter.unusedVariables false
namespace Na
theorem gcd_lt {X Y : Int} {k : Nat} (h1 : Lt X k) (h2 : Lt Y k) : Lt (Int.gcd X Y : Int) k := by
  by_cases hX : X = 0
  · have e : (Int.gcd X Y : Int) = Y := by rw [hX, Int.gcd_comm, Int.gcd_zero]; have := h2.1; omega
    rw [e]; exact h2
  · have d : (Int.gcd X Y : Int) ∣ X := Int.gcd_dvd_left ..
    have hp : 0 < X := by have := h1.1; omega
    exact h1.le (by omega) (Int.le_of_dvd hp d)
theorem common_facts {G P Q X Y : Int} (hG : 0 ≤ G) (hX0 : 0 ≤ X) (hY0 : 0 ≤ Y) (hX : X = G * P + 0) (hY : Y = G * Q + 0) : X = 0 ∧ Y = 0 ∨ 0 < G ∧ 0 < (Int.gcd X Y : Int) ∧ (Int.gcd X Y : Int) % G = 0 := by
  rw [Int.add_zero] at hX hY
  by_cases h : X = 0 ∧ Y = 0
  · exact Or.inl h
  · right
    have hGp : 0 < G := by
      by_cases g : 0 < G
      · exact g
      · exfalso
        have : G = 0 := by omega
        rw [this, Int.zero_mul] at hX hY
        exact h ⟨hX, hY⟩
    refine ⟨hGp, ?_, ?_⟩
    · have : Int.gcd X Y ≠ 0 := fun h0 => by
        have := Int.gcd_eq_zero_iff.mp h0
        exact h this
      omega
    · refine Int.emod_eq_zero_of_dvd (Int.dvd_coe_gcd ?_ ?_)
      · rw [hX]; exact Int.dvd_mul_right _ _
      · rw [hY]; exact Int.dvd_mul_right _ _
theorem lowest_facts {X Y : Int} (hD : 0 < (Int.gcd X Y : Int)) : X / (Int.gcd X Y : Int) * (Int.gcd X Y : Int) = X ∧ Y / (Int.gcd X Y : Int) * (Int.gcd X Y : Int) = Y ∧ (Int.gcd (X / (Int.gcd X Y : Int)) (Y / (Int.gcd X Y : Int)) : Int) = 1 := by
  have d1 : (Int.gcd X Y : Int) ∣ X := Int.gcd_dvd_left ..
  have d2 : (Int.gcd X Y : Int) ∣ Y := Int.gcd_dvd_right ..
  have e1 := Int.ediv_mul_cancel d1
  have e2 := Int.ediv_mul_cancel d2
  refine ⟨e1, e2, ?_⟩
  have k : Int.gcd (X / (Int.gcd X Y : Int) * (Int.gcd X Y : Int)) (Y / (Int.gcd X Y : Int) * (Int.gcd X Y : Int)) = Int.gcd (X / (Int.gcd X Y : Int)) (Y / (Int.gcd X Y : Int)) * (Int.gcd X Y) := by
    rw [Int.gcd_mul_right]; simp
  rw [e1, e2] at k
  have hp : 0 < Int.gcd X Y := by omega
  have : Int.gcd (X / (Int.gcd X Y : Int)) (Y / (Int.gcd X Y : Int)) = 1 := by
    have k2 : 1 * Int.gcd X Y = Int.gcd (X / (Int.gcd X Y : Int)) (Y / (Int.gcd X Y : Int)) * Int.gcd X Y := by rw [Nat.one_mul]; exact k
    exact (Nat.eq_of_mul_eq_mul_right hp k2).symm
  rw [this]; rfl
end Na
end Go.Proofs.Ytopcdpeepchgfab
