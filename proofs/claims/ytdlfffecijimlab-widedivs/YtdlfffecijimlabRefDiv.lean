/- plumbref01.Div: as on paper, a bit at a time. -/
import Derived.Test.YtdlfffecijimlabDiv
import Derived.Test.YtdlfffecijimlabRefBits
namespace Go.Proofs.Ytdlfffecijimlab
open Go.ChangeShapes Go.WideShapes Go.ChangeAt Go.RowKit
open Ar
set_option linter.unusedVariables false

def DivInv (h l b : Int) (k : Nat) (Q R : Int) : Prop := Q = (h * 18446744073709551616 + l) / 2 ^ k / b ∧ R = (h * 18446744073709551616 + l) / 2 ^ k % b
theorem rdiv_start {h l b : Int} (uh : U h) (ul : U l) (hh : h < b) : DivInv h l b 64 0 h := by
  have e : (h * 18446744073709551616 + l) / 2 ^ 64 = h := by rw [p64]; unfold U at ul; omega
  unfold DivInv
  rw [e, Int.ediv_eq_zero_of_lt uh.1 hh, Int.emod_eq_of_lt uh.1 hh]
  exact ⟨rfl, rfl⟩
theorem rdiv_facts {h l b Q R : Int} {j : Nat} (uh : U h) (ul : U l) (ub : U b) (hh : h < b) (hj : j < 64) (hi : DivInv h l b (j + 1) Q R) :
    ∃ P c : Int, (h * 18446744073709551616 + l) / 2 ^ j = 2 * P + c ∧ (c = 0 ∨ c = 1) ∧ l / 2 ^ j % 2 = c ∧ P = Q * b + R ∧ 0 ≤ R ∧ R < b ∧ 0 ≤ Q ∧ (2 * P + c) / b < 18446744073709551616 := by
  obtain ⟨hQ, hR⟩ := hi
  have hb0 : 0 < b := by unfold U at uh; omega
  have e1 : (h * 18446744073709551616 + l) / 2 ^ (j + 1) = (h * 18446744073709551616 + l) / 2 ^ j / 2 := by rw [← div_add]; rfl
  have e2 : (h * 18446744073709551616 + l) / 2 ^ j % 2 = l / 2 ^ j % 2 := by
    rw [shr_div (by omega : j ≤ 64)]
    have e64 : 64 - j = (63 - j) + 1 := by omega
    have : (2 : Int) ^ (64 - j) = 2 ^ (63 - j) * 2 := by rw [e64, Int.pow_succ]
    rw [this, ← Int.mul_assoc]
    generalize h * 2 ^ (63 - j) = x
    generalize l / 2 ^ j = y
    omega
  have pj := pow_pos j
  have n0 : 0 ≤ (h * 18446744073709551616 + l) / 2 ^ j := Int.ediv_nonneg (by unfold U at *; omega) (by omega)
  have n1 : (h * 18446744073709551616 + l) / 2 ^ j ≤ h * 18446744073709551616 + l := Int.ediv_le_self _ (by unfold U at *; omega)
  refine ⟨(h * 18446744073709551616 + l) / 2 ^ (j + 1), l / 2 ^ j % 2, by rw [e1, ← e2]; omega, by omega, rfl, ?_, ?_, ?_, ?_, ?_⟩
  · have hm := Int.mul_ediv_add_emod ((h * 18446744073709551616 + l) / 2 ^ (j + 1)) b
    rw [hQ, hR, Int.mul_comm _ b]; exact hm.symm
  · rw [hR]; exact Int.emod_nonneg _ (by omega)
  · rw [hR]; exact Int.emod_lt_of_pos _ hb0
  · rw [hQ]; exact Int.ediv_nonneg (by rw [e1]; omega) (by omega)
  · refine Int.ediv_lt_of_lt_mul hb0 ?_
    have e3 : 2 * ((h * 18446744073709551616 + l) / 2 ^ (j + 1)) + l / 2 ^ j % 2 = (h * 18446744073709551616 + l) / 2 ^ j := by rw [e1, ← e2]; omega
    rw [e3]
    unfold U at *
    omega
theorem rdiv_yes {h l b Q R : Int} {j : Nat} (uh : U h) (ul : U l) (ub : U b) (hh : h < b) (hj : j < 64) (hi : DivInv h l b (j + 1) Q R)
    (ht : R / 9223372036854775808 = 1 ∨ b ≤ bits .or .u64 (IntKind.u64.wrap (R * 2)) (bits .and .u64 (l / 2 ^ j) 1)) :
    DivInv h l b j (bits .or .u64 (IntKind.u64.wrap (Q * 2)) 1) (IntKind.u64.wrap (bits .or .u64 (IntKind.u64.wrap (R * 2)) (bits .and .u64 (l / 2 ^ j) 1) - b)) := by
  obtain ⟨P, c, e, hc, hbit, hP, r0, r1, q0, hlt⟩ := rdiv_facts uh ul ub hh hj hi
  rw [and_one (U_div_pow ul j), hbit, or_two hc] at ht ⊢
  rw [or_two (Or.inr rfl), wrapU]
  unfold DivInv
  rw [e]
  unfold U at ub
  have hb0 : 0 < b := by unfold U at uh; omega
  have key : 2 * P + c = (2 * Q + 1) * b + (2 * R + c - b) := by
    have : (2 * Q + 1) * b = 2 * (Q * b) + b := by grind
    rw [this, hP]; omega
  have hr : 0 ≤ 2 * R + c - b := by omega
  obtain ⟨d1, d2⟩ := div_of hb0 key hr (by omega)
  rw [d1] at hlt ⊢
  rw [d2]
  omega
theorem rdiv_no {h l b Q R : Int} {j : Nat} (uh : U h) (ul : U l) (ub : U b) (hh : h < b) (hj : j < 64) (hi : DivInv h l b (j + 1) Q R)
    (ht : R / 9223372036854775808 ≠ 1) (ht' : bits .or .u64 (IntKind.u64.wrap (R * 2)) (bits .and .u64 (l / 2 ^ j) 1) < b) :
    DivInv h l b j (IntKind.u64.wrap (Q * 2)) (bits .or .u64 (IntKind.u64.wrap (R * 2)) (bits .and .u64 (l / 2 ^ j) 1)) := by
  obtain ⟨P, c, e, hc, hbit, hP, r0, r1, q0, hlt⟩ := rdiv_facts uh ul ub hh hj hi
  rw [and_one (U_div_pow ul j), hbit, or_two hc] at ht' ⊢
  rw [wrapU]
  unfold DivInv
  rw [e]
  unfold U at ub
  have hb0 : 0 < b := by unfold U at uh; omega
  have key : 2 * P + c = (2 * Q) * b + (2 * R + c) := by
    have : (2 * Q) * b = 2 * (Q * b) := by grind
    rw [this, hP]; omega
  obtain ⟨d1, d2⟩ := div_of hb0 key (by omega) (by omega)
  rw [d1] at hlt ⊢
  rw [d2]
  omega

theorem rdiv_zero_any {h l b : Int} (hb : b = 0) (w : World) :
    Calls Try.prog 9 #[.int .u64 h, .int .u64 l, .int .u64 b] w fun e w' => e = .returned (.tuple #[.int .u64 0, .int .u64 0, .int .i64 10]) ∧ w = w' := by
  have t : (b == 0) = true := beq_of hb
  go_enter Try.func9, Try.ntmps9
  go_wp2
  go_ret3
  exact ⟨rfl, rfl⟩
theorem rdiv_great_any {h l b : Int} (hb : b ≠ 0) (hh : b ≤ h) (w : World) :
    Calls Try.prog 9 #[.int .u64 h, .int .u64 l, .int .u64 b] w fun e w' => e = .returned (.tuple #[.int .u64 0, .int .u64 0, .int .i64 11]) ∧ w = w' := by
  have t : (b == 0) = false := beq_no hb
  go_enter Try.func9, Try.ntmps9
  go_wp2
  go_ret3
  exact ⟨rfl, rfl⟩
theorem rdiv_any {h l b : Int} (uh : U h) (ul : U l) (ub : U b) (hb : b ≠ 0) (hh : h < b) (w : World) :
    Calls Try.prog 9 #[.int .u64 h, .int .u64 l, .int .u64 b] w fun e w' => e = .returned (.tuple #[.int .u64 (divQ h l b), .int .u64 (divR h l b), .int .i64 0]) ∧ w = w' := by
  have t : (b == 0) = false := beq_no hb
  have h0 := rdiv_start uh ul hh
  clear hb
  go_enter Try.func9, Try.ntmps9
  go_wp2
  go_loop [9, 10, 11] (fun q r i => ∃ (k : Nat) (Q R I : Int), q = .int .u64 Q ∧ r = .int .u64 R ∧ i = .int .i64 I ∧ I = (k : Int) - 1 ∧ k ≤ 64 ∧ DivInv h l b k Q R) (fun _ _ i => (intOf i + 1).toNat)
  case atStart => exact ⟨64, 0, h, 63, rfl, rfl, rfl, by omega, by omega, h0⟩
  case round =>
    obtain ⟨k, Q, R, I, rfl, rfl, rfl, hI, hk, hr⟩ := hrel
    clear h0
    cases k with
    | zero =>
      have hI' : I < 0 := by omega
      clear hI
      obtain ⟨e1, e2⟩ := hr
      simp only [Int.pow_zero, Int.ediv_one] at e1 e2
      have E1 : Hid (Q = divQ h l b) := e1
      have E2 : Hid (R = divR h l b) := e2
      clear e1 e2
      go_wp2
      go_ret3
      exact ⟨ret_three E1.out E2.out rfl, rfl⟩
    | succ j =>
      have hI' : I = (j : Int) := by omega
      clear hI
      subst hI'
      have y := fun h' => rdiv_yes uh ul ub hh (by omega) hr h'
      have n := fun h' h'' => rdiv_no uh ul ub hh (by omega) hr h' h''
      clear hr
      by_cases c1 : R / 9223372036854775808 = 1
      · have t1 := beq_of c1
        replace y := y (Or.inl c1)
        clear n c1
        go_wp2
        go_round
        case rel => exact ⟨j, _, _, _, rfl, rfl, rfl, rfl, by omega, y⟩
        case measure => simp [intOf]
      · have t1 := beq_no c1
        by_cases c2 : b ≤ bits .or .u64 (IntKind.u64.wrap (R * 2)) (bits .and .u64 (l / 2 ^ j) 1)
        · replace y := y (Or.inr c2)
          clear n c1
          go_wp2
          go_round
          case rel => exact ⟨j, _, _, _, rfl, rfl, rfl, rfl, by omega, y⟩
          case measure => simp [intOf]
        · replace n := n c1 (by omega)
          clear y c1
          go_wp2
          go_round
          case rel => exact ⟨j, _, _, _, rfl, rfl, rfl, rfl, by omega, n⟩
          case measure => simp [intOf]
end Go.Proofs.Ytdlfffecijimlab
