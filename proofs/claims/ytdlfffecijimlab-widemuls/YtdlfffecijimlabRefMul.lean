/- plumbref01.Mul3, plumbref01.Mul: twice what there is, and once more if the bit is 1. -/
import Derived.Test.YtdlfffecijimlabRef
namespace Go.Proofs.Ytdlfffecijimlab
open Go.ChangeShapes Go.WideShapes Go.ChangeAt Go.RowKit
open Ar
set_option linter.unusedVariables false

namespace Ar
theorem or_dbl {x t : Int} (ht : t = 0 ∨ t = 1) : bits .or .u64 (IntKind.u64.wrap (x * 2)) t = x * 2 % 18446744073709551616 + t := by
  rw [wrapU]
  have h : 0 ≤ x * 2 % 18446744073709551616 ∧ x * 2 % 18446744073709551616 < 18446744073709551616 := by omega
  rw [u64_or _ _ h.1 h.2 (by omega) (by omega)]
  have : ((x * 2 % 18446744073709551616).toNat ||| t.toNat) = (x * 2 % 18446744073709551616).toNat + t.toNat := nat_join 1 _ _ (by omega) (by omega)
  rw [this]; omega
def Mul3Inv (h l b : Int) (k : Nat) (X Y Z : Int) : Prop := X = m3a h l (b / 2 ^ k) ∧ Y = m3b h l (b / 2 ^ k) ∧ Z = m3c h l (b / 2 ^ k)
theorem div_pow_succ (b : Int) (k : Nat) : b / 2 ^ k = 2 * (b / 2 ^ (k + 1)) + b / 2 ^ k % 2 := by
  have : b / 2 ^ (k + 1) = b / 2 ^ k / 2 := by rw [← div_add]; rfl
  rw [this]; omega
theorem mul3_start {h l b : Int} (hb : U b) : Mul3Inv h l b 64 0 0 0 := by
  have : b / 2 ^ 64 = 0 := by unfold U at hb; rw [p64]; omega
  unfold Mul3Inv m3a m3b m3c
  rw [this]; simp
theorem word2_mul {h l q : Int} (hh : U h) (hl : U l) (hq : U q) : 0 ≤ (h * 18446744073709551616 + l) * q ∧ (h * 18446744073709551616 + l) * q < 6277101735386680763835789423207666416102355444464034512896 := by
  unfold U at *
  have h1 : 0 ≤ (h * 18446744073709551616 + l) * q := Int.mul_nonneg (by omega) hq.1
  have h2 : (h * 18446744073709551616 + l) * q ≤ 340282366920938463463374607431768211455 * 18446744073709551615 := Int.mul_le_mul (by omega) (by omega) hq.1 (by omega)
  omega
theorem mul3_dbl {h l q X Y Z : Int} (hh : U h) (hl : U l) (hq0 : 0 ≤ q) (hq : U (2 * q)) (hX : X = m3a h l q) (hY : Y = m3b h l q) (hZ : Z = m3c h l q) :
    bits .or .u64 (IntKind.u64.wrap (X * 2)) (Y / 9223372036854775808) = m3a h l (2 * q) ∧ bits .or .u64 (IntKind.u64.wrap (Y * 2)) (Z / 9223372036854775808) = m3b h l (2 * q) ∧ IntKind.u64.wrap (Z * 2) = m3c h l (2 * q) := by
  have uy : U Y := by rw [hY]; exact U_m3b ..
  have uz : U Z := by rw [hZ]; exact U_m3c ..
  have bd := word2_mul hh hl hq
  have ty : Y / 9223372036854775808 = 0 ∨ Y / 9223372036854775808 = 1 := top_01 uy
  have tz : Z / 9223372036854775808 = 0 ∨ Z / 9223372036854775808 = 1 := top_01 uz
  rw [or_dbl ty, or_dbl tz, wrapU]
  clear ty tz
  subst hX hY hZ
  unfold m3a m3b m3c
  have e : (h * 18446744073709551616 + l) * (2 * q) = 2 * ((h * 18446744073709551616 + l) * q) := by grind
  rw [e] at bd ⊢
  generalize (h * 18446744073709551616 + l) * q = T at *
  clear e hq hq0 hh hl uy uz
  omega
theorem mul3_add {h l q : Int} (hh : U h) (hl : U l) (hq0 : 0 ≤ q) (hq : U (2 * q + 1)) :
    IntKind.u64.wrap (m3a h l (2 * q) + addHi (m3b h l (2 * q)) h (addHi (m3c h l (2 * q)) l 0)) = m3a h l (2 * q + 1) ∧
    addLo (m3b h l (2 * q)) h (addHi (m3c h l (2 * q)) l 0) = m3b h l (2 * q + 1) ∧ addLo (m3c h l (2 * q)) l 0 = m3c h l (2 * q + 1) := by
  have bd := word2_mul hh hl hq
  have b0 := word2_mul hh hl (q := 2 * q) (by unfold U at *; omega)
  rw [wrapU]
  unfold m3a m3b m3c addHi addLo
  have e : (h * 18446744073709551616 + l) * (2 * q + 1) = (h * 18446744073709551616 + l) * (2 * q) + (h * 18446744073709551616 + l) := by grind
  rw [e] at bd ⊢
  generalize (h * 18446744073709551616 + l) * (2 * q) = T at *
  unfold U at *
  clear e hq hq0
  omega
theorem mul3_no {h l b X Y Z : Int} {j : Nat} (hh : U h) (hl : U l) (hb : U b) (hi : Mul3Inv h l b (j + 1) X Y Z) (hbit : b / 2 ^ j % 2 = 0) :
    Mul3Inv h l b j (bits .or .u64 (IntKind.u64.wrap (X * 2)) (Y / 9223372036854775808)) (bits .or .u64 (IntKind.u64.wrap (Y * 2)) (Z / 9223372036854775808)) (IntKind.u64.wrap (Z * 2)) := by
  obtain ⟨h1, h2, h3⟩ := hi
  have e := div_pow_succ b j
  have u := U_div_pow hb j
  have u0 := U_div_pow hb (j + 1)
  have e' : b / 2 ^ j = 2 * (b / 2 ^ (j + 1)) := by omega
  unfold Mul3Inv
  rw [e'] at u ⊢
  exact mul3_dbl hh hl u0.1 u h1 h2 h3
theorem mul3_yes {h l b X Y Z : Int} {j : Nat} (hh : U h) (hl : U l) (hb : U b) (hi : Mul3Inv h l b (j + 1) X Y Z) (hbit : b / 2 ^ j % 2 = 1) :
    U (bits .or .u64 (IntKind.u64.wrap (Y * 2)) (Z / 9223372036854775808)) ∧ U (IntKind.u64.wrap (Z * 2)) ∧ U (addHi (IntKind.u64.wrap (Z * 2)) l 0) ∧
    Mul3Inv h l b j (IntKind.u64.wrap (bits .or .u64 (IntKind.u64.wrap (X * 2)) (Y / 9223372036854775808) + addHi (bits .or .u64 (IntKind.u64.wrap (Y * 2)) (Z / 9223372036854775808)) h (addHi (IntKind.u64.wrap (Z * 2)) l 0)))
      (addLo (bits .or .u64 (IntKind.u64.wrap (Y * 2)) (Z / 9223372036854775808)) h (addHi (IntKind.u64.wrap (Z * 2)) l 0)) (addLo (IntKind.u64.wrap (Z * 2)) l 0) := by
  obtain ⟨h1, h2, h3⟩ := hi
  have e := div_pow_succ b j
  have u := U_div_pow hb j
  have u0 := U_div_pow hb (j + 1)
  have e' : b / 2 ^ j = 2 * (b / 2 ^ (j + 1)) + 1 := by omega
  unfold Mul3Inv
  rw [e'] at u ⊢
  obtain ⟨f1, f2, f3⟩ := mul3_dbl hh hl u0.1 (by unfold U at *; omega) h1 h2 h3
  rw [f1, f2, f3]
  exact ⟨U_m3b .., U_m3c .., U_addHi (U_m3c ..) hl, mul3_add hh hl u0.1 u⟩
theorem mul3_end {h l b X Y Z : Int} (hi : Mul3Inv h l b 0 X Y Z) : X = m3a h l b ∧ Y = m3b h l b ∧ Z = m3c h l b := by
  unfold Mul3Inv at hi
  simpa using hi
end Ar

theorem refMul3_any {a b c : Int} (ha : U a) (hb : U b) (hc : U c) (w : World) :
    Calls Try.prog 15 #[.int .u64 a, .int .u64 b, .int .u64 c] w fun e w' => e = .returned (.tuple #[.int .u64 (m3a a b c), .int .u64 (m3b a b c), .int .u64 (m3c a b c)]) ∧ Grown w w' := by
  have h0 := mul3_start (h := a) (l := b) hc
  go_enter Try.func15, Try.ntmps15
  go_wp2
  go_loopw [9, 10, 11, 12] (fun x y z i wr => ∃ (k : Nat) (X Y Z I : Int), x = .int .u64 X ∧ y = .int .u64 Y ∧ z = .int .u64 Z ∧ i = .int .i64 I ∧ I = (k : Int) - 1 ∧ k ≤ 64 ∧ Grown w wr ∧ Mul3Inv a b c k X Y Z) (fun _ _ _ i _ => (intOf i + 1).toNat)
  case atStart => exact ⟨64, 0, 0, 0, 63, rfl, rfl, rfl, rfl, by omega, by omega, Grown.refl _, h0⟩
  case round =>
    obtain ⟨k, X, Y, Z, I, rfl, rfl, rfl, rfl, hI, hk, hg, hr⟩ := hrel
    clear h0
    cases k with
    | zero =>
      have hI' : I < 0 := by omega
      clear hI
      obtain ⟨e1, e2, e3⟩ := mul3_end hr
      subst e1 e2 e3
      clear hr
      go_wp2
      go_ret3
      exact ⟨rfl, hg⟩
    | succ j =>
      have hI' : I = (j : Int) := by omega
      clear hI
      subst hI'
      by_cases hbit : c / 2 ^ j % 2 = 1
      · have t := beq_of ((and_one (U_div_pow hc j)).trans hbit)
        obtain ⟨u1, u2, u3, hn⟩ := mul3_yes ha hb hc hr hbit
        clear hr hbit
        have u4 := U_zero
        go_wp2_with (go_at_call 29; refine (refAdd_any (by assumption) (by assumption) (by assumption) _).mono ?_; rintro e w' ⟨rfl, hg'⟩)
        go_roundw
        case rel => exact ⟨j, _, _, _, _, rfl, rfl, rfl, rfl, rfl, by omega, by repeat (first | assumption | refine grown_trans (by assumption) ?_), hn⟩
        case measure => simp [intOf]
      · have hbit' : c / 2 ^ j % 2 = 0 := by omega
        have t : (bits .and .u64 (c / 2 ^ j) 1 == 1) = false := beq_no (by rw [and_one (U_div_pow hc j)]; exact hbit)
        have hn := mul3_no ha hb hc hr hbit'
        clear hr hbit hbit'
        go_wp2
        go_roundw
        case rel => exact ⟨j, _, _, _, _, rfl, rfl, rfl, rfl, rfl, by omega, hg, hn⟩
        case measure => simp [intOf]

theorem refMul_any {a b : Int} (ha : U a) (hb : U b) (w : World) :
    Calls Try.prog 13 #[.int .u64 a, .int .u64 b] w fun e w' => e = .returned (.tuple #[.int .u64 (m3b 0 a b), .int .u64 (m3c 0 a b)]) ∧ Grown w w' := by
  go_enter Try.func13, Try.ntmps13
  go_wp2_with (go_at_call 15; refine (refMul3_any U_zero ha hb _).mono ?_; rintro e w' ⟨rfl, hg⟩)
  go_ret2
  exact ⟨rfl, hg⟩
end Go.Proofs.Ytdlfffecijimlab
