/- Plain numbers: lemire's products, and the exact powers of ten. -/
import Derived.Test.YtndeimdfklhaiaaGreatDoorLemMath
import Derived.KernelRfl
namespace Go.Proofs.YtndeimdfklhaiaaGreatDoor.Ar
open Go.RowKit
set_option linter.unusedVariables false

theorem len_two {a : Int} (ha : U a) : ∃ k : Nat, lenW a = k ∧ k ≤ 64 ∧ clampN (lenW a) = k ∧ a < 2 ^ k ∧ (k = 0 ∧ a = 0 ∨ 2 ^ k ≤ 2 * a) := by
  by_cases h : a = 0
  · subst h
    exact ⟨0, rfl, by omega, rfl, by decide, Or.inl ⟨rfl, rfl⟩⟩
  · obtain ⟨k, k1, k2, k3, k4⟩ := at_bd (x := 0) ha h
    have e1 : e2 (k : Int) = 2 ^ k := by unfold e2; rw [Int.toNat_natCast]
    have e3 : e2 ((k : Int) + 1) = 2 ^ (k + 1) := by unfold e2; congr 1
    rw [e1] at k3
    rw [e3] at k4
    refine ⟨k + 1, by omega, by omega, ?_, k4, Or.inr ?_⟩
    · rw [k2]
      unfold clampN
      rw [if_neg (by omega), if_neg (by omega)]
      omega
    · rw [Int.pow_succ]; omega
/-- the highest 64 bits of a product of three words -/
theorem prod_top {P : Int} {k : Nat} (h0 : 170141183460469231731687303715884105728 ≤ P) (hk : P / 340282366920938463463374607431768211456 < 2 ^ k)
    (hk2 : k = 0 ∧ P / 340282366920938463463374607431768211456 = 0 ∨ 2 ^ k ≤ 2 * (P / 340282366920938463463374607431768211456)) :
    ∃ top F : Int, srLo (P / 340282366920938463463374607431768211456) (P / 18446744073709551616 % 18446744073709551616) k = top ∧ 9223372036854775808 ≤ top ∧ top < 18446744073709551616 ∧
      P = top * 2 ^ (64 + k) + F ∧ 0 ≤ F ∧ F < 2 ^ (64 + k) ∧ ((srLost (P / 340282366920938463463374607431768211456) (P / 18446744073709551616 % 18446744073709551616) k || (P % 18446744073709551616 != 0)) = true ↔ F ≠ 0) := by
  unfold srLo srLost
  have hQ : P / 340282366920938463463374607431768211456 * 18446744073709551616 + P / 18446744073709551616 % 18446744073709551616 = P / 18446744073709551616 := by omega
  have ha : P / 340282366920938463463374607431768211456 = P / 18446744073709551616 / 18446744073709551616 := by omega
  rw [hQ]
  rw [ha] at hk hk2
  have hp : (2 : Int) ^ (64 + k) = 18446744073709551616 * 2 ^ k := by rw [Int.pow_add]; rfl
  rw [hp]
  have hK := pow_pos k
  have hPd := Int.ediv_mul_add_emod P 18446744073709551616
  have hc0 : 0 ≤ P % 18446744073709551616 := by omega
  have hc1 : P % 18446744073709551616 < 18446744073709551616 := by omega
  have hQ0 : 9223372036854775808 ≤ P / 18446744073709551616 := by omega
  generalize P / 18446744073709551616 = Q at *
  generalize P % 18446744073709551616 = c at *
  have hk3 : k = 0 ∧ Q / 18446744073709551616 = 0 ∧ (2 : Int) ^ k = 1 ∨ 2 ^ k ≤ 2 * (Q / 18446744073709551616) := by
    rcases hk2 with ⟨h, h'⟩ | h
    · left; exact ⟨h, h', by rw [h]; rfl⟩
    · exact Or.inr h
  clear hk2
  generalize (2 : Int) ^ k = K at *
  have t1 : 9223372036854775808 ≤ Q / K := by
    apply Int.le_ediv_of_mul_le hK
    rcases hk3 with ⟨_, h', h''⟩ | h
    · omega
    · omega
  have t2 : Q / K < 18446744073709551616 := by
    apply Int.ediv_lt_of_lt_mul hK
    omega
  have r0 := Int.emod_nonneg Q (show K ≠ 0 by omega)
  have r1 := Int.emod_lt_of_pos Q hK
  have hd := Int.ediv_mul_add_emod Q K
  generalize Q / K = top at *
  generalize Q % K = r at *
  have e1 : top % 18446744073709551616 = top := by omega
  rw [e1]
  refine ⟨top, r * 18446744073709551616 + c, rfl, t1, t2, ?_, by omega, by omega, ?_⟩
  · rw [← hPd, ← hd]
    grind
  · by_cases hr : r = 0
    · subst hr
      by_cases hc : c = 0
      · subst hc; simp
      · simp [hc]
    · have : r * 18446744073709551616 + c ≠ 0 := by omega
      simp [hr, this]
/-! ### the exact powers of ten -/
/-- the table -/
def tenL : List Nat := [4607182418800017408, 4621819117588971520, 4636737291354636288, 4652007308841189376, 4666723172467343360, 4681608360884174848, 4696837146684686336, 4711630319722168320, 4726483295884279808, 4741671816366391296, 4756540486875873280, 4771362005757984768, 4786511204640096256, 4801453603149578240, 4816244402031689728, 4831355200913801216, 4846369599423283200, 4861130398305394688, 4876203697187506176, 4891288408196988160, 4906019910204099648, 4921056587992461136, 4936209963552724370]
def tenP (k : Nat) : Int := (tenL.getD k 0 : Nat)
def chkT (k : Nat) : Bool :=
  decide (4503599627370496 ≤ spM (tenP k)) && decide (spM (tenP k) < 9007199254740992) && decide (-52 ≤ spX (tenP k)) && decide (spX (tenP k) ≤ 21) && decide (0 ≤ tenP k) && decide (tenP k < 9218868437227405312)
    && decide (spM (tenP k) * 4503599627370496 * 2 ^ (spX (tenP k) + 52).toNat = 10 ^ k * 4503599627370496 * 4503599627370496)
theorem chkT_0 : chkT 0 = true := by kernel_rfl
theorem chkT_all (k : Nat) (h : k < 23) : chkT k = true := by
  have : ∀ k : Fin 23, chkT k.val = true := by decide +kernel
  exact this ⟨k, h⟩
theorem ten_facts {k : Nat} (h : k < 23) : ∃ M X : Int, spM (tenP k) = M ∧ spX (tenP k) = X ∧ 4503599627370496 ≤ M ∧ M < 9007199254740992 ∧ -52 ≤ X ∧ X ≤ 21 ∧ M * e2 (X + 52) = 10 ^ k * e2 52 ∧ U (tenP k) ∧ ef (tenP k) ≠ 2047 := by
  have c := chkT_all k h
  unfold chkT at c
  simp only [Bool.and_eq_true, decide_eq_true_eq] at c
  obtain ⟨⟨⟨⟨⟨⟨c1, c2⟩, c3⟩, c4⟩, c5⟩, c6⟩, c7⟩ := c
  refine ⟨_, _, rfl, rfl, c1, c2, c3, c4, ?_, by unfold U; omega, by unfold ef; omega⟩
  unfold e2
  have e : ((52 : Int)).toNat = 52 := rfl
  rw [e, show (2 : Int) ^ 52 = 4503599627370496 by rfl]
  generalize (2 : Int) ^ (spX (tenP k) + 52).toNat = Z at *
  generalize spM (tenP k) = M at *
  rw [Int.mul_right_comm] at c7
  exact Int.eq_of_mul_eq_mul_right (by omega) c7
theorem pow_e2 (k : Nat) : (2 : Int) ^ k = e2 (k : Int) := by unfold e2; rw [Int.toNat_natCast]
theorem times_math {mant M X hi lo b e : Int} {k u1 u2 : Nat} (hX0 : -52 ≤ X) (hT : M * e2 (X + 52) = 10 ^ k * e2 52) (hp : mant * 2 ^ u1 * (M * 2 ^ u2) = hi * 18446744073709551616 + lo) (hl0 : 0 ≤ lo) (hl1 : lo < 18446744073709551616) (hh : 18014398509481984 ≤ hi) :
    RoundIs (scA hi (X - u1 - u2 + 64)) (scB 1 (X - u1 - u2 + 64)) (lo != 0) false 0 b e ↔ RoundIs (scA (mant * 10 ^ k) 0) (scB 1 0) false false 0 b e := by
  have r := round_restS (W := hi) (F := lo) (x := X - u1 - u2) (g := 64) (more := (lo != 0)) (neg := false) (mode := 0) (b := b) (e := e) hl0 hl1 (by simp) (Or.inr hh)
  rw [show (X - (u1 : Int) - u2 + ((64 : Nat) : Int)) = X - u1 - u2 + 64 by rfl, show (2 : Int) ^ 64 = 18446744073709551616 by rfl, ← hp] at r
  rw [r]
  have e1 : mant * 2 ^ u1 * (M * 2 ^ u2) = mant * M * 2 ^ (u1 + u2) := by rw [Int.pow_add]; grind
  have e3 : X - (u1 : Int) - u2 = X - ((u1 + u2 : Nat) : Int) := by omega
  rw [e1, e3, round_move]
  apply round_cross (scB_pos' (by omega)) (scB_pos' (by omega))
  unfold scA scB
  rw [e2_zero (k := -(0 + 1074)) (by omega), e2_zero (k := -(X + 1074)) (by omega), Int.mul_one, Int.mul_one, Int.mul_one, Int.mul_assoc, Int.mul_assoc]
  congr 1
  have s1 : e2 (X + 1074) = e2 (X + 52) * e2 1022 := by rw [← e2_add (by omega) (by omega)]; congr 1; omega
  have s2 : e2 (0 + 1074) = e2 52 * e2 1022 := by rw [← e2_add (by omega) (by omega)]; congr 1
  rw [s1, s2, ← Int.mul_assoc, hT, Int.mul_assoc]
theorem by_math {mant M X q r b e : Int} {k up : Nat} (hM : 0 < M) (hX0 : -52 ≤ X) (hX1 : X ≤ 21) (hT : M * e2 (X + 52) = 10 ^ k * e2 52) (hup : up ≤ 200) (hp : mant * 2 ^ up = q * M + r) (hr0 : 0 ≤ r) (hr1 : r < M) (hh : 18014398509481984 ≤ q) :
    RoundIs (scA q (-X - up)) (scB 1 (-X - up)) (r != 0) false 0 b e ↔ RoundIs (scA mant 0) (scB (10 ^ k) 0) false false 0 b e := by
  have hk : (0 : Int) < 10 ^ k := Int.pow_pos (by omega)
  rw [round_restD (x := -X - up) (more := (r != 0)) (neg := false) (mode := 0) (b := b) (e := e) hM hp hr0 hr1 (by simp) (Or.inr hh)]
  apply round_cross (scB_pos' hM) (scB_pos' hk)
  unfold scA scB
  rw [e2_zero (k := -(0 + 1074)) (by omega), e2_zero (k := -(-X - up + 1074)) (by omega), Int.mul_one, Int.mul_one]
  have s0 : (2 : Int) ^ up * e2 (-X - up + 1074) = e2 (1074 - X) := by rw [pow_e2, ← e2_add (by omega) (by omega)]; congr 1; omega
  have s1 : e2 (1074 - X) * e2 (X + 52) = e2 1074 * e2 52 := by rw [← e2_add (by omega) (by omega), ← e2_add (by omega) (by omega)]; congr 1; omega
  rw [Int.mul_assoc mant, s0, show (0 + 1074 : Int) = 1074 by rfl, Int.mul_assoc, Int.mul_assoc]
  apply congrArg (mant * ·)
  have hz := e2_pos (X + 52)
  have hy := e2_pos 52
  generalize e2 1074 = Z at *
  generalize e2 (1074 - X) = Y at *
  generalize e2 52 = Y2 at *
  generalize e2 (X + 52) = Y3 at *
  have : Y * 10 ^ k * (Y3 * Y2) = Z * M * (Y3 * Y2) := by
    have q1 : Y * 10 ^ k * (Y3 * Y2) = Y * Y3 * (10 ^ k * Y2) := by grind
    have q2 : Z * M * (Y3 * Y2) = Z * Y2 * (M * Y3) := by grind
    rw [q1, q2, s1, hT]
  exact Int.eq_of_mul_eq_mul_right (Int.ne_of_gt (Int.mul_pos hz hy)) this
end Go.Proofs.YtndeimdfklhaiaaGreatDoor.Ar
