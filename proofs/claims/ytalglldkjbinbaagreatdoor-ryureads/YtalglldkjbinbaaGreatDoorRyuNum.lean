/- the numbers of layer 12: floors by scales, the span, digits taken away, the nearest. -/
import Derived.Test.YtalglldkjbinbaaGreatDoorRyuMath
namespace Go.Proofs.YtalglldkjbinbaaGreatDoor
set_option linter.unusedVariables false
namespace Ry
/-- two fractions next to one another: nothing of less than k + k' lies nearer above than the upper one -/
theorem farey {N D h k h' k' c m C : Int} (u : h' * k = h * k' + 1) (hk : 1 ≤ k) (hk' : 0 ≤ k') (al : h * D ≤ k * N) (be : k' * N ≤ h' * D) (hC : C < k + k') (c0 : 0 ≤ c) (cC : c ≤ C) (hm : c * N < m * D) : h' * D - k' * N ≤ m * D - c * N := by
  have e1 : c = k * (h' * c - k' * m) + k' * (k * m - h * c) := by grind
  have e2 : m * D - c * N = (k * m - h * c) * (h' * D - k' * N) - (h' * c - k' * m) * (k * N - h * D) := by grind
  generalize h' * c - k' * m = a at *
  generalize k * m - h * c = b at *
  have ha : 0 ≤ k * N - h * D := by omega
  have hb : 0 ≤ h' * D - k' * N := by omega
  generalize k * N - h * D = α at *
  generalize h' * D - k' * N = β at *
  have hp : 0 < b * β - a * α := by omega
  by_cases q : b ≤ 0
  · exfalso
    have h1 : b * β ≤ 0 := Int.mul_nonpos_of_nonpos_of_nonneg q hb
    have h2 : a * α < 0 := by omega
    have h3 : a ≤ -1 := by
      by_cases z : 0 ≤ a
      · have := Int.mul_nonneg z ha; omega
      · omega
    have h4 : k * a ≤ k * (-1) := Int.mul_le_mul_of_nonneg_left h3 (by omega)
    have h5 : k' * b ≤ 0 := Int.mul_nonpos_of_nonneg_of_nonpos hk' q
    omega
  · by_cases z : 1 ≤ a
    · exfalso
      have h4 : k * 1 ≤ k * a := Int.mul_le_mul_of_nonneg_left z (by omega)
      have h5 : k' * 1 ≤ k' * b := Int.mul_le_mul_of_nonneg_left (show 1 ≤ b by omega) hk'
      omega
    · have h1 : a * α ≤ 0 := Int.mul_nonpos_of_nonpos_of_nonneg (by omega) ha
      have h2 : 1 * β ≤ b * β := Int.mul_le_mul_of_nonneg_right (by omega) hb
      omega
/-- what the check tells of a scale -/
theorem far_floor {N D V P k k' : Nat} (hD : 0 < D) (hP : 0 < P) (h : farB N D V P k k' = true) {c : Nat} (hc : c ≤ 2 ^ 55) : c * V / P = c * N / D := by
  unfold farB at h
  rw [Bool.and_eq_true, Bool.or_eq_true, Bool.and_eq_true, Bool.and_eq_true, Bool.and_eq_true] at h
  obtain ⟨h1, h2⟩ := h
  have h1 : N * P ≤ V * D := Nat.le_of_ble_eq_true h1
  have key : ∀ m, c * N < m * D → c * V < m * P := by
    intro m hm
    have hg : c * (V * D - N * P) < (m * D - c * N) * P := by
      rcases h2 with h2 | ⟨u, hk, hC, hb⟩
      · have h2 := Nat.blt_eq.mp h2
        have a1 : c * (V * D - N * P) ≤ 2 ^ 55 * (V * D - N * P) := Nat.mul_le_mul_right _ hc
        have a2 : 1 * P ≤ (m * D - c * N) * P := Nat.mul_le_mul_right _ (by omega)
        omega
      · have hb := Nat.blt_eq.mp hb
        have hC := Nat.blt_eq.mp hC
        have hk := Nat.le_of_ble_eq_true hk
        have u := Nat.eq_of_beq_eq_true u
        have a1 : c * (V * D - N * P) ≤ 2 ^ 55 * (V * D - N * P) := Nat.mul_le_mul_right _ hc
        have al : k * N / D * D ≤ k * N := Nat.div_mul_le_self _ _
        have be : k' * N < (k' * N / D + 1) * D := by
          have := Nat.lt_div_mul_add (a := k' * N) hD
          rw [Nat.add_mul, Nat.one_mul]; exact this
        generalize k * N / D = f at *
        generalize k' * N / D + 1 = f' at *
        have fa := farey (N := N) (D := D) (h := f) (k := k) (h' := f') (k' := k') (c := c) (m := m) (C := 2 ^ 55) (by exact_mod_cast u) (by omega) (by omega) (by exact_mod_cast al) (by exact_mod_cast Nat.le_of_lt be) (by omega) (by omega) (by omega) (by exact_mod_cast hm)
        have fb : f' * D - k' * N ≤ m * D - c * N := by
          have e1 : ((f' * D - k' * N : Nat) : Int) = (f' : Int) * D - k' * N := by rw [Int.ofNat_sub (Nat.le_of_lt be)]; simp
          have e2 : ((m * D - c * N : Nat) : Int) = (m : Int) * D - c * N := by rw [Int.ofNat_sub (Nat.le_of_lt hm)]; simp
          omega
        have := Nat.mul_le_mul_right P fb
        omega
    have e1 : c * (V * D - N * P) = c * V * D - c * N * P := by rw [Nat.mul_sub, Nat.mul_assoc, Nat.mul_assoc]
    have e2 : (m * D - c * N) * P = m * P * D - c * N * P := by rw [Nat.sub_mul, Nat.mul_right_comm]
    rw [e1, e2] at hg
    have l1 : c * V * D < m * P * D := by omega
    exact Nat.lt_of_mul_lt_mul_right l1
  have q1 : c * N < (c * N / D + 1) * D := by
    have := Nat.lt_div_mul_add (a := c * N) hD
    rw [Nat.add_mul, Nat.one_mul]; exact this
  have q2 := key _ q1
  have q3 : c * N / D * D ≤ c * N := Nat.div_mul_le_self _ _
  generalize c * N / D = f at *
  have q4 : f * P * D ≤ c * V * D := by
    have a1 := Nat.mul_le_mul_right P q3
    have a2 := Nat.mul_le_mul_left c h1
    have e1 : f * P * D = f * D * P := Nat.mul_right_comm _ _ _
    have e2 : c * N * P = c * (N * P) := Nat.mul_assoc _ _ _
    have e3 : c * V * D = c * (V * D) := Nat.mul_assoc _ _ _
    omega
  have q5 : f * P ≤ c * V := Nat.le_of_mul_le_mul_right q4 hD
  have r1 := (Nat.le_div_iff_mul_le hP).mpr q5
  have r2 := (Nat.div_lt_iff_lt_mul hP).mpr q2
  omega
structure ScF (i : Nat) : Prop where
  lo : 10 * ryD i ≤ ryN i
  hi : ryN i < 100 * ryD i
  s0 : 121 ≤ ryS i
  s1 : ryS i ≤ 124
  eq : ryN i * 10 ^ ryT i * 2 ^ 1076 = ryD i * 2 ^ i * 10 ^ 400
  t0 : 75 ≤ ryT i
  t1 : ryT i ≤ 690
  sx : ryT i + 1676 = ryS i + i + ryX (748 - ryT i)
  v0 : 2 ^ 127 ≤ ryV i
  v1 : ryV i < 2 ^ 128
theorem scale_facts {i : Nat} (h : i < 2046) : ScF i := by
  have c := allR_at chkB_all h
  unfold chkB at c
  simp only [Bool.and_eq_true] at c
  obtain ⟨c1, c2, c3, c4, c5, c6, c7, c8, c9, c10⟩ := c
  exact ⟨Nat.le_of_ble_eq_true c1, Nat.blt_eq.mp c2, Nat.le_of_ble_eq_true c3, Nat.le_of_ble_eq_true c4, Nat.eq_of_beq_eq_true c5, Nat.le_of_ble_eq_true c6, Nat.le_of_ble_eq_true c7, Nat.eq_of_beq_eq_true c8, Nat.le_of_ble_eq_true c9, Nat.blt_eq.mp c10⟩
theorem ryD_pos (i : Nat) : 0 < ryD i := by unfold ryD; exact Nat.mul_pos (Nat.pow_pos (by omega)) (Nat.pow_pos (by omega))
theorem scale_floor {i : Nat} (h : i < 2046) {c : Nat} (hc : c ≤ 2 ^ 55) : c * ryV i / 2 ^ ryS i = c * ryN i / ryD i :=
  far_floor (ryD_pos i) (Nat.pow_pos (by omega)) (allR_at chkA_all h) hc
/-! the span: Ls t L y: y is not below L (t: L itself goes) -/
def Ls (t : Bool) (L y : Nat) : Prop := if t = true then L ≤ y else L < y
theorem Ls_mono {t : Bool} {L y z : Nat} (h : Ls t L y) (hz : y ≤ z) : Ls t L z := by
  unfold Ls at *; split <;> simp_all <;> omega
def leN (t : Bool) (L D : Nat) : Nat := if (t && decide (L % D = 0)) = true then L / D else L / D + 1
def grN (t : Bool) (H D : Nat) : Nat := if (!t && decide (H % D = 0)) = true then H / D - 1 else H / D
theorem leN_is {t : Bool} {L D : Nat} (hD : 0 < D) (y : Nat) : Ls t L (y * D) ↔ leN t L D ≤ y := by
  unfold Ls leN
  have e := Nat.div_add_mod L D
  have l := Nat.mod_lt L hD
  have a1 : L ≤ y * D ↔ (if L % D = 0 then L / D else L / D + 1) ≤ y := by
    constructor
    · intro h
      split
      · rename_i z
        have : L / D * D ≤ y * D := by rw [Nat.mul_comm]; omega
        exact Nat.le_of_mul_le_mul_right this hD
      · rename_i z
        have : L / D * D < y * D := by rw [Nat.mul_comm]; omega
        exact Nat.lt_of_mul_lt_mul_right this
    · intro h
      split at h
      · rename_i z
        have := Nat.mul_le_mul_right D h
        rw [Nat.mul_comm] at this; omega
      · have := Nat.mul_le_mul_right D h
        rw [Nat.add_mul, Nat.mul_comm] at this; omega
  have a2 : L < y * D ↔ L / D + 1 ≤ y := by
    constructor
    · intro h
      have : L / D * D < y * D := by rw [Nat.mul_comm]; omega
      exact Nat.lt_of_mul_lt_mul_right this
    · intro h
      have := Nat.mul_le_mul_right D h
      rw [Nat.add_mul, Nat.mul_comm] at this; omega
  cases t
  · simpa using a2
  · rw [if_pos rfl, a1]; simp
theorem grN_is {t : Bool} {H D : Nat} (hD : 0 < D) (hH : 0 < H) (y : Nat) : Ls t (y * D) H ↔ y ≤ grN t H D := by
  unfold Ls grN
  have e := Nat.div_add_mod H D
  have l := Nat.mod_lt H hD
  have a1 : y * D ≤ H ↔ y ≤ H / D := (Nat.le_div_iff_mul_le hD).symm
  have a2 : y * D < H ↔ y ≤ (if H % D = 0 then H / D - 1 else H / D) := by
    split
    · rename_i z
      have p : 0 < H / D := by
        rcases Nat.eq_zero_or_pos (H / D) with q | q
        · rw [q, Nat.mul_zero] at e; omega
        · exact q
      constructor
      · intro h
        have : y * D < H / D * D := by rw [Nat.mul_comm (H / D)]; omega
        have := Nat.lt_of_mul_lt_mul_right this
        omega
      · intro h
        have := Nat.mul_le_mul_right D (show y + 1 ≤ H / D by omega)
        rw [Nat.add_mul, Nat.mul_comm (H / D)] at this; omega
    · rename_i z
      constructor
      · intro h; exact a1.mp (by omega)
      · intro h
        have := a1.mpr h
        have ne : y * D ≠ H := fun q => z (by rw [← q]; exact Nat.mul_mod_left _ _)
        omega
  cases t
  · rw [if_neg (by simp), a2]; simp
  · simpa using a1
/-- what a span holds -/
structure Sp where
  low : Nat
  high : Nat
  own : Nat
  last : Nat
  more : Bool
  tens : Nat
def lessS (s : Sp) : Sp := ⟨(s.low + 9) / 10, s.high / 10, s.own / 10, s.own % 10, s.more || !decide (s.last = 0), s.tens + 1⟩
def goS : Nat → Sp → Sp
  | 0, s => s
  | n + 1, s => if (lessS s).high < (lessS s).low then s else goS n (lessS s)
def neS (s : Sp) : Nat := max (if 5 < s.last ∨ (s.last = 5 ∧ (s.more = true ∨ s.own % 2 ≠ 0)) then s.own + 1 else s.own) s.low
/-- the number X / D, its interval from L to H: at units of U (a multiple of D) -/
structure SpI (t : Bool) (L H X U : Nat) (s : Sp) : Prop where
  lo : ∀ y, Ls t L (y * U) ↔ s.low ≤ y
  hi : ∀ y, Ls t (y * U) H ↔ y ≤ s.high
  ow : s.own * U ≤ X ∧ X < (s.own + 1) * U
  mo : (s.more || !decide (s.last = 0)) = !decide (X = s.own * U)
theorem less_is {t : Bool} {L H X U : Nat} {s : Sp} (h : SpI t L H X U s) : SpI t L H X (10 * U) (lessS s) ∧ (lessS s).last = s.own % 10 ∧ (lessS s).more = !decide (X = s.own * U) := by
  obtain ⟨h1, h2, ⟨h3, h4⟩, h5⟩ := h
  refine ⟨⟨fun y => ?_, fun y => ?_, ?_, ?_⟩, rfl, h5⟩
  · have := h1 (y * 10)
    rw [show y * (10 * U) = y * 10 * U by rw [Nat.mul_assoc], this]
    show _ ↔ (s.low + 9) / 10 ≤ y
    omega
  · have := h2 (y * 10)
    rw [show y * (10 * U) = y * 10 * U by rw [Nat.mul_assoc], this]
    show _ ↔ y ≤ s.high / 10
    omega
  · show s.own / 10 * (10 * U) ≤ X ∧ X < (s.own / 10 + 1) * (10 * U)
    have a := Nat.mul_le_mul_right U (show s.own / 10 * 10 ≤ s.own by omega)
    have b := Nat.mul_le_mul_right U (show s.own + 1 ≤ (s.own / 10 + 1) * 10 by omega)
    rw [Nat.mul_assoc] at a b
    omega
  · show ((s.more || !decide (s.last = 0)) || !decide (s.own % 10 = 0)) = !decide (X = s.own / 10 * (10 * U))
    rw [h5]
    have e : s.own / 10 * (10 * U) = s.own / 10 * 10 * U := by rw [Nat.mul_assoc]
    rw [e, Bool.eq_iff_iff]
    simp only [Bool.or_eq_true, Bool.not_eq_true', decide_eq_false_iff_not]
    constructor
    · intro q r
      have hle := Nat.mul_le_mul_right U (show s.own / 10 * 10 ≤ s.own by omega)
      have hX : X = s.own * U := by omega
      rcases q with q | q
      · exact q hX
      · have : s.own / 10 * 10 + 1 ≤ s.own := by omega
        have := Nat.mul_le_mul_right U this
        have up : 0 < U := by
          rcases Nat.eq_zero_or_pos U with z | z
          · rw [z] at h4; omega
          · exact z
        rw [Nat.add_mul] at this
        omega
    · intro q
      by_cases z : s.own % 10 = 0
      · left; intro r; apply q; rw [r]; congr 1; omega
      · right; exact z
end Ry
end Go.Proofs.YtalglldkjbinbaaGreatDoor
