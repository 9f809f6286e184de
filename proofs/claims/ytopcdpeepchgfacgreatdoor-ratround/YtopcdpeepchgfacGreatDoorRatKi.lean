/- rat and plumbref05 side by side; plumblaw05's raw, told. -/
import Derived.Test.YtopcdpeepchgfacGreatDoorRatKh
import Derived.Test.YtopcdpeepchgfacGreatDoorRatG
namespace Go.Proofs.YtopcdpeepchgfacGreatDoor
open Go.ChangeShapes Go.WideShapes Go.ChangeAt Go.RowKit
open Na Ar
set_option linter.unusedVariables false
/-- an answer, a Rat or an error: its sign, its lists, its number -/
def lsR : Except Int Rat → Bool
  | .ok q => decide (q.num < 0)
  | .error _ => false
def lxR : Except Int Rat → List Int
  | .ok q => words (q.num.natAbs : Int)
  | .error _ => []
def lyR : Except Int Rat → List Int
  | .ok q => words (q.den : Int)
  | .error _ => []
def leR : Except Int Rat → Int
  | .ok _ => 0
  | .error e => e
structure Od (w : World) (s : Bool) (a : Option Addr) (n c : Nat) (b : Option Addr) (m d : Nat) (R : Except Int Rat) : Prop where
  sgn : s = lsR R
  nu : RowC w a n c (lxR R)
  de : RowC w b m d (lyR R)
  ln : n ≤ 4096
  lm : m ≤ 4096
section
variable {w w' : World} {s s1 s2 : Bool} {a b a1 b1 a2 b2 : Option Addr} {n c m d n1 c1 m1 d1 n2 c2 m2 d2 : Nat} {xs ys x1 y1 x2 y2 : List Int} {R : Except Int Rat} {q : Rat} {base : Nat}
theorem Od.later (h : Od w s a n c b m d R) (hb : Below w.heap.size w w') : Od w' s a n c b m d R := ⟨h.sgn, h.nu.later hb, h.de.later hb, h.ln, h.lm⟩
theorem od_err (w : World) (e : Int) : Od w false none 0 0 none 0 0 (.error e) := ⟨rfl, rowC_nil _, rowC_nil _, by omega, by omega⟩
theorem od_ok {v1 v2 : Value} (h : RtO w base s v1 v2 q) (hz : Sz q 4096) : ∃ a n c b m d, v1 = .slice a n c ∧ v2 = .slice b m d ∧ Od w s a n c b m d (.ok q) := by
  obtain ⟨a, n, c, b, m, d, e1, e2, r⟩ := h.opens
  exact ⟨a, n, c, b, m, d, e1, e2, r.sgn, r.nu, r.de, r.le hz, r.leD hz⟩
/-- what such a function answers -/
def Says (f : Nat) (args : Array Value) (w : World) (R : Except Int Rat) : Prop :=
  ∀ w1, Below w.heap.size w w1 → Calls Tryz.prog f args w1 fun e w' => ∃ s a n c b m d, e = .returned (.tuple #[.agg #[.bool s, .slice a n c, .slice b m d], .int .i64 (leR R)]) ∧ Od w' s a n c b m d R ∧ Below w1.heap.size w1 w'
theorem sz_int {Z : Int} (h : Lt (Z.natAbs : Int) 4096) : Sz ((Z : Int) : Rat) 4096 := ⟨h, by
  have p1 : (1 : Int) < 18446744073709551616 ^ 4096 := by
    have := wpow_mono (show 1 ≤ 4096 by omega)
    have : (18446744073709551616 : Int) ^ 1 = 18446744073709551616 := by decide
    omega
  exact ⟨by omega, p1⟩⟩
theorem floor_lt {p : Rat} (z : Sz p 12) : Lt (p.floor.natAbs : Int) 4096 := by
  have dp := den_pos p
  have q0 : 0 ≤ (p.num.natAbs : Int) / (p.den : Int) := Int.ediv_nonneg (by omega) (by omega)
  have qle : (p.num.natAbs : Int) / (p.den : Int) ≤ (p.num.natAbs : Int) := Int.ediv_le_self _ (by omega)
  have lQ : Lt ((p.num.natAbs : Int) / (p.den : Int)) 12 := z.1.le q0 qle
  have one : Lt 1 12 := ⟨by omega, by
    have := wpow_mono (show 1 ≤ 12 by omega)
    omega⟩
  have lS := lt_add1 lQ one
  by_cases hp : p.num < 0
  · by_cases hr : (p.num.natAbs : Int) % (p.den : Int) = 0
    · rw [fl_neg0 hp hr, Int.natAbs_neg, show (((p.num.natAbs : Int) / (p.den : Int)).natAbs : Int) = (p.num.natAbs : Int) / (p.den : Int) by omega]
      exact lQ.mono (by omega)
    · rw [fl_neg1 hp hr, Int.natAbs_neg, show (((p.num.natAbs : Int) / (p.den : Int) + 1).natAbs : Int) = (p.num.natAbs : Int) / (p.den : Int) + 1 by omega]
      exact lS.mono (by omega)
  · rw [fl_pos hp, show (((p.num.natAbs : Int) / (p.den : Int)).natAbs : Int) = (p.num.natAbs : Int) / (p.den : Int) by omega]
    exact lQ.mono (by omega)
theorem sz_mul {p q : Rat} {k l : Nat} (z1 : Sz p k) (z2 : Sz q l) : Sz (p * q) (k + l + 1) := by
  rw [← mul_rat]
  exact (Sz.mkR (z1.1.mul z2.1) (z1.2.mul z2.2) (Int.mul_pos (den_pos p) (den_pos q))).mono (by omega)
theorem sz_div {p q : Rat} {k l : Nat} (z1 : Sz p k) (z2 : Sz q l) : Sz (p / q) (k + l + 1) := by
  by_cases hq : q = 0
  · subst hq
    rw [Rat.div_def, Rat.inv_zero, Rat.mul_zero]
    have p1 : (1 : Int) < 18446744073709551616 ^ (k + l + 1) := by
      have := wpow_mono (show 1 ≤ k + l + 1 by omega)
      omega
    exact ⟨⟨by omega, by show (0 : Int) < _; omega⟩, ⟨by omega, by show (1 : Int) < _; omega⟩⟩
  · rw [← div_rat p q hq]
    exact (Sz.mkR (z1.1.mul z2.2) (z1.2.mul z2.1) (Int.mul_pos (den_pos p) (by have : q.num ≠ 0 := fun h => hq (Rat.num_eq_zero.mp h); omega))).mono (by omega)
theorem sz_add {p q : Rat} {k l : Nat} (z1 : Sz p k) (z2 : Sz q l) : Sz (p + q) (k + l + 1) := by
  have HR := add_rat p q (decide (q.num < 0))
  rw [if_pos rfl] at HR
  have lN : Lt ((p.num.natAbs : Int) * (q.den : Int)) (k + l) := z1.1.mul z2.2
  have lM : Lt ((q.num.natAbs : Int) * (p.den : Int)) (k + l) := (z2.1.mul z1.2).mono (by omega)
  have lD : Lt ((p.den : Int) * (q.den : Int)) (k + l) := z1.2.mul z2.2
  have hD : 0 < (p.den : Int) * (q.den : Int) := Int.mul_pos (den_pos p) (den_pos q)
  have HT : ((p.den : Int) * (q.den : Int)).toNat = p.den * q.den := toNat_mul
  have n0 := lN.1
  have m0 := lM.1
  have lS := lt_add1 lN lM
  rw [← HR]
  by_cases hst : decide (p.num < 0) = decide (q.num < 0)
  · rw [hst, ← sum_same _ _ _ _ _ HT]
    exact Sz.mkR lS (lD.mono (by omega)) hD
  · by_cases hlt : (p.num.natAbs : Int) * (q.den : Int) < (q.num.natAbs : Int) * (p.den : Int)
    · rw [← sum_less _ _ hst _ _ _ _ HT]
      exact Sz.mkR ((lM.le (by omega) (by omega)).mono (by omega)) (lD.mono (by omega)) hD
    · rw [← sum_more _ _ hst _ _ _ _ HT]
      exact Sz.mkR ((lN.le (by omega) (by omega)).mono (by omega)) (lD.mono (by omega)) hD
theorem sz_sub {p q : Rat} {k l : Nat} (z1 : Sz p k) (z2 : Sz q l) : Sz (p - q) (k + l + 1) := by
  rw [Rat.sub_eq_add_neg]
  exact sz_add z1 z2.neg
end
end Go.Proofs.YtopcdpeepchgfacGreatDoor
