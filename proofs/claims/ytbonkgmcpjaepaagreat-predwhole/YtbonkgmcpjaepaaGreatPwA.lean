/- plumblaw22: what PredWhole asks of its numbers. -/
import Derived.Test.YtbonkgmcpjaepaaGreatPdP
namespace Go.Proofs.YtbonkgmcpjaepaaGreat
open Go.ChangeShapes Go.WideShapes Go.ChangeAt Go.RowKit
open Na Ar
set_option linter.unusedVariables false
/-- the sign of a whole number -/
def sgI (v : Int) : Int := if v < 0 then -1 else if 0 < v then 1 else 0
theorem sgI_pos {v : Int} (h : 0 < v) : sgI v = 1 := by unfold sgI; rw [if_neg (by omega), if_pos h]
theorem sgI_ng {v : Int} (h : v < 0) : sgI v = -1 := by unfold sgI; rw [if_pos h]
theorem sgI_zero : sgI 0 = 0 := by unfold sgI; rfl
theorem sgI_eq {v : Int} : sgI v = 0 ↔ v = 0 := by unfold sgI; (repeat' split) <;> omega
theorem sgI_in (v : Int) : -1 ≤ sgI v ∧ sgI v ≤ 1 := by unfold sgI; (repeat' split) <;> omega
theorem sgI_neg (v : Int) : sgI (-v) = - sgI v := by unfold sgI; (repeat' split) <;> omega
theorem sgI_mul (x y : Int) : sgI (x * y) = sgI x * sgI y := by
  rcases Int.lt_trichotomy x 0 with hx | hx | hx <;> rcases Int.lt_trichotomy y 0 with hy | hy | hy
  · rw [sgI_ng hx, sgI_ng hy, sgI_pos (Int.mul_pos_of_neg_of_neg hx hy)]; rfl
  · subst hy; rw [Int.mul_zero, sgI_zero, Int.mul_zero]
  · rw [sgI_ng hx, sgI_pos hy, sgI_ng (Int.mul_neg_of_neg_of_pos hx hy)]; rfl
  · subst hx; rw [Int.zero_mul, sgI_zero, Int.zero_mul]
  · subst hx; rw [Int.zero_mul, sgI_zero, Int.zero_mul]
  · subst hx; rw [Int.zero_mul, sgI_zero, Int.zero_mul]
  · rw [sgI_pos hx, sgI_ng hy, sgI_ng (Int.mul_neg_of_pos_of_neg hx hy)]; rfl
  · subst hy; rw [Int.mul_zero, sgI_zero, Int.mul_zero]
  · rw [sgI_pos hx, sgI_pos hy, sgI_pos (Int.mul_pos hx hy)]; rfl
theorem sgn_scale {z : Int} {q : Rat} (h : 0 < q) : sgnR ((z : Rat) * q) = sgI z := by
  rcases Int.lt_trichotomy z 0 with hz | hz | hz
  · rw [sgI_ng hz]
    refine sgnR_ng ?_
    have h2 : 0 < ((-z : Int) : Rat) := by exact_mod_cast (show 0 < -z by omega)
    have := Rat.mul_pos h2 h
    rw [Rat.intCast_neg] at this
    grind
  · subst hz; rw [sgI_zero]
    have : (((0 : Int) : Rat) * q) = 0 := by simp
    rw [this]; rfl
  · rw [sgI_pos hz]
    exact sgnR_pos (Rat.mul_pos (by exact_mod_cast hz) h)
theorem ord_int (a b : Int) : ordR (a : Rat) (b : Rat) = sgI (a - b) := by
  refine (ordR_of (sgI_in _) ?_ ?_).symm
  · rw [Rat.intCast_lt_intCast]; unfold sgI; (repeat' split) <;> omega
  · rw [sgI_eq, Rat.intCast_inj]; omega
theorem ord_scale {a b : Int} {p : Rat} (h : 0 < p) : ordR ((a : Rat) * p) ((b : Rat) * p) = sgI (a - b) := by
  rw [ordR_mul, ord_int, sgnR_pos h, Int.mul_one]
/-- the order of two places with whole coordinates -/
def ordI (ax ay bx by' : Int) : Int := if sgI (ax - bx) = 0 then sgI (ay - by') else sgI (ax - bx)
theorem ordS_scale {ax ay bx by' : Int} {p : Rat} (h : 0 < p) : ordS ((ax : Rat) * p) ((ay : Rat) * p) ((bx : Rat) * p) ((by' : Rat) * p) = ordI ax ay bx by' := by
  unfold ordS ordI
  rw [ord_scale h, ord_scale h]
def crI (ax ay bx by' cx cy : Int) : Int := (bx - ax) * (cy - ay) - (by' - ay) * (cx - ax)
theorem cr_scale {ax ay bx by' cx cy : Int} {p : Rat} (h : 0 < p) : sgnR (crR ((ax : Rat) * p) ((ay : Rat) * p) ((bx : Rat) * p) ((by' : Rat) * p) ((cx : Rat) * p) ((cy : Rat) * p)) = sgI (crI ax ay bx by' cx cy) := by
  have e : crR ((ax : Rat) * p) ((ay : Rat) * p) ((bx : Rat) * p) ((by' : Rat) * p) ((cx : Rat) * p) ((cy : Rat) * p) = ((crI ax ay bx by' cx cy : Int) : Rat) * (p * p) := by
    unfold crR crI
    simp only [Rat.intCast_sub, Rat.intCast_mul]
    grind
  rw [e]
  exact sgn_scale (Rat.mul_pos h h)
def sqI (ax ay bx by' : Int) : Int := (ax - bx) * (ax - bx) + (ay - by') * (ay - by')
theorem sq_scale {ax ay bx by' cx cy dx dy : Int} {p : Rat} (h : 0 < p) : ordR (sqR ((ax : Rat) * p) ((ay : Rat) * p) ((bx : Rat) * p) ((by' : Rat) * p)) (sqR ((cx : Rat) * p) ((cy : Rat) * p) ((dx : Rat) * p) ((dy : Rat) * p)) = sgI (sqI ax ay bx by' - sqI cx cy dx dy) := by
  have e : ∀ ax ay bx by' : Int, sqR ((ax : Rat) * p) ((ay : Rat) * p) ((bx : Rat) * p) ((by' : Rat) * p) = ((sqI ax ay bx by' : Int) : Rat) * (p * p) := by
    intro ax ay bx by'
    unfold sqR sqI
    simp only [Rat.intCast_sub, Rat.intCast_mul, Rat.intCast_add]
    grind
  rw [e, e]
  exact ord_scale (Rat.mul_pos h h)
/-- the chapter's sum, as PredWhole has it -/
def inI (px py qx qy rx ry : Int) : Int := px * (qy * (rx * rx + ry * ry) - ry * (qx * qx + qy * qy)) - py * (qx * (rx * rx + ry * ry) - rx * (qx * qx + qy * qy)) + (px * px + py * py) * (qx * ry - rx * qy)
theorem in_scale {ax ay bx by' cx cy dx dy : Int} {p : Rat} (h : 0 < p) : sgnR (inR ((ax : Rat) * p) ((ay : Rat) * p) ((bx : Rat) * p) ((by' : Rat) * p) ((cx : Rat) * p) ((cy : Rat) * p) ((dx : Rat) * p) ((dy : Rat) * p)) = sgI (inI (ax - dx) (ay - dy) (bx - dx) (by' - dy) (cx - dx) (cy - dy)) := by
  have e : inR ((ax : Rat) * p) ((ay : Rat) * p) ((bx : Rat) * p) ((by' : Rat) * p) ((cx : Rat) * p) ((cy : Rat) * p) ((dx : Rat) * p) ((dy : Rat) * p) = ((inI (ax - dx) (ay - dy) (bx - dx) (by' - dy) (cx - dx) (cy - dy) : Int) : Rat) * ((p * p) * (p * p)) := by
    unfold inR inI
    simp only [Rat.intCast_sub, Rat.intCast_mul, Rat.intCast_add]
    grind
  rw [e]
  exact sgn_scale (Rat.mul_pos (Rat.mul_pos h h) (Rat.mul_pos h h))
/-- the sign of a step, by X, then by Y -/
def lexI (x y : Int) : Int := if sgI x = 0 then sgI y else sgI x
theorem lex_dot {ux uy wx wy : Int} (h : ux * wy - uy * wx = 0) : lexI ux uy * lexI wx wy = sgI (ux * wx + uy * wy) := by
  unfold lexI
  by_cases hu : ux = 0
  · subst hu
    rw [sgI_zero, if_pos rfl]
    rw [Int.zero_mul, Int.zero_sub] at h
    rw [Int.zero_mul, Int.zero_add, sgI_mul]
    rcases Int.mul_eq_zero.mp (show uy * wx = 0 by omega) with e | e
    · subst e; rw [sgI_zero, Int.zero_mul, Int.zero_mul]
    · subst e; rw [sgI_zero, if_pos rfl]
  · have nu : sgI ux ≠ 0 := fun e => hu (sgI_eq.mp e)
    rw [if_neg nu]
    by_cases hw : wx = 0
    · subst hw
      rw [Int.mul_zero, Int.sub_zero] at h
      rcases Int.mul_eq_zero.mp h with e | e
      · exact absurd e hu
      · subst e
        rw [sgI_zero, if_pos rfl, Int.mul_zero, Int.mul_zero, Int.mul_zero, Int.add_zero, sgI_zero]
    · rw [if_neg (fun e => hw (sgI_eq.mp e))]
      have k : (ux * wx + uy * wy) * ux = wx * (ux * ux + uy * uy) := by
        have : uy * wy * ux = uy * (ux * wy) := by grind
        have e2 : ux * wy = uy * wx := by omega
        grind
      have sq : 0 < ux * ux + uy * uy := by
        have h1 : 0 < ux * ux := by
          rcases Int.lt_trichotomy ux 0 with g | g | g
          · exact Int.mul_pos_of_neg_of_neg g g
          · exact absurd g hu
          · exact Int.mul_pos g g
        have h2 : 0 ≤ uy * uy := by
          rcases Int.lt_trichotomy uy 0 with g | g | g
          · exact Int.le_of_lt (Int.mul_pos_of_neg_of_neg g g)
          · subst g; simp
          · exact Int.le_of_lt (Int.mul_pos g g)
        omega
      have k2 := congrArg sgI k
      rw [sgI_mul, sgI_mul wx, sgI_pos sq, Int.mul_one] at k2
      have b1 := sgI_in ux
      rcases (show sgI ux = -1 ∨ sgI ux = 1 by omega) with e | e <;> rw [e] at k2 ⊢ <;> omega
/-- between, by whole numbers -/
theorem btw_int {ax ay bx by' cx cy : Int} : (decide (0 ≤ ordI ax ay cx cy * ordI cx cy bx by') && decide (sgI (crI ax ay bx by' cx cy) = 0)) = ((crI ax ay bx by' cx cy == 0) && decide ((cx - ax) * (cx - bx) + (cy - ay) * (cy - by') ≤ 0)) := by
  by_cases h : crI ax ay bx by' cx cy = 0
  · rw [h, sgI_zero]
    have hc : (cx - ax) * (cy - by') - (cy - ay) * (cx - bx) = 0 := by
      have : crI ax ay bx by' cx cy = (cx - ax) * (cy - by') - (cy - ay) * (cx - bx) := by unfold crI; grind
      omega
    have l := lex_dot hc
    have o1 : ordI ax ay cx cy = - lexI (cx - ax) (cy - ay) := by
      unfold ordI lexI
      have e1 : ax - cx = -(cx - ax) := by omega
      have e2 : ay - cy = -(cy - ay) := by omega
      rw [e1, e2, sgI_neg, sgI_neg]
      by_cases g : sgI (cx - ax) = 0
      · rw [if_pos (by omega), if_pos g]
      · rw [if_neg (by omega), if_neg g]
    have o2 : ordI cx cy bx by' = lexI (cx - bx) (cy - by') := rfl
    rw [o1, o2, Int.neg_mul, l]
    generalize (cx - ax) * (cx - bx) + (cy - ay) * (cy - by') = D
    have : sgI D ≤ 0 ↔ D ≤ 0 := by unfold sgI; (repeat' split) <;> omega
    simp [this]
  · have h2 : ¬ sgI (crI ax ay bx by' cx cy) = 0 := fun e => h (sgI_eq.mp e)
    simp [h, h2]
end Go.Proofs.YtbonkgmcpjaepaaGreat
