/- pred's calls at points with whole coordinates, scaled by a power of two (written by genpwe.py). -/
import Derived.Test.YtbonkgmcpjaepaaGreatPwD
namespace Go.Proofs.YtbonkgmcpjaepaaGreat
open Go.ChangeShapes Go.WideShapes Go.ChangeAt Go.RowKit
open Na Ar
set_option linter.unusedVariables false
theorem orientW {k a1 a2 pa qa b1 b2 pb qb c1 c2 pc qc : Int} (A : PtV a1 k pa) (A' : PtV a2 k qa) (B : PtV b1 k pb) (B' : PtV b2 k qb) (C : PtV c1 k pc) (C' : PtV c2 k qc) (w : World) :
    Calls Tryz.prog 7 #[.agg #[.int .u64 pa, .int .u64 qa], .agg #[.int .u64 pb, .int .u64 qb], .agg #[.int .u64 pc, .int .u64 qc]] w fun e w' => e = .returned (.tuple #[.int .i64 (sgI (crI a1 a2 b1 b2 c1 c2)), .int .i64 0]) ∧ Below w.heap.size w w' := by
  have h : Calls Tryz.prog 7 #[.agg #[.int .u64 pa, .int .u64 qa], .agg #[.int .u64 pb, .int .u64 qb], .agg #[.int .u64 pc, .int .u64 qc]] w fun e w' => e = .returned (.tuple #[.int .i64 (sgnR (crR (valR pa) (valR qa) (valR pb) (valR qb) (valR pc) (valR qc))), .int .i64 0]) ∧ Below w.heap.size w w' := Orient22_fin (a := (pa, qa)) (b := (pb, qb)) (c := (pc, qc)) (u2_of A.1 A'.1) (u2_of B.1 B'.1) (u2_of C.1 C'.1) ⟨A.2.1, A'.2.1⟩ ⟨B.2.1, B'.2.1⟩ ⟨C.2.1, C'.2.1⟩
  rw [A.2.2, A'.2.2, B.2.2, B'.2.2, C.2.2, C'.2.2] at h
  rw [cr_scale (P2_pos k)] at h
  exact h
theorem inW {k a1 a2 pa qa b1 b2 pb qb c1 c2 pc qc d1 d2 pd qd : Int} (A : PtV a1 k pa) (A' : PtV a2 k qa) (B : PtV b1 k pb) (B' : PtV b2 k qb) (C : PtV c1 k pc) (C' : PtV c2 k qc) (D : PtV d1 k pd) (D' : PtV d2 k qd) (w : World) :
    Calls Tryz.prog 12 #[.agg #[.int .u64 pa, .int .u64 qa], .agg #[.int .u64 pb, .int .u64 qb], .agg #[.int .u64 pc, .int .u64 qc], .agg #[.int .u64 pd, .int .u64 qd]] w fun e w' => e = .returned (.tuple #[.int .i64 (sgI (inI (a1 - d1) (a2 - d2) (b1 - d1) (b2 - d2) (c1 - d1) (c2 - d2))), .int .i64 0]) ∧ Below w.heap.size w w' := by
  have h : Calls Tryz.prog 12 #[.agg #[.int .u64 pa, .int .u64 qa], .agg #[.int .u64 pb, .int .u64 qb], .agg #[.int .u64 pc, .int .u64 qc], .agg #[.int .u64 pd, .int .u64 qd]] w fun e w' => e = .returned (.tuple #[.int .i64 (sgnR (inR (valR pa) (valR qa) (valR pb) (valR qb) (valR pc) (valR qc) (valR pd) (valR qd))), .int .i64 0]) ∧ Below w.heap.size w w' := InCircle22_fin (a := (pa, qa)) (b := (pb, qb)) (c := (pc, qc)) (d := (pd, qd)) (u2_of A.1 A'.1) (u2_of B.1 B'.1) (u2_of C.1 C'.1) (u2_of D.1 D'.1) ⟨A.2.1, A'.2.1⟩ ⟨B.2.1, B'.2.1⟩ ⟨C.2.1, C'.2.1⟩ ⟨D.2.1, D'.2.1⟩
  rw [A.2.2, A'.2.2, B.2.2, B'.2.2, C.2.2, C'.2.2, D.2.2, D'.2.2] at h
  rw [in_scale (P2_pos k)] at h
  exact h
theorem btwW {k a1 a2 pa qa b1 b2 pb qb c1 c2 pc qc : Int} (A : PtV a1 k pa) (A' : PtV a2 k qa) (B : PtV b1 k pb) (B' : PtV b2 k qb) (C : PtV c1 k pc) (C' : PtV c2 k qc) (w : World) :
    Calls Tryz.prog 13 #[.agg #[.int .u64 pa, .int .u64 qa], .agg #[.int .u64 pb, .int .u64 qb], .agg #[.int .u64 pc, .int .u64 qc]] w fun e w' => e = .returned (.tuple #[.bool ((crI a1 a2 b1 b2 c1 c2 == 0) && decide ((c1 - a1) * (c1 - b1) + (c2 - a2) * (c2 - b2) ≤ 0)), .int .i64 0]) ∧ Below w.heap.size w w' := by
  have h : Calls Tryz.prog 13 #[.agg #[.int .u64 pa, .int .u64 qa], .agg #[.int .u64 pb, .int .u64 qb], .agg #[.int .u64 pc, .int .u64 qc]] w fun e w' => e = .returned (.tuple #[.bool (decide (0 ≤ ordS (valR pa) (valR qa) (valR pc) (valR qc) * ordS (valR pc) (valR qc) (valR pb) (valR qb)) && decide (sgnR (crR (valR pa) (valR qa) (valR pb) (valR qb) (valR pc) (valR qc)) = 0)), .int .i64 0]) ∧ Below w.heap.size w w' := Between22_fin (a := (pa, qa)) (b := (pb, qb)) (c := (pc, qc)) (u2_of A.1 A'.1) (u2_of B.1 B'.1) (u2_of C.1 C'.1) ⟨A.2.1, A'.2.1⟩ ⟨B.2.1, B'.2.1⟩ ⟨C.2.1, C'.2.1⟩
  rw [A.2.2, A'.2.2, B.2.2, B'.2.2, C.2.2, C'.2.2] at h
  rw [cr_scale (P2_pos k), ordS_scale (P2_pos k), ordS_scale (P2_pos k), btw_int] at h
  exact h
theorem nearW {k a1 a2 pa qa b1 b2 pb qb c1 c2 pc qc d1 d2 pd qd : Int} (A : PtV a1 k pa) (A' : PtV a2 k qa) (B : PtV b1 k pb) (B' : PtV b2 k qb) (C : PtV c1 k pc) (C' : PtV c2 k qc) (D : PtV d1 k pd) (D' : PtV d2 k qd) (w : World) :
    Calls Tryz.prog 14 #[.agg #[.int .u64 pa, .int .u64 qa], .agg #[.int .u64 pb, .int .u64 qb], .agg #[.int .u64 pc, .int .u64 qc], .agg #[.int .u64 pd, .int .u64 qd]] w fun e w' => e = .returned (.tuple #[.int .i64 (sgI (sqI a1 a2 b1 b2 - sqI c1 c2 d1 d2)), .int .i64 0]) ∧ Below w.heap.size w w' := by
  have h : Calls Tryz.prog 14 #[.agg #[.int .u64 pa, .int .u64 qa], .agg #[.int .u64 pb, .int .u64 qb], .agg #[.int .u64 pc, .int .u64 qc], .agg #[.int .u64 pd, .int .u64 qd]] w fun e w' => e = .returned (.tuple #[.int .i64 (ordR (sqR (valR pa) (valR qa) (valR pb) (valR qb)) (sqR (valR pc) (valR qc) (valR pd) (valR qd))), .int .i64 0]) ∧ Below w.heap.size w w' := Nearer22_fin (a := (pa, qa)) (b := (pb, qb)) (c := (pc, qc)) (d := (pd, qd)) (u2_of A.1 A'.1) (u2_of B.1 B'.1) (u2_of C.1 C'.1) (u2_of D.1 D'.1) ⟨A.2.1, A'.2.1⟩ ⟨B.2.1, B'.2.1⟩ ⟨C.2.1, C'.2.1⟩ ⟨D.2.1, D'.2.1⟩
  rw [A.2.2, A'.2.2, B.2.2, B'.2.2, C.2.2, C'.2.2, D.2.2, D'.2.2] at h
  rw [sq_scale (P2_pos k)] at h
  exact h
theorem ordW {k a1 a2 pa qa b1 b2 pb qb : Int} (A : PtV a1 k pa) (A' : PtV a2 k qa) (B : PtV b1 k pb) (B' : PtV b2 k qb) (w : World) :
    Calls Tryz.prog 16 #[.agg #[.int .u64 pa, .int .u64 qa], .agg #[.int .u64 pb, .int .u64 qb]] w fun e w' => e = .returned (.tuple #[.int .i64 (ordI a1 a2 b1 b2), .int .i64 0]) ∧ Below w.heap.size w w' := by
  have h : Calls Tryz.prog 16 #[.agg #[.int .u64 pa, .int .u64 qa], .agg #[.int .u64 pb, .int .u64 qb]] w fun e w' => e = .returned (.tuple #[.int .i64 (ordS (valR pa) (valR qa) (valR pb) (valR qb)), .int .i64 0]) ∧ Below w.heap.size w w' := Order22_fin (a := (pa, qa)) (b := (pb, qb)) (u2_of A.1 A'.1) (u2_of B.1 B'.1) ⟨A.2.1, A'.2.1⟩ ⟨B.2.1, B'.2.1⟩
  rw [A.2.2, A'.2.2, B.2.2, B'.2.2] at h
  rw [ordS_scale (P2_pos k)] at h
  exact h
/-- the sums of PredWhole's circle -/
theorem whole_sums {px py qx qy rx ry : Int} (h1 : -8190 ≤ px ∧ px ≤ 8190) (h2 : -8190 ≤ py ∧ py ≤ 8190) (h3 : -8190 ≤ qx ∧ qx ≤ 8190) (h4 : -8190 ≤ qy ∧ qy ≤ 8190) (h5 : -8190 ≤ rx ∧ rx ≤ 8190) (h6 : -8190 ≤ ry ∧ ry ≤ 8190) :
    ∃ pxx pyy qxx qyy rxx ryy pw qw rw m1 m2 n1 m3 m4 m5 n2 m6 s1 m7 m8 n3 m9 : Int,
      px * px = pxx ∧ py * py = pyy ∧ qx * qx = qxx ∧ qy * qy = qyy ∧ rx * rx = rxx ∧ ry * ry = ryy ∧ pxx + pyy = pw ∧ qxx + qyy = qw ∧ rxx + ryy = rw ∧
      qy * rw = m1 ∧ ry * qw = m2 ∧ m1 - m2 = n1 ∧ px * n1 = m3 ∧ qx * rw = m4 ∧ rx * qw = m5 ∧ m4 - m5 = n2 ∧ py * n2 = m6 ∧ m3 - m6 = s1 ∧ qx * ry = m7 ∧ rx * qy = m8 ∧ m7 - m8 = n3 ∧ pw * n3 = m9 ∧ s1 + m9 = inI px py qx qy rx ry ∧
      (-67076100 ≤ pxx ∧ pxx ≤ 67076100) ∧ (-67076100 ≤ pyy ∧ pyy ≤ 67076100) ∧ (-67076100 ≤ qxx ∧ qxx ≤ 67076100) ∧ (-67076100 ≤ qyy ∧ qyy ≤ 67076100) ∧ (-67076100 ≤ rxx ∧ rxx ≤ 67076100) ∧ (-67076100 ≤ ryy ∧ ryy ≤ 67076100) ∧
      (-67076100 ≤ m7 ∧ m7 ≤ 67076100) ∧ (-67076100 ≤ m8 ∧ m8 ≤ 67076100) ∧
      (-1098706518000 ≤ m1 ∧ m1 ≤ 1098706518000) ∧ (-1098706518000 ≤ m2 ∧ m2 ≤ 1098706518000) ∧ (-1098706518000 ≤ m4 ∧ m4 ≤ 1098706518000) ∧ (-1098706518000 ≤ m5 ∧ m5 ≤ 1098706518000) ∧
      (-17996812764840000 ≤ m3 ∧ m3 ≤ 17996812764840000) ∧ (-17996812764840000 ≤ m6 ∧ m6 ≤ 17996812764840000) ∧ (-17996812764840000 ≤ m9 ∧ m9 ≤ 17996812764840000) := by
  have a1 := mul_bd22 h1 h1
  have a2 := mul_bd22 h2 h2
  have a3 := mul_bd22 h3 h3
  have a4 := mul_bd22 h4 h4
  have a5 := mul_bd22 h5 h5
  have a6 := mul_bd22 h6 h6
  have a7 := mul_bd22 h3 h6
  have a8 := mul_bd22 h5 h4
  have e : (8190 : Int) * 8190 = 67076100 := by decide
  rw [e] at a1 a2 a3 a4 a5 a6 a7 a8
  have w1 : -134152200 ≤ rx * rx + ry * ry ∧ rx * rx + ry * ry ≤ 134152200 := by omega
  have w2 : -134152200 ≤ qx * qx + qy * qy ∧ qx * qx + qy * qy ≤ 134152200 := by omega
  have w3 : -134152200 ≤ px * px + py * py ∧ px * px + py * py ≤ 134152200 := by omega
  have b1 := mul_bd22 h4 w1
  have b2 := mul_bd22 h6 w2
  have b4 := mul_bd22 h3 w1
  have b5 := mul_bd22 h5 w2
  have e2 : (8190 : Int) * 134152200 = 1098706518000 := by decide
  rw [e2] at b1 b2 b4 b5
  have n1 : -2197413036000 ≤ qy * (rx * rx + ry * ry) - ry * (qx * qx + qy * qy) ∧ qy * (rx * rx + ry * ry) - ry * (qx * qx + qy * qy) ≤ 2197413036000 := by omega
  have n2 : -2197413036000 ≤ qx * (rx * rx + ry * ry) - rx * (qx * qx + qy * qy) ∧ qx * (rx * rx + ry * ry) - rx * (qx * qx + qy * qy) ≤ 2197413036000 := by omega
  have n3 : -134152200 ≤ qx * ry - rx * qy ∧ qx * ry - rx * qy ≤ 134152200 := by omega
  have c3 := mul_bd22 h1 n1
  have c6 := mul_bd22 h2 n2
  have c9 := mul_bd22 w3 n3
  have e3 : (8190 : Int) * 2197413036000 = 17996812764840000 := by decide
  have e4 : (134152200 : Int) * 134152200 = 17996812764840000 := by decide
  rw [e3] at c3 c6
  rw [e4] at c9
  exact ⟨_, _, _, _, _, _, _, _, _, _, _, _, _, _, _, _, _, _, _, _, _, _, rfl, rfl, rfl, rfl, rfl, rfl, rfl, rfl, rfl, rfl, rfl, rfl, rfl, rfl, rfl, rfl, rfl, rfl, rfl, rfl, rfl, rfl, rfl, a1, a2, a3, a4, a5, a6, a7, a8, b1, b2, b4, b5, c3, c6, c9⟩
theorem whole_dot {a b c d e f : Int} (ha : -4095 ≤ a ∧ a ≤ 4095) (hb : -4095 ≤ b ∧ b ≤ 4095) (hc : -4095 ≤ c ∧ c ≤ 4095) (hd : -4095 ≤ d ∧ d ≤ 4095) (he : -4095 ≤ e ∧ e ≤ 4095) (hf : -4095 ≤ f ∧ f ≤ 4095) :
    IntKind.i64.wrap (IntKind.i64.wrap (IntKind.i64.wrap (e - a) * IntKind.i64.wrap (e - c)) + IntKind.i64.wrap (IntKind.i64.wrap (f - b) * IntKind.i64.wrap (f - d))) = (e - a) * (e - c) + (f - b) * (f - d) := by
  have p1 := mul_bd22 (a := e - a) (b := e - c) (A := 8190) (B := 8190) (by omega) (by omega)
  have p2 := mul_bd22 (a := f - b) (b := f - d) (A := 8190) (B := 8190) (by omega) (by omega)
  rw [wrI (z := e - a) (by omega), wrI (z := e - c) (by omega), wrI (z := f - b) (by omega), wrI (z := f - d) (by omega), wrI (z := (e - a) * (e - c)) (by omega), wrI (z := (f - b) * (f - d)) (by omega), wrI (by omega)]
end Go.Proofs.YtbonkgmcpjaepaaGreat
