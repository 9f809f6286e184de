/- package pred: Nearer, Between, Area2 (written by genpdf.py). -/
import Derived.Test.YtbonkgmcpjaepaaGreatPdF
namespace Go.Proofs.YtbonkgmcpjaepaaGreat
open Go.ChangeShapes Go.WideShapes Go.ChangeAt Go.RowKit
open Na Ar
set_option linter.unusedVariables false
/-- the square of a distance -/
def sqR (ax ay bx by' : Rat) : Rat := (bx - ax) * (bx - ax) + (by' - ay) * (by' - ay)
theorem square22_at {w w0 : World} {s1 s2 : Bool} {a1 b1 a2 b2 : Option Addr} {n1 c1 m1 d1 n2 c2 m2 d2 : Nat} {p q : Rat} {K : Nat} (h1 : Rt w s1 a1 n1 c1 b1 m1 d1 p) (h2 : Rt w s2 a2 n2 c2 b2 m2 d2 q) (z1 : Sz p K) (z2 : Sz q K) (hK : K ≤ 600) (h : Below w0.heap.size w0 w) :
    Calls Tryz.prog 30 #[.agg #[.bool s1, .slice a1 n1 c1, .slice b1 m1 d1, .bool s2, .slice a2 n2 c2, .slice b2 m2 d2]] w fun e w' => ∃ s a n c b m d, e = .returned (.agg #[.bool s, .slice a n c, .slice b m d]) ∧ Rt w' s a n c b m d (p * p + q * q) ∧ Sz (p * p + q * q) (K + K + (K + K + 1)) ∧ Below w.heap.size w w' ∧ Below w0.heap.size w0 w' := by
  refine (square22_any h1 h2 z1 z2 hK).mono ?_
  rintro e w' ⟨s, a, n, c, b, m, d, rfl, hR, hz, hb⟩
  exact ⟨s, a, n, c, b, m, d, rfl, hR.rt22, hz, hb, h.trans (hb.mono h.size)⟩
theorem ordS_in (a b c d : Rat) : -1 ≤ ordS a b c d ∧ ordS a b c d ≤ 1 := by
  unfold ordS ordR
  (repeat' split) <;> omega
theorem mul_in {a b : Int} (ha : -1 ≤ a ∧ a ≤ 1) (hb : -1 ≤ b ∧ b ≤ 1) : -1 ≤ a * b ∧ a * b ≤ 1 := by
  rcases (show a = -1 ∨ a = 0 ∨ a = 1 by omega) with rfl | rfl | rfl <;> omega
set_option maxHeartbeats 6400000 in
set_option maxRecDepth 100000 in
theorem Nearer22_inf {w : World} {a b c d : Int × Int} (ua : U2 a) (ub : U2 b) (uc : U2 c) (ud : U2 d) (hf : ¬ (fin2 a ∧ fin2 b ∧ fin2 c ∧ fin2 d)) :
    Calls Tryz.prog 14 #[.agg #[.int .u64 a.1, .int .u64 a.2], .agg #[.int .u64 b.1, .int .u64 b.2], .agg #[.int .u64 c.1, .int .u64 c.2], .agg #[.int .u64 d.1, .int .u64 d.2]] w fun e w' => e = .returned (.tuple #[.int .i64 0, .int .i64 220]) ∧ Below w.heap.size w w' := by
  obtain ⟨w0, hw0⟩ : ∃ w0, w0 = (((w.alloc (.cells #[.int .u64 a.1, .int .u64 a.2] 28)).alloc (.cells #[.int .u64 b.1, .int .u64 b.2] 28)).alloc (.cells #[.int .u64 c.1, .int .u64 c.2] 28)).alloc (.cells #[.int .u64 d.1, .int .u64 d.2] 28) := ⟨_, rfl⟩
  have hb0 : Below w.heap.size w w0 := by
    subst hw0
    exact pts4_below _ _ _ _ _
  have al := alloc_below (w := w0) (.cells #[.int .u64 a.1, .int .u64 a.2, .int .u64 b.1, .int .u64 b.2, .int .u64 c.1, .int .u64 c.2, .int .u64 d.1, .int .u64 d.2] 28)
  have hPt := ptAt4 w0 28 ua ub uc ud
  have e0 : w0.heap.size = w.heap.size + 1 + 1 + 1 + 1 := by subst hw0; simp
  rw [e0] at hPt
  have hsp := spots22_any (c := 4) hPt (by rw [← e0]; simp) (by omega)
  have hB1 := hb0.trans (al.mono hb0.size)
  replace hsp := hsp.mono (fun e w' h => open4_inf hf h)
  clear hPt al hb0 e0 hf ua ub uc ud
  go_enter Tryz.func14, Tryz.ntmps14
  go_wp2_with fail
  rw [← hw0]
  generalize w0.alloc (.cells #[.int .u64 a.1, .int .u64 a.2, .int .u64 b.1, .int .u64 b.2, .int .u64 c.1, .int .u64 c.2, .int .u64 d.1, .int .u64 d.2] 28) = w1 at *
  refine hsp.mono ?_
  rintro e wA ⟨rfl, hbA⟩
  have B2 := hB1.trans (hbA.mono hB1.size)
  clear hsp hw0
  go_wp2
  go_ret2
  exact ⟨rfl, B2⟩
set_option maxHeartbeats 6400000 in
set_option maxRecDepth 100000 in
theorem Nearer22_fin {w : World} {a b c d : Int × Int} (ua : U2 a) (ub : U2 b) (uc : U2 c) (ud : U2 d) (fa : fin2 a) (fb : fin2 b) (fc : fin2 c) (fd : fin2 d) :
    Calls Tryz.prog 14 #[.agg #[.int .u64 a.1, .int .u64 a.2], .agg #[.int .u64 b.1, .int .u64 b.2], .agg #[.int .u64 c.1, .int .u64 c.2], .agg #[.int .u64 d.1, .int .u64 d.2]] w fun e w' => e = .returned (.tuple #[.int .i64 (ordR (sqR (valR a.1) (valR a.2) (valR b.1) (valR b.2)) (sqR (valR c.1) (valR c.2) (valR d.1) (valR d.2))), .int .i64 0]) ∧ Below w.heap.size w w' := by
  obtain ⟨w0, hw0⟩ : ∃ w0, w0 = (((w.alloc (.cells #[.int .u64 a.1, .int .u64 a.2] 28)).alloc (.cells #[.int .u64 b.1, .int .u64 b.2] 28)).alloc (.cells #[.int .u64 c.1, .int .u64 c.2] 28)).alloc (.cells #[.int .u64 d.1, .int .u64 d.2] 28) := ⟨_, rfl⟩
  have hb0 : Below w.heap.size w w0 := by
    subst hw0
    exact pts4_below _ _ _ _ _
  have al := alloc_below (w := w0) (.cells #[.int .u64 a.1, .int .u64 a.2, .int .u64 b.1, .int .u64 b.2, .int .u64 c.1, .int .u64 c.2, .int .u64 d.1, .int .u64 d.2] 28)
  have hPt := ptAt4 w0 28 ua ub uc ud
  have e0 : w0.heap.size = w.heap.size + 1 + 1 + 1 + 1 := by subst hw0; simp
  rw [e0] at hPt
  have hsp := spots22_any (c := 4) hPt (by rw [← e0]; simp) (by omega)
  have hB1 := hb0.trans (al.mono hb0.size)
  have z0 := value_size ua.1 fa.1
  have z1 := value_size ua.2 fa.2
  have z2 := value_size ub.1 fb.1
  have z3 := value_size ub.2 fb.2
  have z4 := value_size uc.1 fc.1
  have z5 := value_size uc.2 fc.2
  have z6 := value_size ud.1 fd.1
  have z7 := value_size ud.2 fd.2
  replace hsp := hsp.mono (fun e w' h => open4 ua fa ub fb uc fc ud fd h)
  clear hPt al hb0 e0 ua fa ub fb uc fc ud fd
  generalize valR a.1 = v0 at *
  generalize valR a.2 = v1 at *
  generalize valR b.1 = v2 at *
  generalize valR b.2 = v3 at *
  generalize valR c.1 = v4 at *
  generalize valR c.2 = v5 at *
  generalize valR d.1 = v6 at *
  generalize valR d.2 = v7 at *
  go_enter Tryz.func14, Tryz.ntmps14
  go_wp2_with fail
  rw [← hw0]
  generalize w0.alloc (.cells #[.int .u64 a.1, .int .u64 a.2, .int .u64 b.1, .int .u64 b.2, .int .u64 c.1, .int .u64 c.2, .int .u64 d.1, .int .u64 d.2] 28) = w1 at *
  refine hsp.mono ?_
  rintro e wA ⟨o, rfl, lo, go, A0, A1, A2, A3, A4, A5, A6, A7, hbA⟩
  have B2 := hB1.trans (hbA.mono hB1.size)
  clear hsp hw0 go
  obtain ⟨s0, a0, n0, c0, b0, m0, d0, ⟨y00, y01, y02⟩, R0⟩ := A0
  obtain ⟨s1, a1, n1, c1, b1, m1, d1, ⟨y10, y11, y12⟩, R1⟩ := A1
  obtain ⟨s2, a2, n2, c2, b2, m2, d2, ⟨y20, y21, y22⟩, R2⟩ := A2
  obtain ⟨s3, a3, n3, c3, b3, m3, d3, ⟨y30, y31, y32⟩, R3⟩ := A3
  obtain ⟨s4, a4, n4, c4, b4, m4, d4, ⟨y40, y41, y42⟩, R4⟩ := A4
  obtain ⟨s5, a5, n5, c5, b5, m5, d5, ⟨y50, y51, y52⟩, R5⟩ := A5
  obtain ⟨s6, a6, n6, c6, b6, m6, d6, ⟨y60, y61, y62⟩, R6⟩ := A6
  obtain ⟨s7, a7, n7, c7, b7, m7, d7, ⟨y70, y71, y72⟩, R7⟩ := A7
  go_wp2
  have hcl : ∀ w', Below wA.heap.size wA w' → w'.cell? ⟨o, 0, none⟩ = some (.bool s0) ∧ w'.cell? ⟨o, 1, none⟩ = some (.slice a0 n0 c0) ∧ w'.cell? ⟨o, 2, none⟩ = some (.slice b0 m0 d0) ∧ w'.cell? ⟨o, 3, none⟩ = some (.bool s1) ∧ w'.cell? ⟨o, 4, none⟩ = some (.slice a1 n1 c1) ∧ w'.cell? ⟨o, 5, none⟩ = some (.slice b1 m1 d1) ∧ w'.cell? ⟨o, 6, none⟩ = some (.bool s2) ∧ w'.cell? ⟨o, 7, none⟩ = some (.slice a2 n2 c2) ∧ w'.cell? ⟨o, 8, none⟩ = some (.slice b2 m2 d2) ∧ w'.cell? ⟨o, 9, none⟩ = some (.bool s3) ∧ w'.cell? ⟨o, 10, none⟩ = some (.slice a3 n3 c3) ∧ w'.cell? ⟨o, 11, none⟩ = some (.slice b3 m3 d3) ∧ w'.cell? ⟨o, 12, none⟩ = some (.bool s4) ∧ w'.cell? ⟨o, 13, none⟩ = some (.slice a4 n4 c4) ∧ w'.cell? ⟨o, 14, none⟩ = some (.slice b4 m4 d4) ∧ w'.cell? ⟨o, 15, none⟩ = some (.bool s5) ∧ w'.cell? ⟨o, 16, none⟩ = some (.slice a5 n5 c5) ∧ w'.cell? ⟨o, 17, none⟩ = some (.slice b5 m5 d5) ∧ w'.cell? ⟨o, 18, none⟩ = some (.bool s6) ∧ w'.cell? ⟨o, 19, none⟩ = some (.slice a6 n6 c6) ∧ w'.cell? ⟨o, 20, none⟩ = some (.slice b6 m6 d6) ∧ w'.cell? ⟨o, 21, none⟩ = some (.bool s7) ∧ w'.cell? ⟨o, 22, none⟩ = some (.slice a7 n7 c7) ∧ w'.cell? ⟨o, 23, none⟩ = some (.slice b7 m7 d7) := fun w' h => ⟨(h.cell (p := ⟨o, 0, none⟩) lo).trans y00, (h.cell (p := ⟨o, 1, none⟩) lo).trans y01, (h.cell (p := ⟨o, 2, none⟩) lo).trans y02, (h.cell (p := ⟨o, 3, none⟩) lo).trans y10, (h.cell (p := ⟨o, 4, none⟩) lo).trans y11, (h.cell (p := ⟨o, 5, none⟩) lo).trans y12, (h.cell (p := ⟨o, 6, none⟩) lo).trans y20, (h.cell (p := ⟨o, 7, none⟩) lo).trans y21, (h.cell (p := ⟨o, 8, none⟩) lo).trans y22, (h.cell (p := ⟨o, 9, none⟩) lo).trans y30, (h.cell (p := ⟨o, 10, none⟩) lo).trans y31, (h.cell (p := ⟨o, 11, none⟩) lo).trans y32, (h.cell (p := ⟨o, 12, none⟩) lo).trans y40, (h.cell (p := ⟨o, 13, none⟩) lo).trans y41, (h.cell (p := ⟨o, 14, none⟩) lo).trans y42, (h.cell (p := ⟨o, 15, none⟩) lo).trans y50, (h.cell (p := ⟨o, 16, none⟩) lo).trans y51, (h.cell (p := ⟨o, 17, none⟩) lo).trans y52, (h.cell (p := ⟨o, 18, none⟩) lo).trans y60, (h.cell (p := ⟨o, 19, none⟩) lo).trans y61, (h.cell (p := ⟨o, 20, none⟩) lo).trans y62, (h.cell (p := ⟨o, 21, none⟩) lo).trans y70, (h.cell (p := ⟨o, 22, none⟩) lo).trans y71, (h.cell (p := ⟨o, 23, none⟩) lo).trans y72⟩
  go_region_held3 (fun w' => w'.cell? ⟨o, 0, none⟩ = some (.bool s0) ∧ w'.cell? ⟨o, 1, none⟩ = some (.slice a0 n0 c0) ∧ w'.cell? ⟨o, 2, none⟩ = some (.slice b0 m0 d0) ∧ w'.cell? ⟨o, 3, none⟩ = some (.bool s1) ∧ w'.cell? ⟨o, 4, none⟩ = some (.slice a1 n1 c1) ∧ w'.cell? ⟨o, 5, none⟩ = some (.slice b1 m1 d1) ∧ w'.cell? ⟨o, 6, none⟩ = some (.bool s2) ∧ w'.cell? ⟨o, 7, none⟩ = some (.slice a2 n2 c2) ∧ w'.cell? ⟨o, 8, none⟩ = some (.slice b2 m2 d2) ∧ w'.cell? ⟨o, 9, none⟩ = some (.bool s3) ∧ w'.cell? ⟨o, 10, none⟩ = some (.slice a3 n3 c3) ∧ w'.cell? ⟨o, 11, none⟩ = some (.slice b3 m3 d3) ∧ w'.cell? ⟨o, 12, none⟩ = some (.bool s4) ∧ w'.cell? ⟨o, 13, none⟩ = some (.slice a4 n4 c4) ∧ w'.cell? ⟨o, 14, none⟩ = some (.slice b4 m4 d4) ∧ w'.cell? ⟨o, 15, none⟩ = some (.bool s5) ∧ w'.cell? ⟨o, 16, none⟩ = some (.slice a5 n5 c5) ∧ w'.cell? ⟨o, 17, none⟩ = some (.slice b5 m5 d5) ∧ w'.cell? ⟨o, 18, none⟩ = some (.bool s6) ∧ w'.cell? ⟨o, 19, none⟩ = some (.slice a6 n6 c6) ∧ w'.cell? ⟨o, 20, none⟩ = some (.slice b6 m6 d6) ∧ w'.cell? ⟨o, 21, none⟩ = some (.bool s7) ∧ w'.cell? ⟨o, 22, none⟩ = some (.slice a7 n7 c7) ∧ w'.cell? ⟨o, 23, none⟩ = some (.slice b7 m7 d7)) (go_keep) (first | (go_at_call_of 28 a0; refine (from22_at R0 R1 R2 R3 z0 z1 z2 z3 (by omega) (by first | exact Below.refl _ _ | exact below_drewN (Below.refl _ _) _)).mono ?_; rintro e wX ⟨t1, e1, x1, f1, h1, v1', g1, t2, e2, x2, f2, h2, v2', g2, rfl, Q1, Q2, Z1, Z2, _, hbX⟩; obtain ⟨y00, y01, y02, y10, y11, y12, y20, y21, y22, y30, y31, y32, y40, y41, y42, y50, y51, y52, y60, y61, y62, y70, y71, y72⟩ := hcl wX hbX) | (go_at_call_of 30 e1; refine (square22_at Q1.rt22 Q2.rt22 Z1 Z2 (by omega) hbX).mono ?_; rintro e wY ⟨t3, e3, x3, f3, h3, v3', g3, rfl, Q3, Z3, _, hbY⟩; obtain ⟨y00, y01, y02, y10, y11, y12, y20, y21, y22, y30, y31, y32, y40, y41, y42, y50, y51, y52, y60, y61, y62, y70, y71, y72⟩ := hcl wY hbY) | (go_at_call_of 28 a4; refine (from22_at R4 R5 R6 R7 z4 z5 z6 z7 (by omega) hbY).mono ?_; rintro e wZ ⟨t4, e4, x4, f4, h4, v4', g4, t5, e5, x5, f5, h5, v5', g5, rfl, Q4, Q5, Z4, Z5, hbYZ, hbZ⟩; obtain ⟨y00, y01, y02, y10, y11, y12, y20, y21, y22, y30, y31, y32, y40, y41, y42, y50, y51, y52, y60, y61, y62, y70, y71, y72⟩ := hcl wZ hbZ) | (go_at_call_of 30 e4; refine (square22_at Q4.rt22 Q5.rt22 Z4 Z5 (by omega) hbZ).mono ?_; rintro e wU ⟨t6, e6, x6, f6, h6, v6', g6, rfl, Q6, Z6, hbZU, hbU⟩; obtain ⟨y00, y01, y02, y10, y11, y12, y20, y21, y22, y30, y31, y32, y40, y41, y42, y50, y51, y52, y60, y61, y62, y70, y71, y72⟩ := hcl wU hbU) | (go_at_call 34; refine (rCmp_ok ((Q3.later hbYZ).later hbZU) Q6 Z3 Z6 (by omega) rfl).mono ?_; rintro e wV ⟨rfl, hbUV⟩; have hbV := hbU.trans (hbUV.mono hbU.size); obtain ⟨y00, y01, y02, y10, y11, y12, y20, y21, y22, y30, y31, y32, y40, y41, y42, y50, y51, y52, y60, y61, y62, y70, y71, y72⟩ := hcl wV hbV))
  go_wp2
  go_ret2
  exact ⟨rfl, B2.trans (hbV.mono B2.size)⟩
end Go.Proofs.YtbonkgmcpjaepaaGreat
