/- package pred: Area2 of finite points; what PredTurns asks of its numbers (written by genpdn.py). -/
import Derived.Test.YtbonkgmcpjaepaaGreatPdL
namespace Go.Proofs.YtbonkgmcpjaepaaGreat
open Go.ChangeShapes Go.WideShapes Go.ChangeAt Go.RowKit
open Na Ar
set_option linter.unusedVariables false
theorem crR_cyc (a b c d e f : Rat) : crR c d e f a b = crR a b c d e f := by unfold crR; grind
theorem crR_self (a b c d : Rat) : crR a b c d a b = 0 := by unfold crR; grind
theorem four_cells {w : World} {g : Nat} {t : TypeId} {y0 y1 y2 y3 y4 y5 y6 y7 : Value} (h : Pb w g t #[y0, y1, y2, y3, y4, y5, y6, y7]) : w.cell? ⟨g, 0, none⟩ = some y0 ∧ w.cell? ⟨g, 1, none⟩ = some y1 ∧ w.cell? ⟨g, 2, none⟩ = some y2 ∧ w.cell? ⟨g, 3, none⟩ = some y3 ∧ w.cell? ⟨g, 4, none⟩ = some y4 ∧ w.cell? ⟨g, 5, none⟩ = some y5 ∧ w.cell? ⟨g, 6, none⟩ = some y6 ∧ w.cell? ⟨g, 7, none⟩ = some y7 :=
  ⟨h.cell 0 rfl, h.cell 1 rfl, h.cell 2 rfl, h.cell 3 rfl, h.cell 4 rfl, h.cell 5 rfl, h.cell 6 rfl, h.cell 7 rfl⟩
theorem ptAt1 (w : World) (t : TypeId) {a : Int × Int} (ua : U2 a) : PtAt (w.alloc (.cells #[.int .u64 a.1, .int .u64 a.2] t)) w.heap.size 0 (fun i => [a].getD i (0, 0)) 1 := by
  have p := Pb.new w t #[.int .u64 a.1, .int .u64 a.2]
  intro i hi
  rcases (show i = 0 by omega) with rfl
  exact ⟨p.cell 0 rfl, p.cell 1 rfl, ua.1, ua.2⟩
theorem area22_at {w w0 : World} {s1 s2 s3 s4 s5 s6 : Bool} {a1 b1 a2 b2 a3 b3 a4 b4 a5 b5 a6 b6 : Option Addr} {n1 c1 m1 d1 n2 c2 m2 d2 n3 c3 m3 d3 n4 c4 m4 d4 n5 c5 m5 d5 n6 c6 m6 d6 : Nat} {q1 q2 q3 q4 q5 q6 : Rat} {k : Nat} (h1 : Rt w0 s1 a1 n1 c1 b1 m1 d1 q1) (h2 : Rt w0 s2 a2 n2 c2 b2 m2 d2 q2) (h3 : Rt w0 s3 a3 n3 c3 b3 m3 d3 q3) (h4 : Rt w0 s4 a4 n4 c4 b4 m4 d4 q4) (h5 : Rt w0 s5 a5 n5 c5 b5 m5 d5 q5) (h6 : Rt w0 s6 a6 n6 c6 b6 m6 d6 q6) (z1 : Sz q1 k) (z2 : Sz q2 k) (z3 : Sz q3 k) (z4 : Sz q4 k) (z5 : Sz q5 k) (z6 : Sz q6 k) (hk : k ≤ 60) (h : Below w0.heap.size w0 w) :
    Calls Tryz.prog 37 #[.agg #[.bool s1, .slice a1 n1 c1, .slice b1 m1 d1, .bool s2, .slice a2 n2 c2, .slice b2 m2 d2], .agg #[.bool s3, .slice a3 n3 c3, .slice b3 m3 d3, .bool s4, .slice a4 n4 c4, .slice b4 m4 d4], .agg #[.bool s5, .slice a5 n5 c5, .slice b5 m5 d5, .bool s6, .slice a6 n6 c6, .slice b6 m6 d6]] w fun e w' => ∃ s a n c b m d, e = .returned (.agg #[.bool s, .slice a n c, .slice b m d]) ∧ RtO w' w0.heap.size s (.slice a n c) (.slice b m d) (crR q1 q2 q3 q4 q5 q6) ∧ Sz (crR q1 q2 q3 q4 q5 q6) (8 * k + 5) ∧ w.heap.size ≤ w'.heap.size ∧ Below w0.heap.size w0 w' := by
  refine (area22_any (h1.later h) (h2.later h) (h3.later h) (h4.later h) (h5.later h) (h6.later h) z1 z2 z3 z4 z5 z6 hk).mono ?_
  rintro e w' ⟨s, a, n, c, b, m, d, rfl, hR, hz, hb⟩
  exact ⟨s, a, n, c, b, m, d, rfl, hR.lower h.size, hz, hb.size, h.trans (hb.mono h.size)⟩
/-- the Rat that Area2 answers -/
def ArQ (w : World) (q : Rat) (e : Ending) (w' : World) : Prop := ∃ s a n c b m d, e = .returned (.tuple #[.agg #[.bool s, .slice a n c, .slice b m d], .int .i64 0]) ∧ Rt w' s a n c b m d q ∧ n ≤ 4000000 ∧ Below w.heap.size w w'
set_option maxHeartbeats 6400000 in
set_option maxRecDepth 100000 in
theorem Area222_fin {w : World} {a b c : Int × Int} (ua : U2 a) (ub : U2 b) (uc : U2 c) (fa : fin2 a) (fb : fin2 b) (fc : fin2 c) :
    Calls Tryz.prog 22 #[.agg #[.int .u64 a.1, .int .u64 a.2], .agg #[.int .u64 b.1, .int .u64 b.2], .agg #[.int .u64 c.1, .int .u64 c.2]] w fun e w' => ArQ w (crR (valR a.1) (valR a.2) (valR b.1) (valR b.2) (valR c.1) (valR c.2)) e w' := by
  obtain ⟨w0, hw0⟩ : ∃ w0, w0 = (((w.alloc (.cells #[.int .u64 a.1, .int .u64 a.2] 28)).alloc (.cells #[.int .u64 b.1, .int .u64 b.2] 28)).alloc (.cells #[.int .u64 c.1, .int .u64 c.2] 28)).alloc (.cells #[.bool false, .slice none 0 0, .slice none 0 0] 57) := ⟨_, rfl⟩
  obtain ⟨_, _, _, u4, hb0, e0⟩ : Pb w0 w.heap.size 28 #[.int .u64 a.1, .int .u64 a.2] ∧ Pb w0 (w.heap.size + 1) 28 #[.int .u64 b.1, .int .u64 b.2] ∧ Pb w0 (w.heap.size + 1 + 1) 28 #[.int .u64 c.1, .int .u64 c.2] ∧ St w0 (w.heap.size + 1 + 1 + 1) 57 (.bool false) (.slice none 0 0) (.slice none 0 0) ∧ Below w.heap.size w w0 ∧ w0.heap.size = w.heap.size + 1 + 1 + 1 + 1 := by
    subst hw0
    exact pb_four _ _ _ _ _ _ _ _
  have al := alloc_below (w := w0) (.cells #[.int .u64 a.1, .int .u64 a.2, .int .u64 b.1, .int .u64 b.2, .int .u64 c.1, .int .u64 c.2] 28)
  have hPt := ptAt3 w0 28 ua ub uc
  have hsp := spots22_any (c := 3) hPt (by simp) (by omega)
  have hB1 := hb0.trans (al.mono hb0.size)
  have u5 := u4.later al
  obtain ⟨g, hg⟩ : ∃ g, g = w.heap.size + 1 + 1 + 1 := ⟨_, rfl⟩
  have HG : Hid (w.heap.size + 1 + 1 + 1 = g) := hg.symm
  have hge : w.heap.size ≤ g := by omega
  have hlt : g < w0.heap.size := by omega
  rw [← hg] at u5
  have hgz : w0.heap.size = g + 1 := by omega
  have HGZ : Hid (w0.heap.size = g + 1) := hgz
  rw [hgz] at hsp hlt
  have z0 := value_size ua.1 fa.1
  have z1 := value_size ua.2 fa.2
  have z2 := value_size ub.1 fb.1
  have z3 := value_size ub.2 fb.2
  have z4 := value_size uc.1 fc.1
  have z5 := value_size uc.2 fc.2
  replace hsp := hsp.mono (fun e w' h => open3 ua fa ub fb uc fc h)
  clear hPt hb0 e0 u4 hg hgz ua fa ub fb uc fc
  generalize valR a.1 = v0 at *
  generalize valR a.2 = v1 at *
  generalize valR b.1 = v2 at *
  generalize valR b.2 = v3 at *
  generalize valR c.1 = v4 at *
  generalize valR c.2 = v5 at *
  go_enter Tryz.func22, Tryz.ntmps22
  go_wp2_with fail
  rw [← hw0, HG.out]
  generalize w0.alloc (.cells #[.int .u64 a.1, .int .u64 a.2, .int .u64 b.1, .int .u64 b.2, .int .u64 c.1, .int .u64 c.2] 28) = w1 at *
  refine hsp.mono ?_
  rintro e wA ⟨o, rfl, lo, go, A0, A1, A2, A3, A4, A5, hbA⟩
  have B2 := hB1.trans (hbA.mono hB1.size)
  have u6 := u5.later hbA
  clear hsp hw0
  obtain ⟨s0, a0, n0, c0, b0, m0, d0, ⟨y00, y01, y02⟩, R0⟩ := A0
  obtain ⟨s1, a1, n1, c1, b1, m1, d1, ⟨y10, y11, y12⟩, R1⟩ := A1
  obtain ⟨s2, a2, n2, c2, b2, m2, d2, ⟨y20, y21, y22⟩, R2⟩ := A2
  obtain ⟨s3, a3, n3, c3, b3, m3, d3, ⟨y30, y31, y32⟩, R3⟩ := A3
  obtain ⟨s4, a4, n4, c4, b4, m4, d4, ⟨y40, y41, y42⟩, R4⟩ := A4
  obtain ⟨s5, a5, n5, c5, b5, m5, d5, ⟨y50, y51, y52⟩, R5⟩ := A5
  have gne : ¬ g = o := by have := al.size; have := HGZ.out; omega
  have gne2 : ¬ o = g := fun h => gne h.symm
  have hgo : g < wA.heap.size := by have := al.size; have := hbA.size; have := HGZ.out; omega
  have sA := B2.size
  clear go hlt al HGZ
  go_wp2
  have hcl : ∀ w', Below wA.heap.size wA w' → w'.cell? ⟨o, 0, none⟩ = some (.bool s0) ∧ w'.cell? ⟨o, 1, none⟩ = some (.slice a0 n0 c0) ∧ w'.cell? ⟨o, 2, none⟩ = some (.slice b0 m0 d0) ∧ w'.cell? ⟨o, 3, none⟩ = some (.bool s1) ∧ w'.cell? ⟨o, 4, none⟩ = some (.slice a1 n1 c1) ∧ w'.cell? ⟨o, 5, none⟩ = some (.slice b1 m1 d1) ∧ w'.cell? ⟨o, 6, none⟩ = some (.bool s2) ∧ w'.cell? ⟨o, 7, none⟩ = some (.slice a2 n2 c2) ∧ w'.cell? ⟨o, 8, none⟩ = some (.slice b2 m2 d2) ∧ w'.cell? ⟨o, 9, none⟩ = some (.bool s3) ∧ w'.cell? ⟨o, 10, none⟩ = some (.slice a3 n3 c3) ∧ w'.cell? ⟨o, 11, none⟩ = some (.slice b3 m3 d3) ∧ w'.cell? ⟨o, 12, none⟩ = some (.bool s4) ∧ w'.cell? ⟨o, 13, none⟩ = some (.slice a4 n4 c4) ∧ w'.cell? ⟨o, 14, none⟩ = some (.slice b4 m4 d4) ∧ w'.cell? ⟨o, 15, none⟩ = some (.bool s5) ∧ w'.cell? ⟨o, 16, none⟩ = some (.slice a5 n5 c5) ∧ w'.cell? ⟨o, 17, none⟩ = some (.slice b5 m5 d5) := fun w' h => ⟨(h.cell (p := ⟨o, 0, none⟩) lo).trans y00, (h.cell (p := ⟨o, 1, none⟩) lo).trans y01, (h.cell (p := ⟨o, 2, none⟩) lo).trans y02, (h.cell (p := ⟨o, 3, none⟩) lo).trans y10, (h.cell (p := ⟨o, 4, none⟩) lo).trans y11, (h.cell (p := ⟨o, 5, none⟩) lo).trans y12, (h.cell (p := ⟨o, 6, none⟩) lo).trans y20, (h.cell (p := ⟨o, 7, none⟩) lo).trans y21, (h.cell (p := ⟨o, 8, none⟩) lo).trans y22, (h.cell (p := ⟨o, 9, none⟩) lo).trans y30, (h.cell (p := ⟨o, 10, none⟩) lo).trans y31, (h.cell (p := ⟨o, 11, none⟩) lo).trans y32, (h.cell (p := ⟨o, 12, none⟩) lo).trans y40, (h.cell (p := ⟨o, 13, none⟩) lo).trans y41, (h.cell (p := ⟨o, 14, none⟩) lo).trans y42, (h.cell (p := ⟨o, 15, none⟩) lo).trans y50, (h.cell (p := ⟨o, 16, none⟩) lo).trans y51, (h.cell (p := ⟨o, 17, none⟩) lo).trans y52⟩
  go_region_held3 (fun w' => w'.cell? ⟨o, 0, none⟩ = some (.bool s0) ∧ w'.cell? ⟨o, 1, none⟩ = some (.slice a0 n0 c0) ∧ w'.cell? ⟨o, 2, none⟩ = some (.slice b0 m0 d0) ∧ w'.cell? ⟨o, 3, none⟩ = some (.bool s1) ∧ w'.cell? ⟨o, 4, none⟩ = some (.slice a1 n1 c1) ∧ w'.cell? ⟨o, 5, none⟩ = some (.slice b1 m1 d1) ∧ w'.cell? ⟨o, 6, none⟩ = some (.bool s2) ∧ w'.cell? ⟨o, 7, none⟩ = some (.slice a2 n2 c2) ∧ w'.cell? ⟨o, 8, none⟩ = some (.slice b2 m2 d2) ∧ w'.cell? ⟨o, 9, none⟩ = some (.bool s3) ∧ w'.cell? ⟨o, 10, none⟩ = some (.slice a3 n3 c3) ∧ w'.cell? ⟨o, 11, none⟩ = some (.slice b3 m3 d3) ∧ w'.cell? ⟨o, 12, none⟩ = some (.bool s4) ∧ w'.cell? ⟨o, 13, none⟩ = some (.slice a4 n4 c4) ∧ w'.cell? ⟨o, 14, none⟩ = some (.slice b4 m4 d4) ∧ w'.cell? ⟨o, 15, none⟩ = some (.bool s5) ∧ w'.cell? ⟨o, 16, none⟩ = some (.slice a5 n5 c5) ∧ w'.cell? ⟨o, 17, none⟩ = some (.slice b5 m5 d5)) (go_keep) ((go_at_call 37; refine (area22_at R0 R1 R2 R3 R4 R5 z0 z1 z2 z3 z4 z5 (by omega) (by first | exact Below.refl _ _ | exact below_drewN (Below.refl _ _) _)).mono ?_; rintro e wX ⟨s, a, n, c, b, m, d, rfl, hR, hz, hsX, hbX⟩; have u9 := u6.later hbX; obtain ⟨y00, y01, y02, y10, y11, y12, y20, y21, y22, y30, y31, y32, y40, y41, y42, y50, y51, y52⟩ := hcl wX hbX; obtain ⟨o0, o1, o2⟩ := u9.cells; obtain ⟨p0, p1, p2⟩ := u9.frozen))
  go_wp2
  have i9 := in3 wX g (.bool s) (.slice a n c) (.slice b m d)
  have T9 := (u9.set (.bool s) (.slice a n c) (.slice b m d)).cells
  refine bodyPost_ret (v := .tuple #[.agg #[.bool s, .slice a n c, .slice b m d], .int .i64 0]) (by simp [results, Tryz.results22, go_sem, T9]) rfl ?_
  refine ⟨s, a, n, c, b, m, d, rfl, (hR.inn i9 (by omega)).rt22, (by have := hR.rt22.le hz; omega), below_in (B2.trans (hbX.mono B2.size)) i9 hge (Nat.le_refl _)⟩
end Go.Proofs.YtbonkgmcpjaepaaGreat
