/- package pred: area2, turn, order (written by genpdd.py). -/
import Derived.Test.YtbonkgmcpjaepaaGreatPdC
namespace Go.Proofs.YtbonkgmcpjaepaaGreat
open Go.ChangeShapes Go.WideShapes Go.ChangeAt Go.RowKit
open Na Ar
set_option linter.unusedVariables false
/-- twice the area, as the program puts it together -/
def crR (ax ay bx by' cx cy : Rat) : Rat := (bx - ax) * (cy - ay) + -(by' - ay) * (cx - ax)
theorem pb_four (w : World) (A B C : Array Value) (x y z : Value) (t : TypeId) {t4 : TypeId} : Pb ((((w.alloc (.cells A t)).alloc (.cells B t)).alloc (.cells C t)).alloc (.cells #[x, y, z] t4)) w.heap.size t A ∧ Pb ((((w.alloc (.cells A t)).alloc (.cells B t)).alloc (.cells C t)).alloc (.cells #[x, y, z] t4)) (w.heap.size + 1) t B ∧ Pb ((((w.alloc (.cells A t)).alloc (.cells B t)).alloc (.cells C t)).alloc (.cells #[x, y, z] t4)) (w.heap.size + 1 + 1) t C ∧ St ((((w.alloc (.cells A t)).alloc (.cells B t)).alloc (.cells C t)).alloc (.cells #[x, y, z] t4)) (w.heap.size + 1 + 1 + 1) t4 x y z ∧ Below w.heap.size w ((((w.alloc (.cells A t)).alloc (.cells B t)).alloc (.cells C t)).alloc (.cells #[x, y, z] t4)) ∧ ((((w.alloc (.cells A t)).alloc (.cells B t)).alloc (.cells C t)).alloc (.cells #[x, y, z] t4)).heap.size = w.heap.size + 1 + 1 + 1 + 1 := by
  obtain ⟨p1, p2, p3, b, e⟩ := pb_three w A B C t (t2 := t) (t3 := t)
  have b4 := alloc_below (w := ((w.alloc (.cells A t)).alloc (.cells B t)).alloc (.cells C t)) (.cells #[x, y, z] t4)
  have p4 := st_new (((w.alloc (.cells A t)).alloc (.cells B t)).alloc (.cells C t)) x y z t4
  rw [e] at p4
  exact ⟨p1.later b4, p2.later b4, p3.later b4, p4, b.trans (b4.mono b.size), by simp⟩
section
variable {w : World} {s1 s2 s3 s4 s5 s6 : Bool} {a1 b1 a2 b2 a3 b3 a4 b4 a5 b5 a6 b6 : Option Addr} {n1 c1 m1 d1 n2 c2 m2 d2 n3 c3 m3 d3 n4 c4 m4 d4 n5 c5 m5 d5 n6 c6 m6 d6 : Nat} {q1 q2 q3 q4 q5 q6 : Rat} {k K : Nat}
set_option maxHeartbeats 6400000 in
set_option maxRecDepth 100000 in
theorem area22_any (h1 : Rt w s1 a1 n1 c1 b1 m1 d1 q1) (h2 : Rt w s2 a2 n2 c2 b2 m2 d2 q2) (h3 : Rt w s3 a3 n3 c3 b3 m3 d3 q3) (h4 : Rt w s4 a4 n4 c4 b4 m4 d4 q4) (h5 : Rt w s5 a5 n5 c5 b5 m5 d5 q5) (h6 : Rt w s6 a6 n6 c6 b6 m6 d6 q6) (z1 : Sz q1 k) (z2 : Sz q2 k) (z3 : Sz q3 k) (z4 : Sz q4 k) (z5 : Sz q5 k) (z6 : Sz q6 k) (hk : k ≤ 60) :
    Calls Tryz.prog 37 #[.agg #[.bool s1, .slice a1 n1 c1, .slice b1 m1 d1, .bool s2, .slice a2 n2 c2, .slice b2 m2 d2], .agg #[.bool s3, .slice a3 n3 c3, .slice b3 m3 d3, .bool s4, .slice a4 n4 c4, .slice b4 m4 d4], .agg #[.bool s5, .slice a5 n5 c5, .slice b5 m5 d5, .bool s6, .slice a6 n6 c6, .slice b6 m6 d6]] w fun e w' => RvQ w (crR q1 q2 q3 q4 q5 q6) (8 * k + 5) e w' := by
  obtain ⟨w0, hw0⟩ : ∃ w0, w0 = (((w.alloc (.cells #[.bool s1, .slice a1 n1 c1, .slice b1 m1 d1, .bool s2, .slice a2 n2 c2, .slice b2 m2 d2] 68)).alloc (.cells #[.bool s3, .slice a3 n3 c3, .slice b3 m3 d3, .bool s4, .slice a4 n4 c4, .slice b4 m4 d4] 68)).alloc (.cells #[.bool s5, .slice a5 n5 c5, .slice b5 m5 d5, .bool s6, .slice a6 n6 c6, .slice b6 m6 d6] 68)).alloc (.cells #[.bool false, .slice none 0 0, .slice none 0 0] 57) := ⟨_, rfl⟩
  obtain ⟨u1, u2, u3, u4, hb0, e0⟩ : Pb w0 w.heap.size 68 #[.bool s1, .slice a1 n1 c1, .slice b1 m1 d1, .bool s2, .slice a2 n2 c2, .slice b2 m2 d2] ∧ Pb w0 (w.heap.size + 1) 68 #[.bool s3, .slice a3 n3 c3, .slice b3 m3 d3, .bool s4, .slice a4 n4 c4, .slice b4 m4 d4] ∧ Pb w0 (w.heap.size + 1 + 1) 68 #[.bool s5, .slice a5 n5 c5, .slice b5 m5 d5, .bool s6, .slice a6 n6 c6, .slice b6 m6 d6] ∧ St w0 (w.heap.size + 1 + 1 + 1) 57 (.bool false) (.slice none 0 0) (.slice none 0 0) ∧ Below w.heap.size w w0 ∧ w0.heap.size = w.heap.size + 1 + 1 + 1 + 1 := by
    subst hw0
    exact pb_four _ _ _ _ _ _ _ _
  obtain ⟨g, hg⟩ : ∃ g, g = w.heap.size := ⟨_, rfl⟩
  have HG : Hid (w.heap.size = g) := hg.symm
  have r1 := h1.later hb0
  have r2 := h2.later hb0
  have r3 := h3.later hb0
  have r4 := h4.later hb0
  have r5 := h5.later hb0
  have r6 := h6.later hb0
  rw [← hg] at u1 u2 u3 u4 hb0 e0
  have HE0 : Hid (w0.heap.size = g + 1 + 1 + 1 + 1) := e0
  have hE0 : g + 4 ≤ w0.heap.size := by omega
  clear e0 h1 h2 h3 h4 h5 h6
  have hcl : ∀ w', Below w0.heap.size w0 w' → w'.cell? ⟨g, 0, none⟩ = some (.bool s1) ∧ w'.cell? ⟨g, 1, none⟩ = some (.slice a1 n1 c1) ∧ w'.cell? ⟨g, 2, none⟩ = some (.slice b1 m1 d1) ∧ w'.cell? ⟨g, 3, none⟩ = some (.bool s2) ∧ w'.cell? ⟨g, 4, none⟩ = some (.slice a2 n2 c2) ∧ w'.cell? ⟨g, 5, none⟩ = some (.slice b2 m2 d2) ∧ w'.cell? ⟨g + 1, 0, none⟩ = some (.bool s3) ∧ w'.cell? ⟨g + 1, 1, none⟩ = some (.slice a3 n3 c3) ∧ w'.cell? ⟨g + 1, 2, none⟩ = some (.slice b3 m3 d3) ∧ w'.cell? ⟨g + 1, 3, none⟩ = some (.bool s4) ∧ w'.cell? ⟨g + 1, 4, none⟩ = some (.slice a4 n4 c4) ∧ w'.cell? ⟨g + 1, 5, none⟩ = some (.slice b4 m4 d4) ∧ w'.cell? ⟨g + 1 + 1, 0, none⟩ = some (.bool s5) ∧ w'.cell? ⟨g + 1 + 1, 1, none⟩ = some (.slice a5 n5 c5) ∧ w'.cell? ⟨g + 1 + 1, 2, none⟩ = some (.slice b5 m5 d5) ∧ w'.cell? ⟨g + 1 + 1, 3, none⟩ = some (.bool s6) ∧ w'.cell? ⟨g + 1 + 1, 4, none⟩ = some (.slice a6 n6 c6) ∧ w'.cell? ⟨g + 1 + 1, 5, none⟩ = some (.slice b6 m6 d6) := fun w' h => by
    obtain ⟨⟨i00, i01, i02, i03, i04, i05⟩, _⟩ := (u1.later h).six
    obtain ⟨⟨i10, i11, i12, i13, i14, i15⟩, _⟩ := (u2.later h).six
    obtain ⟨⟨i20, i21, i22, i23, i24, i25⟩, _⟩ := (u3.later h).six
    exact ⟨i00, i01, i02, i03, i04, i05, i10, i11, i12, i13, i14, i15, i20, i21, i22, i23, i24, i25⟩
  obtain ⟨i00, i01, i02, i03, i04, i05, i10, i11, i12, i13, i14, i15, i20, i21, i22, i23, i24, i25⟩ := hcl w0 (Below.refl _ _)
  have hf1 := fun (wx : World) (h : Below w0.heap.size w0 wx) => from22_at r1 r2 r3 r4 z1 z2 z3 z4 (by omega) h
  have hf2 := fun (wx : World) (h : Below w0.heap.size w0 wx) => from22_at r1 r2 r5 r6 z1 z2 z5 z6 (by omega) h
  have ne0 : ¬ g = g + 1 + 1 + 1 := by omega
  have ne1 : ¬ g + 1 + 1 + 1 = g := by omega
  have ne2 : ¬ g = g + 1 + 1 := by omega
  have ne3 : ¬ g + 1 + 1 = g := by omega
  have ne4 : ¬ g + 1 = g + 1 + 1 + 1 := by omega
  have ne5 : ¬ g + 1 + 1 + 1 = g + 1 := by omega
  go_enter Tryz.func37, Tryz.ntmps37
  go_wp2
  rw [← hw0, ← hg]
  clear hw0 hg
  go_region_held3 (fun w' => w'.cell? ⟨g, 0, none⟩ = some (.bool s1) ∧ w'.cell? ⟨g, 1, none⟩ = some (.slice a1 n1 c1) ∧ w'.cell? ⟨g, 2, none⟩ = some (.slice b1 m1 d1) ∧ w'.cell? ⟨g, 3, none⟩ = some (.bool s2) ∧ w'.cell? ⟨g, 4, none⟩ = some (.slice a2 n2 c2) ∧ w'.cell? ⟨g, 5, none⟩ = some (.slice b2 m2 d2) ∧ w'.cell? ⟨g + 1, 0, none⟩ = some (.bool s3) ∧ w'.cell? ⟨g + 1, 1, none⟩ = some (.slice a3 n3 c3) ∧ w'.cell? ⟨g + 1, 2, none⟩ = some (.slice b3 m3 d3) ∧ w'.cell? ⟨g + 1, 3, none⟩ = some (.bool s4) ∧ w'.cell? ⟨g + 1, 4, none⟩ = some (.slice a4 n4 c4) ∧ w'.cell? ⟨g + 1, 5, none⟩ = some (.slice b4 m4 d4) ∧ w'.cell? ⟨g + 1 + 1, 0, none⟩ = some (.bool s5) ∧ w'.cell? ⟨g + 1 + 1, 1, none⟩ = some (.slice a5 n5 c5) ∧ w'.cell? ⟨g + 1 + 1, 2, none⟩ = some (.slice b5 m5 d5) ∧ w'.cell? ⟨g + 1 + 1, 3, none⟩ = some (.bool s6) ∧ w'.cell? ⟨g + 1 + 1, 4, none⟩ = some (.slice a6 n6 c6) ∧ w'.cell? ⟨g + 1 + 1, 5, none⟩ = some (.slice b6 m6 d6)) (go_keep) (first | (go_at_call_of 28 a3; refine (hf1 _ (by first | exact Below.refl _ _ | exact below_drewN (Below.refl _ _) _)).mono ?_; rintro e wX ⟨t1, e1, x1, f1, y1, v1, g1, t2, e2, x2, f2, y2, v2, g2, rfl, R1, R2, Z1, Z2, _, hbX⟩; obtain ⟨i00, i01, i02, i03, i04, i05, i10, i11, i12, i13, i14, i15, i20, i21, i22, i23, i24, i25⟩ := hcl wX hbX) | (go_at_call_of 28 a5; refine (hf2 _ hbX).mono ?_; rintro e wY ⟨t3, e3, x3, f3, y3, v3, g3, t4, e4, x4, f4, y4, v4, g4, rfl, R3, R4, Z3, Z4, hbY, hBY⟩; obtain ⟨i00, i01, i02, i03, i04, i05, i10, i11, i12, i13, i14, i15, i20, i21, i22, i23, i24, i25⟩ := hcl wY hBY) | (go_at_call 31; refine (cross22_any (R1.rt22.later hbY) (R2.rt22.later hbY) R3.rt22 R4.rt22 Z1 Z2 Z3 Z4 (by omega)).mono ?_; rintro e wZ ⟨s, a, n, c, b, m, d, rfl, hR, hz, hbZ⟩; have hB := hBY.trans (hbZ.mono hBY.size); obtain ⟨i00, i01, i02, i03, i04, i05, i10, i11, i12, i13, i14, i15, i20, i21, i22, i23, i24, i25⟩ := hcl wZ hB; have u9 := u4.later hB; obtain ⟨o0, o1, o2⟩ := u9.cells; obtain ⟨p0, p1, p2⟩ := u9.frozen))
  go_wp2
  have i9 := in3 wZ (g + 1 + 1 + 1) (.bool s) (.slice a n c) (.slice b m d)
  have T9 := (u9.set (.bool s) (.slice a n c) (.slice b m d)).cells
  have B3 := hb0.trans (hB.mono (by omega))
  have sY := hBY.size
  refine bodyPost_ret (v := .agg #[.bool s, .slice a n c, .slice b m d]) (by simp [results, Tryz.results37, go_sem, T9]) rfl ?_
  refine ⟨s, a, n, c, b, m, d, rfl, ?_, hz.mono (by omega), ?_⟩
  · rw [HG.out]
    exact (hR.inn i9 (by omega)).lower (by omega)
  · rw [HG.out]
    exact below_in B3 i9 (by omega) (by rw [HG.out]; exact Nat.le_refl _)
set_option maxHeartbeats 6400000 in
set_option maxRecDepth 100000 in
theorem turn22_any (h1 : Rt w s1 a1 n1 c1 b1 m1 d1 q1) (h2 : Rt w s2 a2 n2 c2 b2 m2 d2 q2) (h3 : Rt w s3 a3 n3 c3 b3 m3 d3 q3) (h4 : Rt w s4 a4 n4 c4 b4 m4 d4 q4) (h5 : Rt w s5 a5 n5 c5 b5 m5 d5 q5) (h6 : Rt w s6 a6 n6 c6 b6 m6 d6 q6) (z1 : Sz q1 k) (z2 : Sz q2 k) (z3 : Sz q3 k) (z4 : Sz q4 k) (z5 : Sz q5 k) (z6 : Sz q6 k) (hk : k ≤ 60) :
    Calls Tryz.prog 27 #[.agg #[.bool s1, .slice a1 n1 c1, .slice b1 m1 d1, .bool s2, .slice a2 n2 c2, .slice b2 m2 d2], .agg #[.bool s3, .slice a3 n3 c3, .slice b3 m3 d3, .bool s4, .slice a4 n4 c4, .slice b4 m4 d4], .agg #[.bool s5, .slice a5 n5 c5, .slice b5 m5 d5, .bool s6, .slice a6 n6 c6, .slice b6 m6 d6]] w fun e w' => e = .returned (.int .i64 (sgnR (crR q1 q2 q3 q4 q5 q6))) ∧ Below w.heap.size w w' := by
  obtain ⟨w0, hw0⟩ : ∃ w0, w0 = ((w.alloc (.cells #[.bool s1, .slice a1 n1 c1, .slice b1 m1 d1, .bool s2, .slice a2 n2 c2, .slice b2 m2 d2] 68)).alloc (.cells #[.bool s3, .slice a3 n3 c3, .slice b3 m3 d3, .bool s4, .slice a4 n4 c4, .slice b4 m4 d4] 68)).alloc (.cells #[.bool s5, .slice a5 n5 c5, .slice b5 m5 d5, .bool s6, .slice a6 n6 c6, .slice b6 m6 d6] 68) := ⟨_, rfl⟩
  obtain ⟨_, _, _, hb0, _⟩ : Pb w0 w.heap.size 68 #[.bool s1, .slice a1 n1 c1, .slice b1 m1 d1, .bool s2, .slice a2 n2 c2, .slice b2 m2 d2] ∧ Pb w0 (w.heap.size + 1) 68 #[.bool s3, .slice a3 n3 c3, .slice b3 m3 d3, .bool s4, .slice a4 n4 c4, .slice b4 m4 d4] ∧ Pb w0 (w.heap.size + 1 + 1) 68 #[.bool s5, .slice a5 n5 c5, .slice b5 m5 d5, .bool s6, .slice a6 n6 c6, .slice b6 m6 d6] ∧ Below w.heap.size w w0 ∧ w0.heap.size = w.heap.size + 1 + 1 + 1 := by
    subst hw0
    exact pb_three _ _ _ _ _
  have ha := area22_any (h1.later hb0) (h2.later hb0) (h3.later hb0) (h4.later hb0) (h5.later hb0) (h6.later hb0) z1 z2 z3 z4 z5 z6 hk
  generalize crR q1 q2 q3 q4 q5 q6 = Q at *
  clear h1 h2 h3 h4 h5 h6 z1 z2 z3 z4 z5 z6
  go_enter Tryz.func27, Tryz.ntmps27
  go_wp2_with fail
  rw [← hw0]
  refine ha.mono ?_
  rintro e wA ⟨s, a, n, c, b, m, d, rfl, hR, hz, hbA⟩
  have hB := hb0.trans (hbA.mono hb0.size)
  clear ha hw0
  go_wp2_with fail
  refine (rSign_any hR.rt22 (by have := hR.rt22.le hz; omega) rfl).mono ?_
  rintro e wB ⟨rfl, hbB⟩
  go_wp2
  go_ret
  exact ⟨rfl, hB.trans (hbB.mono hB.size)⟩
end
end Go.Proofs.YtbonkgmcpjaepaaGreat
