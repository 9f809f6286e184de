/- package pred: square, cross. -/
import Derived.Test.YtbonkgmcpjaepaaGreatPdB
import Derived.Deep.RegionHeld3
namespace Go.Proofs.YtbonkgmcpjaepaaGreat
open Go.ChangeShapes Go.WideShapes Go.ChangeAt Go.RowKit
open Na Ar
set_option linter.unusedVariables false
/-- one product in a block of its own -/
theorem prAt_one {w : World} {s1 s2 : Bool} {a1 b1 a2 b2 : Option Addr} {n1 c1 m1 d1 n2 c2 m2 d2 : Nat} {p q : Rat} {K g : Nat} {t : TypeId} (hg : Pb w g t #[.bool s1, .slice a1 n1 c1, .slice b1 m1 d1, .bool s2, .slice a2 n2 c2, .slice b2 m2 d2]) (h1 : Rt w s1 a1 n1 c1 b1 m1 d1 p) (h2 : Rt w s2 a2 n2 c2 b2 m2 d2 q) (z1 : Sz p K) (z2 : Sz q K) :
    ∀ i, i < [(p, q)].length → PrAt w g i ([(p, q)].getD i (0, 0)).1 ([(p, q)].getD i (0, 0)).2 K := by
  intro i hi
  have h0 : i = 0 := by simp at hi; exact hi
  subst h0
  obtain ⟨⟨x0, x1, x2, x3, x4, x5⟩, _⟩ := hg.six
  exact ⟨s1, a1, n1, c1, b1, m1, d1, s2, a2, n2, c2, b2, m2, d2, ⟨x0, x1, x2, x3, x4, x5⟩, h1, h2, z1, z2, hg.lt⟩
section
variable {w : World} {s1 s2 s3 s4 : Bool} {a1 b1 a2 b2 a3 b3 a4 b4 : Option Addr} {n1 c1 m1 d1 n2 c2 m2 d2 n3 c3 m3 d3 n4 c4 m4 d4 : Nat} {p q r t : Rat} {k K : Nat}
set_option maxHeartbeats 3200000 in
set_option maxRecDepth 100000 in
theorem square22_any (h1 : Rt w s1 a1 n1 c1 b1 m1 d1 p) (h2 : Rt w s2 a2 n2 c2 b2 m2 d2 q) (z1 : Sz p K) (z2 : Sz q K) (hK : K ≤ 600) :
    Calls Tryz.prog 30 #[.agg #[.bool s1, .slice a1 n1 c1, .slice b1 m1 d1, .bool s2, .slice a2 n2 c2, .slice b2 m2 d2]] w fun e w' => RvQ w (p * p + q * q) (K + K + (K + K + 1)) e w' := by
  obtain ⟨w0, hw0⟩ : ∃ w0, w0 = (w.alloc (.cells #[.bool s1, .slice a1 n1 c1, .slice b1 m1 d1, .bool s2, .slice a2 n2 c2, .slice b2 m2 d2] 68)).alloc (.cells #[.bool false, .slice none 0 0, .slice none 0 0] 57) := ⟨_, rfl⟩
  obtain ⟨u1, u2, hb0, e0⟩ : Pb w0 w.heap.size 68 #[.bool s1, .slice a1 n1 c1, .slice b1 m1 d1, .bool s2, .slice a2 n2 c2, .slice b2 m2 d2] ∧ St w0 (w.heap.size + 1) 57 (.bool false) (.slice none 0 0) (.slice none 0 0) ∧ Below w.heap.size w w0 ∧ w0.heap.size = w.heap.size + 1 + 1 := by
    subst hw0
    exact pb_two _ _ _ _ _ _
  obtain ⟨g, hg⟩ : ∃ g, g = w.heap.size := ⟨_, rfl⟩
  have HG : Hid (w.heap.size = g) := hg.symm
  rw [← hg] at u1 u2 hb0 e0
  have al := alloc_below (w := w0) (.cells #[.bool s2, .slice a2 n2 c2, .slice b2 m2 d2, .bool s2, .slice a2 n2 c2, .slice b2 m2 d2] 73)
  have pN := Pb.new w0 73 #[.bool s2, .slice a2 n2 c2, .slice b2 m2 d2, .bool s2, .slice a2 n2 c2, .slice b2 m2 d2]
  have szN : (w0.alloc (.cells #[.bool s2, .slice a2 n2 c2, .slice b2 m2 d2, .bool s2, .slice a2 n2 c2, .slice b2 m2 d2] 73)).heap.size = w0.heap.size + 1 := by simp
  have hb1 := hb0.trans (al.mono (by omega))
  have r1 := h1.later (by rw [hg] at hb1; exact hb1)
  have r2 := h2.later (by rw [hg] at hb1; exact hb1)
  have u2' := u2.later al
  rw [e0] at pN
  have hs := sum22_any (N := 1) (cm := 1) (L := [(q, q)]) r1 r1 z1 z1 (prAt_one pN r2 r2 z2 z2) rfl (by omega) hK
  have HE : Hid (psum p p [(q, q)] 1 = p * p + q * q) := rfl
  have HK : Hid (K + K + 1 * (K + K + 1) = K + K + (K + K + 1)) := by show _ = _; omega
  rw [HE.out, HK.out] at hs
  have sz0 : w0.heap.size = g + 2 := e0
  clear h1 h2 r1 r2 pN hb0 al u2 e0
  go_enter Tryz.func30, Tryz.ntmps30
  go_wp2_with fail
  rw [← hw0, ← hg]
  generalize w0.alloc (.cells #[.bool s2, .slice a2 n2 c2, .slice b2 m2 d2, .bool s2, .slice a2 n2 c2, .slice b2 m2 d2] 73) = w1 at *
  refine hs.mono ?_
  rintro e wA ⟨s, a, n, c, b, m, d, rfl, hR, hz, hbA⟩
  have u3 := u2'.later hbA
  have B3 := hb1.trans (hbA.mono (by omega))
  have sA := hbA.size
  obtain ⟨x0, x1, x2⟩ := u3.cells
  obtain ⟨z0, z1', z2'⟩ := u3.frozen
  clear hs hbA hb1 u2' u1 hw0 hg
  go_wp2
  have i9 := in3 wA (g + 1) (.bool s) (.slice a n c) (.slice b m d)
  have T9 := (u3.set (.bool s) (.slice a n c) (.slice b m d)).cells
  refine bodyPost_ret (v := .agg #[.bool s, .slice a n c, .slice b m d]) (by simp [results, Tryz.results30, go_sem, T9]) rfl ?_
  refine ⟨s, a, n, c, b, m, d, rfl, ?_, hz, ?_⟩
  · rw [HG.out]
    exact (hR.inn i9 (by omega)).lower (by omega)
  · rw [HG.out]
    exact below_in B3 i9 (by omega) (by rw [HG.out]; exact Nat.le_refl _)
theorem RvQ.to {q' : Rat} {K' : Nat} {e : Ending} {w' : World} (h : RvQ w q K e w') (hq : q = q') (hk : K ≤ K') : RvQ w q' K' e w' := by
  obtain ⟨s, a, n, c, b, m, d, e1, r, z, hb⟩ := h
  subst hq
  exact ⟨s, a, n, c, b, m, d, e1, r, z.mono hk, hb⟩
set_option maxHeartbeats 3200000 in
set_option maxRecDepth 100000 in
theorem cross22_any (h1 : Rt w s1 a1 n1 c1 b1 m1 d1 p) (h2 : Rt w s2 a2 n2 c2 b2 m2 d2 q) (h3 : Rt w s3 a3 n3 c3 b3 m3 d3 r) (h4 : Rt w s4 a4 n4 c4 b4 m4 d4 t) (z1 : Sz p K) (z2 : Sz q K) (z3 : Sz r K) (z4 : Sz t K) (hK : K ≤ 600) :
    Calls Tryz.prog 31 #[.agg #[.bool s1, .slice a1 n1 c1, .slice b1 m1 d1, .bool s2, .slice a2 n2 c2, .slice b2 m2 d2], .agg #[.bool s3, .slice a3 n3 c3, .slice b3 m3 d3, .bool s4, .slice a4 n4 c4, .slice b4 m4 d4]] w fun e w' => RvQ w (p * t + -q * r) (K + K + (K + K + 1)) e w' := by
  obtain ⟨w0, hw0⟩ : ∃ w0, w0 = ((w.alloc (.cells #[.bool s1, .slice a1 n1 c1, .slice b1 m1 d1, .bool s2, .slice a2 n2 c2, .slice b2 m2 d2] 68)).alloc (.cells #[.bool s3, .slice a3 n3 c3, .slice b3 m3 d3, .bool s4, .slice a4 n4 c4, .slice b4 m4 d4] 68)).alloc (.cells #[.bool false, .slice none 0 0, .slice none 0 0] 57) := ⟨_, rfl⟩
  obtain ⟨u1, u2, u3, hb0, e0⟩ : Pb w0 w.heap.size 68 #[.bool s1, .slice a1 n1 c1, .slice b1 m1 d1, .bool s2, .slice a2 n2 c2, .slice b2 m2 d2] ∧ Pb w0 (w.heap.size + 1) 68 #[.bool s3, .slice a3 n3 c3, .slice b3 m3 d3, .bool s4, .slice a4 n4 c4, .slice b4 m4 d4] ∧ Pb w0 (w.heap.size + 1 + 1) 57 #[.bool false, .slice none 0 0, .slice none 0 0] ∧ Below w.heap.size w w0 ∧ w0.heap.size = w.heap.size + 1 + 1 + 1 := by
    subst hw0
    exact pb_three _ _ _ _ _
  have u3 : St w0 (w.heap.size + 1 + 1) 57 (.bool false) (.slice none 0 0) (.slice none 0 0) := u3
  obtain ⟨g, hg⟩ : ∃ g, g = w.heap.size := ⟨_, rfl⟩
  have HG : Hid (w.heap.size = g) := hg.symm
  have r1 := h1.later hb0
  have r2 := h2.later hb0
  have r3 := h3.later hb0
  have r4 := h4.later hb0
  rw [← hg] at u1 u2 u3 hb0 e0
  have HE0 : Hid (w0.heap.size = g + 1 + 1 + 1) := e0
  have hE0 : g + 3 ≤ w0.heap.size := by omega
  clear e0
  obtain ⟨⟨i0, i1, i2, i3, i4, i5⟩, _⟩ := u1.six
  obtain ⟨⟨j0, j1, j2, j3, j4, j5⟩, _⟩ := u2.six
  have hop := fun (wx : World) (h : Below w0.heap.size w0 wx) => opp22_at r2 (by have := r2.le z2; omega) h
  go_enter Tryz.func31, Tryz.ntmps31
  go_wp2
  rw [← hw0, ← hg]
  clear hw0 hg
  have hcl : ∀ w1, Below w0.heap.size w0 w1 → w1.cell? ⟨g, 0, none⟩ = some (.bool s1) ∧ w1.cell? ⟨g, 1, none⟩ = some (.slice a1 n1 c1) ∧ w1.cell? ⟨g, 2, none⟩ = some (.slice b1 m1 d1) ∧ w1.cell? ⟨g, 3, none⟩ = some (.bool s2) ∧ w1.cell? ⟨g, 4, none⟩ = some (.slice a2 n2 c2) ∧ w1.cell? ⟨g, 5, none⟩ = some (.slice b2 m2 d2) ∧ w1.cell? ⟨g + 1, 0, none⟩ = some (.bool s3) ∧ w1.cell? ⟨g + 1, 1, none⟩ = some (.slice a3 n3 c3) ∧ w1.cell? ⟨g + 1, 2, none⟩ = some (.slice b3 m3 d3) ∧ w1.cell? ⟨g + 1, 3, none⟩ = some (.bool s4) ∧ w1.cell? ⟨g + 1, 4, none⟩ = some (.slice a4 n4 c4) ∧ w1.cell? ⟨g + 1, 5, none⟩ = some (.slice b4 m4 d4) := fun w1 h => by
    obtain ⟨⟨i0, i1, i2, i3, i4, i5⟩, _⟩ := (u1.later h).six
    obtain ⟨⟨j0, j1, j2, j3, j4, j5⟩, _⟩ := (u2.later h).six
    exact ⟨i0, i1, i2, i3, i4, i5, j0, j1, j2, j3, j4, j5⟩
  have ne1 : ¬ g = g + 1 + 1 := by omega
  have ne2 : ¬ g + 1 + 1 = g := by omega
  go_region_held3 (fun w' => w'.cell? ⟨g, 0, none⟩ = some (.bool s1) ∧ w'.cell? ⟨g, 1, none⟩ = some (.slice a1 n1 c1) ∧ w'.cell? ⟨g, 2, none⟩ = some (.slice b1 m1 d1) ∧ w'.cell? ⟨g, 3, none⟩ = some (.bool s2) ∧ w'.cell? ⟨g, 4, none⟩ = some (.slice a2 n2 c2) ∧ w'.cell? ⟨g, 5, none⟩ = some (.slice b2 m2 d2) ∧ w'.cell? ⟨g + 1, 0, none⟩ = some (.bool s3) ∧ w'.cell? ⟨g + 1, 1, none⟩ = some (.slice a3 n3 c3) ∧ w'.cell? ⟨g + 1, 2, none⟩ = some (.slice b3 m3 d3) ∧ w'.cell? ⟨g + 1, 3, none⟩ = some (.bool s4) ∧ w'.cell? ⟨g + 1, 4, none⟩ = some (.slice a4 n4 c4) ∧ w'.cell? ⟨g + 1, 5, none⟩ = some (.slice b4 m4 d4)) (go_keep) (first | (go_at_call 43; refine (hop _ (by first | exact Below.refl _ _ | exact below_drewN (Below.refl _ _) _)).mono ?_; rintro e wX ⟨so, rfl, rO, hbX⟩; obtain ⟨i0, i1, i2, i3, i4, i5, j0, j1, j2, j3, j4, j5⟩ := hcl wX hbX; have al := alloc_below (w := wX) (.cells #[.bool so, .slice a2 n2 c2, .slice b2 m2 d2, .bool s3, .slice a3 n3 c3, .slice b3 m3 d3] 73); have hbY := hbX.trans (al.mono hbX.size)) | (go_at_call 29; refine (sum22_any (N := 1) (cm := 1) (L := [(-q, r)]) (r1.later hbY) (r4.later hbY) z1 z4 (prAt_one (Pb.new wX 73 _) (rO.later al) (r3.later hbY) z2.neg z3) rfl (by omega) hK).mono ?_; rintro e wZ ⟨s, a, n, c, b, m, d, rfl, hR, hz, hbZ⟩; have hB := hbY.trans (hbZ.mono hbY.size); obtain ⟨i0, i1, i2, i3, i4, i5, j0, j1, j2, j3, j4, j5⟩ := hcl wZ hB; have u9 := u3.later hB; obtain ⟨x0, x1, x2⟩ := u9.cells; obtain ⟨y0, y1, y2⟩ := u9.frozen))
  go_wp2
  have i9 := in3 wZ (g + 1 + 1) (.bool s) (.slice a n c) (.slice b m d)
  have T9 := (u9.set (.bool s) (.slice a n c) (.slice b m d)).cells
  have B3 := hb0.trans (hB.mono (by omega))
  have sY := hbY.size
  refine bodyPost_ret (v := .agg #[.bool s, .slice a n c, .slice b m d]) (by simp [results, Tryz.results31, go_sem, T9]) rfl ?_
  have HK : Hid (K + K + 1 * (K + K + 1) = K + K + (K + K + 1)) := by show _ = _; omega
  refine ⟨s, a, n, c, b, m, d, rfl, ?_, hz.mono (by rw [HK.out]; exact Nat.le_refl _), ?_⟩
  · rw [HG.out]
    exact (hR.inn i9 (by omega)).lower (by omega)
  · rw [HG.out]
    exact below_in B3 i9 (by omega) (by rw [HG.out]; exact Nat.le_refl _)
end
end Go.Proofs.YtbonkgmcpjaepaaGreat
