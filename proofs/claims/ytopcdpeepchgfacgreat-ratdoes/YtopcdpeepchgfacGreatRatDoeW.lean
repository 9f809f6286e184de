/- RatDoes: the walk. -/
import Derived.Test.YtopcdpeepchgfacGreatRatKj
namespace Go.Proofs.YtopcdpeepchgfacGreat
open Go.ChangeShapes Go.WideShapes Go.ChangeAt Go.RowKit
open Na Ar
set_option linter.unusedVariables false
section
variable {w w' : World} {s s1 s2 : Bool} {a b a1 b1 a2 b2 : Option Addr} {n c m d n1 c1 m1 d1 n2 c2 m2 d2 : Nat} {xs ys x1 y1 x2 y2 : List Int} {R : Except Int Rat} {g : Nat} {T : TypeId} {k : Nat}
/-- a list of words lies in no Rat's own block -/
theorem RowC.offSt {a2 b2 : Option Addr} {n2 c2 m2 d2 : Nat} (h : RowC w a n c xs) (t : St w g T (.bool s) (.slice a2 n2 c2) (.slice b2 m2 d2)) : 0 < n → Off a g := by
  intro hn
  obtain ⟨bb, off, rfl, hbb, hc⟩ := h.1.at hn
  have h0 := hc 0 hn
  simp only [Nat.add_zero] at h0
  intro b' off' e
  simp only [Option.some.injEq, Addr.mk.injEq, and_true] at e
  obtain ⟨rfl, rfl⟩ := e
  rintro rfl
  obtain ⟨e0, e1, e2⟩ := t.cells
  have h3 : off = 0 ∨ off = 1 ∨ off = 2 ∨ 3 ≤ off := by omega
  rcases h3 with rfl | rfl | rfl | h3
  · rw [e0] at h0; simp at h0
  · rw [e1] at h0; simp at h0
  · rw [e2] at h0; simp at h0
  · unfold St at t
    have hge : ¬ off < 3 := by omega
    simp [World.cell?, t, hge] at h0
theorem Od.inn {a2 b2 : Option Addr} {n2 c2 m2 d2 : Nat} (h : Od w s1 a n c b m d R) (hi : In g (g + 1) w w') (t : St w g T (.bool s) (.slice a2 n2 c2) (.slice b2 m2 d2)) : Od w' s1 a n c b m d R :=
  ⟨h.sgn, h.nu.inn hi (h.nu.offSt t), h.de.inn hi (h.de.offSt t), h.ln, h.lm⟩
theorem An5.inn {a2 b2 : Option Addr} {n2 c2 m2 d2 : Nat} (h : An5 w s1 a n c b m d xs ys k) (hi : In g (g + 1) w w') (t : St w g T (.bool s) (.slice a2 n2 c2) (.slice b2 m2 d2)) : An5 w' s1 a n c b m d xs ys k :=
  ⟨h.nu.inn hi (h.nu.offSt t), h.de.inn hi (h.de.offSt t), h.wx, h.wy, h.lx, h.ly⟩
set_option maxHeartbeats 25600000 in
set_option maxRecDepth 100000 in
theorem does_walk (ha1 : RowAt .u64 w a1 n1 x1) (hb1 : RowAt .u64 w b1 m1 y1) (hx1 : Ws x1) (hy1 : Ws y1) (hn1 : n1 ≤ maxLen) (hm1 : m1 ≤ maxLen) (ha2 : RowAt .u64 w a2 n2 x2) (hb2 : RowAt .u64 w b2 m2 y2) (hx2 : Ws x2) (hy2 : Ws y2) (hn2 : n2 ≤ maxLen) (hm2 : m2 ≤ maxLen) :
    Calls Tryz.prog 3 #[.agg #[.bool s1, .slice a1 n1 c1, .slice b1 m1 d1], .agg #[.bool s2, .slice a2 n2 c2, .slice b2 m2 d2]] w fun e w' => e = .returned (.bool true) ∧ Below w.heap.size w w' := by
  have hnot : ∀ (x : Bool) (w : World), (Op.unary .not (.bool x)).run Tryz.prog w = .ok (.bool (!x)) w := fun _ _ => rfl
  obtain ⟨t1, t2, hb0⟩ := st_two w (.bool s1) (.slice a1 n1 c1) (.slice b1 m1 d1) (.bool s2) (.slice a2 n2 c2) (.slice b2 m2 d2) 24 24
  obtain ⟨w0, hw0⟩ : ∃ w0, w0 = (w.alloc (.cells #[.bool s1, .slice a1 n1 c1, .slice b1 m1 d1] 24)).alloc (.cells #[.bool s2, .slice a2 n2 c2, .slice b2 m2 d2] 24) := ⟨_, rfl⟩
  rw [← hw0] at t1 t2 hb0
  have f1 := fun w1 (h : Below w0.heap.size w0 w1) => (raw_any (s := s1) (c := c1) (d := d1) ((ha1.later hb0).later h) ((hb1.later hb0).later h) hx1 hy1 hn1 hm1).mono (R' := fun e w' => ∃ a2 n2 c2 b2 m2 d2, e = .returned (.agg #[.bool s1, .slice a2 n2 c2, .slice b2 m2 d2]) ∧ An5 w' s1 a2 n2 c2 b2 m2 d2 (x1.take 12) (y1.take 12) 12 ∧ Below w0.heap.size w0 w' ∧ Below w1.heap.size w1 w') (by
    rintro e w' ⟨a, n, c, b, m, d, rfl, o, hb'⟩
    exact ⟨_, _, _, _, _, _, rfl, o, h.trans (hb'.mono h.size), hb'⟩)
  have f2 := fun w1 (h : Below w0.heap.size w0 w1) => (raw_any (s := s2) (c := c2) (d := d2) ((ha2.later hb0).later h) ((hb2.later hb0).later h) hx2 hy2 hn2 hm2).mono (R' := fun e w' => ∃ a3 n3 c3 b3 m3 d3, e = .returned (.agg #[.bool s2, .slice a3 n3 c3, .slice b3 m3 d3]) ∧ An5 w' s2 a3 n3 c3 b3 m3 d3 (x2.take 12) (y2.take 12) 12 ∧ Below w0.heap.size w0 w' ∧ Below w1.heap.size w1 w') (by
    rintro e w' ⟨a, n, c, b, m, d, rfl, o, hb'⟩
    exact ⟨_, _, _, _, _, _, rfl, o, h.trans (hb'.mono h.size), hb'⟩)
  clear ha1 hb1 hx1 hy1 hn1 hm1 ha2 hb2 hx2 hy2 hn2 hm2
  generalize x1.take 12 = u1 at *
  generalize y1.take 12 = v1 at *
  generalize x2.take 12 = u2 at *
  generalize y2.take 12 = v2 at *
  obtain ⟨g, hg⟩ : ∃ g, g = w.heap.size := ⟨_, rfl⟩
  have HG : Hid (w.heap.size = g) := hg.symm
  rw [← hg] at t1 t2 hb0
  have HS : g ≤ w0.heap.size := by rw [hg]; exact hb0.size
  have hcl : ∀ w1, Below w0.heap.size w0 w1 → w1.cell? ⟨g, 0, none⟩ = some (.bool s1) ∧ w1.cell? ⟨g, 1, none⟩ = some (.slice a1 n1 c1) ∧ w1.cell? ⟨g, 2, none⟩ = some (.slice b1 m1 d1) ∧ w1.cell? ⟨g + 1, 0, none⟩ = some (.bool s2) ∧ w1.cell? ⟨g + 1, 1, none⟩ = some (.slice a2 n2 c2) ∧ w1.cell? ⟨g + 1, 2, none⟩ = some (.slice b2 m2 d2) := fun w1 h => by
    obtain ⟨x0, x1, x2⟩ := (t1.later h).cells
    obtain ⟨y0, y1, y2⟩ := (t2.later h).cells
    exact ⟨x0, x1, x2, y0, y1, y2⟩
  obtain ⟨p0, p1, p2, p3, p4, p5⟩ := hcl w0 (Below.refl _ _)
  have ne1 : ¬ g = g + 1 := by omega
  have ne2 : ¬ g + 1 = g := by omega
  have sG := t2.lt
  go_enter Tryz.func3, Tryz.ntmps3
  go_upto_region 1 with (fail)
  rw [← hw0, ← hg]
  clear hw0 hg
  go_cut [] from 13 to 16 (fun wx => ∃ xa xn xc xb xm xd ya yn yc yb ym yd, St wx g 24 (.bool s1) (.slice xa xn xc) (.slice xb xm xd) ∧ St wx (g + 1) 24 (.bool s2) (.slice ya yn yc) (.slice yb ym yd) ∧ An5 wx s1 xa xn xc xb xm xd u1 v1 12 ∧ An5 wx s2 ya yn yc yb ym yd u2 v2 12 ∧ Below g w wx)
  case first =>
    go_region_with (first | (go_at_call_of 4 a1; refine (f1 _ (by first | exact Below.refl _ _ | exact below_drewN (Below.refl _ _) _)).mono ?_; rintro e wX ⟨xa, xn, xc, xb, xm, xd, rfl, rx, hBX, hbX⟩; obtain ⟨p0, p1, p2, p3, p4, p5⟩ := hcl wX hBX) | (go_at_call 4; refine (f2 _ (by first | exact hBX | exact below_drewN hBX _)).mono ?_; rintro e wY ⟨ya, yn, yc, yb, ym, yd, rfl, ry, hBY, hbY⟩; obtain ⟨p0, p1, p2, p3, p4, p5⟩ := hcl wY hBY; have rxY := rx.later hbY; have t1Y := t1.later hBY; have t2Y := t2.later hBY; obtain ⟨k0, k1, k2⟩ := t1Y.frozen; obtain ⟨k3, k4, k5⟩ := t2Y.frozen))
    all_goals (go_wp2_with fail)
    all_goals go_meet
    all_goals (have I1 := in3 wY g (.bool s1) (.slice xa xn xc) (.slice xb xm xd); have I2 := in3 (((wY.setCell ⟨g, 0, none⟩ (.bool s1)).setCell ⟨g, 1, none⟩ (.slice xa xn xc)).setCell ⟨g, 2, none⟩ (.slice xb xm xd)) (g + 1) (.bool s2) (.slice ya yn yc) (.slice yb ym yd); have t1Z := t1Y.set (.bool s1) (.slice xa xn xc) (.slice xb xm xd); have t2Z := t2Y.inn I1 ne2; have t1V := t1Z.inn I2 ne1; have t2V := t2Z.set (.bool s2) (.slice ya yn yc) (.slice yb ym yd); have HV := below_in (below_in (hb0.trans (hBY.mono HS)) I1 (Nat.le_refl _) (by rw [HG.out]; exact Nat.le_refl _)) I2 (by omega) (by rw [HG.out]; exact Nat.le_refl _))
    all_goals exact ⟨_, _, _, _, _, _, _, _, _, _, _, _, t1V, t2V, (rxY.inn I1 t1Y).inn I2 t2Z, (ry.inn I1 t1Y).inn I2 t2Z, HV⟩
  obtain ⟨xa, xn, xc, xb, xm, xd, ya, yn, yc, yb, ym, yd, tA, tB, hA, hB, HC⟩ := hcut
  clear f1 f2 t1 t2 hb0 hcl p0 p1 p2 p3 p4 p5 sG HS
  obtain ⟨wC, hwC⟩ : ∃ wC, wC = wc := ⟨_, rfl⟩
  subst hwC
  have hcl : ∀ w1, Below wC.heap.size wC w1 → w1.cell? ⟨g, 0, none⟩ = some (.bool s1) ∧ w1.cell? ⟨g, 1, none⟩ = some (.slice xa xn xc) ∧ w1.cell? ⟨g, 2, none⟩ = some (.slice xb xm xd) ∧ w1.cell? ⟨g + 1, 0, none⟩ = some (.bool s2) ∧ w1.cell? ⟨g + 1, 1, none⟩ = some (.slice ya yn yc) ∧ w1.cell? ⟨g + 1, 2, none⟩ = some (.slice yb ym yd) := fun w1 h => by
    obtain ⟨x0, x1, x2⟩ := (tA.later h).cells
    obtain ⟨y0, y1, y2⟩ := (tB.later h).cells
    exact ⟨x0, x1, x2, y0, y1, y2⟩
  obtain ⟨R1, pAdd, rAdd⟩ := bothAdd hA hB
  obtain ⟨R2, pSub, rSub⟩ := bothSub hA hB
  obtain ⟨R3, pMul, rMul⟩ := bothMul hA hB
  obtain ⟨R4, pDiv, rDiv⟩ := bothDiv hA hB
  obtain ⟨R5, pFlo, rFlo⟩ := bothFloor hA
  obtain ⟨K, E, pCmp, rCmp⟩ := bothCmp hA hB
  have sC := tB.lt
  have sW := HC.size
  clear hA hB tA tB
  have H0 := Below.refl wC.heap.size wC
  obtain ⟨p0, p1, p2, p3, p4, p5⟩ := hcl wC H0
  go_wp2_with fail
  refine (pAdd _ H0).mono ?_
  rintro e w1 ⟨s1, a1, n1, c1, b1, m1, d1, rfl, o1, hb1⟩
  have H1 := H0.trans (hb1.mono H0.size)
  obtain ⟨p0, p1, p2, p3, p4, p5⟩ := hcl w1 H1
  go_upto_region 3 with (fail)
  have tx := st_new w1 (.bool s1) (.slice a1 n1 c1) (.slice b1 m1 d1) 24
  have ha1 := alloc_below (w := w1) (.cells #[.bool s1, .slice a1 n1 c1, .slice b1 m1 d1] 24)
  have ox := o1.later ha1
  have HX := H1.trans (ha1.mono H1.size)
  generalize w1.alloc (.cells #[.bool s1, .slice a1 n1 c1, .slice b1 m1 d1] 24) = z1 at *
  have kx : wC.heap.size ≤ w1.heap.size := H1.size
  obtain ⟨gx, hgx⟩ : ∃ gx, gx = w1.heap.size := ⟨_, rfl⟩
  rw [← hgx] at tx kx ⊢
  clear hgx ha1
  obtain ⟨p0, p1, p2, p3, p4, p5⟩ := hcl z1 HX
  go_wp2_with fail
  refine (rAdd _ HX).mono ?_
  rintro e w2 ⟨s2, a2, n2, c2, b2, m2, d2, rfl, o2, hb2⟩
  have H2 := HX.trans (hb2.mono HX.size)
  obtain ⟨p0, p1, p2, p3, p4, p5⟩ := hcl w2 H2
  go_upto_region 4 with (fail)
  have ty := st_new w2 (.bool s2) (.slice a2 n2 c2) (.slice b2 m2 d2) 24
  have ha2 := alloc_below (w := w2) (.cells #[.bool s2, .slice a2 n2 c2, .slice b2 m2 d2] 24)
  have oy := o2.later ha2
  have tx0 : gx < w2.heap.size := (tx.later hb2).lt
  replace ox := (ox.later hb2).later ha2
  replace tx := (tx.later hb2).later ha2
  have HY := H2.trans (ha2.mono H2.size)
  have sx : gx < w2.heap.size := tx0
  generalize w2.alloc (.cells #[.bool s2, .slice a2 n2 c2, .slice b2 m2 d2] 24) = z2 at *
  obtain ⟨gy, hgy⟩ : ∃ gy, gy = w2.heap.size := ⟨_, rfl⟩
  rw [← hgy] at ty sx ⊢
  have nxy : ¬ gx = gy := by omega
  have nyx : ¬ gy = gx := by omega
  have ky : wC.heap.size ≤ gy := by omega
  clear hgy ha2
  obtain ⟨p0, p1, p2, p3, p4, p5⟩ := hcl z2 HY
  obtain ⟨q0, q1, q2⟩ := tx.cells
  obtain ⟨q3, q4, q5⟩ := ty.cells
  go_wp2_with fail
  refine (told_yes ox oy).mono ?_
  rintro e y1 ⟨rfl, hbt⟩
  replace tx := tx.later hbt
  replace ty := ty.later hbt
  have HT1 := HY.trans (hbt.mono HY.size)
  clear q0 q1 q2 q3 q4 q5 ox oy hbt
  obtain ⟨p0, p1, p2, p3, p4, p5⟩ := hcl y1 HT1
  go_wp2_with fail
  refine (pSub _ HT1).mono ?_
  rintro e w3 ⟨s3, a3, n3, c3, b3, m3, d3, rfl, o3, hb3⟩
  have H3 := HT1.trans (hb3.mono HT1.size)
  obtain ⟨p0, p1, p2, p3, p4, p5⟩ := hcl w3 H3
  replace tx := tx.later hb3
  replace ty := ty.later hb3
  obtain ⟨q0, q1, q2⟩ := tx.cells
  obtain ⟨q3, q4, q5⟩ := tx.frozen
  go_upto_region 7 with (fail)
  have I3 := in3 w3 gx (.bool s3) (.slice a3 n3 c3) (.slice b3 m3 d3)
  have ox := o3.inn I3 tx
  replace ty := ty.inn I3 nyx
  replace tx := tx.set (.bool s3) (.slice a3 n3 c3) (.slice b3 m3 d3)
  have HI3 := below_in H3 I3 kx (Nat.le_refl _)
  clear q0 q1 q2 q3 q4 q5 I3
  generalize (((w3.setCell ⟨gx, 0, none⟩ (.bool s3)).setCell ⟨gx, 1, none⟩ (.slice a3 n3 c3)).setCell ⟨gx, 2, none⟩ (.slice b3 m3 d3)) = z3 at *
  obtain ⟨p0, p1, p2, p3, p4, p5⟩ := hcl z3 HI3
  go_wp2_with fail
  refine (rSub _ HI3).mono ?_
  rintro e w4 ⟨s4, a4, n4, c4, b4, m4, d4, rfl, o4, hb4⟩
  have H4 := HI3.trans (hb4.mono HI3.size)
  obtain ⟨p0, p1, p2, p3, p4, p5⟩ := hcl w4 H4
  replace tx := tx.later hb4
  replace ty := ty.later hb4
  replace ox := ox.later hb4
  obtain ⟨q0, q1, q2⟩ := ty.cells
  obtain ⟨q3, q4, q5⟩ := ty.frozen
  go_upto_region 8 with (fail)
  have I4 := in3 w4 gy (.bool s4) (.slice a4 n4 c4) (.slice b4 m4 d4)
  have oy := o4.inn I4 ty
  replace ox := ox.inn I4 ty
  replace tx := tx.inn I4 nxy
  replace ty := ty.set (.bool s4) (.slice a4 n4 c4) (.slice b4 m4 d4)
  have HI4 := below_in H4 I4 ky (Nat.le_refl _)
  clear q0 q1 q2 q3 q4 q5 I4
  generalize (((w4.setCell ⟨gy, 0, none⟩ (.bool s4)).setCell ⟨gy, 1, none⟩ (.slice a4 n4 c4)).setCell ⟨gy, 2, none⟩ (.slice b4 m4 d4)) = z4 at *
  obtain ⟨p0, p1, p2, p3, p4, p5⟩ := hcl z4 HI4
  obtain ⟨q0, q1, q2⟩ := tx.cells
  obtain ⟨q3, q4, q5⟩ := ty.cells
  go_wp2_with fail
  refine (told_yes ox oy).mono ?_
  rintro e y4 ⟨rfl, hbt⟩
  replace tx := tx.later hbt
  replace ty := ty.later hbt
  have HT4 := HI4.trans (hbt.mono HI4.size)
  clear q0 q1 q2 q3 q4 q5 ox oy hbt
  obtain ⟨p0, p1, p2, p3, p4, p5⟩ := hcl y4 HT4
  go_wp2_with fail
  refine (pMul _ HT4).mono ?_
  rintro e w5 ⟨s5, a5, n5, c5, b5, m5, d5, rfl, o5, hb5⟩
  have H5 := HT4.trans (hb5.mono HT4.size)
  obtain ⟨p0, p1, p2, p3, p4, p5⟩ := hcl w5 H5
  replace tx := tx.later hb5
  replace ty := ty.later hb5
  obtain ⟨q0, q1, q2⟩ := tx.cells
  obtain ⟨q3, q4, q5⟩ := tx.frozen
  go_upto_region 11 with (fail)
  have I5 := in3 w5 gx (.bool s5) (.slice a5 n5 c5) (.slice b5 m5 d5)
  have ox := o5.inn I5 tx
  replace ty := ty.inn I5 nyx
  replace tx := tx.set (.bool s5) (.slice a5 n5 c5) (.slice b5 m5 d5)
  have HI5 := below_in H5 I5 kx (Nat.le_refl _)
  clear q0 q1 q2 q3 q4 q5 I5
  generalize (((w5.setCell ⟨gx, 0, none⟩ (.bool s5)).setCell ⟨gx, 1, none⟩ (.slice a5 n5 c5)).setCell ⟨gx, 2, none⟩ (.slice b5 m5 d5)) = z5 at *
  obtain ⟨p0, p1, p2, p3, p4, p5⟩ := hcl z5 HI5
  go_wp2_with fail
  refine (rMul _ HI5).mono ?_
  rintro e w6 ⟨s6, a6, n6, c6, b6, m6, d6, rfl, o6, hb6⟩
  have H6 := HI5.trans (hb6.mono HI5.size)
  obtain ⟨p0, p1, p2, p3, p4, p5⟩ := hcl w6 H6
  replace tx := tx.later hb6
  replace ty := ty.later hb6
  replace ox := ox.later hb6
  obtain ⟨q0, q1, q2⟩ := ty.cells
  obtain ⟨q3, q4, q5⟩ := ty.frozen
  go_upto_region 12 with (fail)
  have I6 := in3 w6 gy (.bool s6) (.slice a6 n6 c6) (.slice b6 m6 d6)
  have oy := o6.inn I6 ty
  replace ox := ox.inn I6 ty
  replace tx := tx.inn I6 nxy
  replace ty := ty.set (.bool s6) (.slice a6 n6 c6) (.slice b6 m6 d6)
  have HI6 := below_in H6 I6 ky (Nat.le_refl _)
  clear q0 q1 q2 q3 q4 q5 I6
  generalize (((w6.setCell ⟨gy, 0, none⟩ (.bool s6)).setCell ⟨gy, 1, none⟩ (.slice a6 n6 c6)).setCell ⟨gy, 2, none⟩ (.slice b6 m6 d6)) = z6 at *
  obtain ⟨p0, p1, p2, p3, p4, p5⟩ := hcl z6 HI6
  obtain ⟨q0, q1, q2⟩ := tx.cells
  obtain ⟨q3, q4, q5⟩ := ty.cells
  go_wp2_with fail
  refine (told_yes ox oy).mono ?_
  rintro e y6 ⟨rfl, hbt⟩
  replace tx := tx.later hbt
  replace ty := ty.later hbt
  have HT6 := HI6.trans (hbt.mono HI6.size)
  clear q0 q1 q2 q3 q4 q5 ox oy hbt
  obtain ⟨p0, p1, p2, p3, p4, p5⟩ := hcl y6 HT6
  go_wp2_with fail
  refine (pDiv _ HT6).mono ?_
  rintro e w7 ⟨s7, a7, n7, c7, b7, m7, d7, rfl, o7, hb7⟩
  have H7 := HT6.trans (hb7.mono HT6.size)
  obtain ⟨p0, p1, p2, p3, p4, p5⟩ := hcl w7 H7
  replace tx := tx.later hb7
  replace ty := ty.later hb7
  obtain ⟨q0, q1, q2⟩ := tx.cells
  obtain ⟨q3, q4, q5⟩ := tx.frozen
  go_upto_region 15 with (fail)
  have I7 := in3 w7 gx (.bool s7) (.slice a7 n7 c7) (.slice b7 m7 d7)
  have ox := o7.inn I7 tx
  replace ty := ty.inn I7 nyx
  replace tx := tx.set (.bool s7) (.slice a7 n7 c7) (.slice b7 m7 d7)
  have HI7 := below_in H7 I7 kx (Nat.le_refl _)
  clear q0 q1 q2 q3 q4 q5 I7
  generalize (((w7.setCell ⟨gx, 0, none⟩ (.bool s7)).setCell ⟨gx, 1, none⟩ (.slice a7 n7 c7)).setCell ⟨gx, 2, none⟩ (.slice b7 m7 d7)) = z7 at *
  obtain ⟨p0, p1, p2, p3, p4, p5⟩ := hcl z7 HI7
  go_wp2_with fail
  refine (rDiv _ HI7).mono ?_
  rintro e w8 ⟨s8, a8, n8, c8, b8, m8, d8, rfl, o8, hb8⟩
  have H8 := HI7.trans (hb8.mono HI7.size)
  obtain ⟨p0, p1, p2, p3, p4, p5⟩ := hcl w8 H8
  replace tx := tx.later hb8
  replace ty := ty.later hb8
  replace ox := ox.later hb8
  obtain ⟨q0, q1, q2⟩ := ty.cells
  obtain ⟨q3, q4, q5⟩ := ty.frozen
  go_upto_region 16 with (fail)
  have I8 := in3 w8 gy (.bool s8) (.slice a8 n8 c8) (.slice b8 m8 d8)
  have oy := o8.inn I8 ty
  replace ox := ox.inn I8 ty
  replace tx := tx.inn I8 nxy
  replace ty := ty.set (.bool s8) (.slice a8 n8 c8) (.slice b8 m8 d8)
  have HI8 := below_in H8 I8 ky (Nat.le_refl _)
  clear q0 q1 q2 q3 q4 q5 I8
  generalize (((w8.setCell ⟨gy, 0, none⟩ (.bool s8)).setCell ⟨gy, 1, none⟩ (.slice a8 n8 c8)).setCell ⟨gy, 2, none⟩ (.slice b8 m8 d8)) = z8 at *
  obtain ⟨p0, p1, p2, p3, p4, p5⟩ := hcl z8 HI8
  obtain ⟨q0, q1, q2⟩ := tx.cells
  obtain ⟨q3, q4, q5⟩ := ty.cells
  go_wp2_with fail
  refine (told_yes ox oy).mono ?_
  rintro e y8 ⟨rfl, hbt⟩
  replace tx := tx.later hbt
  replace ty := ty.later hbt
  have HT8 := HI8.trans (hbt.mono HI8.size)
  clear q0 q1 q2 q3 q4 q5 ox oy hbt
  obtain ⟨p0, p1, p2, p3, p4, p5⟩ := hcl y8 HT8
  go_wp2_with fail
  refine (pFlo _ HT8).mono ?_
  rintro e w9 ⟨s9, a9, n9, c9, b9, m9, d9, rfl, o9, hb9⟩
  have H9 := HT8.trans (hb9.mono HT8.size)
  obtain ⟨p0, p1, p2, p3, p4, p5⟩ := hcl w9 H9
  replace tx := tx.later hb9
  replace ty := ty.later hb9
  obtain ⟨q0, q1, q2⟩ := tx.cells
  obtain ⟨q3, q4, q5⟩ := tx.frozen
  go_upto_region 19 with (fail)
  have I9 := in3 w9 gx (.bool s9) (.slice a9 n9 c9) (.slice b9 m9 d9)
  have ox := o9.inn I9 tx
  replace ty := ty.inn I9 nyx
  replace tx := tx.set (.bool s9) (.slice a9 n9 c9) (.slice b9 m9 d9)
  have HI9 := below_in H9 I9 kx (Nat.le_refl _)
  clear q0 q1 q2 q3 q4 q5 I9
  generalize (((w9.setCell ⟨gx, 0, none⟩ (.bool s9)).setCell ⟨gx, 1, none⟩ (.slice a9 n9 c9)).setCell ⟨gx, 2, none⟩ (.slice b9 m9 d9)) = z9 at *
  obtain ⟨p0, p1, p2, p3, p4, p5⟩ := hcl z9 HI9
  go_wp2_with fail
  refine (rFlo _ HI9).mono ?_
  rintro e w10 ⟨s10, a10, n10, c10, b10, m10, d10, rfl, o10, hb10⟩
  have H10 := HI9.trans (hb10.mono HI9.size)
  obtain ⟨p0, p1, p2, p3, p4, p5⟩ := hcl w10 H10
  replace tx := tx.later hb10
  replace ty := ty.later hb10
  replace ox := ox.later hb10
  obtain ⟨q0, q1, q2⟩ := ty.cells
  obtain ⟨q3, q4, q5⟩ := ty.frozen
  go_upto_region 20 with (fail)
  have I10 := in3 w10 gy (.bool s10) (.slice a10 n10 c10) (.slice b10 m10 d10)
  have oy := o10.inn I10 ty
  replace ox := ox.inn I10 ty
  replace tx := tx.inn I10 nxy
  replace ty := ty.set (.bool s10) (.slice a10 n10 c10) (.slice b10 m10 d10)
  have HI10 := below_in H10 I10 ky (Nat.le_refl _)
  clear q0 q1 q2 q3 q4 q5 I10
  generalize (((w10.setCell ⟨gy, 0, none⟩ (.bool s10)).setCell ⟨gy, 1, none⟩ (.slice a10 n10 c10)).setCell ⟨gy, 2, none⟩ (.slice b10 m10 d10)) = z10 at *
  obtain ⟨p0, p1, p2, p3, p4, p5⟩ := hcl z10 HI10
  go_wp2_with fail
  refine (pCmp _ HI10).mono ?_
  rintro e v1 ⟨rfl, hbP⟩
  have HP := HI10.trans (hbP.mono HI10.size)
  obtain ⟨p0, p1, p2, p3, p4, p5⟩ := hcl v1 HP
  go_wp2_with fail
  refine (rCmp _ HP).mono ?_
  rintro e v2 ⟨rfl, hbQ⟩
  have HQ := HP.trans (hbQ.mono HP.size)
  replace tx := (tx.later hbP).later hbQ
  replace ty := (ty.later hbP).later hbQ
  replace ox := (ox.later hbP).later hbQ
  replace oy := (oy.later hbP).later hbQ
  obtain ⟨q0, q1, q2⟩ := tx.cells
  obtain ⟨q3, q4, q5⟩ := ty.cells
  have tK : (K == K) = true := beq_of rfl
  have tE : (E == E) = true := beq_of rfl
  go_wp2_with fail
  refine (told_yes ox oy).mono ?_
  rintro e v3 ⟨rfl, hbt⟩
  go_wp2
  go_ret
  rw [HG.out]
  exact ⟨rfl, (HC.trans ((HQ.trans (hbt.mono HQ.size)).mono (by rw [← HG.out]; omega)))⟩
end
end Go.Proofs.YtopcdpeepchgfacGreat
