/- plumblaw22: PredTurns' walk (written by genpdo.py). -/
import Derived.Test.YtbonkgmcpjaepaaPdN
import Derived.Test.YtbonkgmcpjaepaaPdJ
import Derived.Deep.DeepCutAuto
namespace Go.Proofs.Ytbonkgmcpjaepaa
open Go.ChangeShapes Go.WideShapes Go.ChangeAt Go.RowKit
open Na Ar
set_option linter.unusedVariables false
theorem inR_cyc (a b c d e f g h : Rat) : inR c d e f a b g h = inR a b c d e f g h := by unfold inR; grind
theorem inR_swap (a b c d e f g h : Rat) : inR e f c d a b g h = - inR a b c d e f g h := by unfold inR; grind
theorem inR_far (a b c d e f g h : Rat) : inR g h c d e f a b = - inR a b c d e f g h := by unfold inR; grind
theorem inR_self (a b c d e f : Rat) : inR a b c d e f c d = 0 := by unfold inR; grind
set_option maxHeartbeats 12800000 in
set_option maxRecDepth 100000 in
theorem turns_none {x0 x1 x2 x3 x4 x5 x6 x7 : Int} (ua : U2 (x0, x1)) (ub : U2 (x2, x3)) (uc : U2 (x4, x5)) (ud : U2 (x6, x7)) (hf : ¬ (fin2 (x0, x1) ∧ fin2 (x2, x3) ∧ fin2 (x4, x5))) (hfx : ∀ w, Calls Try.prog 6 #[] w fun e w' => e = .returned (.bool true) ∧ Below w.heap.size w w') (w : World) :
    Calls Try.prog 3 #[.agg #[.int .u64 x0, .int .u64 x1, .int .u64 x2, .int .u64 x3, .int .u64 x4, .int .u64 x5, .int .u64 x6, .int .u64 x7]] w fun e w' => e = .returned (.bool true) ∧ Below w.heap.size w w' := by
  have cN := HL.mk (fun (w : World) => (show Calls Try.prog 7 #[.agg #[.int .u64 x0, .int .u64 x1], .agg #[.int .u64 x2, .int .u64 x3], .agg #[.int .u64 x4, .int .u64 x5]] w fun e w' => e = .returned (.tuple #[.int .i64 0, .int .i64 220]) ∧ Below w.heap.size w w' from Orient22_inf (a := (x0, x1)) (b := (x2, x3)) (c := (x4, x5)) ua ub uc hf))
  have cC := HL.mk (fun (w : World) => (show Calls Try.prog 8 #[.agg #[.int .u64 x0, .int .u64 x1], .agg #[.int .u64 x2, .int .u64 x3], .agg #[.int .u64 x4, .int .u64 x5], .agg #[.int .u64 x6, .int .u64 x7]] w fun e w' => e = .returned (.tuple #[.int .i64 0, .int .i64 220]) ∧ Below w.heap.size w w' from InCircle22_inf (a := (x0, x1)) (b := (x2, x3)) (c := (x4, x5)) (d := (x6, x7)) ua ub uc ud (fun h => hf ⟨h.1, h.2.1, h.2.2.1⟩)))
  have hq3 := HL.mk (fun (w' : World) => finite22_any (c := 3) (ptAt3 w' 24 ua ub uc) (by omega))
  have hfin3 := HL.mk (show ¬ ∀ i, i < 3 → fin2 ([(x0, x1), (x2, x3), (x4, x5)].getD i (0, 0)) from fun h => hf ⟨h 0 (by omega), h 1 (by omega), h 2 (by omega)⟩)
  clear hf ua ub uc ud
  have hb0 := alloc_below (w := w) (.cells #[.int .u64 x0, .int .u64 x1, .int .u64 x2, .int .u64 x3, .int .u64 x4, .int .u64 x5, .int .u64 x6, .int .u64 x7] 26)
  have p0 := Pb.new w 26 #[.int .u64 x0, .int .u64 x1, .int .u64 x2, .int .u64 x3, .int .u64 x4, .int .u64 x5, .int .u64 x6, .int .u64 x7]
  obtain ⟨g, hg⟩ : ∃ g, g = w.heap.size := ⟨_, rfl⟩
  have HG : Hid (w.heap.size = g) := hg.symm
  rw [← hg] at p0
  have FX := HL.mk hfx
  clear hg hfx
  obtain ⟨w0, hw0⟩ : ∃ w0, w0 = w.alloc (.cells #[.int .u64 x0, .int .u64 x1, .int .u64 x2, .int .u64 x3, .int .u64 x4, .int .u64 x5, .int .u64 x6, .int .u64 x7] 26) := ⟨_, rfl⟩
  rw [← hw0] at hb0 p0
  obtain ⟨y0, y1, y2, y3, y4, y5, y6, y7⟩ := four_cells p0
  go_enter Try.func3, Try.ntmps3
  go_wp2_with fail
  rw [← hw0, HG.out]
  clear hw0
  refine (FX.out w0).mono ?_
  rintro e w1 ⟨rfl, hb1⟩
  have B1 := hb0.trans (hb1.mono hb0.size)
  have p1 := p0.later hb1
  obtain ⟨y0, y1, y2, y3, y4, y5, y6, y7⟩ := four_cells p1
  clear p0 hb1 FX hb0
  go_wp2_with (go_at_call 10; refine (num22_same _ _).mono ?_; rintro e w' ⟨rfl, rfl⟩)
  refine (cN.out w1).mono ?_
  rintro e w2 ⟨rfl, hb2⟩
  have B2 := B1.trans (hb2.mono B1.size)
  have p2 := p1.later hb2
  obtain ⟨y0, y1, y2, y3, y4, y5, y6, y7⟩ := four_cells p2
  clear cN p1 hb2
  go_wp2_with (go_at_call 10; refine (num22_same _ _).mono ?_; rintro e w' ⟨rfl, rfl⟩)
  refine (cC.out w2).mono ?_
  rintro e w3 ⟨rfl, hb3⟩
  have B3 := B2.trans (hb3.mono B2.size)
  have p3 := p2.later hb3
  obtain ⟨y0, y1, y2, y3, y4, y5, y6, y7⟩ := four_cells p3
  clear cC p2 hb3
  have al := alloc_below (w := w3) (.cells #[.int .u64 x0, .int .u64 x1, .int .u64 x2, .int .u64 x3, .int .u64 x4, .int .u64 x5] 24)
  have hqq := hq3.out w3
  have p3' := p3.later al
  have B3' := B3.trans (al.mono B3.size)
  go_wp2_with fail
  generalize w3.alloc (.cells #[.int .u64 x0, .int .u64 x1, .int .u64 x2, .int .u64 x3, .int .u64 x4, .int .u64 x5] 24) = w3' at *
  refine hqq.mono ?_
  rintro e w4 ⟨FB, rfl, hFB, hb4⟩
  obtain rfl : FB = false := by cases FB; rfl; exact absurd (hFB.mp rfl) hfin3.out
  have B4 := B3'.trans (hb4.mono B3'.size)
  have p4 := p3'.later hb4
  obtain ⟨y0, y1, y2, y3, y4, y5, y6, y7⟩ := four_cells p4
  clear hq3 hqq hfin3 hFB p3 p3' al hb4 B3
  go_wp2_with (go_at_call 10; refine (num22_same _ _).mono ?_; rintro e w' ⟨rfl, rfl⟩)
  go_ret
  exact ⟨rfl, B4⟩
set_option maxHeartbeats 12800000 in
set_option maxRecDepth 100000 in
theorem turns_three {x0 x1 x2 x3 x4 x5 x6 x7 : Int} (ua : U2 (x0, x1)) (ub : U2 (x2, x3)) (uc : U2 (x4, x5)) (ud : U2 (x6, x7)) (fa : fin2 (x0, x1)) (fb : fin2 (x2, x3)) (fc : fin2 (x4, x5)) (fd : ¬ fin2 (x6, x7)) (hfx : ∀ w, Calls Try.prog 6 #[] w fun e w' => e = .returned (.bool true) ∧ Below w.heap.size w w') (w : World) :
    Calls Try.prog 3 #[.agg #[.int .u64 x0, .int .u64 x1, .int .u64 x2, .int .u64 x3, .int .u64 x4, .int .u64 x5, .int .u64 x6, .int .u64 x7]] w fun e w' => e = .returned (.bool true) ∧ Below w.heap.size w w' := by
  obtain ⟨N, hN⟩ : ∃ N, N = sgnR (crR (valR x0) (valR x1) (valR x2) (valR x3) (valR x4) (valR x5)) := ⟨_, rfl⟩
  have bN := sgnR_in (crR (valR x0) (valR x1) (valR x2) (valR x3) (valR x4) (valR x5))
  rw [← hN] at bN
  have HN : Hid (sgnR (crR (valR x0) (valR x1) (valR x2) (valR x3) (valR x4) (valR x5)) = N) := hN.symm
  have cN := HL.mk (fun (w : World) => (show Calls Try.prog 7 #[.agg #[.int .u64 x0, .int .u64 x1], .agg #[.int .u64 x2, .int .u64 x3], .agg #[.int .u64 x4, .int .u64 x5]] w fun e w' => e = .returned (.tuple #[.int .i64 N, .int .i64 0]) ∧ Below w.heap.size w w' from by rw [hN]; exact Orient22_fin (a := (x0, x1)) (b := (x2, x3)) (c := (x4, x5)) ua ub uc fa fb fc))
  have cO := HL.mk (fun (w : World) => (show Calls Try.prog 7 #[.agg #[.int .u64 x2, .int .u64 x3], .agg #[.int .u64 x4, .int .u64 x5], .agg #[.int .u64 x0, .int .u64 x1]] w fun e w' => e = .returned (.tuple #[.int .i64 N, .int .i64 0]) ∧ Below w.heap.size w w' from by rw [hN, ← crR_cyc (valR x0) (valR x1) (valR x2) (valR x3) (valR x4) (valR x5)]; exact Orient22_fin (a := (x2, x3)) (b := (x4, x5)) (c := (x0, x1)) ub uc ua fb fc fa))
  have cP := HL.mk (fun (w : World) => (show Calls Try.prog 7 #[.agg #[.int .u64 x2, .int .u64 x3], .agg #[.int .u64 x0, .int .u64 x1], .agg #[.int .u64 x4, .int .u64 x5]] w fun e w' => e = .returned (.tuple #[.int .i64 (-N), .int .i64 0]) ∧ Below w.heap.size w w' from by rw [hN, ← sgnR_neg, ← crR_swap (valR x0) (valR x1) (valR x2) (valR x3) (valR x4) (valR x5)]; exact Orient22_fin (a := (x2, x3)) (b := (x0, x1)) (c := (x4, x5)) ub ua uc fb fa fc))
  obtain ⟨Z, hZ0⟩ : ∃ Z : Int, Z = 0 := ⟨0, rfl⟩
  have hZ : Z = sgnR (crR (valR x0) (valR x1) (valR x2) (valR x3) (valR x0) (valR x1)) := by rw [crR_self, hZ0]; rfl
  have cZ := HL.mk (fun (w : World) => (show Calls Try.prog 7 #[.agg #[.int .u64 x0, .int .u64 x1], .agg #[.int .u64 x2, .int .u64 x3], .agg #[.int .u64 x0, .int .u64 x1]] w fun e w' => e = .returned (.tuple #[.int .i64 Z, .int .i64 0]) ∧ Below w.heap.size w w' from by rw [hZ]; exact Orient22_fin (a := (x0, x1)) (b := (x2, x3)) (c := (x0, x1)) ua ub ua fa fb fa))
  clear hZ
  subst hZ0
  have cR := HL.mk (fun (w : World) => Area222_fin (w := w) (a := (x0, x1)) (b := (x2, x3)) (c := (x4, x5)) ua ub uc fa fb fc)
  have cC := HL.mk (fun (w : World) => (show Calls Try.prog 8 #[.agg #[.int .u64 x0, .int .u64 x1], .agg #[.int .u64 x2, .int .u64 x3], .agg #[.int .u64 x4, .int .u64 x5], .agg #[.int .u64 x6, .int .u64 x7]] w fun e w' => e = .returned (.tuple #[.int .i64 0, .int .i64 220]) ∧ Below w.heap.size w w' from InCircle22_inf (a := (x0, x1)) (b := (x2, x3)) (c := (x4, x5)) (d := (x6, x7)) ua ub uc ud (fun h => fd h.2.2.2)))
  have hq3 := HL.mk (fun (w' : World) => finite22_any (c := 3) (ptAt3 w' 24 ua ub uc) (by omega))
  have hfin3 := HL.mk (fin3_of fa fb fc)
  have hq1 := HL.mk (fun (w' : World) => finite22_any (c := 1) (ptAt1 w' 24 ud) (by omega))
  have hfin1 := HL.mk (show ¬ ∀ i, i < 1 → fin2 ([(x6, x7)].getD i (0, 0)) from fun h => fd (h 0 (by omega)))
  have n1 : ¬ N < -1 := by omega
  have n2 : ¬ 1 < N := by omega
  have n3 : (N != N) = false := by simp
  have n4 : (-N != -N) = false := by simp
  skip
  skip
  clear fd fa fb fc ua ub uc ud hN bN
  have hb0 := alloc_below (w := w) (.cells #[.int .u64 x0, .int .u64 x1, .int .u64 x2, .int .u64 x3, .int .u64 x4, .int .u64 x5, .int .u64 x6, .int .u64 x7] 26)
  have p0 := Pb.new w 26 #[.int .u64 x0, .int .u64 x1, .int .u64 x2, .int .u64 x3, .int .u64 x4, .int .u64 x5, .int .u64 x6, .int .u64 x7]
  obtain ⟨g, hg⟩ : ∃ g, g = w.heap.size := ⟨_, rfl⟩
  have HG : Hid (w.heap.size = g) := hg.symm
  rw [← hg] at p0
  have FX := HL.mk hfx
  clear hg hfx
  obtain ⟨w0, hw0⟩ : ∃ w0, w0 = w.alloc (.cells #[.int .u64 x0, .int .u64 x1, .int .u64 x2, .int .u64 x3, .int .u64 x4, .int .u64 x5, .int .u64 x6, .int .u64 x7] 26) := ⟨_, rfl⟩
  rw [← hw0] at hb0 p0
  obtain ⟨y0, y1, y2, y3, y4, y5, y6, y7⟩ := four_cells p0
  go_enter Try.func3, Try.ntmps3
  go_wp2_with fail
  rw [← hw0, HG.out]
  clear hw0
  refine (FX.out w0).mono ?_
  rintro e w1 ⟨rfl, hb1⟩
  have B1 := hb0.trans (hb1.mono hb0.size)
  have p1 := p0.later hb1
  obtain ⟨y0, y1, y2, y3, y4, y5, y6, y7⟩ := four_cells p1
  clear p0 hb1 FX hb0
  go_wp2_with (go_at_call 10; refine (num22_same _ _).mono ?_; rintro e w' ⟨rfl, rfl⟩)
  refine (cN.out w1).mono ?_
  rintro e w2 ⟨rfl, hb2⟩
  have B2 := B1.trans (hb2.mono B1.size)
  have p2 := p1.later hb2
  obtain ⟨y0, y1, y2, y3, y4, y5, y6, y7⟩ := four_cells p2
  clear cN p1 hb2
  go_wp2_with (go_at_call 10; refine (num22_same _ _).mono ?_; rintro e w' ⟨rfl, rfl⟩)
  refine (cC.out w2).mono ?_
  rintro e w3 ⟨rfl, hb3⟩
  have B3 := B2.trans (hb3.mono B2.size)
  have p3 := p2.later hb3
  obtain ⟨y0, y1, y2, y3, y4, y5, y6, y7⟩ := four_cells p3
  clear cC p2 hb3
  have al := alloc_below (w := w3) (.cells #[.int .u64 x0, .int .u64 x1, .int .u64 x2, .int .u64 x3, .int .u64 x4, .int .u64 x5] 24)
  have hqq := hq3.out w3
  have p3' := p3.later al
  have B3' := B3.trans (al.mono B3.size)
  go_wp2_with fail
  generalize w3.alloc (.cells #[.int .u64 x0, .int .u64 x1, .int .u64 x2, .int .u64 x3, .int .u64 x4, .int .u64 x5] 24) = w3' at *
  refine hqq.mono ?_
  rintro e w4 ⟨FB, rfl, hFB, hb4⟩
  obtain rfl : FB = true := hFB.mpr hfin3.out
  have B4 := B3'.trans (hb4.mono B3'.size)
  have p4 := p3'.later hb4
  obtain ⟨y0, y1, y2, y3, y4, y5, y6, y7⟩ := four_cells p4
  clear hq3 hqq hfin3 hFB p3 p3' al hb4 B3
  go_wp2_with (go_at_call 10; refine (num22_same _ _).mono ?_; rintro e w' ⟨rfl, rfl⟩)
  refine (cO.out w4).mono ?_
  rintro e w5 ⟨rfl, hb5⟩
  have B5 := B4.trans (hb5.mono B4.size)
  have p5 := p4.later hb5
  obtain ⟨y0, y1, y2, y3, y4, y5, y6, y7⟩ := four_cells p5
  clear cO p4 hb5
  go_wp2_with (go_at_call 10; refine (num22_same _ _).mono ?_; rintro e w' ⟨rfl, rfl⟩)
  refine (cP.out w5).mono ?_
  rintro e w6 ⟨rfl, hb6⟩
  have B6 := B5.trans (hb6.mono B5.size)
  have p6 := p5.later hb6
  obtain ⟨y0, y1, y2, y3, y4, y5, y6, y7⟩ := four_cells p6
  clear cP p5 hb6
  go_wp2_with (go_at_call 10; refine (num22_same _ _).mono ?_; rintro e w' ⟨rfl, rfl⟩)
  refine (cZ.out w6).mono ?_
  rintro e w7 ⟨rfl, hb7⟩
  have B7 := B6.trans (hb7.mono B6.size)
  have p7 := p6.later hb7
  obtain ⟨y0, y1, y2, y3, y4, y5, y6, y7⟩ := four_cells p7
  clear cZ p6 hb7
  go_wp2_with fail
  refine (cR.out w7).mono ?_
  rintro e w8 ⟨rs, ra, rn, rc, rb, rm, rd, rfl, hR, hrn, hb8⟩
  have B8 := B7.trans (hb8.mono B7.size)
  have p8 := p7.later hb8
  have al8 := alloc_below (w := w8) (.cells #[.bool rs, .slice ra rn rc, .slice rb rm rd] 36)
  have hS := fun wx h => sign_at (w0 := w8) (w1 := wx) h hR hrn HN.out
  have B9 := B8.trans (al8.mono B8.size)
  have p9 := p8.later al8
  have q9 := St.cells (st_new w8 (.bool rs) (.slice ra rn rc) (.slice rb rm rd) 36)
  clear p7 hb8 cR p8 hR
  obtain ⟨w9, hw9⟩ : ∃ w9, w9 = w8.alloc (.cells #[.bool rs, .slice ra rn rc, .slice rb rm rd] 36) := ⟨_, rfl⟩
  rw [← hw9] at al8 B9 p9 q9
  obtain ⟨y0, y1, y2, y3, y4, y5, y6, y7⟩ := four_cells p9
  obtain ⟨t0, t1, t2⟩ := q9
  go_upto_region 11 with fail
  rw [← hw9]
  clear hw9
  go_cut [163] (fun v wx => v = .bool false ∧ Below w9.heap.size w9 wx)
  case first =>
    as_aux_lemma =>
      go_wp2_with (first | (go_at_call 10; refine (num22_same _ _).mono ?_; rintro e w' ⟨rfl, rfl⟩) | (go_at_call 12; refine (hS _ al8).mono ?_; rintro e wS ⟨rfl, _, hbS⟩))
      go_meet
      exact ⟨by rw [decide_eq_false (show ¬ N < -1 by omega), decide_eq_false (show ¬ 1 < N by omega)]; rfl, hbS⟩
  obtain ⟨rfl, hb10⟩ := hcut
  clear t0 t1 t2 hS n1 n2 n3 n4
  have B10 := B9.trans (hb10.mono B9.size)
  have p10 := p9.later hb10
  obtain ⟨y0, y1, y2, y3, y4, y5, y6, y7⟩ := four_cells p10
  clear p9 hb10 B9
  have al := alloc_below (w := wc) (.cells #[.int .u64 x6, .int .u64 x7] 24)
  have hqq := hq1.out wc
  have p10' := p10.later al
  have B10' := B10.trans (al.mono B10.size)
  go_wp2_with fail
  generalize wc.alloc (.cells #[.int .u64 x6, .int .u64 x7] 24) = w10' at *
  refine hqq.mono ?_
  rintro e w11 ⟨FB, rfl, hFB, hb11⟩
  obtain rfl : FB = false := by cases FB; rfl; exact absurd (hFB.mp rfl) hfin1.out
  have B11 := B10'.trans (hb11.mono B10'.size)
  have p11 := p10'.later hb11
  obtain ⟨y0, y1, y2, y3, y4, y5, y6, y7⟩ := four_cells p11
  clear hq1 hqq hfin1 hFB p10 p10' al hb11 B10
  go_wp2_with (go_at_call 10; refine (num22_same _ _).mono ?_; rintro e w' ⟨rfl, rfl⟩)
  go_ret
  exact ⟨rfl, B11⟩
set_option maxHeartbeats 12800000 in
set_option maxRecDepth 100000 in
theorem turns_all {x0 x1 x2 x3 x4 x5 x6 x7 : Int} (ua : U2 (x0, x1)) (ub : U2 (x2, x3)) (uc : U2 (x4, x5)) (ud : U2 (x6, x7)) (fa : fin2 (x0, x1)) (fb : fin2 (x2, x3)) (fc : fin2 (x4, x5)) (fd : fin2 (x6, x7)) (hfx : ∀ w, Calls Try.prog 6 #[] w fun e w' => e = .returned (.bool true) ∧ Below w.heap.size w w') (w : World) :
    Calls Try.prog 3 #[.agg #[.int .u64 x0, .int .u64 x1, .int .u64 x2, .int .u64 x3, .int .u64 x4, .int .u64 x5, .int .u64 x6, .int .u64 x7]] w fun e w' => e = .returned (.bool true) ∧ Below w.heap.size w w' := by
  obtain ⟨N, hN⟩ : ∃ N, N = sgnR (crR (valR x0) (valR x1) (valR x2) (valR x3) (valR x4) (valR x5)) := ⟨_, rfl⟩
  have bN := sgnR_in (crR (valR x0) (valR x1) (valR x2) (valR x3) (valR x4) (valR x5))
  rw [← hN] at bN
  have HN : Hid (sgnR (crR (valR x0) (valR x1) (valR x2) (valR x3) (valR x4) (valR x5)) = N) := hN.symm
  have cN := HL.mk (fun (w : World) => (show Calls Try.prog 7 #[.agg #[.int .u64 x0, .int .u64 x1], .agg #[.int .u64 x2, .int .u64 x3], .agg #[.int .u64 x4, .int .u64 x5]] w fun e w' => e = .returned (.tuple #[.int .i64 N, .int .i64 0]) ∧ Below w.heap.size w w' from by rw [hN]; exact Orient22_fin (a := (x0, x1)) (b := (x2, x3)) (c := (x4, x5)) ua ub uc fa fb fc))
  have cO := HL.mk (fun (w : World) => (show Calls Try.prog 7 #[.agg #[.int .u64 x2, .int .u64 x3], .agg #[.int .u64 x4, .int .u64 x5], .agg #[.int .u64 x0, .int .u64 x1]] w fun e w' => e = .returned (.tuple #[.int .i64 N, .int .i64 0]) ∧ Below w.heap.size w w' from by rw [hN, ← crR_cyc (valR x0) (valR x1) (valR x2) (valR x3) (valR x4) (valR x5)]; exact Orient22_fin (a := (x2, x3)) (b := (x4, x5)) (c := (x0, x1)) ub uc ua fb fc fa))
  have cP := HL.mk (fun (w : World) => (show Calls Try.prog 7 #[.agg #[.int .u64 x2, .int .u64 x3], .agg #[.int .u64 x0, .int .u64 x1], .agg #[.int .u64 x4, .int .u64 x5]] w fun e w' => e = .returned (.tuple #[.int .i64 (-N), .int .i64 0]) ∧ Below w.heap.size w w' from by rw [hN, ← sgnR_neg, ← crR_swap (valR x0) (valR x1) (valR x2) (valR x3) (valR x4) (valR x5)]; exact Orient22_fin (a := (x2, x3)) (b := (x0, x1)) (c := (x4, x5)) ub ua uc fb fa fc))
  obtain ⟨Z, hZ0⟩ : ∃ Z : Int, Z = 0 := ⟨0, rfl⟩
  have hZ : Z = sgnR (crR (valR x0) (valR x1) (valR x2) (valR x3) (valR x0) (valR x1)) := by rw [crR_self, hZ0]; rfl
  have cZ := HL.mk (fun (w : World) => (show Calls Try.prog 7 #[.agg #[.int .u64 x0, .int .u64 x1], .agg #[.int .u64 x2, .int .u64 x3], .agg #[.int .u64 x0, .int .u64 x1]] w fun e w' => e = .returned (.tuple #[.int .i64 Z, .int .i64 0]) ∧ Below w.heap.size w w' from by rw [hZ]; exact Orient22_fin (a := (x0, x1)) (b := (x2, x3)) (c := (x0, x1)) ua ub ua fa fb fa))
  clear hZ
  subst hZ0
  have cR := HL.mk (fun (w : World) => Area222_fin (w := w) (a := (x0, x1)) (b := (x2, x3)) (c := (x4, x5)) ua ub uc fa fb fc)
  obtain ⟨M, hM⟩ : ∃ M, M = sgnR (inR (valR x0) (valR x1) (valR x2) (valR x3) (valR x4) (valR x5) (valR x6) (valR x7)) := ⟨_, rfl⟩
  have bM := sgnR_in (inR (valR x0) (valR x1) (valR x2) (valR x3) (valR x4) (valR x5) (valR x6) (valR x7))
  rw [← hM] at bM
  have cC := HL.mk (fun (w : World) => (show Calls Try.prog 8 #[.agg #[.int .u64 x0, .int .u64 x1], .agg #[.int .u64 x2, .int .u64 x3], .agg #[.int .u64 x4, .int .u64 x5], .agg #[.int .u64 x6, .int .u64 x7]] w fun e w' => e = .returned (.tuple #[.int .i64 M, .int .i64 0]) ∧ Below w.heap.size w w' from by rw [hM]; exact InCircle22_fin (a := (x0, x1)) (b := (x2, x3)) (c := (x4, x5)) (d := (x6, x7)) ua ub uc ud fa fb fc fd))
  have cX := HL.mk (fun (w : World) => (show Calls Try.prog 8 #[.agg #[.int .u64 x2, .int .u64 x3], .agg #[.int .u64 x4, .int .u64 x5], .agg #[.int .u64 x0, .int .u64 x1], .agg #[.int .u64 x6, .int .u64 x7]] w fun e w' => e = .returned (.tuple #[.int .i64 M, .int .i64 0]) ∧ Below w.heap.size w w' from by rw [hM, ← inR_cyc (valR x0) (valR x1) (valR x2) (valR x3) (valR x4) (valR x5) (valR x6) (valR x7)]; exact InCircle22_fin (a := (x2, x3)) (b := (x4, x5)) (c := (x0, x1)) (d := (x6, x7)) ub uc ua ud fb fc fa fd))
  have cY := HL.mk (fun (w : World) => (show Calls Try.prog 8 #[.agg #[.int .u64 x4, .int .u64 x5], .agg #[.int .u64 x2, .int .u64 x3], .agg #[.int .u64 x0, .int .u64 x1], .agg #[.int .u64 x6, .int .u64 x7]] w fun e w' => e = .returned (.tuple #[.int .i64 (-M), .int .i64 0]) ∧ Below w.heap.size w w' from by rw [hM, ← sgnR_neg, ← inR_swap (valR x0) (valR x1) (valR x2) (valR x3) (valR x4) (valR x5) (valR x6) (valR x7)]; exact InCircle22_fin (a := (x4, x5)) (b := (x2, x3)) (c := (x0, x1)) (d := (x6, x7)) uc ub ua ud fc fb fa fd))
  have cW := HL.mk (fun (w : World) => (show Calls Try.prog 8 #[.agg #[.int .u64 x6, .int .u64 x7], .agg #[.int .u64 x2, .int .u64 x3], .agg #[.int .u64 x4, .int .u64 x5], .agg #[.int .u64 x0, .int .u64 x1]] w fun e w' => e = .returned (.tuple #[.int .i64 (-M), .int .i64 0]) ∧ Below w.heap.size w w' from by rw [hM, ← sgnR_neg, ← inR_far (valR x0) (valR x1) (valR x2) (valR x3) (valR x4) (valR x5) (valR x6) (valR x7)]; exact InCircle22_fin (a := (x6, x7)) (b := (x2, x3)) (c := (x4, x5)) (d := (x0, x1)) ud ub uc ua fd fb fc fa))
  obtain ⟨Z, hZ0⟩ : ∃ Z : Int, Z = 0 := ⟨0, rfl⟩
  have hZ : Z = sgnR (inR (valR x0) (valR x1) (valR x2) (valR x3) (valR x4) (valR x5) (valR x2) (valR x3)) := by rw [inR_self, hZ0]; rfl
  have cV := HL.mk (fun (w : World) => (show Calls Try.prog 8 #[.agg #[.int .u64 x0, .int .u64 x1], .agg #[.int .u64 x2, .int .u64 x3], .agg #[.int .u64 x4, .int .u64 x5], .agg #[.int .u64 x2, .int .u64 x3]] w fun e w' => e = .returned (.tuple #[.int .i64 Z, .int .i64 0]) ∧ Below w.heap.size w w' from by rw [hZ]; exact InCircle22_fin (a := (x0, x1)) (b := (x2, x3)) (c := (x4, x5)) (d := (x2, x3)) ua ub uc ub fa fb fc fb))
  clear hZ
  subst hZ0
  have eM : (M == M) = true := by simp
  have eM2 : (-M == -M) = true := by simp
  have hq3 := HL.mk (fun (w' : World) => finite22_any (c := 3) (ptAt3 w' 24 ua ub uc) (by omega))
  have hfin3 := HL.mk (fin3_of fa fb fc)
  have hq1 := HL.mk (fun (w' : World) => finite22_any (c := 1) (ptAt1 w' 24 ud) (by omega))
  have hfin1 := HL.mk (show ∀ i, i < 1 → fin2 ([(x6, x7)].getD i (0, 0)) from fun i hi => by (rcases (show i = 0 by omega) with rfl); exact fd)
  have n1 : ¬ N < -1 := by omega
  have n2 : ¬ 1 < N := by omega
  have n3 : (N != N) = false := by simp
  have n4 : (-N != -N) = false := by simp
  have BM := HL.mk bM
  clear bM hM
  clear fd fa fb fc ua ub uc ud hN bN
  have hb0 := alloc_below (w := w) (.cells #[.int .u64 x0, .int .u64 x1, .int .u64 x2, .int .u64 x3, .int .u64 x4, .int .u64 x5, .int .u64 x6, .int .u64 x7] 26)
  have p0 := Pb.new w 26 #[.int .u64 x0, .int .u64 x1, .int .u64 x2, .int .u64 x3, .int .u64 x4, .int .u64 x5, .int .u64 x6, .int .u64 x7]
  obtain ⟨g, hg⟩ : ∃ g, g = w.heap.size := ⟨_, rfl⟩
  have HG : Hid (w.heap.size = g) := hg.symm
  rw [← hg] at p0
  have FX := HL.mk hfx
  clear hg hfx
  obtain ⟨w0, hw0⟩ : ∃ w0, w0 = w.alloc (.cells #[.int .u64 x0, .int .u64 x1, .int .u64 x2, .int .u64 x3, .int .u64 x4, .int .u64 x5, .int .u64 x6, .int .u64 x7] 26) := ⟨_, rfl⟩
  rw [← hw0] at hb0 p0
  obtain ⟨y0, y1, y2, y3, y4, y5, y6, y7⟩ := four_cells p0
  go_enter Try.func3, Try.ntmps3
  go_wp2_with fail
  rw [← hw0, HG.out]
  clear hw0
  refine (FX.out w0).mono ?_
  rintro e w1 ⟨rfl, hb1⟩
  have B1 := hb0.trans (hb1.mono hb0.size)
  have p1 := p0.later hb1
  obtain ⟨y0, y1, y2, y3, y4, y5, y6, y7⟩ := four_cells p1
  clear p0 hb1 FX hb0
  go_wp2_with (go_at_call 10; refine (num22_same _ _).mono ?_; rintro e w' ⟨rfl, rfl⟩)
  refine (cN.out w1).mono ?_
  rintro e w2 ⟨rfl, hb2⟩
  have B2 := B1.trans (hb2.mono B1.size)
  have p2 := p1.later hb2
  obtain ⟨y0, y1, y2, y3, y4, y5, y6, y7⟩ := four_cells p2
  clear cN p1 hb2
  go_wp2_with (go_at_call 10; refine (num22_same _ _).mono ?_; rintro e w' ⟨rfl, rfl⟩)
  refine (cC.out w2).mono ?_
  rintro e w3 ⟨rfl, hb3⟩
  have B3 := B2.trans (hb3.mono B2.size)
  have p3 := p2.later hb3
  obtain ⟨y0, y1, y2, y3, y4, y5, y6, y7⟩ := four_cells p3
  clear cC p2 hb3
  have al := alloc_below (w := w3) (.cells #[.int .u64 x0, .int .u64 x1, .int .u64 x2, .int .u64 x3, .int .u64 x4, .int .u64 x5] 24)
  have hqq := hq3.out w3
  have p3' := p3.later al
  have B3' := B3.trans (al.mono B3.size)
  go_wp2_with fail
  generalize w3.alloc (.cells #[.int .u64 x0, .int .u64 x1, .int .u64 x2, .int .u64 x3, .int .u64 x4, .int .u64 x5] 24) = w3' at *
  refine hqq.mono ?_
  rintro e w4 ⟨FB, rfl, hFB, hb4⟩
  obtain rfl : FB = true := hFB.mpr hfin3.out
  have B4 := B3'.trans (hb4.mono B3'.size)
  have p4 := p3'.later hb4
  obtain ⟨y0, y1, y2, y3, y4, y5, y6, y7⟩ := four_cells p4
  clear hq3 hqq hfin3 hFB p3 p3' al hb4 B3
  go_wp2_with (go_at_call 10; refine (num22_same _ _).mono ?_; rintro e w' ⟨rfl, rfl⟩)
  refine (cO.out w4).mono ?_
  rintro e w5 ⟨rfl, hb5⟩
  have B5 := B4.trans (hb5.mono B4.size)
  have p5 := p4.later hb5
  obtain ⟨y0, y1, y2, y3, y4, y5, y6, y7⟩ := four_cells p5
  clear cO p4 hb5
  go_wp2_with (go_at_call 10; refine (num22_same _ _).mono ?_; rintro e w' ⟨rfl, rfl⟩)
  refine (cP.out w5).mono ?_
  rintro e w6 ⟨rfl, hb6⟩
  have B6 := B5.trans (hb6.mono B5.size)
  have p6 := p5.later hb6
  obtain ⟨y0, y1, y2, y3, y4, y5, y6, y7⟩ := four_cells p6
  clear cP p5 hb6
  go_wp2_with (go_at_call 10; refine (num22_same _ _).mono ?_; rintro e w' ⟨rfl, rfl⟩)
  refine (cZ.out w6).mono ?_
  rintro e w7 ⟨rfl, hb7⟩
  have B7 := B6.trans (hb7.mono B6.size)
  have p7 := p6.later hb7
  obtain ⟨y0, y1, y2, y3, y4, y5, y6, y7⟩ := four_cells p7
  clear cZ p6 hb7
  go_wp2_with fail
  refine (cR.out w7).mono ?_
  rintro e w8 ⟨rs, ra, rn, rc, rb, rm, rd, rfl, hR, hrn, hb8⟩
  have B8 := B7.trans (hb8.mono B7.size)
  have p8 := p7.later hb8
  have al8 := alloc_below (w := w8) (.cells #[.bool rs, .slice ra rn rc, .slice rb rm rd] 36)
  have hS := fun wx h => sign_at (w0 := w8) (w1 := wx) h hR hrn HN.out
  have B9 := B8.trans (al8.mono B8.size)
  have p9 := p8.later al8
  have q9 := St.cells (st_new w8 (.bool rs) (.slice ra rn rc) (.slice rb rm rd) 36)
  clear p7 hb8 cR p8 hR
  obtain ⟨w9, hw9⟩ : ∃ w9, w9 = w8.alloc (.cells #[.bool rs, .slice ra rn rc, .slice rb rm rd] 36) := ⟨_, rfl⟩
  rw [← hw9] at al8 B9 p9 q9
  obtain ⟨y0, y1, y2, y3, y4, y5, y6, y7⟩ := four_cells p9
  obtain ⟨t0, t1, t2⟩ := q9
  go_upto_region 11 with fail
  rw [← hw9]
  clear hw9
  go_cut [163] (fun v wx => v = .bool false ∧ Below w9.heap.size w9 wx)
  case first =>
    as_aux_lemma =>
      go_wp2_with (first | (go_at_call 10; refine (num22_same _ _).mono ?_; rintro e w' ⟨rfl, rfl⟩) | (go_at_call 12; refine (hS _ al8).mono ?_; rintro e wS ⟨rfl, _, hbS⟩))
      go_meet
      exact ⟨by rw [decide_eq_false (show ¬ N < -1 by omega), decide_eq_false (show ¬ 1 < N by omega)]; rfl, hbS⟩
  obtain ⟨rfl, hb10⟩ := hcut
  clear t0 t1 t2 hS n1 n2 n3 n4
  have B10 := B9.trans (hb10.mono B9.size)
  have p10 := p9.later hb10
  obtain ⟨y0, y1, y2, y3, y4, y5, y6, y7⟩ := four_cells p10
  clear p9 hb10 B9
  have al := alloc_below (w := wc) (.cells #[.int .u64 x6, .int .u64 x7] 24)
  have hqq := hq1.out wc
  have p10' := p10.later al
  have B10' := B10.trans (al.mono B10.size)
  go_wp2_with fail
  generalize wc.alloc (.cells #[.int .u64 x6, .int .u64 x7] 24) = w10' at *
  refine hqq.mono ?_
  rintro e w11 ⟨FB, rfl, hFB, hb11⟩
  obtain rfl : FB = true := hFB.mpr hfin1.out
  have B11 := B10'.trans (hb11.mono B10'.size)
  have p11 := p10'.later hb11
  obtain ⟨y0, y1, y2, y3, y4, y5, y6, y7⟩ := four_cells p11
  clear hq1 hqq hfin1 hFB p10 p10' al hb11 B10
  go_wp2_with (go_at_call 10; refine (num22_same _ _).mono ?_; rintro e w' ⟨rfl, rfl⟩)
  refine (cX.out w11).mono ?_
  rintro e w12 ⟨rfl, hb12⟩
  have B12 := B11.trans (hb12.mono B11.size)
  have p12 := p11.later hb12
  obtain ⟨y0, y1, y2, y3, y4, y5, y6, y7⟩ := four_cells p12
  clear cX p11 hb12
  go_wp2_with (go_at_call 10; refine (num22_same _ _).mono ?_; rintro e w' ⟨rfl, rfl⟩)
  refine (cY.out w12).mono ?_
  rintro e w13 ⟨rfl, hb13⟩
  have B13 := B12.trans (hb13.mono B12.size)
  have p13 := p12.later hb13
  obtain ⟨y0, y1, y2, y3, y4, y5, y6, y7⟩ := four_cells p13
  clear cY p12 hb13
  go_wp2_with (go_at_call 10; refine (num22_same _ _).mono ?_; rintro e w' ⟨rfl, rfl⟩)
  refine (cW.out w13).mono ?_
  rintro e w14 ⟨rfl, hb14⟩
  have B14 := B13.trans (hb14.mono B13.size)
  have p14 := p13.later hb14
  obtain ⟨y0, y1, y2, y3, y4, y5, y6, y7⟩ := four_cells p14
  clear cW p13 hb14
  go_wp2_with (go_at_call 10; refine (num22_same _ _).mono ?_; rintro e w' ⟨rfl, rfl⟩)
  refine (cV.out w14).mono ?_
  rintro e w15 ⟨rfl, hb15⟩
  have B15 := B14.trans (hb15.mono B14.size)
  have p15 := p14.later hb15
  obtain ⟨y0, y1, y2, y3, y4, y5, y6, y7⟩ := four_cells p15
  clear cV p14 hb15
  have bM := BM.out
  have m1 : -1 ≤ M := by omega
  have m2 : M ≤ 1 := by omega
  clear BM bM
  go_wp2_with (go_at_call 10; refine (num22_same _ _).mono ?_; rintro e w' ⟨rfl, rfl⟩)
  go_ret
  exact ⟨rfl, B15⟩
end Go.Proofs.Ytbonkgmcpjaepaa
