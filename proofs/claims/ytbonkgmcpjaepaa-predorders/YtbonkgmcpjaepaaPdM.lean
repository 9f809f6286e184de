/- plumblaw22: PredOrders' walk (written by genpdl.py). -/
import Derived.Test.YtbonkgmcpjaepaaPdN
import Derived.Deep.DeepCutAuto
namespace Go.Proofs.Ytbonkgmcpjaepaa
open Go.ChangeShapes Go.WideShapes Go.ChangeAt Go.RowKit
open Na Ar
set_option linter.unusedVariables false
set_option maxHeartbeats 12800000 in
set_option maxRecDepth 100000 in
theorem orders_fin {x0 x1 x2 x3 x4 x5 x6 x7 : Int} (ua : U2 (x0, x1)) (fa : fin2 (x0, x1)) (ub : U2 (x2, x3)) (fb : fin2 (x2, x3)) (uc : U2 (x4, x5)) (fc : fin2 (x4, x5)) (ud : U2 (x6, x7)) (fd : fin2 (x6, x7)) (hfx : ∀ w, Calls Try.prog 6 #[] w fun e w' => e = .returned (.bool true) ∧ Below w.heap.size w w') (w : World) :
    Calls Try.prog 5 #[.agg #[.int .u64 x0, .int .u64 x1, .int .u64 x2, .int .u64 x3, .int .u64 x4, .int .u64 x5, .int .u64 x6, .int .u64 x7]] w fun e w' => e = .returned (.bool true) ∧ Below w.heap.size w w' := by
  obtain ⟨AB, BC, AC, N, IS, X, U, CD, hAB, hBA, hBC, hAC, hN, hIS, hUS, hX, hY, hZ, hU, hCD, bAB, bBC, bAC, bN, bX, bU, bCD, t1, t2, tI, tU, tC⟩ := orders_facts (valR x0) (valR x1) (valR x2) (valR x3) (valR x4) (valR x5) (valR x6) (valR x7)
  have cAB := HL.mk (fun (w : World) => (show Calls Try.prog 14 #[.agg #[.int .u64 x0, .int .u64 x1], .agg #[.int .u64 x2, .int .u64 x3]] w fun e w' => e = .returned (.tuple #[.int .i64 AB, .int .i64 0]) ∧ Below w.heap.size w w' from by rw [hAB]; exact Order22_fin (a := (x0, x1)) (b := (x2, x3)) ua ub fa fb))
  have cBA := HL.mk (fun (w : World) => (show Calls Try.prog 14 #[.agg #[.int .u64 x2, .int .u64 x3], .agg #[.int .u64 x0, .int .u64 x1]] w fun e w' => e = .returned (.tuple #[.int .i64 (-AB), .int .i64 0]) ∧ Below w.heap.size w w' from by rw [hBA]; exact Order22_fin (a := (x2, x3)) (b := (x0, x1)) ub ua fb fa))
  have cBC := HL.mk (fun (w : World) => (show Calls Try.prog 14 #[.agg #[.int .u64 x2, .int .u64 x3], .agg #[.int .u64 x4, .int .u64 x5]] w fun e w' => e = .returned (.tuple #[.int .i64 BC, .int .i64 0]) ∧ Below w.heap.size w w' from by rw [hBC]; exact Order22_fin (a := (x2, x3)) (b := (x4, x5)) ub uc fb fc))
  have cAC := HL.mk (fun (w : World) => (show Calls Try.prog 14 #[.agg #[.int .u64 x0, .int .u64 x1], .agg #[.int .u64 x4, .int .u64 x5]] w fun e w' => e = .returned (.tuple #[.int .i64 AC, .int .i64 0]) ∧ Below w.heap.size w w' from by rw [hAC]; exact Order22_fin (a := (x0, x1)) (b := (x4, x5)) ua uc fa fc))
  have cN := HL.mk (fun (w : World) => (show Calls Try.prog 7 #[.agg #[.int .u64 x0, .int .u64 x1], .agg #[.int .u64 x2, .int .u64 x3], .agg #[.int .u64 x4, .int .u64 x5]] w fun e w' => e = .returned (.tuple #[.int .i64 N, .int .i64 0]) ∧ Below w.heap.size w w' from by rw [hN]; exact Orient22_fin (a := (x0, x1)) (b := (x2, x3)) (c := (x4, x5)) ua ub uc fa fb fc))
  have cIS := HL.mk (fun (w : World) => (show Calls Try.prog 15 #[.agg #[.int .u64 x0, .int .u64 x1], .agg #[.int .u64 x2, .int .u64 x3], .agg #[.int .u64 x4, .int .u64 x5]] w fun e w' => e = .returned (.tuple #[.bool IS, .int .i64 0]) ∧ Below w.heap.size w w' from by rw [hIS]; exact Between22_fin (a := (x0, x1)) (b := (x2, x3)) (c := (x4, x5)) ua ub uc fa fb fc))
  have cUS := HL.mk (fun (w : World) => (show Calls Try.prog 15 #[.agg #[.int .u64 x2, .int .u64 x3], .agg #[.int .u64 x0, .int .u64 x1], .agg #[.int .u64 x4, .int .u64 x5]] w fun e w' => e = .returned (.tuple #[.bool IS, .int .i64 0]) ∧ Below w.heap.size w w' from by rw [hUS]; exact Between22_fin (a := (x2, x3)) (b := (x0, x1)) (c := (x4, x5)) ub ua uc fb fa fc))
  have cX := HL.mk (fun (w : World) => (show Calls Try.prog 13 #[.agg #[.int .u64 x0, .int .u64 x1], .agg #[.int .u64 x2, .int .u64 x3], .agg #[.int .u64 x4, .int .u64 x5], .agg #[.int .u64 x6, .int .u64 x7]] w fun e w' => e = .returned (.tuple #[.int .i64 X, .int .i64 0]) ∧ Below w.heap.size w w' from by rw [hX]; exact Nearer22_fin (a := (x0, x1)) (b := (x2, x3)) (c := (x4, x5)) (d := (x6, x7)) ua ub uc ud fa fb fc fd))
  have cY := HL.mk (fun (w : World) => (show Calls Try.prog 13 #[.agg #[.int .u64 x6, .int .u64 x7], .agg #[.int .u64 x4, .int .u64 x5], .agg #[.int .u64 x0, .int .u64 x1], .agg #[.int .u64 x2, .int .u64 x3]] w fun e w' => e = .returned (.tuple #[.int .i64 (-X), .int .i64 0]) ∧ Below w.heap.size w w' from by rw [hY]; exact Nearer22_fin (a := (x6, x7)) (b := (x4, x5)) (c := (x0, x1)) (d := (x2, x3)) ud uc ua ub fd fc fa fb))
  obtain ⟨Z, hZ0⟩ : ∃ Z : Int, Z = 0 := ⟨0, rfl⟩
  rw [← hZ0] at hZ
  have cZ := HL.mk (fun (w : World) => (show Calls Try.prog 13 #[.agg #[.int .u64 x0, .int .u64 x1], .agg #[.int .u64 x2, .int .u64 x3], .agg #[.int .u64 x2, .int .u64 x3], .agg #[.int .u64 x0, .int .u64 x1]] w fun e w' => e = .returned (.tuple #[.int .i64 Z, .int .i64 0]) ∧ Below w.heap.size w w' from by rw [hZ]; exact Nearer22_fin (a := (x0, x1)) (b := (x2, x3)) (c := (x2, x3)) (d := (x0, x1)) ua ub ub ua fa fb fb fa))
  clear hZ
  subst hZ0
  have cU := HL.mk (fun (w : World) => (show Calls Try.prog 13 #[.agg #[.int .u64 x0, .int .u64 x1], .agg #[.int .u64 x0, .int .u64 x1], .agg #[.int .u64 x4, .int .u64 x5], .agg #[.int .u64 x6, .int .u64 x7]] w fun e w' => e = .returned (.tuple #[.int .i64 U, .int .i64 0]) ∧ Below w.heap.size w w' from by rw [hU]; exact Nearer22_fin (a := (x0, x1)) (b := (x0, x1)) (c := (x4, x5)) (d := (x6, x7)) ua ua uc ud fa fa fc fd))
  have cCD := HL.mk (fun (w : World) => (show Calls Try.prog 14 #[.agg #[.int .u64 x4, .int .u64 x5], .agg #[.int .u64 x6, .int .u64 x7]] w fun e w' => e = .returned (.tuple #[.int .i64 CD, .int .i64 0]) ∧ Below w.heap.size w w' from by rw [hCD]; exact Order22_fin (a := (x4, x5)) (b := (x6, x7)) uc ud fc fd))
  have hb0 := alloc_below (w := w) (.cells #[.int .u64 x0, .int .u64 x1, .int .u64 x2, .int .u64 x3, .int .u64 x4, .int .u64 x5, .int .u64 x6, .int .u64 x7] 26)
  have p0 := Pb.new w 26 #[.int .u64 x0, .int .u64 x1, .int .u64 x2, .int .u64 x3, .int .u64 x4, .int .u64 x5, .int .u64 x6, .int .u64 x7]
  have hq := HL.mk (fun (w' : World) => finite22_any (c := 4) (ptAt4 w' 24 ua ub uc ud) (by omega))
  have hfin := HL.mk (fin4_of fa fb fc fd)
  obtain ⟨g, hg⟩ : ∃ g, g = w.heap.size := ⟨_, rfl⟩
  have HG : Hid (w.heap.size = g) := hg.symm
  rw [← hg] at p0
  have FX := HL.mk hfx
  clear hg hAB hBA hBC hAC hN hIS hUS hX hY hU hCD hfx ua ub uc ud fa fb fc fd
  obtain ⟨w0, hw0⟩ : ∃ w0, w0 = w.alloc (.cells #[.int .u64 x0, .int .u64 x1, .int .u64 x2, .int .u64 x3, .int .u64 x4, .int .u64 x5, .int .u64 x6, .int .u64 x7] 26) := ⟨_, rfl⟩
  rw [← hw0] at hb0 p0
  obtain ⟨y0, y1, y2, y3, y4, y5, y6, y7⟩ := four_cells p0
  go_enter Try.func5, Try.ntmps5
  go_wp2_with fail
  rw [← hw0, HG.out]
  clear hw0
  refine (FX.out w0).mono ?_
  rintro e w1 ⟨rfl, hb1⟩
  have B1 := hb0.trans (hb1.mono hb0.size)
  have p1 := p0.later hb1
  obtain ⟨y0, y1, y2, y3, y4, y5, y6, y7⟩ := four_cells p1
  have al := alloc_below (w := w1) (.cells #[.int .u64 x0, .int .u64 x1, .int .u64 x2, .int .u64 x3, .int .u64 x4, .int .u64 x5, .int .u64 x6, .int .u64 x7] 24)
  have hq1 := hq.out w1
  have p1' := p1.later al
  have B1' := B1.trans (al.mono B1.size)
  clear p0 hb1
  go_wp2_with fail
  generalize w1.alloc (.cells #[.int .u64 x0, .int .u64 x1, .int .u64 x2, .int .u64 x3, .int .u64 x4, .int .u64 x5, .int .u64 x6, .int .u64 x7] 24) = w1' at *
  refine hq1.mono ?_
  rintro e w2 ⟨FB, rfl, hFB, hb2⟩
  obtain rfl : FB = true := hFB.mpr hfin.out
  have B2 := B1'.trans (hb2.mono B1'.size)
  have p2 := p1'.later hb2
  obtain ⟨y0, y1, y2, y3, y4, y5, y6, y7⟩ := four_cells p2
  clear hq hq1 hfin hFB p1 p1' al hb2 B1
  go_wp2_with fail
  refine (cAB.out w2).mono ?_
  rintro e w3 ⟨rfl, hb3⟩
  have B3 := B2.trans (hb3.mono B2.size)
  have p3 := p2.later hb3
  obtain ⟨y0, y1, y2, y3, y4, y5, y6, y7⟩ := four_cells p3
  clear cAB p2 hb3
  go_wp2_with fail
  refine (cBA.out w3).mono ?_
  rintro e w4 ⟨rfl, hb4⟩
  have B4 := B3.trans (hb4.mono B3.size)
  have p4 := p3.later hb4
  obtain ⟨y0, y1, y2, y3, y4, y5, y6, y7⟩ := four_cells p4
  clear cBA p3 hb4
  go_wp2_with fail
  refine (cBC.out w4).mono ?_
  rintro e w5 ⟨rfl, hb5⟩
  have B5 := B4.trans (hb5.mono B4.size)
  have p5 := p4.later hb5
  obtain ⟨y0, y1, y2, y3, y4, y5, y6, y7⟩ := four_cells p5
  clear cBC p4 hb5
  go_wp2_with fail
  refine (cAC.out w5).mono ?_
  rintro e w6 ⟨rfl, hb6⟩
  have B6 := B5.trans (hb6.mono B5.size)
  have p6 := p5.later hb6
  obtain ⟨y0, y1, y2, y3, y4, y5, y6, y7⟩ := four_cells p6
  clear cAC p5 hb6
  go_wp2_with fail
  refine (cN.out w6).mono ?_
  rintro e w7 ⟨rfl, hb7⟩
  have B7 := B6.trans (hb7.mono B6.size)
  have p7 := p6.later hb7
  obtain ⟨y0, y1, y2, y3, y4, y5, y6, y7⟩ := four_cells p7
  clear cN p6 hb7
  go_wp2_with fail
  refine (cIS.out w7).mono ?_
  rintro e w8 ⟨rfl, hb8⟩
  have B8 := B7.trans (hb8.mono B7.size)
  have p8 := p7.later hb8
  obtain ⟨y0, y1, y2, y3, y4, y5, y6, y7⟩ := four_cells p8
  clear cIS p7 hb8
  go_wp2_with fail
  refine (cUS.out w8).mono ?_
  rintro e w9 ⟨rfl, hb9⟩
  have B9 := B8.trans (hb9.mono B8.size)
  have p9 := p8.later hb9
  obtain ⟨y0, y1, y2, y3, y4, y5, y6, y7⟩ := four_cells p9
  clear cUS p8 hb9
  have TI := HL.mk tI
  have TU := HL.mk tU
  have TC := HL.mk tC
  have T1 := HL.mk t1
  have T2 := HL.mk t2
  clear tI tU tC t1 t2 B2
  go_upto_region 13 with fail
  go_cut [170] (fun v wx => v = .bool false ∧ w9 = wx)
  case first =>
    as_aux_lemma =>
      have nAB : ¬ AB < -1 := by omega
      have mAB : ¬ 1 < AB := by omega
      have eAB : (AB != AB) = false := by simp
      have eIS : (IS != IS) = false := by simp
      clear TI TU TC T1 T2 bX bU bCD bN bBC bAC
      go_wp2_with (go_at_call 10; refine (num22_same _ _).mono ?_; rintro e w' ⟨rfl, rfl⟩)
      go_meet
      exact ⟨by rw [decide_eq_false (show ¬ AB < -1 by omega), decide_eq_false (show ¬ 1 < AB by omega)]; rfl, rfl⟩
  obtain ⟨rfl, rfl⟩ := hcut
  go_upto_region 15 with fail
  go_cut [192] (fun v wx => v = .bool false ∧ w9 = wx)
  case first =>
    clear TI TU TC bX bU bCD bN
    rcases (show (AB < 0 ∧ BC ≤ 0) ∨ (AB < 0 ∧ 0 < BC) ∨ (0 < AB ∧ 0 ≤ BC) ∨ (0 < AB ∧ BC < 0) ∨ (AB = 0 ∧ BC < 0) ∨ (AB = 0 ∧ 0 < BC) ∨ (AB = 0 ∧ BC = 0) by omega) with ⟨e1, e2⟩ | ⟨e1, e2⟩ | ⟨e1, e2⟩ | ⟨e1, e2⟩ | ⟨e1, e2⟩ | ⟨e1, e2⟩ | ⟨e1, e2⟩
    · as_aux_lemma =>
        have k0 : AB ≤ 0 := by omega
        have k1 : ¬ 0 ≤ AB := by omega
        have k2 : BC ≤ 0 := by omega
        have k3 : ¬ 0 < AC := by have := T1.out (by omega) (by omega); omega
        clear T1 T2 bAB bBC bAC e1 e2
        go_wp2
        go_meet
        exact ⟨rfl, rfl⟩
    · as_aux_lemma =>
        have k0 : AB ≤ 0 := by omega
        have k1 : ¬ 0 ≤ AB := by omega
        have k2 : ¬ BC ≤ 0 := by omega
        clear T1 T2 bAB bBC bAC e1 e2
        go_wp2
        go_meet
        exact ⟨rfl, rfl⟩
    · as_aux_lemma =>
        have k0 : ¬ AB ≤ 0 := by omega
        have k1 : 0 ≤ AB := by omega
        have k2 : 0 ≤ BC := by omega
        have k3 : ¬ AC < 0 := by have := T2.out (by omega) (by omega); omega
        clear T1 T2 bAB bBC bAC e1 e2
        go_wp2
        go_meet
        exact ⟨rfl, rfl⟩
    · as_aux_lemma =>
        have k0 : ¬ AB ≤ 0 := by omega
        have k1 : 0 ≤ AB := by omega
        have k2 : ¬ 0 ≤ BC := by omega
        clear T1 T2 bAB bBC bAC e1 e2
        go_wp2
        go_meet
        exact ⟨rfl, rfl⟩
    · as_aux_lemma =>
        have k0 : AB ≤ 0 := by omega
        have k1 : 0 ≤ AB := by omega
        have k2 : BC ≤ 0 := by omega
        have k3 : ¬ 0 ≤ BC := by omega
        have k4 : ¬ 0 < AC := by have := T1.out (by omega) (by omega); omega
        clear T1 T2 bAB bBC bAC e1 e2
        go_wp2
        go_meet
        exact ⟨rfl, rfl⟩
    · as_aux_lemma =>
        have k0 : AB ≤ 0 := by omega
        have k1 : 0 ≤ AB := by omega
        have k2 : ¬ BC ≤ 0 := by omega
        have k3 : 0 ≤ BC := by omega
        have k4 : ¬ AC < 0 := by have := T2.out (by omega) (by omega); omega
        clear T1 T2 bAB bBC bAC e1 e2
        go_wp2
        go_meet
        exact ⟨rfl, rfl⟩
    · as_aux_lemma =>
        have k0 : AB ≤ 0 := by omega
        have k1 : 0 ≤ AB := by omega
        have k2 : BC ≤ 0 := by omega
        have k3 : 0 ≤ BC := by omega
        have k4 : ¬ 0 < AC := by have := T1.out (by omega) (by omega); omega
        have k5 : ¬ AC < 0 := by have := T2.out (by omega) (by omega); omega
        clear T1 T2 bAB bBC bAC e1 e2
        go_wp2
        go_meet
        exact ⟨rfl, rfl⟩
  obtain ⟨rfl, rfl⟩ := hcut
  go_upto_region 17 with fail
  go_cut [212] (fun v wx => v = .bool false ∧ w9 = wx)
  case first =>
    clear TU TC bX bU bCD T1 T2
    rcases (show N ≠ 0 ∨ (N = 0 ∧ AC ≤ 0 ∧ 0 ≤ BC) ∨ (N = 0 ∧ AC = 0 ∧ BC < 0) ∨ (N = 0 ∧ AC < 0 ∧ BC < 0) ∨ (N = 0 ∧ 0 < AC ∧ BC ≤ 0) ∨ (N = 0 ∧ 0 < AC ∧ 0 < BC) by omega) with e1 | ⟨e1, e2, e3⟩ | ⟨e1, e2, e3⟩ | ⟨e1, e2, e3⟩ | ⟨e1, e2, e3⟩ | ⟨e1, e2, e3⟩
    · as_aux_lemma =>
        have tn : (N == 0) = false := beq_no e1
        have hI : IS = false := by rw [Bool.eq_false_iff, ne_eq, TI.out]; omega
        subst hI
        clear TI bAB bBC bAC bN e1
        go_wp2
        go_meet
        exact ⟨rfl, rfl⟩
    · as_aux_lemma =>
        have tn : (N == 0) = true := beq_of e1
        have hI : IS = true := by rw [TI.out]; omega
        have k0 : AC ≤ 0 := by omega
        have k1 : 0 ≤ BC := by omega
        subst hI
        clear TI bAB bBC bAC bN e1 e2 e3
        go_wp2
        go_meet
        exact ⟨rfl, rfl⟩
    · as_aux_lemma =>
        have tn : (N == 0) = true := beq_of e1
        have hI : IS = true := by rw [TI.out]; omega
        have k0 : AC ≤ 0 := by omega
        have k1 : ¬ 0 ≤ BC := by omega
        have k2 : 0 ≤ AC := by omega
        have k3 : BC ≤ 0 := by omega
        subst hI
        clear TI bAB bBC bAC bN e1 e2 e3
        go_wp2
        go_meet
        exact ⟨rfl, rfl⟩
    · as_aux_lemma =>
        have tn : (N == 0) = true := beq_of e1
        have hI : IS = false := by rw [Bool.eq_false_iff, ne_eq, TI.out]; omega
        have k0 : AC ≤ 0 := by omega
        have k1 : ¬ 0 ≤ BC := by omega
        have k2 : ¬ 0 ≤ AC := by omega
        subst hI
        clear TI bAB bBC bAC bN e1 e2 e3
        go_wp2
        go_meet
        exact ⟨rfl, rfl⟩
    · as_aux_lemma =>
        have tn : (N == 0) = true := beq_of e1
        have hI : IS = true := by rw [TI.out]; omega
        have k0 : ¬ AC ≤ 0 := by omega
        have k1 : 0 ≤ AC := by omega
        have k2 : BC ≤ 0 := by omega
        subst hI
        clear TI bAB bBC bAC bN e1 e2 e3
        go_wp2
        go_meet
        exact ⟨rfl, rfl⟩
    · as_aux_lemma =>
        have tn : (N == 0) = true := beq_of e1
        have hI : IS = false := by rw [Bool.eq_false_iff, ne_eq, TI.out]; omega
        have k0 : ¬ AC ≤ 0 := by omega
        have k1 : 0 ≤ AC := by omega
        have k2 : ¬ BC ≤ 0 := by omega
        subst hI
        clear TI bAB bBC bAC bN e1 e2 e3
        go_wp2
        go_meet
        exact ⟨rfl, rfl⟩
  obtain ⟨rfl, rfl⟩ := hcut
  clear TI T1 T2 bAB bBC bAC bN
  go_wp2_with fail
  refine (cX.out w9).mono ?_
  rintro e w10 ⟨rfl, hb10⟩
  have B10 := B9.trans (hb10.mono B9.size)
  have p10 := p9.later hb10
  obtain ⟨y0, y1, y2, y3, y4, y5, y6, y7⟩ := four_cells p10
  clear cX p9 hb10
  go_wp2_with fail
  refine (cY.out w10).mono ?_
  rintro e w11 ⟨rfl, hb11⟩
  have B11 := B10.trans (hb11.mono B10.size)
  have p11 := p10.later hb11
  obtain ⟨y0, y1, y2, y3, y4, y5, y6, y7⟩ := four_cells p11
  clear cY p10 hb11
  go_wp2_with fail
  refine (cZ.out w11).mono ?_
  rintro e w12 ⟨rfl, hb12⟩
  have B12 := B11.trans (hb12.mono B11.size)
  have p12 := p11.later hb12
  obtain ⟨y0, y1, y2, y3, y4, y5, y6, y7⟩ := four_cells p12
  clear cZ p11 hb12
  go_wp2_with fail
  refine (cU.out w12).mono ?_
  rintro e w13 ⟨rfl, hb13⟩
  have B13 := B12.trans (hb13.mono B12.size)
  have p13 := p12.later hb13
  obtain ⟨y0, y1, y2, y3, y4, y5, y6, y7⟩ := four_cells p13
  clear cU p12 hb13
  go_wp2_with fail
  refine (cCD.out w13).mono ?_
  rintro e w14 ⟨rfl, hb14⟩
  have B14 := B13.trans (hb14.mono B13.size)
  have p14 := p13.later hb14
  obtain ⟨y0, y1, y2, y3, y4, y5, y6, y7⟩ := four_cells p14
  clear cCD p13 hb14
  by_cases hU0 : U = 0
  · have hC0 := TC.out.mp hU0
    subst hU0 hC0
    clear TC TU bU bCD
    have eX : (X == X) = true := by simp
    go_wp2_with (go_at_call 10; refine (num22_same _ _).mono ?_; rintro e w' ⟨rfl, rfl⟩)
    go_ret
    exact ⟨rfl, B14⟩
  · have tu : (U == 0) = false := beq_no hU0
    have tc : (CD == 0) = false := beq_no (fun h => hU0 (TC.out.mpr h))
    have tle := TU.out
    have eX : (X == X) = true := by simp
    clear TC TU hU0
    go_wp2_with (go_at_call 10; refine (num22_same _ _).mono ?_; rintro e w' ⟨rfl, rfl⟩)
    go_ret
    exact ⟨rfl, B14⟩
end Go.Proofs.Ytbonkgmcpjaepaa
