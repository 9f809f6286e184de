/- plumblaw22: PredWhole's walk (written by genpwf.py). -/
import Derived.Test.YtbonkgmcpjaepaaGreatPwE
import Derived.Test.YtbonkgmcpjaepaaGreatPdQa
import Derived.Deep.DeepCutAuto
namespace Go.Proofs.YtbonkgmcpjaepaaGreat
open Go.ChangeShapes Go.WideShapes Go.ChangeAt Go.RowKit
open Na Ar
set_option linter.unusedVariables false
theorem nine_cells {w : World} {g : Nat} {t : TypeId} {y0 y1 y2 y3 y4 y5 y6 y7 y8 : Value} (h : Pb w g t #[y0, y1, y2, y3, y4, y5, y6, y7, y8]) : w.cell? ⟨g, 0, none⟩ = some y0 ∧ w.cell? ⟨g, 1, none⟩ = some y1 ∧ w.cell? ⟨g, 2, none⟩ = some y2 ∧ w.cell? ⟨g, 3, none⟩ = some y3 ∧ w.cell? ⟨g, 4, none⟩ = some y4 ∧ w.cell? ⟨g, 5, none⟩ = some y5 ∧ w.cell? ⟨g, 6, none⟩ = some y6 ∧ w.cell? ⟨g, 7, none⟩ = some y7 ∧ w.cell? ⟨g, 8, none⟩ = some y8 :=
  ⟨h.cell 0 rfl, h.cell 1 rfl, h.cell 2 rfl, h.cell 3 rfl, h.cell 4 rfl, h.cell 5 rfl, h.cell 6 rfl, h.cell 7 rfl, h.cell 8 rfl⟩
theorem rem_bd (K : Int) : -899 ≤ K.tmod 900 ∧ K.tmod 900 ≤ 899 := by
  have h1 := Int.tmod_lt_of_pos K (show (0 : Int) < 900 by omega)
  have h2 := Int.lt_tmod_of_pos K (show (0 : Int) < 900 by omega)
  omega
set_option maxHeartbeats 25600000 in
set_option maxRecDepth 100000 in
theorem whole_walk {ax ay bx by' cx cy dx dy K : Int} (h1 : I64 ax) (h2 : I64 ay) (h3 : I64 bx) (h4 : I64 by') (h5 : I64 cx) (h6 : I64 cy) (h7 : I64 dx) (h8 : I64 dy) (hK : I64 K) {w : World} :
    Calls Tryz.prog 3 #[.agg #[.int .i64 ax, .int .i64 ay, .int .i64 bx, .int .i64 by', .int .i64 cx, .int .i64 cy, .int .i64 dx, .int .i64 dy, .int .i64 K]] w fun e w' => e = .returned (.bool true) ∧ Below w.heap.size w w' := by
  obtain ⟨k, hk, bk⟩ : ∃ k, K.tmod 900 = k ∧ -899 ≤ k ∧ k ≤ 899 := ⟨_, rfl, rem_bd K⟩
  have hb0 := alloc_below (w := w) (.cells #[.int .i64 ax, .int .i64 ay, .int .i64 bx, .int .i64 by', .int .i64 cx, .int .i64 cy, .int .i64 dx, .int .i64 dy, .int .i64 K] 25)
  have uQ := Pb.new w 25 #[.int .i64 ax, .int .i64 ay, .int .i64 bx, .int .i64 by', .int .i64 cx, .int .i64 cy, .int .i64 dx, .int .i64 dy, .int .i64 K]
  obtain ⟨g, hg⟩ : ∃ g, g = w.heap.size := ⟨_, rfl⟩
  have HG : Hid (w.heap.size = g) := hg.symm
  rw [← hg] at uQ
  obtain ⟨w0, hw0⟩ : ∃ w0, w0 = w.alloc (.cells #[.int .i64 ax, .int .i64 ay, .int .i64 bx, .int .i64 by', .int .i64 cx, .int .i64 cy, .int .i64 dx, .int .i64 dy, .int .i64 K] 25) := ⟨_, rfl⟩
  rw [← hw0] at hb0 uQ
  have cA := HL.mk (fun (w : World) => at22_any h1 h2 bk w)
  have cB := HL.mk (fun (w : World) => at22_any h3 h4 bk w)
  have cC := HL.mk (fun (w : World) => at22_any h5 h6 bk w)
  have cD := HL.mk (fun (w : World) => at22_any h7 h8 bk w)
  have cS := HL.mk (fun (w : World) => side22_any h1 h2 h3 h4 h5 h6 w)
  have cF1 := HL.mk (fun (w : World) => far22_any h1 h2 h3 h4 w)
  have cF2 := HL.mk (fun (w : World) => far22_any h5 h6 h7 h8 w)
  have cWax := HL.mk (fun (w : World) => within22_same ax h1 w)
  have cWay := HL.mk (fun (w : World) => within22_same ay h2 w)
  have cWbx := HL.mk (fun (w : World) => within22_same bx h3 w)
  have cWby' := HL.mk (fun (w : World) => within22_same by' h4 w)
  have cWcx := HL.mk (fun (w : World) => within22_same cx h5 w)
  have cWcy := HL.mk (fun (w : World) => within22_same cy h6 w)
  have cWdx := HL.mk (fun (w : World) => within22_same dx h7 w)
  have cWdy := HL.mk (fun (w : World) => within22_same dy h8 w)
  clear h1 h2 h3 h4 h5 h6 h7 h8 hK
  have bax := wn_bd ax
  have bay := wn_bd ay
  have bbx := wn_bd bx
  have bby' := wn_bd by'
  have bcx := wn_bd cx
  have bcy := wn_bd cy
  have bdx := wn_bd dx
  have bdy := wn_bd dy
  obtain ⟨px, epx, fpx⟩ : ∃ px, IntKind.i64.wrap (Wn ax - Wn dx) = px ∧ px = Wn ax - Wn dx := ⟨_, wrI (by omega), rfl⟩
  obtain ⟨py, epy, fpy⟩ : ∃ py, IntKind.i64.wrap (Wn ay - Wn dy) = py ∧ py = Wn ay - Wn dy := ⟨_, wrI (by omega), rfl⟩
  obtain ⟨qx, eqx, fqx⟩ : ∃ qx, IntKind.i64.wrap (Wn bx - Wn dx) = qx ∧ qx = Wn bx - Wn dx := ⟨_, wrI (by omega), rfl⟩
  obtain ⟨qy, eqy, fqy⟩ : ∃ qy, IntKind.i64.wrap (Wn by' - Wn dy) = qy ∧ qy = Wn by' - Wn dy := ⟨_, wrI (by omega), rfl⟩
  obtain ⟨rx, erx, frx⟩ : ∃ rx, IntKind.i64.wrap (Wn cx - Wn dx) = rx ∧ rx = Wn cx - Wn dx := ⟨_, wrI (by omega), rfl⟩
  obtain ⟨ry, ery, fry⟩ : ∃ ry, IntKind.i64.wrap (Wn cy - Wn dy) = ry ∧ ry = Wn cy - Wn dy := ⟨_, wrI (by omega), rfl⟩
  obtain ⟨pxx, pyy, qxx, qyy, rxx, ryy, pw, qw, rw', m1, m2, n1, m3, m4, m5, n2, m6, s1, m7, m8, n3, m9, E1, E2, E3, E4, E5, E6, E7, E8, E9, E10, E11, E12, E13, E14, E15, E16, E17, E18, E19, E20, E21, E22, E23, B1, B2, B3, B4, B5, B6, B7, B8, B9, B10, B11, B12, B13, B14, B15⟩ := whole_sums (px := px) (py := py) (qx := qx) (qy := qy) (rx := rx) (ry := ry) (by omega) (by omega) (by omega) (by omega) (by omega) (by omega)
  obtain ⟨T, hT⟩ : ∃ T, inI px py qx qy rx ry = T := ⟨_, rfl⟩
  have HT : Hid (inI (Wn ax - Wn dx) (Wn ay - Wn dy) (Wn bx - Wn dx) (Wn by' - Wn dy) (Wn cx - Wn dx) (Wn cy - Wn dy) = T) := by show _ = _; rw [← fpx, ← fpy, ← fqx, ← fqy, ← frx, ← fry]; exact hT
  rw [hT] at E23
  clear hT fpx fpy fqx fqy frx fry
  obtain ⟨dot, hdot⟩ : ∃ dot, (Wn cx - Wn ax) * (Wn cx - Wn bx) + (Wn cy - Wn ay) * (Wn cy - Wn by') = dot := ⟨_, rfl⟩
  have Hdot : Hid ((Wn cx - Wn ax) * (Wn cx - Wn bx) + (Wn cy - Wn ay) * (Wn cy - Wn by') = dot) := hdot
  have edot := whole_dot bax bay bbx bby' bcx bcy
  rw [hdot] at edot
  obtain ⟨V, hV⟩ : ∃ V, crI (Wn ax) (Wn ay) (Wn bx) (Wn by') (Wn cx) (Wn cy) = V := ⟨_, rfl⟩
  have HV : Hid (crI (Wn ax) (Wn ay) (Wn bx) (Wn by') (Wn cx) (Wn cy) = V) := hV
  rw [hV] at cS
  obtain ⟨F1, hF1⟩ : ∃ F, sqI (Wn ax) (Wn ay) (Wn bx) (Wn by') = F := ⟨_, rfl⟩
  obtain ⟨F2, hF2⟩ : ∃ F, sqI (Wn cx) (Wn cy) (Wn dx) (Wn dy) = F := ⟨_, rfl⟩
  have bF : ∀ x y z t : Int, (-4095 ≤ x ∧ x ≤ 4095) → (-4095 ≤ y ∧ y ≤ 4095) → (-4095 ≤ z ∧ z ≤ 4095) → (-4095 ≤ t ∧ t ≤ 4095) → -134152200 ≤ sqI x y z t ∧ sqI x y z t ≤ 134152200 := by
    intro x y z t h1 h2 h3 h4
    have p1 := mul_bd22 (a := x - z) (b := x - z) (A := 8190) (B := 8190) (by omega) (by omega)
    have p2 := mul_bd22 (a := y - t) (b := y - t) (A := 8190) (B := 8190) (by omega) (by omega)
    unfold sqI
    omega
  have bF1 := bF _ _ _ _ bax bay bbx bby'
  have bF2 := bF _ _ _ _ bcx bcy bdx bdy
  rw [hF1] at cF1 bF1
  rw [hF2] at cF2 bF2
  have HF : Hid (sqI (Wn ax) (Wn ay) (Wn bx) (Wn by') - sqI (Wn cx) (Wn cy) (Wn dx) (Wn dy) = F1 - F2) := by show _ = _; rw [hF1, hF2]
  have eF : IntKind.i64.wrap (F1 - F2) = F1 - F2 := wrI (by omega)
  obtain ⟨OX, hOX⟩ : ∃ x, IntKind.i64.wrap (Wn ax - Wn bx) = x := ⟨_, rfl⟩
  obtain ⟨OY, hOY⟩ : ∃ x, IntKind.i64.wrap (Wn ay - Wn by') = x := ⟨_, rfl⟩
  have HO : Hid (ordI (Wn ax) (Wn ay) (Wn bx) (Wn by') = if sgI OX = 0 then sgI OY else sgI OX) := by show _ = _; unfold ordI; rw [← hOX, ← hOY, wrI (by omega), wrI (by omega)]
  clear hdot hV hF1 hF2 bF bF1 bF2
  obtain ⟨lpxx, rpxx⟩ := B1
  obtain ⟨lpyy, rpyy⟩ := B2
  obtain ⟨lqxx, rqxx⟩ := B3
  obtain ⟨lqyy, rqyy⟩ := B4
  obtain ⟨lrxx, rrxx⟩ := B5
  obtain ⟨lryy, rryy⟩ := B6
  obtain ⟨lm7, rm7⟩ := B7
  obtain ⟨lm8, rm8⟩ := B8
  obtain ⟨lm1, rm1⟩ := B9
  obtain ⟨lm2, rm2⟩ := B10
  obtain ⟨lm4, rm4⟩ := B11
  obtain ⟨lm5, rm5⟩ := B12
  obtain ⟨lm3, rm3⟩ := B13
  obtain ⟨lm6, rm6⟩ := B14
  obtain ⟨lm9, rm9⟩ := B15
  have HB := HL.mk (And.intro bax (And.intro bay (And.intro bbx (And.intro bby' (And.intro bcx (And.intro bcy (And.intro bdx bdy)))))))
  clear bax bay bbx bby' bcx bcy bdx bdy
  clear hg HB
  have ES := HL.mk (And.intro E1 (And.intro E2 (And.intro E3 (And.intro E4 (And.intro E5 (And.intro E6 (And.intro E7 (And.intro E8 E9))))))))
  have ET := HL.mk (And.intro E10 (And.intro E11 (And.intro E12 (And.intro E13 (And.intro E14 (And.intro E15 (And.intro E16 (And.intro E17 (And.intro E18 (And.intro E19 (And.intro E20 (And.intro E21 (And.intro E22 E23)))))))))))))
  clear E1 E2 E3 E4 E5 E6 E7 E8 E9 E10 E11 E12 E13 E14 E15 E16 E17 E18 E19 E20 E21 E22 E23
  have hke := HL.mk hk
  have bke := HL.mk bk
  obtain ⟨y0, y1, y2, y3, y4, y5, y6, y7, y8⟩ := nine_cells uQ
  go_enter Tryz.func3, Tryz.ntmps3
  go_wp2_with fail
  rw [← hw0, HG.out]
  clear hw0
  refine (cA.out w0).mono ?_
  rintro e w1 ⟨pa, qa, rfl, GA, GA', hb1⟩
  have al := alloc_below (w := w1) (.cells #[.int .u64 pa, .int .u64 qa] 28)
  have hb1' := (hb0.trans (hb1.mono hb0.size)).trans (al.mono (hb0.trans (hb1.mono hb0.size)).size)
  have uA := Pb.new w1 28 #[.int .u64 pa, .int .u64 qa]
  replace uQ := uQ.later hb1
  replace uQ := uQ.later al
  clear hb0
  have hb0 := hb1'
  clear hb1' al hb1 cA
  obtain ⟨y0, y1, y2, y3, y4, y5, y6, y7, y8⟩ := nine_cells uQ
  obtain ⟨za0, za1⟩ := two_cells22 uA
  go_wp2_with fail
  generalize w1.alloc (.cells #[.int .u64 pa, .int .u64 qa] 28) = w2 at *
  generalize w1.heap.size = ga at *
  refine (cB.out w2).mono ?_
  rintro e w3 ⟨pb, qb, rfl, GB, GB', hb3⟩
  have al := alloc_below (w := w3) (.cells #[.int .u64 pb, .int .u64 qb] 28)
  have hb3' := (hb0.trans (hb3.mono hb0.size)).trans (al.mono (hb0.trans (hb3.mono hb0.size)).size)
  have uB := Pb.new w3 28 #[.int .u64 pb, .int .u64 qb]
  replace uQ := uQ.later hb3
  replace uA := uA.later hb3
  replace uQ := uQ.later al
  replace uA := uA.later al
  clear hb0
  have hb0 := hb3'
  clear hb3' al hb3 cB
  obtain ⟨y0, y1, y2, y3, y4, y5, y6, y7, y8⟩ := nine_cells uQ
  obtain ⟨za0, za1⟩ := two_cells22 uA
  obtain ⟨zb0, zb1⟩ := two_cells22 uB
  go_wp2_with fail
  generalize w3.alloc (.cells #[.int .u64 pb, .int .u64 qb] 28) = w4 at *
  generalize w3.heap.size = gb at *
  refine (cC.out w4).mono ?_
  rintro e w5 ⟨pc, qc, rfl, GC, GC', hb5⟩
  have al := alloc_below (w := w5) (.cells #[.int .u64 pc, .int .u64 qc] 28)
  have hb5' := (hb0.trans (hb5.mono hb0.size)).trans (al.mono (hb0.trans (hb5.mono hb0.size)).size)
  have uC := Pb.new w5 28 #[.int .u64 pc, .int .u64 qc]
  replace uQ := uQ.later hb5
  replace uA := uA.later hb5
  replace uB := uB.later hb5
  replace uQ := uQ.later al
  replace uA := uA.later al
  replace uB := uB.later al
  clear hb0
  have hb0 := hb5'
  clear hb5' al hb5 cC
  obtain ⟨y0, y1, y2, y3, y4, y5, y6, y7, y8⟩ := nine_cells uQ
  obtain ⟨za0, za1⟩ := two_cells22 uA
  obtain ⟨zb0, zb1⟩ := two_cells22 uB
  obtain ⟨zc0, zc1⟩ := two_cells22 uC
  go_wp2_with fail
  generalize w5.alloc (.cells #[.int .u64 pc, .int .u64 qc] 28) = w6 at *
  generalize w5.heap.size = gc at *
  refine (cD.out w6).mono ?_
  rintro e w7 ⟨pd, qd, rfl, GD, GD', hb7⟩
  have al := alloc_below (w := w7) (.cells #[.int .u64 pd, .int .u64 qd] 28)
  have hb7' := (hb0.trans (hb7.mono hb0.size)).trans (al.mono (hb0.trans (hb7.mono hb0.size)).size)
  have uD := Pb.new w7 28 #[.int .u64 pd, .int .u64 qd]
  replace uQ := uQ.later hb7
  replace uA := uA.later hb7
  replace uB := uB.later hb7
  replace uC := uC.later hb7
  replace uQ := uQ.later al
  replace uA := uA.later al
  replace uB := uB.later al
  replace uC := uC.later al
  clear hb0
  have hb0 := hb7'
  clear hb7' al hb7 cD
  obtain ⟨y0, y1, y2, y3, y4, y5, y6, y7, y8⟩ := nine_cells uQ
  obtain ⟨za0, za1⟩ := two_cells22 uA
  obtain ⟨zb0, zb1⟩ := two_cells22 uB
  obtain ⟨zc0, zc1⟩ := two_cells22 uC
  obtain ⟨zd0, zd1⟩ := two_cells22 uD
  go_wp2_with fail
  generalize w7.alloc (.cells #[.int .u64 pd, .int .u64 qd] 28) = w8 at *
  generalize w7.heap.size = gd at *
  have kN := HL.mk (fun (w : World) => orientW GA GA' GB GB' GC GC' w)
  have kI := HL.mk (fun (w : World) => inW GA GA' GB GB' GC GC' GD GD' w)
  have kB := HL.mk (fun (w : World) => btwW GA GA' GB GB' GC GC' w)
  have kF := HL.mk (fun (w : World) => nearW GA GA' GB GB' GC GC' GD GD' w)
  have kO := HL.mk (fun (w : World) => ordW GA GA' GB GB' w)
  rw [HV.out] at kN kB
  rw [Hdot.out] at kB
  rw [HT.out] at kI
  rw [HF.out] at kF
  rw [HO.out] at kO
  obtain ⟨IS, hIS⟩ : ∃ IS, ((V == 0) && decide (dot ≤ 0)) = IS := ⟨_, rfl⟩
  rw [hIS] at kB
  obtain ⟨OO, hOO⟩ : ∃ OO, (if sgI OX = 0 then sgI OY else sgI OX) = OO := ⟨_, rfl⟩
  rw [hOO] at kO
  have KIS := HL.mk hIS
  have KOO := HL.mk hOO
  clear GA GA' GB GB' GC GC' GD GD' HV Hdot HT HF HO hIS hOO hk bk
  have MARKA := 1
  refine (kN.out w8).mono ?_
  rintro e w9 ⟨rfl, hb9⟩
  have hb0' := hb0.trans (hb9.mono hb0.size)
  replace uQ := uQ.later hb9
  replace uA := uA.later hb9
  replace uB := uB.later hb9
  replace uC := uC.later hb9
  replace uD := uD.later hb9
  clear hb0 hb9 kN
  have hb0 := hb0'
  clear hb0'
  obtain ⟨y0, y1, y2, y3, y4, y5, y6, y7, y8⟩ := nine_cells uQ
  obtain ⟨za0, za1⟩ := two_cells22 uA
  obtain ⟨zb0, zb1⟩ := two_cells22 uB
  obtain ⟨zc0, zc1⟩ := two_cells22 uC
  obtain ⟨zd0, zd1⟩ := two_cells22 uD
  go_wp2_with (first | (go_at_call 9; refine (num22_same _ _).mono ?_; rintro e w' ⟨rfl, rfl⟩) | (go_at_call 10; refine (sign22_same _ _).mono ?_; rintro e w' ⟨rfl, rfl⟩))
  refine (cS.out w9).mono ?_
  rintro e w10 ⟨rfl, hb10⟩
  have hb0' := hb0.trans (hb10.mono hb0.size)
  replace uQ := uQ.later hb10
  replace uA := uA.later hb10
  replace uB := uB.later hb10
  replace uC := uC.later hb10
  replace uD := uD.later hb10
  clear hb0 hb10 cS
  have hb0 := hb0'
  clear hb0'
  obtain ⟨y0, y1, y2, y3, y4, y5, y6, y7, y8⟩ := nine_cells uQ
  obtain ⟨za0, za1⟩ := two_cells22 uA
  obtain ⟨zb0, zb1⟩ := two_cells22 uB
  obtain ⟨zc0, zc1⟩ := two_cells22 uC
  obtain ⟨zd0, zd1⟩ := two_cells22 uD
  have eV : (sgI V != sgI V) = false := by simp
  have MARKB := 1
  go_upto_region 10 with (first | (go_at_call 9; refine (num22_same _ _).mono ?_; rintro e w' ⟨rfl, rfl⟩) | (go_at_call 10; refine (sign22_same _ _).mono ?_; rintro e w' ⟨rfl, rfl⟩))
  go_region_held3 (fun w' => w'.cell? ⟨g, 0, none⟩ = some (.int .i64 ax) ∧ w'.cell? ⟨g, 1, none⟩ = some (.int .i64 ay) ∧ w'.cell? ⟨g, 2, none⟩ = some (.int .i64 bx) ∧ w'.cell? ⟨g, 3, none⟩ = some (.int .i64 by') ∧ w'.cell? ⟨g, 4, none⟩ = some (.int .i64 cx) ∧ w'.cell? ⟨g, 5, none⟩ = some (.int .i64 cy) ∧ w'.cell? ⟨g, 6, none⟩ = some (.int .i64 dx) ∧ w'.cell? ⟨g, 7, none⟩ = some (.int .i64 dy)) (go_keep) (first | (go_at_call_of 11 ax; refine (cWax.out _).mono ?_; rintro e w' ⟨rfl, rfl⟩) | (go_at_call_of 11 dx; refine (cWdx.out _).mono ?_; rintro e w' ⟨rfl, rfl⟩))
  obtain ⟨w11, hw11⟩ : ∃ ww, ww = w10.drew := ⟨_, rfl⟩
  have hd : Below w10.heap.size w10 w11 := by rw [hw11]; exact below_drewN (Below.refl _ _) 1
  have hb0' := hb0.trans (hd.mono hb0.size)
  replace uQ := uQ.later hd
  replace uA := uA.later hd
  replace uB := uB.later hd
  replace uC := uC.later hd
  replace uD := uD.later hd
  rw [← hw11]
  clear hb0 hd hw11
  have hb0 := hb0'
  clear hb0'
  obtain ⟨y0, y1, y2, y3, y4, y5, y6, y7, y8⟩ := nine_cells uQ
  obtain ⟨za0, za1⟩ := two_cells22 uA
  obtain ⟨zb0, zb1⟩ := two_cells22 uB
  obtain ⟨zc0, zc1⟩ := two_cells22 uC
  obtain ⟨zd0, zd1⟩ := two_cells22 uD
  go_upto_region 11 with (first | (go_at_call 9; refine (num22_same _ _).mono ?_; rintro e w' ⟨rfl, rfl⟩) | (go_at_call 10; refine (sign22_same _ _).mono ?_; rintro e w' ⟨rfl, rfl⟩))
  go_region_held3 (fun w' => w'.cell? ⟨g, 0, none⟩ = some (.int .i64 ax) ∧ w'.cell? ⟨g, 1, none⟩ = some (.int .i64 ay) ∧ w'.cell? ⟨g, 2, none⟩ = some (.int .i64 bx) ∧ w'.cell? ⟨g, 3, none⟩ = some (.int .i64 by') ∧ w'.cell? ⟨g, 4, none⟩ = some (.int .i64 cx) ∧ w'.cell? ⟨g, 5, none⟩ = some (.int .i64 cy) ∧ w'.cell? ⟨g, 6, none⟩ = some (.int .i64 dx) ∧ w'.cell? ⟨g, 7, none⟩ = some (.int .i64 dy)) (go_keep) (first | (go_at_call_of 11 ay; refine (cWay.out _).mono ?_; rintro e w' ⟨rfl, rfl⟩) | (go_at_call_of 11 dy; refine (cWdy.out _).mono ?_; rintro e w' ⟨rfl, rfl⟩))
  obtain ⟨w12, hw12⟩ : ∃ ww, ww = w11.drew := ⟨_, rfl⟩
  have hd : Below w11.heap.size w11 w12 := by rw [hw12]; exact below_drewN (Below.refl _ _) 1
  have hb0' := hb0.trans (hd.mono hb0.size)
  replace uQ := uQ.later hd
  replace uA := uA.later hd
  replace uB := uB.later hd
  replace uC := uC.later hd
  replace uD := uD.later hd
  rw [← hw12]
  clear hb0 hd hw12
  have hb0 := hb0'
  clear hb0'
  obtain ⟨y0, y1, y2, y3, y4, y5, y6, y7, y8⟩ := nine_cells uQ
  obtain ⟨za0, za1⟩ := two_cells22 uA
  obtain ⟨zb0, zb1⟩ := two_cells22 uB
  obtain ⟨zc0, zc1⟩ := two_cells22 uC
  obtain ⟨zd0, zd1⟩ := two_cells22 uD
  go_upto_region 12 with (first | (go_at_call 9; refine (num22_same _ _).mono ?_; rintro e w' ⟨rfl, rfl⟩) | (go_at_call 10; refine (sign22_same _ _).mono ?_; rintro e w' ⟨rfl, rfl⟩))
  go_region_held3 (fun w' => w'.cell? ⟨g, 0, none⟩ = some (.int .i64 ax) ∧ w'.cell? ⟨g, 1, none⟩ = some (.int .i64 ay) ∧ w'.cell? ⟨g, 2, none⟩ = some (.int .i64 bx) ∧ w'.cell? ⟨g, 3, none⟩ = some (.int .i64 by') ∧ w'.cell? ⟨g, 4, none⟩ = some (.int .i64 cx) ∧ w'.cell? ⟨g, 5, none⟩ = some (.int .i64 cy) ∧ w'.cell? ⟨g, 6, none⟩ = some (.int .i64 dx) ∧ w'.cell? ⟨g, 7, none⟩ = some (.int .i64 dy)) (go_keep) (first | (go_at_call_of 11 bx; refine (cWbx.out _).mono ?_; rintro e w' ⟨rfl, rfl⟩) | (go_at_call_of 11 dx; refine (cWdx.out _).mono ?_; rintro e w' ⟨rfl, rfl⟩))
  obtain ⟨w13, hw13⟩ : ∃ ww, ww = w12.drew := ⟨_, rfl⟩
  have hd : Below w12.heap.size w12 w13 := by rw [hw13]; exact below_drewN (Below.refl _ _) 1
  have hb0' := hb0.trans (hd.mono hb0.size)
  replace uQ := uQ.later hd
  replace uA := uA.later hd
  replace uB := uB.later hd
  replace uC := uC.later hd
  replace uD := uD.later hd
  rw [← hw13]
  clear hb0 hd hw13
  have hb0 := hb0'
  clear hb0'
  obtain ⟨y0, y1, y2, y3, y4, y5, y6, y7, y8⟩ := nine_cells uQ
  obtain ⟨za0, za1⟩ := two_cells22 uA
  obtain ⟨zb0, zb1⟩ := two_cells22 uB
  obtain ⟨zc0, zc1⟩ := two_cells22 uC
  obtain ⟨zd0, zd1⟩ := two_cells22 uD
  go_upto_region 13 with (first | (go_at_call 9; refine (num22_same _ _).mono ?_; rintro e w' ⟨rfl, rfl⟩) | (go_at_call 10; refine (sign22_same _ _).mono ?_; rintro e w' ⟨rfl, rfl⟩))
  go_region_held3 (fun w' => w'.cell? ⟨g, 0, none⟩ = some (.int .i64 ax) ∧ w'.cell? ⟨g, 1, none⟩ = some (.int .i64 ay) ∧ w'.cell? ⟨g, 2, none⟩ = some (.int .i64 bx) ∧ w'.cell? ⟨g, 3, none⟩ = some (.int .i64 by') ∧ w'.cell? ⟨g, 4, none⟩ = some (.int .i64 cx) ∧ w'.cell? ⟨g, 5, none⟩ = some (.int .i64 cy) ∧ w'.cell? ⟨g, 6, none⟩ = some (.int .i64 dx) ∧ w'.cell? ⟨g, 7, none⟩ = some (.int .i64 dy)) (go_keep) (first | (go_at_call_of 11 by'; refine (cWby'.out _).mono ?_; rintro e w' ⟨rfl, rfl⟩) | (go_at_call_of 11 dy; refine (cWdy.out _).mono ?_; rintro e w' ⟨rfl, rfl⟩))
  obtain ⟨w14, hw14⟩ : ∃ ww, ww = w13.drew := ⟨_, rfl⟩
  have hd : Below w13.heap.size w13 w14 := by rw [hw14]; exact below_drewN (Below.refl _ _) 1
  have hb0' := hb0.trans (hd.mono hb0.size)
  replace uQ := uQ.later hd
  replace uA := uA.later hd
  replace uB := uB.later hd
  replace uC := uC.later hd
  replace uD := uD.later hd
  rw [← hw14]
  clear hb0 hd hw14
  have hb0 := hb0'
  clear hb0'
  obtain ⟨y0, y1, y2, y3, y4, y5, y6, y7, y8⟩ := nine_cells uQ
  obtain ⟨za0, za1⟩ := two_cells22 uA
  obtain ⟨zb0, zb1⟩ := two_cells22 uB
  obtain ⟨zc0, zc1⟩ := two_cells22 uC
  obtain ⟨zd0, zd1⟩ := two_cells22 uD
  go_upto_region 14 with (first | (go_at_call 9; refine (num22_same _ _).mono ?_; rintro e w' ⟨rfl, rfl⟩) | (go_at_call 10; refine (sign22_same _ _).mono ?_; rintro e w' ⟨rfl, rfl⟩))
  go_region_held3 (fun w' => w'.cell? ⟨g, 0, none⟩ = some (.int .i64 ax) ∧ w'.cell? ⟨g, 1, none⟩ = some (.int .i64 ay) ∧ w'.cell? ⟨g, 2, none⟩ = some (.int .i64 bx) ∧ w'.cell? ⟨g, 3, none⟩ = some (.int .i64 by') ∧ w'.cell? ⟨g, 4, none⟩ = some (.int .i64 cx) ∧ w'.cell? ⟨g, 5, none⟩ = some (.int .i64 cy) ∧ w'.cell? ⟨g, 6, none⟩ = some (.int .i64 dx) ∧ w'.cell? ⟨g, 7, none⟩ = some (.int .i64 dy)) (go_keep) (first | (go_at_call_of 11 cx; refine (cWcx.out _).mono ?_; rintro e w' ⟨rfl, rfl⟩) | (go_at_call_of 11 dx; refine (cWdx.out _).mono ?_; rintro e w' ⟨rfl, rfl⟩))
  obtain ⟨w15, hw15⟩ : ∃ ww, ww = w14.drew := ⟨_, rfl⟩
  have hd : Below w14.heap.size w14 w15 := by rw [hw15]; exact below_drewN (Below.refl _ _) 1
  have hb0' := hb0.trans (hd.mono hb0.size)
  replace uQ := uQ.later hd
  replace uA := uA.later hd
  replace uB := uB.later hd
  replace uC := uC.later hd
  replace uD := uD.later hd
  rw [← hw15]
  clear hb0 hd hw15
  have hb0 := hb0'
  clear hb0'
  obtain ⟨y0, y1, y2, y3, y4, y5, y6, y7, y8⟩ := nine_cells uQ
  obtain ⟨za0, za1⟩ := two_cells22 uA
  obtain ⟨zb0, zb1⟩ := two_cells22 uB
  obtain ⟨zc0, zc1⟩ := two_cells22 uC
  obtain ⟨zd0, zd1⟩ := two_cells22 uD
  go_upto_region 15 with (first | (go_at_call 9; refine (num22_same _ _).mono ?_; rintro e w' ⟨rfl, rfl⟩) | (go_at_call 10; refine (sign22_same _ _).mono ?_; rintro e w' ⟨rfl, rfl⟩))
  go_region_held3 (fun w' => w'.cell? ⟨g, 0, none⟩ = some (.int .i64 ax) ∧ w'.cell? ⟨g, 1, none⟩ = some (.int .i64 ay) ∧ w'.cell? ⟨g, 2, none⟩ = some (.int .i64 bx) ∧ w'.cell? ⟨g, 3, none⟩ = some (.int .i64 by') ∧ w'.cell? ⟨g, 4, none⟩ = some (.int .i64 cx) ∧ w'.cell? ⟨g, 5, none⟩ = some (.int .i64 cy) ∧ w'.cell? ⟨g, 6, none⟩ = some (.int .i64 dx) ∧ w'.cell? ⟨g, 7, none⟩ = some (.int .i64 dy)) (go_keep) (first | (go_at_call_of 11 cy; refine (cWcy.out _).mono ?_; rintro e w' ⟨rfl, rfl⟩) | (go_at_call_of 11 dy; refine (cWdy.out _).mono ?_; rintro e w' ⟨rfl, rfl⟩))
  obtain ⟨w16, hw16⟩ : ∃ ww, ww = w15.drew := ⟨_, rfl⟩
  have hd : Below w15.heap.size w15 w16 := by rw [hw16]; exact below_drewN (Below.refl _ _) 1
  have hb0' := hb0.trans (hd.mono hb0.size)
  replace uQ := uQ.later hd
  replace uA := uA.later hd
  replace uB := uB.later hd
  replace uC := uC.later hd
  replace uD := uD.later hd
  rw [← hw16]
  clear hb0 hd hw16
  have hb0 := hb0'
  clear hb0'
  obtain ⟨y0, y1, y2, y3, y4, y5, y6, y7, y8⟩ := nine_cells uQ
  obtain ⟨za0, za1⟩ := two_cells22 uA
  obtain ⟨zb0, zb1⟩ := two_cells22 uB
  obtain ⟨zc0, zc1⟩ := two_cells22 uC
  obtain ⟨zd0, zd1⟩ := two_cells22 uD
  clear epx epy eqx eqy erx ery
  have MARKC := 1
  obtain ⟨E1, E2, E3, E4, E5, E6, E7, E8, E9⟩ := ES.out
  go_wp2_with (first | (go_at_call 9; refine (num22_same _ _).mono ?_; rintro e w' ⟨rfl, rfl⟩) | (go_at_call 10; refine (sign22_same _ _).mono ?_; rintro e w' ⟨rfl, rfl⟩))
  refine (kI.out w16).mono ?_
  rintro e w17 ⟨rfl, hb17⟩
  have hb0' := hb0.trans (hb17.mono hb0.size)
  replace uQ := uQ.later hb17
  replace uA := uA.later hb17
  replace uB := uB.later hb17
  replace uC := uC.later hb17
  replace uD := uD.later hb17
  clear hb0 hb17 kI
  have hb0 := hb0'
  clear hb0'
  obtain ⟨y0, y1, y2, y3, y4, y5, y6, y7, y8⟩ := nine_cells uQ
  obtain ⟨za0, za1⟩ := two_cells22 uA
  obtain ⟨zb0, zb1⟩ := two_cells22 uB
  obtain ⟨zc0, zc1⟩ := two_cells22 uC
  obtain ⟨zd0, zd1⟩ := two_cells22 uD
  obtain ⟨E10, E11, E12, E13, E14, E15, E16, E17, E18, E19, E20, E21, E22, E23⟩ := ET.out
  have eT : (sgI T != sgI T) = false := by simp
  have bT : -53990438294520000 ≤ T ∧ T ≤ 53990438294520000 := by omega
  obtain ⟨bT1, bT2⟩ := bT
  have MARKD := 1
  go_wp2_with (first | (go_at_call 9; refine (num22_same _ _).mono ?_; rintro e w' ⟨rfl, rfl⟩) | (go_at_call 10; refine (sign22_same _ _).mono ?_; rintro e w' ⟨rfl, rfl⟩))
  refine (kB.out w17).mono ?_
  rintro e w18 ⟨rfl, hb18⟩
  have hb0' := hb0.trans (hb18.mono hb0.size)
  replace uQ := uQ.later hb18
  replace uA := uA.later hb18
  replace uB := uB.later hb18
  replace uC := uC.later hb18
  replace uD := uD.later hb18
  clear hb0 hb18 kB
  have hb0 := hb0'
  clear hb0'
  obtain ⟨y0, y1, y2, y3, y4, y5, y6, y7, y8⟩ := nine_cells uQ
  obtain ⟨za0, za1⟩ := two_cells22 uA
  obtain ⟨zb0, zb1⟩ := two_cells22 uB
  obtain ⟨zc0, zc1⟩ := two_cells22 uC
  obtain ⟨zd0, zd1⟩ := two_cells22 uD
  clear E1 E2 E3 E4 E5 E6 E7 E8 E9 E10 E11 E12 E13 E14 E15 E16 E17 E18 E19 E20 E21 E22 E23 eT ES ET bT1 bT2 lpxx rpxx lpyy rpyy lqxx rqxx lqyy rqyy lrxx rrxx lryy rryy lm7 rm7 lm8 rm8 lm1 rm1 lm2 rm2 lm4 rm4 lm5 rm5 lm3 rm3 lm6 rm6 lm9 rm9
  go_upto_region 23 with (first | (go_at_call 9; refine (num22_same _ _).mono ?_; rintro e w' ⟨rfl, rfl⟩) | (go_at_call 10; refine (sign22_same _ _).mono ?_; rintro e w' ⟨rfl, rfl⟩))
  go_region_held3 (fun w' => w'.cell? ⟨g, 0, none⟩ = some (.int .i64 ax) ∧ w'.cell? ⟨g, 1, none⟩ = some (.int .i64 ay) ∧ w'.cell? ⟨g, 2, none⟩ = some (.int .i64 bx) ∧ w'.cell? ⟨g, 3, none⟩ = some (.int .i64 by') ∧ w'.cell? ⟨g, 4, none⟩ = some (.int .i64 cx) ∧ w'.cell? ⟨g, 5, none⟩ = some (.int .i64 cy) ∧ w'.cell? ⟨g, 6, none⟩ = some (.int .i64 dx) ∧ w'.cell? ⟨g, 7, none⟩ = some (.int .i64 dy)) (go_keep) (first | (go_at_call_of 11 ax; refine (cWax.out _).mono ?_; rintro e w' ⟨rfl, rfl⟩) | (go_at_call_of 11 ay; refine (cWay.out _).mono ?_; rintro e w' ⟨rfl, rfl⟩) | (go_at_call_of 11 bx; refine (cWbx.out _).mono ?_; rintro e w' ⟨rfl, rfl⟩) | (go_at_call_of 11 by'; refine (cWby'.out _).mono ?_; rintro e w' ⟨rfl, rfl⟩) | (go_at_call_of 11 cx; refine (cWcx.out _).mono ?_; rintro e w' ⟨rfl, rfl⟩) | (go_at_call_of 11 cy; refine (cWcy.out _).mono ?_; rintro e w' ⟨rfl, rfl⟩))
  obtain ⟨w19, hw19⟩ : ∃ ww, ww = w18.drew := ⟨_, rfl⟩
  have hd : Below w18.heap.size w18 w19 := by rw [hw19]; exact below_drewN (Below.refl _ _) 1
  have hb0' := hb0.trans (hd.mono hb0.size)
  replace uQ := uQ.later hd
  replace uA := uA.later hd
  replace uB := uB.later hd
  replace uC := uC.later hd
  replace uD := uD.later hd
  rw [← hw19]
  clear hb0 hd hw19
  have hb0 := hb0'
  clear hb0'
  obtain ⟨y0, y1, y2, y3, y4, y5, y6, y7, y8⟩ := nine_cells uQ
  obtain ⟨za0, za1⟩ := two_cells22 uA
  obtain ⟨zb0, zb1⟩ := two_cells22 uB
  obtain ⟨zc0, zc1⟩ := two_cells22 uC
  obtain ⟨zd0, zd1⟩ := two_cells22 uD
  clear edot
  have MARKE := 1
  go_upto_region 24 with (first | (go_at_call 9; refine (num22_same _ _).mono ?_; rintro e w' ⟨rfl, rfl⟩) | (go_at_call 10; refine (sign22_same _ _).mono ?_; rintro e w' ⟨rfl, rfl⟩))
  go_cut [247] (fun v wx => v = .bool false ∧ w19 = wx)
  case first =>
    by_cases hV0 : V = 0
    · by_cases hd0 : dot ≤ 0
      · as_aux_lemma =>
          subst hV0
          have t2 : IS = true := by rw [← KIS.out, decide_eq_true hd0]; rfl
          subst t2
          go_wp2_with (go_at_call 9; refine (num22_same _ _).mono ?_; rintro e w' ⟨rfl, rfl⟩)
          go_meet
          exact ⟨rfl, rfl⟩
      · as_aux_lemma =>
          subst hV0
          have t2 : IS = false := by rw [← KIS.out, decide_eq_false hd0]; rfl
          subst t2
          go_wp2_with (go_at_call 9; refine (num22_same _ _).mono ?_; rintro e w' ⟨rfl, rfl⟩)
          go_meet
          exact ⟨by rw [decide_eq_false (show ¬ dot ≤ 0 by omega)], rfl⟩
    · as_aux_lemma =>
        have t1 : (V == 0) = false := beq_no hV0
        have t2 : IS = false := by rw [← KIS.out, t1]; rfl
        subst t2
        go_wp2_with (go_at_call 9; refine (num22_same _ _).mono ?_; rintro e w' ⟨rfl, rfl⟩)
        go_meet
        exact ⟨rfl, rfl⟩
  obtain ⟨rfl, rfl⟩ := hcut
  clear KIS eV
  have MARKF := 1
  go_wp2_with (first | (go_at_call 9; refine (num22_same _ _).mono ?_; rintro e w' ⟨rfl, rfl⟩) | (go_at_call 10; refine (sign22_same _ _).mono ?_; rintro e w' ⟨rfl, rfl⟩))
  refine (kF.out w19).mono ?_
  rintro e w20 ⟨rfl, hb20⟩
  have hb0' := hb0.trans (hb20.mono hb0.size)
  replace uQ := uQ.later hb20
  replace uA := uA.later hb20
  replace uB := uB.later hb20
  replace uC := uC.later hb20
  replace uD := uD.later hb20
  clear hb0 hb20 kF
  have hb0 := hb0'
  clear hb0'
  obtain ⟨y0, y1, y2, y3, y4, y5, y6, y7, y8⟩ := nine_cells uQ
  obtain ⟨za0, za1⟩ := two_cells22 uA
  obtain ⟨zb0, zb1⟩ := two_cells22 uB
  obtain ⟨zc0, zc1⟩ := two_cells22 uC
  obtain ⟨zd0, zd1⟩ := two_cells22 uD
  have hcl : ∀ w', Below w20.heap.size w20 w' → w'.cell? ⟨g, 0, none⟩ = some (.int .i64 ax) ∧ w'.cell? ⟨g, 1, none⟩ = some (.int .i64 ay) ∧ w'.cell? ⟨g, 2, none⟩ = some (.int .i64 bx) ∧ w'.cell? ⟨g, 3, none⟩ = some (.int .i64 by') ∧ w'.cell? ⟨g, 4, none⟩ = some (.int .i64 cx) ∧ w'.cell? ⟨g, 5, none⟩ = some (.int .i64 cy) ∧ w'.cell? ⟨g, 6, none⟩ = some (.int .i64 dx) ∧ w'.cell? ⟨g, 7, none⟩ = some (.int .i64 dy) := by
    intro w' h
    obtain ⟨t0, t1, t2, t3, t4, t5, t6, t7, _⟩ := nine_cells (uQ.later h)
    exact ⟨t0, t1, t2, t3, t4, t5, t6, t7⟩
  have eFF : (sgI (F1 - F2) != sgI (F1 - F2)) = false := by simp
  go_upto_region 27 with (first | (go_at_call 9; refine (num22_same _ _).mono ?_; rintro e w' ⟨rfl, rfl⟩) | (go_at_call 10; refine (sign22_same _ _).mono ?_; rintro e w' ⟨rfl, rfl⟩))
  go_region_held3 (fun w' => w'.cell? ⟨g, 0, none⟩ = some (.int .i64 ax) ∧ w'.cell? ⟨g, 1, none⟩ = some (.int .i64 ay) ∧ w'.cell? ⟨g, 2, none⟩ = some (.int .i64 bx) ∧ w'.cell? ⟨g, 3, none⟩ = some (.int .i64 by') ∧ w'.cell? ⟨g, 4, none⟩ = some (.int .i64 cx) ∧ w'.cell? ⟨g, 5, none⟩ = some (.int .i64 cy) ∧ w'.cell? ⟨g, 6, none⟩ = some (.int .i64 dx) ∧ w'.cell? ⟨g, 7, none⟩ = some (.int .i64 dy)) (go_keep) (first | (go_at_call 9; refine (num22_same _ _).mono ?_; rintro e w' ⟨rfl, rfl⟩) | (go_at_call_of 15 ax; refine (cF1.out _).mono ?_; rintro e wX ⟨rfl, hbX⟩; have HbX := (by first | exact hbX | exact (below_drewN (Below.refl _ _) _).trans hbX : Below w20.heap.size w20 wX); obtain ⟨y0, y1, y2, y3, y4, y5, y6, y7⟩ := hcl wX HbX) | (go_at_call_of 15 cx; refine (cF2.out _).mono ?_; rintro e wY ⟨rfl, hbY⟩; have HbY := (by first | exact HbX.trans (hbY.mono HbX.size) | exact (below_drewN HbX _).trans (hbY.mono (below_drewN HbX _).size) : Below w20.heap.size w20 wY); obtain ⟨y0, y1, y2, y3, y4, y5, y6, y7⟩ := hcl wY HbY) | (go_at_call 10; refine (sign22_same _ _).mono ?_; rintro e w' ⟨rfl, rfl⟩))
  have hb0' := hb0.trans (HbY.mono hb0.size)
  replace uQ := uQ.later HbY
  replace uA := uA.later HbY
  replace uB := uB.later HbY
  replace uC := uC.later HbY
  replace uD := uD.later HbY
  clear hb0 cF1 cF2 hcl hbX hbY
  have hb0 := hb0'
  clear hb0' HbX HbY
  obtain ⟨y0, y1, y2, y3, y4, y5, y6, y7, y8⟩ := nine_cells uQ
  obtain ⟨za0, za1⟩ := two_cells22 uA
  obtain ⟨zb0, zb1⟩ := two_cells22 uB
  obtain ⟨zc0, zc1⟩ := two_cells22 uC
  obtain ⟨zd0, zd1⟩ := two_cells22 uD
  obtain ⟨w21, hw21⟩ : ∃ ww, ww = wY := ⟨_, rfl⟩
  rw [← hw21] at hb0 uQ uA uB uC uD
  obtain ⟨y0, y1, y2, y3, y4, y5, y6, y7, y8⟩ := nine_cells uQ
  obtain ⟨za0, za1⟩ := two_cells22 uA
  obtain ⟨zb0, zb1⟩ := two_cells22 uB
  obtain ⟨zc0, zc1⟩ := two_cells22 uC
  obtain ⟨zd0, zd1⟩ := two_cells22 uD
  rw [← hw21]
  clear hw21 eFF eF
  have MARKG := 1
  go_wp2_with (first | (go_at_call 9; refine (num22_same _ _).mono ?_; rintro e w' ⟨rfl, rfl⟩) | (go_at_call 10; refine (sign22_same _ _).mono ?_; rintro e w' ⟨rfl, rfl⟩))
  refine (kO.out w21).mono ?_
  rintro e w22 ⟨rfl, hb22⟩
  have hb0' := hb0.trans (hb22.mono hb0.size)
  replace uQ := uQ.later hb22
  replace uA := uA.later hb22
  replace uB := uB.later hb22
  replace uC := uC.later hb22
  replace uD := uD.later hb22
  clear hb0 hb22 kO
  have hb0 := hb0'
  clear hb0'
  obtain ⟨y0, y1, y2, y3, y4, y5, y6, y7, y8⟩ := nine_cells uQ
  obtain ⟨za0, za1⟩ := two_cells22 uA
  obtain ⟨zb0, zb1⟩ := two_cells22 uB
  obtain ⟨zc0, zc1⟩ := two_cells22 uC
  obtain ⟨zd0, zd1⟩ := two_cells22 uD
  go_upto_region 30 with (first | (go_at_call 9; refine (num22_same _ _).mono ?_; rintro e w' ⟨rfl, rfl⟩) | (go_at_call 10; refine (sign22_same _ _).mono ?_; rintro e w' ⟨rfl, rfl⟩))
  go_region_held3 (fun w' => w'.cell? ⟨g, 0, none⟩ = some (.int .i64 ax) ∧ w'.cell? ⟨g, 1, none⟩ = some (.int .i64 ay) ∧ w'.cell? ⟨g, 2, none⟩ = some (.int .i64 bx) ∧ w'.cell? ⟨g, 3, none⟩ = some (.int .i64 by') ∧ w'.cell? ⟨g, 4, none⟩ = some (.int .i64 cx) ∧ w'.cell? ⟨g, 5, none⟩ = some (.int .i64 cy) ∧ w'.cell? ⟨g, 6, none⟩ = some (.int .i64 dx) ∧ w'.cell? ⟨g, 7, none⟩ = some (.int .i64 dy)) (go_keep) (first | (go_at_call_of 11 ax; refine (cWax.out _).mono ?_; rintro e w' ⟨rfl, rfl⟩) | (go_at_call_of 11 bx; refine (cWbx.out _).mono ?_; rintro e w' ⟨rfl, rfl⟩) | (go_at_call 10; refine (sign22_same _ _).mono ?_; rintro e w' ⟨rfl, rfl⟩))
  obtain ⟨w23, hw23⟩ : ∃ ww, ww = w22.drew := ⟨_, rfl⟩
  have hd : Below w22.heap.size w22 w23 := by rw [hw23]; exact below_drewN (Below.refl _ _) 1
  have hb0' := hb0.trans (hd.mono hb0.size)
  replace uQ := uQ.later hd
  replace uA := uA.later hd
  replace uB := uB.later hd
  replace uC := uC.later hd
  replace uD := uD.later hd
  rw [← hw23]
  clear hb0 hd hw23
  have hb0 := hb0'
  clear hb0'
  obtain ⟨y0, y1, y2, y3, y4, y5, y6, y7, y8⟩ := nine_cells uQ
  obtain ⟨za0, za1⟩ := two_cells22 uA
  obtain ⟨zb0, zb1⟩ := two_cells22 uB
  obtain ⟨zc0, zc1⟩ := two_cells22 uC
  obtain ⟨zd0, zd1⟩ := two_cells22 uD
  have MARKH := 1
  have eO : (OO == OO) = true := by simp
  by_cases ho : sgI OX = 0
  · have t1 : (sgI OX == 0) = true := beq_of ho
    have t2 : OO = sgI OY := by rw [← KOO.out, if_pos ho]
    clear KOO ho
    subst t2
    go_upto_region 32 with (first | (go_at_call 9; refine (num22_same _ _).mono ?_; rintro e w' ⟨rfl, rfl⟩) | (go_at_call 10; refine (sign22_same _ _).mono ?_; rintro e w' ⟨rfl, rfl⟩))
    go_region_held3 (fun w' => w'.cell? ⟨g, 0, none⟩ = some (.int .i64 ax) ∧ w'.cell? ⟨g, 1, none⟩ = some (.int .i64 ay) ∧ w'.cell? ⟨g, 2, none⟩ = some (.int .i64 bx) ∧ w'.cell? ⟨g, 3, none⟩ = some (.int .i64 by') ∧ w'.cell? ⟨g, 4, none⟩ = some (.int .i64 cx) ∧ w'.cell? ⟨g, 5, none⟩ = some (.int .i64 cy) ∧ w'.cell? ⟨g, 6, none⟩ = some (.int .i64 dx) ∧ w'.cell? ⟨g, 7, none⟩ = some (.int .i64 dy)) (go_keep) (first | (go_at_call_of 11 ay; refine (cWay.out _).mono ?_; rintro e w' ⟨rfl, rfl⟩) | (go_at_call_of 11 by'; refine (cWby'.out _).mono ?_; rintro e w' ⟨rfl, rfl⟩) | (go_at_call 10; refine (sign22_same _ _).mono ?_; rintro e w' ⟨rfl, rfl⟩))
    obtain ⟨w24, hw24⟩ : ∃ ww, ww = w23.drew := ⟨_, rfl⟩
    have hd : Below w23.heap.size w23 w24 := by rw [hw24]; exact below_drewN (Below.refl _ _) 1
    have hb0' := hb0.trans (hd.mono hb0.size)
    replace uQ := uQ.later hd
    replace uA := uA.later hd
    replace uB := uB.later hd
    replace uC := uC.later hd
    replace uD := uD.later hd
    rw [← hw24]
    clear hb0 hd hw24
    have hb0 := hb0'
    clear hb0'
    obtain ⟨y0, y1, y2, y3, y4, y5, y6, y7, y8⟩ := nine_cells uQ
    obtain ⟨za0, za1⟩ := two_cells22 uA
    obtain ⟨zb0, zb1⟩ := two_cells22 uB
    obtain ⟨zc0, zc1⟩ := two_cells22 uC
    obtain ⟨zd0, zd1⟩ := two_cells22 uD
    go_wp2_with (go_at_call 9; refine (num22_same _ _).mono ?_; rintro e w' ⟨rfl, rfl⟩)
    go_ret
    exact ⟨rfl, hb0⟩
  · have t1 : (sgI OX == 0) = false := beq_no ho
    have t2 : OO = sgI OX := by rw [← KOO.out, if_neg ho]
    clear KOO ho
    subst t2
    go_wp2_with (go_at_call 9; refine (num22_same _ _).mono ?_; rintro e w' ⟨rfl, rfl⟩)
    go_ret
    exact ⟨rfl, hb0⟩
end Go.Proofs.YtbonkgmcpjaepaaGreat
