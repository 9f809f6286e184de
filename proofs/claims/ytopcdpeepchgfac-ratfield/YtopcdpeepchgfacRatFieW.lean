/- RatField: the walk. -/
import Derived.Test.YtopcdpeepchgfacRatN
import Derived.Test.YtopcdpeepchgfacRatFloW
import Derived.Test.YtopcdpeepchgfacRatG
namespace Go.Proofs.Ytopcdpeepchgfac
open Go.ChangeShapes Go.WideShapes Go.ChangeAt Go.RowKit
open Na Ar
set_option linter.unusedVariables false
section
variable {w : World} {s1 s2 s3 : Bool} {a1 b1 a2 b2 a3 b3 : Option Addr} {n1 c1 m1 d1 n2 c2 m2 d2 n3 c3 m3 d3 : Nat} {x1 y1 x2 y2 x3 y3 : List Int}
set_option maxHeartbeats 102400000 in
set_option maxRecDepth 100000 in
theorem field_walk (ha1 : RowAt .u64 w a1 n1 x1) (hb1 : RowAt .u64 w b1 m1 y1) (hx1 : Ws x1) (hy1 : Ws y1) (hn1 : n1 ≤ maxLen) (hm1 : m1 ≤ maxLen) (ha2 : RowAt .u64 w a2 n2 x2) (hb2 : RowAt .u64 w b2 m2 y2) (hx2 : Ws x2) (hy2 : Ws y2) (hn2 : n2 ≤ maxLen) (hm2 : m2 ≤ maxLen) (ha3 : RowAt .u64 w a3 n3 x3) (hb3 : RowAt .u64 w b3 m3 y3) (hx3 : Ws x3) (hy3 : Ws y3) (hn3 : n3 ≤ maxLen) (hm3 : m3 ≤ maxLen) :
    Calls Try.prog 4 #[.agg #[.bool s1, .slice a1 n1 c1, .slice b1 m1 d1], .agg #[.bool s2, .slice a2 n2 c2, .slice b2 m2 d2], .agg #[.bool s3, .slice a3 n3 c3, .slice b3 m3 d3]] w fun e w' => e = .returned (.bool true) ∧ Below w.heap.size w w' := by
  have hnot : ∀ (x : Bool) (w : World), (Op.unary .not (.bool x)).run Try.prog w = .ok (.bool (!x)) w := fun _ _ => rfl
  obtain ⟨_, _, _, hb0⟩ := st_three w (.bool s1) (.slice a1 n1 c1) (.slice b1 m1 d1) (.bool s2) (.slice a2 n2 c2) (.slice b2 m2 d2) (.bool s3) (.slice a3 n3 c3) (.slice b3 m3 d3) 24 24 24
  have f0 := three_any (s1 := s1) (s2 := s2) (s3 := s3) (c1 := c1) (d1 := d1) (c2 := c2) (d2 := d2) (c3 := c3) (d3 := d3) (ha1.later hb0) (hb1.later hb0) hx1 hy1 hn1 hm1 (ha2.later hb0) (hb2.later hb0) hx2 hy2 hn2 hm2 (ha3.later hb0) (hb3.later hb0) hx3 hy3 hn3 hm3
  have zA := Sz.mkR (s := s1) (pNum_lt hx1) (pDen_lt hy1) (pDen_pos hy1)
  have zB := Sz.mkR (s := s2) (pNum_lt hx2) (pDen_lt hy2) (pDen_pos hy2)
  have zC := Sz.mkR (s := s3) (pNum_lt hx3) (pDen_lt hy3) (pDen_pos hy3)
  clear ha1 hb1 hx1 hy1 hn1 hm1 ha2 hb2 hx2 hy2 hn2 hm2 ha3 hb3 hx3 hy3 hn3 hm3
  generalize mkR s1 (pNum x1) (pDen y1) = p at *
  generalize mkR s2 (pNum x2) (pDen y2) = q at *
  generalize mkR s3 (pNum x3) (pDen y3) = r at *
  go_enter Try.func4, Try.ntmps4
  go_wp2_with fail
  refine f0.mono ?_
  rintro e wA ⟨sA, aA, nA, cA, bA, mA, dA, sB, aB, nB, cB, bB, mB, dB, sC, aC, nC, cC, bC, mC, dC, rfl, hA, hB, hC, hbA⟩
  obtain ⟨tA, tB, tC, hal⟩ := st_three wA (.bool sA) (.slice aA nA cA) (.slice bA mA dA) (.bool sB) (.slice aB nB cB) (.slice bB mB dB) (.bool sC) (.slice aC nC cC) (.slice bC mC dC) 25 25 25
  have HB := hb0.trans (hbA.mono hb0.size)
  replace HB := HB.trans (hal.mono HB.size)
  replace hA := hA.later hal
  replace hB := hB.later hal
  replace hC := hC.later hal
  clear f0 hb0 hbA hal
  obtain ⟨eA0, eA1, eA2⟩ := tA.cells
  obtain ⟨eB0, eB1, eB2⟩ := tB.cells
  go_wp2_with fail
  refine (lawAdd_ok hA hB zA zB (by omega)).mono ?_
  rintro e v1 ⟨sS, u1, u2, rfl, hRS, zS, hbN⟩
  clear eA0 eA1 eA2
  clear eB0 eB1 eB2
  obtain ⟨aS, nS, cS, bS, mS, dS, rfl, rfl, hS⟩ := hRS.opens
  have hal := alloc_below (w := v1) (.cells #[.bool sS, .slice aS nS cS, .slice bS mS dS] 25)
  have tS := st_new v1 (.bool sS) (.slice aS nS cS) (.slice bS mS dS) 25
  replace hA := (hA.later hbN).later hal
  replace tA := (tA.later hbN).later hal
  replace hB := (hB.later hbN).later hal
  replace tB := (tB.later hbN).later hal
  replace hC := (hC.later hbN).later hal
  replace tC := (tC.later hbN).later hal
  replace HB := HB.trans (hbN.mono HB.size)
  replace HB := HB.trans (hal.mono HB.size)
  replace hS := hS.later hal
  clear hbN hal hRS
  obtain ⟨eB0, eB1, eB2⟩ := tB.cells
  obtain ⟨eA0, eA1, eA2⟩ := tA.cells
  go_wp2_with fail
  refine (lawAdd_ok hB hA zB zA (by omega)).mono ?_
  rintro e v2 ⟨sT, u1, u2, rfl, hRT, zT, hbN⟩
  clear eB0 eB1 eB2
  clear eA0 eA1 eA2
  obtain ⟨aT, nT, cT, bT, mT, dT, rfl, rfl, hT⟩ := hRT.opens
  have hal := alloc_below (w := v2) (.cells #[.bool sT, .slice aT nT cT, .slice bT mT dT] 25)
  have tT := st_new v2 (.bool sT) (.slice aT nT cT) (.slice bT mT dT) 25
  replace hA := (hA.later hbN).later hal
  replace tA := (tA.later hbN).later hal
  replace hB := (hB.later hbN).later hal
  replace tB := (tB.later hbN).later hal
  replace hC := (hC.later hbN).later hal
  replace tC := (tC.later hbN).later hal
  replace hS := (hS.later hbN).later hal
  replace tS := (tS.later hbN).later hal
  replace HB := HB.trans (hbN.mono HB.size)
  replace HB := HB.trans (hal.mono HB.size)
  replace hT := hT.later hal
  clear hbN hal hRT
  obtain ⟨eS0, eS1, eS2⟩ := tS.cells
  obtain ⟨eC0, eC1, eC2⟩ := tC.cells
  go_wp2_with fail
  refine (lawAdd_ok hS hC zS zC (by omega)).mono ?_
  rintro e v3 ⟨sU, u1, u2, rfl, hRU, zU, hbN⟩
  clear eS0 eS1 eS2
  clear eC0 eC1 eC2
  obtain ⟨aU, nU, cU, bU, mU, dU, rfl, rfl, hU⟩ := hRU.opens
  have hal := alloc_below (w := v3) (.cells #[.bool sU, .slice aU nU cU, .slice bU mU dU] 25)
  have tU := st_new v3 (.bool sU) (.slice aU nU cU) (.slice bU mU dU) 25
  replace hA := (hA.later hbN).later hal
  replace tA := (tA.later hbN).later hal
  replace hB := (hB.later hbN).later hal
  replace tB := (tB.later hbN).later hal
  replace hC := (hC.later hbN).later hal
  replace tC := (tC.later hbN).later hal
  replace hS := (hS.later hbN).later hal
  replace tS := (tS.later hbN).later hal
  replace hT := (hT.later hbN).later hal
  replace tT := (tT.later hbN).later hal
  replace HB := HB.trans (hbN.mono HB.size)
  replace HB := HB.trans (hal.mono HB.size)
  replace hU := hU.later hal
  clear hbN hal hRU
  obtain ⟨eB0, eB1, eB2⟩ := tB.cells
  obtain ⟨eC0, eC1, eC2⟩ := tC.cells
  go_wp2_with fail
  refine (lawAdd_ok hB hC zB zC (by omega)).mono ?_
  rintro e v4 ⟨sV, u1, u2, rfl, hRV, zV, hbN⟩
  clear eB0 eB1 eB2
  clear eC0 eC1 eC2
  obtain ⟨aV, nV, cV, bV, mV, dV, rfl, rfl, hV⟩ := hRV.opens
  have hal := alloc_below (w := v4) (.cells #[.bool sV, .slice aV nV cV, .slice bV mV dV] 25)
  have tV := st_new v4 (.bool sV) (.slice aV nV cV) (.slice bV mV dV) 25
  replace hA := (hA.later hbN).later hal
  replace tA := (tA.later hbN).later hal
  replace hB := (hB.later hbN).later hal
  replace tB := (tB.later hbN).later hal
  replace hC := (hC.later hbN).later hal
  replace tC := (tC.later hbN).later hal
  replace hS := (hS.later hbN).later hal
  replace tS := (tS.later hbN).later hal
  replace hT := (hT.later hbN).later hal
  replace tT := (tT.later hbN).later hal
  replace hU := (hU.later hbN).later hal
  replace tU := (tU.later hbN).later hal
  replace HB := HB.trans (hbN.mono HB.size)
  replace HB := HB.trans (hal.mono HB.size)
  replace hV := hV.later hal
  clear hbN hal hRV
  obtain ⟨eA0, eA1, eA2⟩ := tA.cells
  obtain ⟨eV0, eV1, eV2⟩ := tV.cells
  go_wp2_with fail
  refine (lawAdd_ok hA hV zA zV (by omega)).mono ?_
  rintro e v5 ⟨sWa, u1, u2, rfl, hRWa, zWa, hbN⟩
  clear eA0 eA1 eA2
  clear eV0 eV1 eV2
  obtain ⟨aWa, nWa, cWa, bWa, mWa, dWa, rfl, rfl, hWa⟩ := hRWa.opens
  have hal := alloc_below (w := v5) (.cells #[.bool sWa, .slice aWa nWa cWa, .slice bWa mWa dWa] 25)
  have tWa := st_new v5 (.bool sWa) (.slice aWa nWa cWa) (.slice bWa mWa dWa) 25
  replace hA := (hA.later hbN).later hal
  replace tA := (tA.later hbN).later hal
  replace hB := (hB.later hbN).later hal
  replace tB := (tB.later hbN).later hal
  replace hC := (hC.later hbN).later hal
  replace tC := (tC.later hbN).later hal
  replace hS := (hS.later hbN).later hal
  replace tS := (tS.later hbN).later hal
  replace hT := (hT.later hbN).later hal
  replace tT := (tT.later hbN).later hal
  replace hU := (hU.later hbN).later hal
  replace tU := (tU.later hbN).later hal
  replace hV := (hV.later hbN).later hal
  replace tV := (tV.later hbN).later hal
  replace HB := HB.trans (hbN.mono HB.size)
  replace HB := HB.trans (hal.mono HB.size)
  replace hWa := hWa.later hal
  clear hbN hal hRWa
  obtain ⟨eS0, eS1, eS2⟩ := tS.cells
  obtain ⟨eT0, eT1, eT2⟩ := tT.cells
  go_wp2_with fail
  refine (one_any hS hT zS zT (by omega) (by omega) (decide_eq_true (Rat.add_comm p q))).mono ?_
  rintro e v6 ⟨rfl, hbN⟩
  clear eS0 eS1 eS2
  clear eT0 eT1 eT2
  replace hA := hA.later hbN
  replace tA := tA.later hbN
  replace hB := hB.later hbN
  replace tB := tB.later hbN
  replace hC := hC.later hbN
  replace tC := tC.later hbN
  replace hS := hS.later hbN
  replace tS := tS.later hbN
  replace hT := hT.later hbN
  replace tT := tT.later hbN
  replace hU := hU.later hbN
  replace tU := tU.later hbN
  replace hV := hV.later hbN
  replace tV := tV.later hbN
  replace hWa := hWa.later hbN
  replace tWa := tWa.later hbN
  replace HB := HB.trans (hbN.mono HB.size)
  clear hbN
  obtain ⟨eU0, eU1, eU2⟩ := tU.cells
  obtain ⟨eWa0, eWa1, eWa2⟩ := tWa.cells
  go_wp2_with fail
  refine (one_any hU hWa zU zWa (by omega) (by omega) (decide_eq_true (Rat.add_assoc p q r))).mono ?_
  rintro e v7 ⟨rfl, hbN⟩
  clear eU0 eU1 eU2
  clear eWa0 eWa1 eWa2
  replace hA := hA.later hbN
  replace tA := tA.later hbN
  replace hB := hB.later hbN
  replace tB := tB.later hbN
  replace hC := hC.later hbN
  replace tC := tC.later hbN
  replace hS := hS.later hbN
  replace tS := tS.later hbN
  replace hT := hT.later hbN
  replace tT := tT.later hbN
  replace hU := hU.later hbN
  replace tU := tU.later hbN
  replace hV := hV.later hbN
  replace tV := tV.later hbN
  replace hWa := hWa.later hbN
  replace tWa := tWa.later hbN
  replace HB := HB.trans (hbN.mono HB.size)
  clear hbN
  clear hT tT zT
  clear hU tU zU
  clear hWa tWa zWa
  obtain ⟨eA0, eA1, eA2⟩ := tA.cells
  obtain ⟨eB0, eB1, eB2⟩ := tB.cells
  go_wp2_with fail
  refine (lawMul_ok hA hB zA zB (by omega)).mono ?_
  rintro e v8 ⟨sX, u1, u2, rfl, hRX, zX, hbN⟩
  clear eA0 eA1 eA2
  clear eB0 eB1 eB2
  obtain ⟨aX, nX, cX, bX, mX, dX, rfl, rfl, hX⟩ := hRX.opens
  have hal := alloc_below (w := v8) (.cells #[.bool sX, .slice aX nX cX, .slice bX mX dX] 25)
  have tX := st_new v8 (.bool sX) (.slice aX nX cX) (.slice bX mX dX) 25
  replace hA := (hA.later hbN).later hal
  replace tA := (tA.later hbN).later hal
  replace hB := (hB.later hbN).later hal
  replace tB := (tB.later hbN).later hal
  replace hC := (hC.later hbN).later hal
  replace tC := (tC.later hbN).later hal
  replace hS := (hS.later hbN).later hal
  replace tS := (tS.later hbN).later hal
  replace hV := (hV.later hbN).later hal
  replace tV := (tV.later hbN).later hal
  replace HB := HB.trans (hbN.mono HB.size)
  replace HB := HB.trans (hal.mono HB.size)
  replace hX := hX.later hal
  clear hbN hal hRX
  obtain ⟨eB0, eB1, eB2⟩ := tB.cells
  obtain ⟨eA0, eA1, eA2⟩ := tA.cells
  go_wp2_with fail
  refine (lawMul_ok hB hA zB zA (by omega)).mono ?_
  rintro e v9 ⟨sY, u1, u2, rfl, hRY, zY, hbN⟩
  clear eB0 eB1 eB2
  clear eA0 eA1 eA2
  obtain ⟨aY, nY, cY, bY, mY, dY, rfl, rfl, hY⟩ := hRY.opens
  have hal := alloc_below (w := v9) (.cells #[.bool sY, .slice aY nY cY, .slice bY mY dY] 25)
  have tY := st_new v9 (.bool sY) (.slice aY nY cY) (.slice bY mY dY) 25
  replace hA := (hA.later hbN).later hal
  replace tA := (tA.later hbN).later hal
  replace hB := (hB.later hbN).later hal
  replace tB := (tB.later hbN).later hal
  replace hC := (hC.later hbN).later hal
  replace tC := (tC.later hbN).later hal
  replace hS := (hS.later hbN).later hal
  replace tS := (tS.later hbN).later hal
  replace hV := (hV.later hbN).later hal
  replace tV := (tV.later hbN).later hal
  replace hX := (hX.later hbN).later hal
  replace tX := (tX.later hbN).later hal
  replace HB := HB.trans (hbN.mono HB.size)
  replace HB := HB.trans (hal.mono HB.size)
  replace hY := hY.later hal
  clear hbN hal hRY
  obtain ⟨eX0, eX1, eX2⟩ := tX.cells
  obtain ⟨eC0, eC1, eC2⟩ := tC.cells
  go_wp2_with fail
  refine (lawMul_ok hX hC zX zC (by omega)).mono ?_
  rintro e v10 ⟨sZ, u1, u2, rfl, hRZ, zZ, hbN⟩
  clear eX0 eX1 eX2
  clear eC0 eC1 eC2
  obtain ⟨aZ, nZ, cZ, bZ, mZ, dZ, rfl, rfl, hZ⟩ := hRZ.opens
  have hal := alloc_below (w := v10) (.cells #[.bool sZ, .slice aZ nZ cZ, .slice bZ mZ dZ] 25)
  have tZ := st_new v10 (.bool sZ) (.slice aZ nZ cZ) (.slice bZ mZ dZ) 25
  replace hA := (hA.later hbN).later hal
  replace tA := (tA.later hbN).later hal
  replace hB := (hB.later hbN).later hal
  replace tB := (tB.later hbN).later hal
  replace hC := (hC.later hbN).later hal
  replace tC := (tC.later hbN).later hal
  replace hS := (hS.later hbN).later hal
  replace tS := (tS.later hbN).later hal
  replace hV := (hV.later hbN).later hal
  replace tV := (tV.later hbN).later hal
  replace hX := (hX.later hbN).later hal
  replace tX := (tX.later hbN).later hal
  replace hY := (hY.later hbN).later hal
  replace tY := (tY.later hbN).later hal
  replace HB := HB.trans (hbN.mono HB.size)
  replace HB := HB.trans (hal.mono HB.size)
  replace hZ := hZ.later hal
  clear hbN hal hRZ
  obtain ⟨eB0, eB1, eB2⟩ := tB.cells
  obtain ⟨eC0, eC1, eC2⟩ := tC.cells
  go_wp2_with fail
  refine (lawMul_ok hB hC zB zC (by omega)).mono ?_
  rintro e v11 ⟨sKa, u1, u2, rfl, hRKa, zKa, hbN⟩
  clear eB0 eB1 eB2
  clear eC0 eC1 eC2
  obtain ⟨aKa, nKa, cKa, bKa, mKa, dKa, rfl, rfl, hKa⟩ := hRKa.opens
  have hal := alloc_below (w := v11) (.cells #[.bool sKa, .slice aKa nKa cKa, .slice bKa mKa dKa] 25)
  have tKa := st_new v11 (.bool sKa) (.slice aKa nKa cKa) (.slice bKa mKa dKa) 25
  replace hA := (hA.later hbN).later hal
  replace tA := (tA.later hbN).later hal
  replace hB := (hB.later hbN).later hal
  replace tB := (tB.later hbN).later hal
  replace hC := (hC.later hbN).later hal
  replace tC := (tC.later hbN).later hal
  replace hS := (hS.later hbN).later hal
  replace tS := (tS.later hbN).later hal
  replace hV := (hV.later hbN).later hal
  replace tV := (tV.later hbN).later hal
  replace hX := (hX.later hbN).later hal
  replace tX := (tX.later hbN).later hal
  replace hY := (hY.later hbN).later hal
  replace tY := (tY.later hbN).later hal
  replace hZ := (hZ.later hbN).later hal
  replace tZ := (tZ.later hbN).later hal
  replace HB := HB.trans (hbN.mono HB.size)
  replace HB := HB.trans (hal.mono HB.size)
  replace hKa := hKa.later hal
  clear hbN hal hRKa
  obtain ⟨eA0, eA1, eA2⟩ := tA.cells
  obtain ⟨eKa0, eKa1, eKa2⟩ := tKa.cells
  go_wp2_with fail
  refine (lawMul_ok hA hKa zA zKa (by omega)).mono ?_
  rintro e v12 ⟨sLa, u1, u2, rfl, hRLa, zLa, hbN⟩
  clear eA0 eA1 eA2
  clear eKa0 eKa1 eKa2
  obtain ⟨aLa, nLa, cLa, bLa, mLa, dLa, rfl, rfl, hLa⟩ := hRLa.opens
  have hal := alloc_below (w := v12) (.cells #[.bool sLa, .slice aLa nLa cLa, .slice bLa mLa dLa] 25)
  have tLa := st_new v12 (.bool sLa) (.slice aLa nLa cLa) (.slice bLa mLa dLa) 25
  replace hA := (hA.later hbN).later hal
  replace tA := (tA.later hbN).later hal
  replace hB := (hB.later hbN).later hal
  replace tB := (tB.later hbN).later hal
  replace hC := (hC.later hbN).later hal
  replace tC := (tC.later hbN).later hal
  replace hS := (hS.later hbN).later hal
  replace tS := (tS.later hbN).later hal
  replace hV := (hV.later hbN).later hal
  replace tV := (tV.later hbN).later hal
  replace hX := (hX.later hbN).later hal
  replace tX := (tX.later hbN).later hal
  replace hY := (hY.later hbN).later hal
  replace tY := (tY.later hbN).later hal
  replace hZ := (hZ.later hbN).later hal
  replace tZ := (tZ.later hbN).later hal
  replace hKa := (hKa.later hbN).later hal
  replace tKa := (tKa.later hbN).later hal
  replace HB := HB.trans (hbN.mono HB.size)
  replace HB := HB.trans (hal.mono HB.size)
  replace hLa := hLa.later hal
  clear hbN hal hRLa
  obtain ⟨eX0, eX1, eX2⟩ := tX.cells
  obtain ⟨eY0, eY1, eY2⟩ := tY.cells
  go_wp2_with fail
  refine (one_any hX hY zX zY (by omega) (by omega) (decide_eq_true (Rat.mul_comm p q))).mono ?_
  rintro e v13 ⟨rfl, hbN⟩
  clear eX0 eX1 eX2
  clear eY0 eY1 eY2
  replace hA := hA.later hbN
  replace tA := tA.later hbN
  replace hB := hB.later hbN
  replace tB := tB.later hbN
  replace hC := hC.later hbN
  replace tC := tC.later hbN
  replace hS := hS.later hbN
  replace tS := tS.later hbN
  replace hV := hV.later hbN
  replace tV := tV.later hbN
  replace hX := hX.later hbN
  replace tX := tX.later hbN
  replace hY := hY.later hbN
  replace tY := tY.later hbN
  replace hZ := hZ.later hbN
  replace tZ := tZ.later hbN
  replace hKa := hKa.later hbN
  replace tKa := tKa.later hbN
  replace hLa := hLa.later hbN
  replace tLa := tLa.later hbN
  replace HB := HB.trans (hbN.mono HB.size)
  clear hbN
  obtain ⟨eZ0, eZ1, eZ2⟩ := tZ.cells
  obtain ⟨eLa0, eLa1, eLa2⟩ := tLa.cells
  go_wp2_with fail
  refine (one_any hZ hLa zZ zLa (by omega) (by omega) (decide_eq_true (Rat.mul_assoc p q r))).mono ?_
  rintro e v14 ⟨rfl, hbN⟩
  clear eZ0 eZ1 eZ2
  clear eLa0 eLa1 eLa2
  replace hA := hA.later hbN
  replace tA := tA.later hbN
  replace hB := hB.later hbN
  replace tB := tB.later hbN
  replace hC := hC.later hbN
  replace tC := tC.later hbN
  replace hS := hS.later hbN
  replace tS := tS.later hbN
  replace hV := hV.later hbN
  replace tV := tV.later hbN
  replace hX := hX.later hbN
  replace tX := tX.later hbN
  replace hY := hY.later hbN
  replace tY := tY.later hbN
  replace hZ := hZ.later hbN
  replace tZ := tZ.later hbN
  replace hKa := hKa.later hbN
  replace tKa := tKa.later hbN
  replace hLa := hLa.later hbN
  replace tLa := tLa.later hbN
  replace HB := HB.trans (hbN.mono HB.size)
  clear hbN
  clear hY tY zY
  clear hZ tZ zZ
  clear hKa tKa zKa
  clear hLa tLa zLa
  obtain ⟨eA0, eA1, eA2⟩ := tA.cells
  obtain ⟨eV0, eV1, eV2⟩ := tV.cells
  go_wp2_with fail
  refine (lawMul_ok hA hV zA zV (by omega)).mono ?_
  rintro e v15 ⟨sMa, u1, u2, rfl, hRMa, zMa, hbN⟩
  clear eA0 eA1 eA2
  clear eV0 eV1 eV2
  obtain ⟨aMa, nMa, cMa, bMa, mMa, dMa, rfl, rfl, hMa⟩ := hRMa.opens
  have hal := alloc_below (w := v15) (.cells #[.bool sMa, .slice aMa nMa cMa, .slice bMa mMa dMa] 25)
  have tMa := st_new v15 (.bool sMa) (.slice aMa nMa cMa) (.slice bMa mMa dMa) 25
  replace hA := (hA.later hbN).later hal
  replace tA := (tA.later hbN).later hal
  replace hB := (hB.later hbN).later hal
  replace tB := (tB.later hbN).later hal
  replace hC := (hC.later hbN).later hal
  replace tC := (tC.later hbN).later hal
  replace hS := (hS.later hbN).later hal
  replace tS := (tS.later hbN).later hal
  replace hV := (hV.later hbN).later hal
  replace tV := (tV.later hbN).later hal
  replace hX := (hX.later hbN).later hal
  replace tX := (tX.later hbN).later hal
  replace HB := HB.trans (hbN.mono HB.size)
  replace HB := HB.trans (hal.mono HB.size)
  replace hMa := hMa.later hal
  clear hbN hal hRMa
  obtain ⟨eA0, eA1, eA2⟩ := tA.cells
  obtain ⟨eC0, eC1, eC2⟩ := tC.cells
  go_wp2_with fail
  refine (lawMul_ok hA hC zA zC (by omega)).mono ?_
  rintro e v16 ⟨sNa, u1, u2, rfl, hRNa, zNa, hbN⟩
  clear eA0 eA1 eA2
  clear eC0 eC1 eC2
  obtain ⟨aNa, nNa, cNa, bNa, mNa, dNa, rfl, rfl, hNa⟩ := hRNa.opens
  have hal := alloc_below (w := v16) (.cells #[.bool sNa, .slice aNa nNa cNa, .slice bNa mNa dNa] 25)
  have tNa := st_new v16 (.bool sNa) (.slice aNa nNa cNa) (.slice bNa mNa dNa) 25
  replace hA := (hA.later hbN).later hal
  replace tA := (tA.later hbN).later hal
  replace hB := (hB.later hbN).later hal
  replace tB := (tB.later hbN).later hal
  replace hC := (hC.later hbN).later hal
  replace tC := (tC.later hbN).later hal
  replace hS := (hS.later hbN).later hal
  replace tS := (tS.later hbN).later hal
  replace hV := (hV.later hbN).later hal
  replace tV := (tV.later hbN).later hal
  replace hX := (hX.later hbN).later hal
  replace tX := (tX.later hbN).later hal
  replace hMa := (hMa.later hbN).later hal
  replace tMa := (tMa.later hbN).later hal
  replace HB := HB.trans (hbN.mono HB.size)
  replace HB := HB.trans (hal.mono HB.size)
  replace hNa := hNa.later hal
  clear hbN hal hRNa
  obtain ⟨eX0, eX1, eX2⟩ := tX.cells
  obtain ⟨eNa0, eNa1, eNa2⟩ := tNa.cells
  go_wp2_with fail
  refine (lawAdd_ok hX hNa zX zNa (by omega)).mono ?_
  rintro e v17 ⟨sOa, u1, u2, rfl, hROa, zOa, hbN⟩
  clear eX0 eX1 eX2
  clear eNa0 eNa1 eNa2
  obtain ⟨aOa, nOa, cOa, bOa, mOa, dOa, rfl, rfl, hOa⟩ := hROa.opens
  have hal := alloc_below (w := v17) (.cells #[.bool sOa, .slice aOa nOa cOa, .slice bOa mOa dOa] 25)
  have tOa := st_new v17 (.bool sOa) (.slice aOa nOa cOa) (.slice bOa mOa dOa) 25
  replace hA := (hA.later hbN).later hal
  replace tA := (tA.later hbN).later hal
  replace hB := (hB.later hbN).later hal
  replace tB := (tB.later hbN).later hal
  replace hC := (hC.later hbN).later hal
  replace tC := (tC.later hbN).later hal
  replace hS := (hS.later hbN).later hal
  replace tS := (tS.later hbN).later hal
  replace hV := (hV.later hbN).later hal
  replace tV := (tV.later hbN).later hal
  replace hX := (hX.later hbN).later hal
  replace tX := (tX.later hbN).later hal
  replace hMa := (hMa.later hbN).later hal
  replace tMa := (tMa.later hbN).later hal
  replace hNa := (hNa.later hbN).later hal
  replace tNa := (tNa.later hbN).later hal
  replace HB := HB.trans (hbN.mono HB.size)
  replace HB := HB.trans (hal.mono HB.size)
  replace hOa := hOa.later hal
  clear hbN hal hROa
  obtain ⟨eS0, eS1, eS2⟩ := tS.cells
  obtain ⟨eB0, eB1, eB2⟩ := tB.cells
  go_wp2_with fail
  refine (lawSub_ok hS hB zS zB (by omega)).mono ?_
  rintro e v18 ⟨sDa, u1, u2, rfl, hRDa, zDa, hbN⟩
  clear eS0 eS1 eS2
  clear eB0 eB1 eB2
  obtain ⟨aDa, nDa, cDa, bDa, mDa, dDa, rfl, rfl, hDa⟩ := hRDa.opens
  have hal := alloc_below (w := v18) (.cells #[.bool sDa, .slice aDa nDa cDa, .slice bDa mDa dDa] 25)
  have tDa := st_new v18 (.bool sDa) (.slice aDa nDa cDa) (.slice bDa mDa dDa) 25
  replace hA := (hA.later hbN).later hal
  replace tA := (tA.later hbN).later hal
  replace hB := (hB.later hbN).later hal
  replace tB := (tB.later hbN).later hal
  replace hC := (hC.later hbN).later hal
  replace tC := (tC.later hbN).later hal
  replace hS := (hS.later hbN).later hal
  replace tS := (tS.later hbN).later hal
  replace hV := (hV.later hbN).later hal
  replace tV := (tV.later hbN).later hal
  replace hX := (hX.later hbN).later hal
  replace tX := (tX.later hbN).later hal
  replace hMa := (hMa.later hbN).later hal
  replace tMa := (tMa.later hbN).later hal
  replace hNa := (hNa.later hbN).later hal
  replace tNa := (tNa.later hbN).later hal
  replace hOa := (hOa.later hbN).later hal
  replace tOa := (tOa.later hbN).later hal
  replace HB := HB.trans (hbN.mono HB.size)
  replace HB := HB.trans (hal.mono HB.size)
  replace hDa := hDa.later hal
  clear hbN hal hRDa
  obtain ⟨eA0, eA1, eA2⟩ := tA.cells
  go_wp2_with fail
  refine (lawSub_ok hA hA zA zA (by omega)).mono ?_
  rintro e v19 ⟨sEa, u1, u2, rfl, hREa, zEa, hbN⟩
  clear eA0 eA1 eA2
  obtain ⟨aEa, nEa, cEa, bEa, mEa, dEa, rfl, rfl, hEa⟩ := hREa.opens
  have hal := alloc_below (w := v19) (.cells #[.bool sEa, .slice aEa nEa cEa, .slice bEa mEa dEa] 25)
  have tEa := st_new v19 (.bool sEa) (.slice aEa nEa cEa) (.slice bEa mEa dEa) 25
  replace hA := (hA.later hbN).later hal
  replace tA := (tA.later hbN).later hal
  replace hB := (hB.later hbN).later hal
  replace tB := (tB.later hbN).later hal
  replace hC := (hC.later hbN).later hal
  replace tC := (tC.later hbN).later hal
  replace hS := (hS.later hbN).later hal
  replace tS := (tS.later hbN).later hal
  replace hV := (hV.later hbN).later hal
  replace tV := (tV.later hbN).later hal
  replace hX := (hX.later hbN).later hal
  replace tX := (tX.later hbN).later hal
  replace hMa := (hMa.later hbN).later hal
  replace tMa := (tMa.later hbN).later hal
  replace hNa := (hNa.later hbN).later hal
  replace tNa := (tNa.later hbN).later hal
  replace hOa := (hOa.later hbN).later hal
  replace tOa := (tOa.later hbN).later hal
  replace hDa := (hDa.later hbN).later hal
  replace tDa := (tDa.later hbN).later hal
  replace HB := HB.trans (hbN.mono HB.size)
  replace HB := HB.trans (hal.mono HB.size)
  replace hEa := hEa.later hal
  clear hbN hal hREa
  go_upto_region 23 with (fail)
  obtain ⟨z20, hz⟩ : ∃ z, z = v19.alloc (.cells #[.bool sEa, .slice aEa nEa cEa, .slice bEa mEa dEa] 25) := ⟨_, rfl⟩
  rw [← hz] at hA tA hB tB hC tC hS tS hV tV hX tX hMa tMa hNa tNa hOa tOa hDa tDa hEa tEa  HB ⊢
  clear hz
  obtain ⟨rMa, hrMa⟩ : ∃ r, r = v15.heap.size := ⟨_, rfl⟩
  rw [← hrMa] at tMa ⊢
  have HrMa : Hid (rMa = v15.heap.size) := hrMa
  clear hrMa
  obtain ⟨rOa, hrOa⟩ : ∃ r, r = v17.heap.size := ⟨_, rfl⟩
  rw [← hrOa] at tOa ⊢
  have HrOa : Hid (rOa = v17.heap.size) := hrOa
  clear hrOa
  obtain ⟨rDa, hrDa⟩ : ∃ r, r = v18.heap.size := ⟨_, rfl⟩
  rw [← hrDa] at tDa ⊢
  have HrDa : Hid (rDa = v18.heap.size) := hrDa
  clear hrDa
  obtain ⟨rA, hrA⟩ : ∃ r, r = wA.heap.size := ⟨_, rfl⟩
  rw [← hrA] at tA ⊢
  have HrA : Hid (rA = wA.heap.size) := hrA
  clear hrA
  obtain ⟨rEa, hrEa⟩ : ∃ r, r = v19.heap.size := ⟨_, rfl⟩
  rw [← hrEa] at tEa ⊢
  have HrEa : Hid (rEa = v19.heap.size) := hrEa
  clear hrEa
  have hcl : ∀ w1, Below z20.heap.size z20 w1 → w1.cell? ⟨rMa, 0, none⟩ = some (.bool sMa) ∧ w1.cell? ⟨rMa, 1, none⟩ = some (.slice aMa nMa cMa) ∧ w1.cell? ⟨rMa, 2, none⟩ = some (.slice bMa mMa dMa) ∧ w1.cell? ⟨rOa, 0, none⟩ = some (.bool sOa) ∧ w1.cell? ⟨rOa, 1, none⟩ = some (.slice aOa nOa cOa) ∧ w1.cell? ⟨rOa, 2, none⟩ = some (.slice bOa mOa dOa) ∧ w1.cell? ⟨rDa, 0, none⟩ = some (.bool sDa) ∧ w1.cell? ⟨rDa, 1, none⟩ = some (.slice aDa nDa cDa) ∧ w1.cell? ⟨rDa, 2, none⟩ = some (.slice bDa mDa dDa) ∧ w1.cell? ⟨rA, 0, none⟩ = some (.bool sA) ∧ w1.cell? ⟨rA, 1, none⟩ = some (.slice aA nA cA) ∧ w1.cell? ⟨rA, 2, none⟩ = some (.slice bA mA dA) ∧ w1.cell? ⟨rEa, 0, none⟩ = some (.bool sEa) ∧ w1.cell? ⟨rEa, 1, none⟩ = some (.slice aEa nEa cEa) ∧ w1.cell? ⟨rEa, 2, none⟩ = some (.slice bEa mEa dEa) := fun w1 h => by
    obtain ⟨kMa0, kMa1, kMa2⟩ := (tMa.later h).cells
    obtain ⟨kOa0, kOa1, kOa2⟩ := (tOa.later h).cells
    obtain ⟨kDa0, kDa1, kDa2⟩ := (tDa.later h).cells
    obtain ⟨kA0, kA1, kA2⟩ := (tA.later h).cells
    obtain ⟨kEa0, kEa1, kEa2⟩ := (tEa.later h).cells
    exact ⟨kMa0, kMa1, kMa2, kOa0, kOa1, kOa2, kDa0, kDa1, kDa2, kA0, kA1, kA2, kEa0, kEa1, kEa2⟩
  obtain ⟨xMa0, xMa1, xMa2, xOa0, xOa1, xOa2, xDa0, xDa1, xDa2, xA0, xA1, xA2, xEa0, xEa1, xEa2⟩ := hcl z20 (Below.refl _ _)
  have o0 := fun w1 (h : Below z20.heap.size z20 w1) => one_any (hMa.later h) (hOa.later h) zMa zOa (by omega) (by omega) (decide_eq_true (Rat.mul_add p q r))
  have o1 := fun w1 (h : Below z20.heap.size z20 w1) => one_any (hDa.later h) (hA.later h) zDa zA (by omega) (by omega) (decide_eq_true Rat.add_sub_cancel)
  have i2 := fun w1 h => int_at (v := 0) (w0 := z20) (w1 := w1) h (by omega) (by omega)
  have zI2 := sz_int (v := 0) (by decide)
  go_region_held3 (fun w' => w'.cell? ⟨rMa, 0, none⟩ = some (.bool sMa) ∧ w'.cell? ⟨rMa, 1, none⟩ = some (.slice aMa nMa cMa) ∧ w'.cell? ⟨rMa, 2, none⟩ = some (.slice bMa mMa dMa) ∧ w'.cell? ⟨rOa, 0, none⟩ = some (.bool sOa) ∧ w'.cell? ⟨rOa, 1, none⟩ = some (.slice aOa nOa cOa) ∧ w'.cell? ⟨rOa, 2, none⟩ = some (.slice bOa mOa dOa) ∧ w'.cell? ⟨rDa, 0, none⟩ = some (.bool sDa) ∧ w'.cell? ⟨rDa, 1, none⟩ = some (.slice aDa nDa cDa) ∧ w'.cell? ⟨rDa, 2, none⟩ = some (.slice bDa mDa dDa) ∧ w'.cell? ⟨rA, 0, none⟩ = some (.bool sA) ∧ w'.cell? ⟨rA, 1, none⟩ = some (.slice aA nA cA) ∧ w'.cell? ⟨rA, 2, none⟩ = some (.slice bA mA dA) ∧ w'.cell? ⟨rEa, 0, none⟩ = some (.bool sEa) ∧ w'.cell? ⟨rEa, 1, none⟩ = some (.slice aEa nEa cEa) ∧ w'.cell? ⟨rEa, 2, none⟩ = some (.slice bEa mEa dEa)) (go_keep) (first | (go_at_call_of 11 aMa; refine (o0 _ (by first | exact Below.refl _ _ | exact below_drewN (Below.refl _ _) _)).mono ?_; rintro e y0 ⟨rfl, hb0⟩; have hB0 : Below z20.heap.size z20 y0 := (by first | exact hb0 | exact (below_drewN (Below.refl _ _) 1).trans hb0); obtain ⟨xMa0, xMa1, xMa2, xOa0, xOa1, xOa2, xDa0, xDa1, xDa2, xA0, xA1, xA2, xEa0, xEa1, xEa2⟩ := hcl y0 hB0) | (go_at_call_of 11 aDa; refine (o1 _ (by first | exact hB0 | exact below_drewN hB0 _)).mono ?_; rintro e y1 ⟨rfl, hb1⟩; have hB1 := hB0.trans (hb1.mono hB0.size); obtain ⟨xMa0, xMa1, xMa2, xOa0, xOa1, xOa2, xDa0, xDa1, xDa2, xA0, xA1, xA2, xEa0, xEa1, xEa2⟩ := hcl y1 hB1) | (go_at_call 12; refine (i2 _ (by first | exact hB1 | exact below_drewN hB1 _)).mono ?_; rintro e yI2 ⟨sI, aI, nI, cI, bI, mI, dI, rfl, hI, hBI2, hbI2⟩; obtain ⟨xMa0, xMa1, xMa2, xOa0, xOa1, xOa2, xDa0, xDa1, xDa2, xA0, xA1, xA2, xEa0, xEa1, xEa2⟩ := hcl yI2 hBI2) | (go_at_call_of 11 aEa; refine (one_any (hEa.later hBI2) hI zEa zI2 (by omega) (by omega) (decide_eq_true (by rw [Rat.sub_self]; rfl))).mono ?_; rintro e y2 ⟨rfl, hb2⟩; have hB2 := hBI2.trans (hb2.mono hBI2.size); obtain ⟨xMa0, xMa1, xMa2, xOa0, xOa1, xOa2, xDa0, xDa1, xDa2, xA0, xA1, xA2, xEa0, xEa1, xEa2⟩ := hcl y2 hB2))
  have hbN := hB2
  rw [HrMa.out] at tMa ⊢
  rw [HrOa.out] at tOa ⊢
  rw [HrDa.out] at tDa ⊢
  rw [HrA.out] at tA ⊢
  rw [HrEa.out] at tEa ⊢
  clear hcl HrMa xMa0 xMa1 xMa2 HrOa xOa0 xOa1 xOa2 HrDa xDa0 xDa1 xDa2 HrA xA0 xA1 xA2 HrEa xEa0 xEa1 xEa2
  replace hA := hA.later hbN
  replace tA := tA.later hbN
  replace hB := hB.later hbN
  replace tB := tB.later hbN
  replace hC := hC.later hbN
  replace tC := tC.later hbN
  replace hS := hS.later hbN
  replace tS := tS.later hbN
  replace hV := hV.later hbN
  replace tV := tV.later hbN
  replace hX := hX.later hbN
  replace tX := tX.later hbN
  replace hMa := hMa.later hbN
  replace tMa := tMa.later hbN
  replace hNa := hNa.later hbN
  replace tNa := tNa.later hbN
  replace hOa := hOa.later hbN
  replace tOa := tOa.later hbN
  replace hDa := hDa.later hbN
  replace tDa := tDa.later hbN
  replace hEa := hEa.later hbN
  replace tEa := tEa.later hbN
  replace HB := HB.trans (hbN.mono HB.size)
  clear hbN
  clear hC tC zC
  clear hS tS zS
  clear hV tV zV
  clear hMa tMa zMa
  clear hNa tNa zNa
  clear hOa tOa zOa
  clear hDa tDa zDa
  clear hEa tEa zEa
  go_upto_region 25 with (fail)
  obtain ⟨rA, hrA⟩ : ∃ r, r = wA.heap.size := ⟨_, rfl⟩
  rw [← hrA] at tA ⊢
  have Hr : Hid (rA = wA.heap.size) := hrA
  clear hrA
  have hcl : ∀ w1, Below y2.heap.size y2 w1 → w1.cell? ⟨rA, 0, none⟩ = some (.bool sA) ∧ w1.cell? ⟨rA, 1, none⟩ = some (.slice aA nA cA) ∧ w1.cell? ⟨rA, 2, none⟩ = some (.slice bA mA dA) := fun w1 h => (tA.later h).cells
  obtain ⟨x0, x1, x2⟩ := hcl y2 (Below.refl _ _)
  have ltr := tA.lt
  have k1 : ¬ rA = y2.heap.size := by omega
  have k2 : ¬ y2.heap.size = rA := by omega
  have fI := fun w1 h => int_at (v := 1) (w0 := y2) (w1 := w1) h (by omega) (by omega)
  have zI := sz_int (v := 1) (by decide)
  go_cut [31, 12] from 234 to 240 (fun pv okv wx => ∃ rFa sFa aFa nFa cFa bFa mFa dFa, pv = .pointer (some ⟨rFa, 0, none⟩) ∧ okv = .bool true ∧ Rt wx sFa aFa nFa cFa bFa mFa dFa (p * (((1 : Int)) : Rat)) ∧ Sz (p * (((1 : Int)) : Rat)) (12 + 1) ∧ St wx rFa 25 (.bool sFa) (.slice aFa nFa cFa) (.slice bFa mFa dFa) ∧ Below y2.heap.size y2 wx)
  case first =>
    go_region_held3 (fun w' => w'.cell? ⟨rA, 0, none⟩ = some (.bool sA) ∧ w'.cell? ⟨rA, 1, none⟩ = some (.slice aA nA cA) ∧ w'.cell? ⟨rA, 2, none⟩ = some (.slice bA mA dA)) (go_keep) (first | (go_at_call 12; refine (fI _ (by first | exact Below.refl _ _ | exact below_drewN (Below.refl _ _) _ | exact (below_drewN (Below.refl _ _) 1).alloc (by simp) _ | exact below_drewN ((Below.refl _ _).alloc (Nat.le_refl _) _) _)).mono ?_; rintro e wI ⟨sI, aI, nI, cI, bI, mI, dI, rfl, hI, hBI, hbI⟩; obtain ⟨x0, x1, x2⟩ := hcl wI hBI; have sI1 := hBI.size; have k3 : ¬ rA = wI.heap.size := (by omega); have k4 : ¬ wI.heap.size = rA := (by omega)) | (go_at_call 9; refine (lawMul_ok (hA.later (by first | exact hBI | exact hBI.alloc hBI.size _)) (by first | exact hI | exact hI.later (alloc_below _)) zA zI (by omega)).mono ?_; rintro e wM ⟨sFa, u1, u2, rfl, hRFa, zFa, hbM⟩; obtain ⟨aFa, nFa, cFa, bFa, mFa, dFa, rfl, rfl, hFa⟩ := hRFa.opens; have hBM : Below y2.heap.size y2 wM := (by first | exact hBI.trans (hbM.mono hBI.size) | exact (hBI.alloc hBI.size _).trans (hbM.mono (by simp; omega))); obtain ⟨x0, x1, x2⟩ := hcl wM hBM; have sI2 := hBM.size; have k5 : ¬ rA = wM.heap.size := (by omega); have k6 : ¬ wM.heap.size = rA := (by omega); first | (have tvM := (St.later (w' := wM) (st_new wI (.bool false) (.slice none 0 0) (.slice none 0 0) 25) hbM); obtain ⟨q0, q1, q2⟩ := tvM.cells; obtain ⟨q3, q4, q5⟩ := tvM.frozen) | (have tvM := ((St.drew (st_new y2 (.bool false) (.slice none 0 0) (.slice none 0 0) 25)).later hbI).later hbM; obtain ⟨q0, q1, q2⟩ := tvM.cells; obtain ⟨q3, q4, q5⟩ := tvM.frozen) | (have tvM := ((st_new (y2.drew) (.bool false) (.slice none 0 0) (.slice none 0 0) 25).later hbI).later hbM; obtain ⟨q0, q1, q2⟩ := tvM.cells; obtain ⟨q3, q4, q5⟩ := tvM.frozen) | skip))
    all_goals (go_wp2_with fail)
    all_goals (go_meet)
    all_goals first | exact ⟨wM.heap.size, sFa, aFa, nFa, cFa, bFa, mFa, dFa, rfl, rfl, hFa.later (alloc_below _), zFa, st_new wM _ _ _ _, hBM.alloc hBM.size _⟩ | exact ⟨_, sFa, aFa, nFa, cFa, bFa, mFa, dFa, rfl, rfl, (hRFa.inn (in3 _ _ _ _ _) (by first | (simp; done) | (have := hbI.size; simp at this ⊢; omega))).rt, zFa, tvM.set _ _ _, below_in hBM (in3 _ _ _ _ _) (by first | exact Nat.le_refl _ | exact hBI.size | omega) (Nat.le_refl _)⟩
  obtain ⟨rFa, sFa, aFa, nFa, cFa, bFa, mFa, dFa, rfl, rfl, hFa, zFa, tFa, hbN⟩ := hcut
  obtain ⟨cw21, hy⟩ : ∃ z, z = wc := ⟨_, rfl⟩
  subst hy
  clear hcl x0 x1 x2 ltr k1 k2 fI zI
  rw [Hr.out] at tA ⊢
  clear Hr
  replace hA := hA.later hbN
  replace tA := tA.later hbN
  replace hB := hB.later hbN
  replace tB := tB.later hbN
  replace hX := hX.later hbN
  replace tX := tX.later hbN
  replace HB := HB.trans (hbN.mono HB.size)
  clear hbN
  go_upto_region 26 with (fail)
  obtain ⟨rA, hrA⟩ : ∃ r, r = wA.heap.size := ⟨_, rfl⟩
  rw [← hrA] at tA ⊢
  have Hr : Hid (rA = wA.heap.size) := hrA
  clear hrA
  have hcl : ∀ w1, Below cw21.heap.size cw21 w1 → w1.cell? ⟨rA, 0, none⟩ = some (.bool sA) ∧ w1.cell? ⟨rA, 1, none⟩ = some (.slice aA nA cA) ∧ w1.cell? ⟨rA, 2, none⟩ = some (.slice bA mA dA) := fun w1 h => (tA.later h).cells
  obtain ⟨x0, x1, x2⟩ := hcl cw21 (Below.refl _ _)
  have ltr := tA.lt
  have k1 : ¬ rA = cw21.heap.size := by omega
  have k2 : ¬ cw21.heap.size = rA := by omega
  have fI := fun w1 h => int_at (v := 0) (w0 := cw21) (w1 := w1) h (by omega) (by omega)
  have zI := sz_int (v := 0) (by decide)
  go_cut [32, 14] from 240 to 246 (fun pv okv wx => ∃ rGa sGa aGa nGa cGa bGa mGa dGa, pv = .pointer (some ⟨rGa, 0, none⟩) ∧ okv = .bool true ∧ Rt wx sGa aGa nGa cGa bGa mGa dGa (p + (((0 : Int)) : Rat)) ∧ Sz (p + (((0 : Int)) : Rat)) (12 + 1 + 1) ∧ St wx rGa 25 (.bool sGa) (.slice aGa nGa cGa) (.slice bGa mGa dGa) ∧ Below cw21.heap.size cw21 wx)
  case first =>
    go_region_held3 (fun w' => w'.cell? ⟨rA, 0, none⟩ = some (.bool sA) ∧ w'.cell? ⟨rA, 1, none⟩ = some (.slice aA nA cA) ∧ w'.cell? ⟨rA, 2, none⟩ = some (.slice bA mA dA)) (go_keep) (first | (go_at_call 12; refine (fI _ (by first | exact Below.refl _ _ | exact below_drewN (Below.refl _ _) _ | exact (below_drewN (Below.refl _ _) 1).alloc (by simp) _ | exact below_drewN ((Below.refl _ _).alloc (Nat.le_refl _) _) _)).mono ?_; rintro e wI ⟨sI, aI, nI, cI, bI, mI, dI, rfl, hI, hBI, hbI⟩; obtain ⟨x0, x1, x2⟩ := hcl wI hBI; have sI1 := hBI.size; have k3 : ¬ rA = wI.heap.size := (by omega); have k4 : ¬ wI.heap.size = rA := (by omega)) | (go_at_call 8; refine (lawAdd_ok (hA.later (by first | exact hBI | exact hBI.alloc hBI.size _)) (by first | exact hI | exact hI.later (alloc_below _)) zA zI (by omega)).mono ?_; rintro e wM ⟨sGa, u1, u2, rfl, hRGa, zGa, hbM⟩; obtain ⟨aGa, nGa, cGa, bGa, mGa, dGa, rfl, rfl, hGa⟩ := hRGa.opens; have hBM : Below cw21.heap.size cw21 wM := (by first | exact hBI.trans (hbM.mono hBI.size) | exact (hBI.alloc hBI.size _).trans (hbM.mono (by simp; omega))); obtain ⟨x0, x1, x2⟩ := hcl wM hBM; have sI2 := hBM.size; have k5 : ¬ rA = wM.heap.size := (by omega); have k6 : ¬ wM.heap.size = rA := (by omega); first | (have tvM := (St.later (w' := wM) (st_new wI (.bool false) (.slice none 0 0) (.slice none 0 0) 25) hbM); obtain ⟨q0, q1, q2⟩ := tvM.cells; obtain ⟨q3, q4, q5⟩ := tvM.frozen) | (have tvM := ((St.drew (st_new cw21 (.bool false) (.slice none 0 0) (.slice none 0 0) 25)).later hbI).later hbM; obtain ⟨q0, q1, q2⟩ := tvM.cells; obtain ⟨q3, q4, q5⟩ := tvM.frozen) | (have tvM := ((st_new (cw21.drew) (.bool false) (.slice none 0 0) (.slice none 0 0) 25).later hbI).later hbM; obtain ⟨q0, q1, q2⟩ := tvM.cells; obtain ⟨q3, q4, q5⟩ := tvM.frozen) | skip))
    all_goals (go_wp2_with fail)
    all_goals (go_meet)
    all_goals first | exact ⟨wM.heap.size, sGa, aGa, nGa, cGa, bGa, mGa, dGa, rfl, rfl, hGa.later (alloc_below _), zGa, st_new wM _ _ _ _, hBM.alloc hBM.size _⟩ | exact ⟨_, sGa, aGa, nGa, cGa, bGa, mGa, dGa, rfl, rfl, (hRGa.inn (in3 _ _ _ _ _) (by first | (simp; done) | (have := hbI.size; simp at this ⊢; omega))).rt, zGa, tvM.set _ _ _, below_in hBM (in3 _ _ _ _ _) (by first | exact Nat.le_refl _ | exact hBI.size | omega) (Nat.le_refl _)⟩
  obtain ⟨rGa, sGa, aGa, nGa, cGa, bGa, mGa, dGa, rfl, rfl, hGa, zGa, tGa, hbN⟩ := hcut
  obtain ⟨cw22, hy⟩ : ∃ z, z = wc := ⟨_, rfl⟩
  subst hy
  clear hcl x0 x1 x2 ltr k1 k2 fI zI
  rw [Hr.out] at tA ⊢
  clear Hr
  replace hA := hA.later hbN
  replace tA := tA.later hbN
  replace hB := hB.later hbN
  replace tB := tB.later hbN
  replace hX := hX.later hbN
  replace tX := tX.later hbN
  replace hFa := hFa.later hbN
  replace tFa := tFa.later hbN
  replace HB := HB.trans (hbN.mono HB.size)
  clear hbN
  obtain ⟨eFa0, eFa1, eFa2⟩ := tFa.cells
  obtain ⟨eA0, eA1, eA2⟩ := tA.cells
  go_wp2_with fail
  refine (one_any hFa hA zFa zA (by omega) (by omega) (decide_eq_true (Rat.mul_one p))).mono ?_
  rintro e v23 ⟨rfl, hbN⟩
  clear eFa0 eFa1 eFa2
  clear eA0 eA1 eA2
  replace hA := hA.later hbN
  replace tA := tA.later hbN
  replace hB := hB.later hbN
  replace tB := tB.later hbN
  replace hX := hX.later hbN
  replace tX := tX.later hbN
  replace hFa := hFa.later hbN
  replace tFa := tFa.later hbN
  replace hGa := hGa.later hbN
  replace tGa := tGa.later hbN
  replace HB := HB.trans (hbN.mono HB.size)
  clear hbN
  obtain ⟨eGa0, eGa1, eGa2⟩ := tGa.cells
  obtain ⟨eA0, eA1, eA2⟩ := tA.cells
  go_wp2_with fail
  refine (one_any hGa hA zGa zA (by omega) (by omega) (decide_eq_true (Rat.add_zero p))).mono ?_
  rintro e v24 ⟨rfl, hbN⟩
  clear eGa0 eGa1 eGa2
  clear eA0 eA1 eA2
  replace hA := hA.later hbN
  replace tA := tA.later hbN
  replace hB := hB.later hbN
  replace tB := tB.later hbN
  replace hX := hX.later hbN
  replace tX := tX.later hbN
  replace hFa := hFa.later hbN
  replace tFa := tFa.later hbN
  replace hGa := hGa.later hbN
  replace tGa := tGa.later hbN
  replace HB := HB.trans (hbN.mono HB.size)
  clear hbN
  clear hFa tFa zFa
  clear hGa tGa zGa
  by_cases hq : q = 0
  · have hq0 : sgnR q = 0 := by rw [hq]; rfl
    obtain ⟨eB0, eB1, eB2⟩ := tB.cells
    go_wp2_with fail
    refine (rSign_any hB (by have := hB.le zB; omega) hq0).mono ?_
    rintro e v25 ⟨rfl, hbN⟩
    clear eB0 eB1 eB2
    replace hA := hA.later hbN
    replace tA := tA.later hbN
    replace hB := hB.later hbN
    replace tB := tB.later hbN
    replace hX := hX.later hbN
    replace tX := tX.later hbN
    replace HB := HB.trans (hbN.mono HB.size)
    clear hbN
    obtain ⟨eA0, eA1, eA2⟩ := tA.cells
    obtain ⟨eB0, eB1, eB2⟩ := tB.cells
    go_wp2_with fail
    refine (rDiv_zero hA hB zA zB (by omega) (by omega) hq).mono ?_
    rintro e vz ⟨rfl, hbN⟩
    clear eA0 eA1 eA2 eB0 eB1 eB2 hq hq0 hA hB hX tA tB tX
    replace HB := HB.trans (hbN.mono HB.size)
    go_wp2
    go_ret
    exact ⟨rfl, HB.alloc HB.size _⟩
  · obtain ⟨K, hK⟩ : ∃ K, sgnR q = K := ⟨_, rfl⟩
    have hk0 : (K == 0) = false := beq_no (by
      intro h0
      apply hq
      apply Rat.num_eq_zero.mp
      unfold sgnR at hK
      (repeat' split at hK) <;> omega)
    obtain ⟨eB0, eB1, eB2⟩ := tB.cells
    go_wp2_with fail
    refine (rSign_any hB (by have := hB.le zB; omega) hK).mono ?_
    rintro e v25 ⟨rfl, hbN⟩
    clear eB0 eB1 eB2
    replace hA := hA.later hbN
    replace tA := tA.later hbN
    replace hB := hB.later hbN
    replace tB := tB.later hbN
    replace hX := hX.later hbN
    replace tX := tX.later hbN
    replace HB := HB.trans (hbN.mono HB.size)
    clear hbN
    obtain ⟨eX0, eX1, eX2⟩ := tX.cells
    obtain ⟨eB0, eB1, eB2⟩ := tB.cells
    go_wp2_with fail
    refine (lawDiv_ok hX hB zX zB (by omega) hq).mono ?_
    rintro e v26 ⟨sHa, u1, u2, rfl, hRHa, zHa, hbN⟩
    clear eX0 eX1 eX2
    clear eB0 eB1 eB2
    obtain ⟨aHa, nHa, cHa, bHa, mHa, dHa, rfl, rfl, hHa⟩ := hRHa.opens
    have hal := alloc_below (w := v26) (.cells #[.bool sHa, .slice aHa nHa cHa, .slice bHa mHa dHa] 25)
    have tHa := st_new v26 (.bool sHa) (.slice aHa nHa cHa) (.slice bHa mHa dHa) 25
    replace hA := (hA.later hbN).later hal
    replace tA := (tA.later hbN).later hal
    replace hB := (hB.later hbN).later hal
    replace tB := (tB.later hbN).later hal
    replace hX := (hX.later hbN).later hal
    replace tX := (tX.later hbN).later hal
    replace HB := HB.trans (hbN.mono HB.size)
    replace HB := HB.trans (hal.mono HB.size)
    replace hHa := hHa.later hal
    clear hbN hal hRHa
    obtain ⟨eB0, eB1, eB2⟩ := tB.cells
    go_wp2_with fail
    refine (lawDiv_ok hB hB zB zB (by omega) hq).mono ?_
    rintro e v27 ⟨sIa, u1, u2, rfl, hRIa, zIa, hbN⟩
    clear eB0 eB1 eB2
    obtain ⟨aIa, nIa, cIa, bIa, mIa, dIa, rfl, rfl, hIa⟩ := hRIa.opens
    have hal := alloc_below (w := v27) (.cells #[.bool sIa, .slice aIa nIa cIa, .slice bIa mIa dIa] 25)
    have tIa := st_new v27 (.bool sIa) (.slice aIa nIa cIa) (.slice bIa mIa dIa) 25
    replace hA := (hA.later hbN).later hal
    replace tA := (tA.later hbN).later hal
    replace hB := (hB.later hbN).later hal
    replace tB := (tB.later hbN).later hal
    replace hX := (hX.later hbN).later hal
    replace tX := (tX.later hbN).later hal
    replace hHa := (hHa.later hbN).later hal
    replace tHa := (tHa.later hbN).later hal
    replace HB := HB.trans (hbN.mono HB.size)
    replace HB := HB.trans (hal.mono HB.size)
    replace hIa := hIa.later hal
    clear hbN hal hRIa
    go_upto_region 34 with (fail)
    obtain ⟨z28, hz⟩ : ∃ z, z = v27.alloc (.cells #[.bool sIa, .slice aIa nIa cIa, .slice bIa mIa dIa] 25) := ⟨_, rfl⟩
    rw [← hz] at hA tA hB tB hX tX hHa tHa hIa tIa  HB ⊢
    clear hz
    obtain ⟨rHa, hrHa⟩ : ∃ r, r = v26.heap.size := ⟨_, rfl⟩
    rw [← hrHa] at tHa ⊢
    have HrHa : Hid (rHa = v26.heap.size) := hrHa
    clear hrHa
    obtain ⟨rA, hrA⟩ : ∃ r, r = wA.heap.size := ⟨_, rfl⟩
    rw [← hrA] at tA ⊢
    have HrA : Hid (rA = wA.heap.size) := hrA
    clear hrA
    obtain ⟨rIa, hrIa⟩ : ∃ r, r = v27.heap.size := ⟨_, rfl⟩
    rw [← hrIa] at tIa ⊢
    have HrIa : Hid (rIa = v27.heap.size) := hrIa
    clear hrIa
    have hcl : ∀ w1, Below z28.heap.size z28 w1 → w1.cell? ⟨rHa, 0, none⟩ = some (.bool sHa) ∧ w1.cell? ⟨rHa, 1, none⟩ = some (.slice aHa nHa cHa) ∧ w1.cell? ⟨rHa, 2, none⟩ = some (.slice bHa mHa dHa) ∧ w1.cell? ⟨rA, 0, none⟩ = some (.bool sA) ∧ w1.cell? ⟨rA, 1, none⟩ = some (.slice aA nA cA) ∧ w1.cell? ⟨rA, 2, none⟩ = some (.slice bA mA dA) ∧ w1.cell? ⟨rIa, 0, none⟩ = some (.bool sIa) ∧ w1.cell? ⟨rIa, 1, none⟩ = some (.slice aIa nIa cIa) ∧ w1.cell? ⟨rIa, 2, none⟩ = some (.slice bIa mIa dIa) := fun w1 h => by
      obtain ⟨kHa0, kHa1, kHa2⟩ := (tHa.later h).cells
      obtain ⟨kA0, kA1, kA2⟩ := (tA.later h).cells
      obtain ⟨kIa0, kIa1, kIa2⟩ := (tIa.later h).cells
      exact ⟨kHa0, kHa1, kHa2, kA0, kA1, kA2, kIa0, kIa1, kIa2⟩
    obtain ⟨xHa0, xHa1, xHa2, xA0, xA1, xA2, xIa0, xIa1, xIa2⟩ := hcl z28 (Below.refl _ _)
    have o0 := fun w1 (h : Below z28.heap.size z28 w1) => one_any (hHa.later h) (hA.later h) zHa zA (by omega) (by omega) (decide_eq_true (Rat.mul_div_cancel hq))
    have i1 := fun w1 h => int_at (v := 1) (w0 := z28) (w1 := w1) h (by omega) (by omega)
    have zI1 := sz_int (v := 1) (by decide)
    go_region_held3 (fun w' => w'.cell? ⟨rHa, 0, none⟩ = some (.bool sHa) ∧ w'.cell? ⟨rHa, 1, none⟩ = some (.slice aHa nHa cHa) ∧ w'.cell? ⟨rHa, 2, none⟩ = some (.slice bHa mHa dHa) ∧ w'.cell? ⟨rA, 0, none⟩ = some (.bool sA) ∧ w'.cell? ⟨rA, 1, none⟩ = some (.slice aA nA cA) ∧ w'.cell? ⟨rA, 2, none⟩ = some (.slice bA mA dA) ∧ w'.cell? ⟨rIa, 0, none⟩ = some (.bool sIa) ∧ w'.cell? ⟨rIa, 1, none⟩ = some (.slice aIa nIa cIa) ∧ w'.cell? ⟨rIa, 2, none⟩ = some (.slice bIa mIa dIa)) (go_keep) (first | (go_at_call_of 11 aHa; refine (o0 _ (by first | exact Below.refl _ _ | exact below_drewN (Below.refl _ _) _)).mono ?_; rintro e y0 ⟨rfl, hb0⟩; have hB0 : Below z28.heap.size z28 y0 := (by first | exact hb0 | exact (below_drewN (Below.refl _ _) 1).trans hb0); obtain ⟨xHa0, xHa1, xHa2, xA0, xA1, xA2, xIa0, xIa1, xIa2⟩ := hcl y0 hB0) | (go_at_call 12; refine (i1 _ (by first | exact hB0 | exact below_drewN hB0 _)).mono ?_; rintro e yI1 ⟨sI, aI, nI, cI, bI, mI, dI, rfl, hI, hBI1, hbI1⟩; obtain ⟨xHa0, xHa1, xHa2, xA0, xA1, xA2, xIa0, xIa1, xIa2⟩ := hcl yI1 hBI1) | (go_at_call_of 11 aIa; refine (one_any (hIa.later hBI1) hI zIa zI1 (by omega) (by omega) (decide_eq_true (by rw [Rat.div_def, Rat.mul_inv_cancel q hq]; rfl))).mono ?_; rintro e y1 ⟨rfl, hb1⟩; have hB1 := hBI1.trans (hb1.mono hBI1.size); obtain ⟨xHa0, xHa1, xHa2, xA0, xA1, xA2, xIa0, xIa1, xIa2⟩ := hcl y1 hB1))
    have hbN := hB1
    rw [HrHa.out] at tHa ⊢
    rw [HrA.out] at tA ⊢
    rw [HrIa.out] at tIa ⊢
    clear hcl HrHa xHa0 xHa1 xHa2 HrA xA0 xA1 xA2 HrIa xIa0 xIa1 xIa2
    replace HB := HB.trans (hbN.mono HB.size)
    go_wp2
    go_ret
    exact ⟨rfl, HB⟩
end
end Go.Proofs.Ytopcdpeepchgfac
