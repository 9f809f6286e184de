/- RatOrder: the walk. -/
import Derived.Test.YtopcdpeepchgfacRatN
namespace Go.Proofs.Ytopcdpeepchgfac
open Go.ChangeShapes Go.WideShapes Go.ChangeAt Go.RowKit
open Na Ar
set_option linter.unusedVariables false
section
variable {w : World} {s1 s2 s3 : Bool} {a1 b1 a2 b2 a3 b3 : Option Addr} {n1 c1 m1 d1 n2 c2 m2 d2 n3 c3 m3 d3 : Nat} {x1 y1 x2 y2 x3 y3 : List Int}
set_option maxHeartbeats 25600000 in
set_option maxRecDepth 100000 in
theorem order_walk (ha1 : RowAt .u64 w a1 n1 x1) (hb1 : RowAt .u64 w b1 m1 y1) (hx1 : Ws x1) (hy1 : Ws y1) (hn1 : n1 ≤ maxLen) (hm1 : m1 ≤ maxLen) (ha2 : RowAt .u64 w a2 n2 x2) (hb2 : RowAt .u64 w b2 m2 y2) (hx2 : Ws x2) (hy2 : Ws y2) (hn2 : n2 ≤ maxLen) (hm2 : m2 ≤ maxLen) (ha3 : RowAt .u64 w a3 n3 x3) (hb3 : RowAt .u64 w b3 m3 y3) (hx3 : Ws x3) (hy3 : Ws y3) (hn3 : n3 ≤ maxLen) (hm3 : m3 ≤ maxLen) :
    Calls Try.prog 3 #[.agg #[.bool s1, .slice a1 n1 c1, .slice b1 m1 d1], .agg #[.bool s2, .slice a2 n2 c2, .slice b2 m2 d2], .agg #[.bool s3, .slice a3 n3 c3, .slice b3 m3 d3]] w fun e w' => e = .returned (.bool true) ∧ Below w.heap.size w w' := by
  have hnot : ∀ (x : Bool) (w : World), (Op.unary .not (.bool x)).run Try.prog w = .ok (.bool (!x)) w := fun _ _ => rfl
  obtain ⟨_, _, _, hb0⟩ := st_three w (.bool s1) (.slice a1 n1 c1) (.slice b1 m1 d1) (.bool s2) (.slice a2 n2 c2) (.slice b2 m2 d2) (.bool s3) (.slice a3 n3 c3) (.slice b3 m3 d3) 24 24 24
  have f0 := three_any (s1 := s1) (s2 := s2) (s3 := s3) (c1 := c1) (d1 := d1) (c2 := c2) (d2 := d2) (c3 := c3) (d3 := d3) (ha1.later hb0) (hb1.later hb0) hx1 hy1 hn1 hm1 (ha2.later hb0) (hb2.later hb0) hx2 hy2 hn2 hm2 (ha3.later hb0) (hb3.later hb0) hx3 hy3 hn3 hm3
  have zA := Sz.mkR (s := s1) (pNum_lt hx1) (pDen_lt hy1) (pDen_pos hy1)
  have zB := Sz.mkR (s := s2) (pNum_lt hx2) (pDen_lt hy2) (pDen_pos hy2)
  have zC := Sz.mkR (s := s3) (pNum_lt hx3) (pDen_lt hy3) (pDen_pos hy3)
  clear ha1 hb1 hx1 hy1 hn1 hm1 ha2 hb2 hx2 hy2 hn2 hm2 ha3 hb3 hx3 hy3 hn3 hm3
  generalize mkR s1 (pNum x1) (pDen y1) = p at *
  generalize mkR s2 (pNum x2) (pDen y2) = q at *
  generalize mkR s3 (pNum x3) (pDen y3) = r at *
  go_enter Try.func3, Try.ntmps3
  go_wp2_with fail
  refine f0.mono ?_
  rintro e wA ⟨sA, aA, nA, cA, bA, mA, dA, sB, aB, nB, cB, bB, mB, dB, sC, aC, nC, cC, bC, mC, dC, rfl, hA, hB, hC, hbA⟩
  obtain ⟨tA, tB, tC, hal⟩ := st_three wA (.bool sA) (.slice aA nA cA) (.slice bA mA dA) (.bool sB) (.slice aB nB cB) (.slice bB mB dB) (.bool sC) (.slice aC nC cC) (.slice bC mC dC) 25 25 25
  have HB := hb0.trans (hbA.mono hb0.size)
  replace HB := HB.trans (hal.mono HB.size)
  replace hA := hA.later hal
  replace hB := hB.later hal
  replace hC := hC.later hal
  clear f0 hb0 hbA hal
  obtain ⟨K, hK⟩ : ∃ K, ordR p q = K := ⟨_, rfl⟩
  obtain ⟨M, hM⟩ : ∃ M, ordR q p = M := ⟨_, rfl⟩
  obtain ⟨S, hSg⟩ : ∃ S, sgnR r = S := ⟨_, rfl⟩
  obtain ⟨B, hB1⟩ : ∃ B, decide (p = q) = B := ⟨_, rfl⟩
  have bK := ordR_bd p q
  rw [hK] at bK
  have hMK : M = -K := by rw [← hM, ← hK]; exact ordR_swap p q
  have eM : IntKind.i64.wrap (-M) = K := by rw [IntKind.wrap_i64]; omega
  have bS : -1 ≤ S ∧ S ≤ 1 := by rw [← hSg]; unfold sgnR; (repeat' split) <;> omega
  have eS : IntKind.i64.wrap (K * S) = K * S := by
    rw [IntKind.wrap_i64]
    have : K = -1 ∨ K = 0 ∨ K = 1 := by omega
    rcases this with h | h | h <;> subst h <;> omega
  have eB : (K == 0) = B := by
    rw [← hB1, ← hK, Bool.eq_iff_iff, decide_eq_true_iff, beq_iff_eq]
    exact ordR_zero
  have hK2 := (ordR_add p q r).trans hK
  have hK3 := (ordR_mul p q r).trans (by rw [hK, hSg])
  have hK4 := (sub_sgn p q).trans hK
  obtain ⟨I, hI⟩ : ∃ I, ordR q r = I := ⟨_, rfl⟩
  obtain ⟨J, hJ⟩ : ∃ J, ordR p r = J := ⟨_, rfl⟩
  have HT : Hid (¬ 0 < K → ¬ 0 < I → J ≤ 0) := fun h1 h2 => by
    rw [← hJ, ordR_le]
    exact Rat.le_trans (ordR_le.mp (by rw [hK]; omega)) (ordR_le.mp (by rw [hI]; omega))
  clear hMK
  obtain ⟨eA0, eA1, eA2⟩ := tA.cells
  obtain ⟨eB0, eB1, eB2⟩ := tB.cells
  go_wp2_with fail
  refine (rCmp_ok hA hB zA zB (by omega) hK).mono ?_
  rintro e v1 ⟨rfl, hbN⟩
  clear eA0 eA1 eA2
  clear eB0 eB1 eB2
  replace hA := hA.later hbN
  replace tA := tA.later hbN
  replace hB := hB.later hbN
  replace tB := tB.later hbN
  replace hC := hC.later hbN
  replace tC := tC.later hbN
  replace HB := HB.trans (hbN.mono HB.size)
  clear hbN
  obtain ⟨eB0, eB1, eB2⟩ := tB.cells
  obtain ⟨eA0, eA1, eA2⟩ := tA.cells
  go_wp2_with fail
  refine (rCmp_ok hB hA zB zA (by omega) hM).mono ?_
  rintro e v2 ⟨rfl, hbN⟩
  clear eB0 eB1 eB2
  clear eA0 eA1 eA2
  replace hA := hA.later hbN
  replace tA := tA.later hbN
  replace hB := hB.later hbN
  replace tB := tB.later hbN
  replace hC := hC.later hbN
  replace tC := tC.later hbN
  replace HB := HB.trans (hbN.mono HB.size)
  clear hbN
  obtain ⟨eA0, eA1, eA2⟩ := tA.cells
  obtain ⟨eB0, eB1, eB2⟩ := tB.cells
  go_wp2_with fail
  refine (lawSub_ok hA hB zA zB (by omega)).mono ?_
  rintro e v3 ⟨sD, u1, u2, rfl, hRD, zD, hbN⟩
  clear eA0 eA1 eA2
  clear eB0 eB1 eB2
  obtain ⟨aD, nD, cD, bD, mD, dD, rfl, rfl, hD⟩ := hRD.opens
  have hal := alloc_below (w := v3) (.cells #[.bool sD, .slice aD nD cD, .slice bD mD dD] 25)
  have tD := st_new v3 (.bool sD) (.slice aD nD cD) (.slice bD mD dD) 25
  replace hA := (hA.later hbN).later hal
  replace tA := (tA.later hbN).later hal
  replace hB := (hB.later hbN).later hal
  replace tB := (tB.later hbN).later hal
  replace hC := (hC.later hbN).later hal
  replace tC := (tC.later hbN).later hal
  replace HB := HB.trans (hbN.mono HB.size)
  replace HB := HB.trans (hal.mono HB.size)
  replace hD := hD.later hal
  clear hbN hal hRD
  obtain ⟨eA0, eA1, eA2⟩ := tA.cells
  obtain ⟨eC0, eC1, eC2⟩ := tC.cells
  go_wp2_with fail
  refine (lawAdd_ok hA hC zA zC (by omega)).mono ?_
  rintro e v4 ⟨sS, u1, u2, rfl, hRS, zS, hbN⟩
  clear eA0 eA1 eA2
  clear eC0 eC1 eC2
  obtain ⟨aS, nS, cS, bS, mS, dS, rfl, rfl, hS⟩ := hRS.opens
  have hal := alloc_below (w := v4) (.cells #[.bool sS, .slice aS nS cS, .slice bS mS dS] 25)
  have tS := st_new v4 (.bool sS) (.slice aS nS cS) (.slice bS mS dS) 25
  replace hA := (hA.later hbN).later hal
  replace tA := (tA.later hbN).later hal
  replace hB := (hB.later hbN).later hal
  replace tB := (tB.later hbN).later hal
  replace hC := (hC.later hbN).later hal
  replace tC := (tC.later hbN).later hal
  replace hD := (hD.later hbN).later hal
  replace tD := (tD.later hbN).later hal
  replace HB := HB.trans (hbN.mono HB.size)
  replace HB := HB.trans (hal.mono HB.size)
  replace hS := hS.later hal
  clear hbN hal hRS
  obtain ⟨eB0, eB1, eB2⟩ := tB.cells
  obtain ⟨eC0, eC1, eC2⟩ := tC.cells
  go_wp2_with fail
  refine (lawAdd_ok hB hC zB zC (by omega)).mono ?_
  rintro e v5 ⟨sT, u1, u2, rfl, hRT, zT, hbN⟩
  clear eB0 eB1 eB2
  clear eC0 eC1 eC2
  obtain ⟨aT, nT, cT, bT, mT, dT, rfl, rfl, hT⟩ := hRT.opens
  have hal := alloc_below (w := v5) (.cells #[.bool sT, .slice aT nT cT, .slice bT mT dT] 25)
  have tT := st_new v5 (.bool sT) (.slice aT nT cT) (.slice bT mT dT) 25
  replace hA := (hA.later hbN).later hal
  replace tA := (tA.later hbN).later hal
  replace hB := (hB.later hbN).later hal
  replace tB := (tB.later hbN).later hal
  replace hC := (hC.later hbN).later hal
  replace tC := (tC.later hbN).later hal
  replace hD := (hD.later hbN).later hal
  replace tD := (tD.later hbN).later hal
  replace hS := (hS.later hbN).later hal
  replace tS := (tS.later hbN).later hal
  replace HB := HB.trans (hbN.mono HB.size)
  replace HB := HB.trans (hal.mono HB.size)
  replace hT := hT.later hal
  clear hbN hal hRT
  obtain ⟨eA0, eA1, eA2⟩ := tA.cells
  obtain ⟨eC0, eC1, eC2⟩ := tC.cells
  go_wp2_with fail
  refine (lawMul_ok hA hC zA zC (by omega)).mono ?_
  rintro e v6 ⟨sX, u1, u2, rfl, hRX, zX, hbN⟩
  clear eA0 eA1 eA2
  clear eC0 eC1 eC2
  obtain ⟨aX, nX, cX, bX, mX, dX, rfl, rfl, hX⟩ := hRX.opens
  have hal := alloc_below (w := v6) (.cells #[.bool sX, .slice aX nX cX, .slice bX mX dX] 25)
  have tX := st_new v6 (.bool sX) (.slice aX nX cX) (.slice bX mX dX) 25
  replace hA := (hA.later hbN).later hal
  replace tA := (tA.later hbN).later hal
  replace hB := (hB.later hbN).later hal
  replace tB := (tB.later hbN).later hal
  replace hC := (hC.later hbN).later hal
  replace tC := (tC.later hbN).later hal
  replace hD := (hD.later hbN).later hal
  replace tD := (tD.later hbN).later hal
  replace hS := (hS.later hbN).later hal
  replace tS := (tS.later hbN).later hal
  replace hT := (hT.later hbN).later hal
  replace tT := (tT.later hbN).later hal
  replace HB := HB.trans (hbN.mono HB.size)
  replace HB := HB.trans (hal.mono HB.size)
  replace hX := hX.later hal
  clear hbN hal hRX
  obtain ⟨eB0, eB1, eB2⟩ := tB.cells
  obtain ⟨eC0, eC1, eC2⟩ := tC.cells
  go_wp2_with fail
  refine (lawMul_ok hB hC zB zC (by omega)).mono ?_
  rintro e v7 ⟨sY, u1, u2, rfl, hRY, zY, hbN⟩
  clear eB0 eB1 eB2
  clear eC0 eC1 eC2
  obtain ⟨aY, nY, cY, bY, mY, dY, rfl, rfl, hY⟩ := hRY.opens
  have hal := alloc_below (w := v7) (.cells #[.bool sY, .slice aY nY cY, .slice bY mY dY] 25)
  have tY := st_new v7 (.bool sY) (.slice aY nY cY) (.slice bY mY dY) 25
  replace hA := (hA.later hbN).later hal
  replace tA := (tA.later hbN).later hal
  replace hB := (hB.later hbN).later hal
  replace tB := (tB.later hbN).later hal
  replace hC := (hC.later hbN).later hal
  replace tC := (tC.later hbN).later hal
  replace hD := (hD.later hbN).later hal
  replace tD := (tD.later hbN).later hal
  replace hS := (hS.later hbN).later hal
  replace tS := (tS.later hbN).later hal
  replace hT := (hT.later hbN).later hal
  replace tT := (tT.later hbN).later hal
  replace hX := (hX.later hbN).later hal
  replace tX := (tX.later hbN).later hal
  replace HB := HB.trans (hbN.mono HB.size)
  replace HB := HB.trans (hal.mono HB.size)
  replace hY := hY.later hal
  clear hbN hal hRY
  obtain ⟨eD0, eD1, eD2⟩ := tD.cells
  go_wp2_with fail
  refine (rSign_any hD (by have := hD.le zD; omega) hK4).mono ?_
  rintro e v8 ⟨rfl, hbN⟩
  clear eD0 eD1 eD2
  replace hA := hA.later hbN
  replace tA := tA.later hbN
  replace hB := hB.later hbN
  replace tB := tB.later hbN
  replace hC := hC.later hbN
  replace tC := tC.later hbN
  replace hD := hD.later hbN
  replace tD := tD.later hbN
  replace hS := hS.later hbN
  replace tS := tS.later hbN
  replace hT := hT.later hbN
  replace tT := tT.later hbN
  replace hX := hX.later hbN
  replace tX := tX.later hbN
  replace hY := hY.later hbN
  replace tY := tY.later hbN
  replace HB := HB.trans (hbN.mono HB.size)
  clear hbN
  obtain ⟨eA0, eA1, eA2⟩ := tA.cells
  obtain ⟨eB0, eB1, eB2⟩ := tB.cells
  go_wp2_with fail
  refine (one_any hA hB zA zB (by omega) (by omega) hB1).mono ?_
  rintro e v9 ⟨rfl, hbN⟩
  clear eA0 eA1 eA2
  clear eB0 eB1 eB2
  replace hA := hA.later hbN
  replace tA := tA.later hbN
  replace hB := hB.later hbN
  replace tB := tB.later hbN
  replace hC := hC.later hbN
  replace tC := tC.later hbN
  replace hD := hD.later hbN
  replace tD := tD.later hbN
  replace hS := hS.later hbN
  replace tS := tS.later hbN
  replace hT := hT.later hbN
  replace tT := tT.later hbN
  replace hX := hX.later hbN
  replace tX := tX.later hbN
  replace hY := hY.later hbN
  replace tY := tY.later hbN
  replace HB := HB.trans (hbN.mono HB.size)
  clear hbN
  obtain ⟨eS0, eS1, eS2⟩ := tS.cells
  obtain ⟨eT0, eT1, eT2⟩ := tT.cells
  go_wp2_with fail
  refine (rCmp_ok hS hT zS zT (by omega) hK2).mono ?_
  rintro e v10 ⟨rfl, hbN⟩
  clear eS0 eS1 eS2
  clear eT0 eT1 eT2
  replace hA := hA.later hbN
  replace tA := tA.later hbN
  replace hB := hB.later hbN
  replace tB := tB.later hbN
  replace hC := hC.later hbN
  replace tC := tC.later hbN
  replace hD := hD.later hbN
  replace tD := tD.later hbN
  replace hS := hS.later hbN
  replace tS := tS.later hbN
  replace hT := hT.later hbN
  replace tT := tT.later hbN
  replace hX := hX.later hbN
  replace tX := tX.later hbN
  replace hY := hY.later hbN
  replace tY := tY.later hbN
  replace HB := HB.trans (hbN.mono HB.size)
  clear hbN
  obtain ⟨eX0, eX1, eX2⟩ := tX.cells
  obtain ⟨eY0, eY1, eY2⟩ := tY.cells
  go_wp2_with fail
  refine (rCmp_ok hX hY zX zY (by omega) hK3).mono ?_
  rintro e v11 ⟨rfl, hbN⟩
  clear eX0 eX1 eX2
  clear eY0 eY1 eY2
  replace hA := hA.later hbN
  replace tA := tA.later hbN
  replace hB := hB.later hbN
  replace tB := tB.later hbN
  replace hC := hC.later hbN
  replace tC := tC.later hbN
  replace hD := hD.later hbN
  replace tD := tD.later hbN
  replace hS := hS.later hbN
  replace tS := tS.later hbN
  replace hT := hT.later hbN
  replace tT := tT.later hbN
  replace hX := hX.later hbN
  replace tX := tX.later hbN
  replace hY := hY.later hbN
  replace tY := tY.later hbN
  replace HB := HB.trans (hbN.mono HB.size)
  clear hbN
  obtain ⟨eC0, eC1, eC2⟩ := tC.cells
  go_wp2_with fail
  refine (rSign_any hC (by have := hC.le zC; omega) hSg).mono ?_
  rintro e v12 ⟨rfl, hbN⟩
  clear eC0 eC1 eC2
  replace hA := hA.later hbN
  replace tA := tA.later hbN
  replace hB := hB.later hbN
  replace tB := tB.later hbN
  replace hC := hC.later hbN
  replace tC := tC.later hbN
  replace hD := hD.later hbN
  replace tD := tD.later hbN
  replace hS := hS.later hbN
  replace tS := tS.later hbN
  replace hT := hT.later hbN
  replace tT := tT.later hbN
  replace hX := hX.later hbN
  replace tX := tX.later hbN
  replace hY := hY.later hbN
  replace tY := tY.later hbN
  replace HB := HB.trans (hbN.mono HB.size)
  clear hbN
  obtain ⟨eB0, eB1, eB2⟩ := tB.cells
  obtain ⟨eC0, eC1, eC2⟩ := tC.cells
  go_wp2_with fail
  refine (rCmp_ok hB hC zB zC (by omega) hI).mono ?_
  rintro e v13 ⟨rfl, hbN⟩
  clear eB0 eB1 eB2
  clear eC0 eC1 eC2
  replace hA := hA.later hbN
  replace tA := tA.later hbN
  replace hB := hB.later hbN
  replace tB := tB.later hbN
  replace hC := hC.later hbN
  replace tC := tC.later hbN
  replace hD := hD.later hbN
  replace tD := tD.later hbN
  replace hS := hS.later hbN
  replace tS := tS.later hbN
  replace hT := hT.later hbN
  replace tT := tT.later hbN
  replace hX := hX.later hbN
  replace tX := tX.later hbN
  replace hY := hY.later hbN
  replace tY := tY.later hbN
  replace HB := HB.trans (hbN.mono HB.size)
  clear hbN
  obtain ⟨eA0, eA1, eA2⟩ := tA.cells
  obtain ⟨eC0, eC1, eC2⟩ := tC.cells
  go_wp2_with fail
  refine (rCmp_ok hA hC zA zC (by omega) hJ).mono ?_
  rintro e v14 ⟨rfl, hbN⟩
  clear eA0 eA1 eA2
  clear eC0 eC1 eC2
  replace hA := hA.later hbN
  replace tA := tA.later hbN
  replace hB := hB.later hbN
  replace tB := tB.later hbN
  replace hC := hC.later hbN
  replace tC := tC.later hbN
  replace hD := hD.later hbN
  replace tD := tD.later hbN
  replace hS := hS.later hbN
  replace tS := tS.later hbN
  replace hT := hT.later hbN
  replace tT := tT.later hbN
  replace hX := hX.later hbN
  replace tX := tX.later hbN
  replace hY := hY.later hbN
  replace tY := tY.later hbN
  replace HB := HB.trans (hbN.mono HB.size)
  clear hbN
  by_cases g1 : 0 < K
  · go_wp2
    go_ret
    exact ⟨rfl, HB⟩
  · by_cases g2 : 0 < I
    · go_wp2
      go_ret
      exact ⟨rfl, HB⟩
    · have g3 := HT.out (by omega) (by omega)
      go_wp2
      go_ret
      exact ⟨rfl, HB⟩
end
end Go.Proofs.Ytopcdpeepchgfac
