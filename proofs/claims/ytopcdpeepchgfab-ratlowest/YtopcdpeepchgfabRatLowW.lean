/- RatLowest: the walk. -/
import Derived.Test.YtopcdpeepchgfabRatN
import Derived.Test.YtopcdpeepchgfabRatFloW
namespace Go.Proofs.Ytopcdpeepchgfab
open Go.ChangeShapes Go.WideShapes Go.ChangeAt Go.RowKit
open Na Ar
set_option linter.unusedVariables false
theorem cross {s : Bool} {A D : Int} (hA : 0 ≤ A) (hD : 0 < D) : A * ((mkR s A D).den : Int) = ((mkR s A D).num.natAbs : Int) * D := by
  rw [rat_den hA hD, rat_abs hA hD]
  have d1 : (Int.gcd A D : Int) ∣ A := Int.gcd_dvd_left ..
  have d2 : (Int.gcd A D : Int) ∣ D := Int.gcd_dvd_right ..
  rw [← Int.mul_ediv_assoc _ d2, Int.mul_comm (A / _) D, ← Int.mul_ediv_assoc _ d1, Int.mul_comm A D]
theorem mkR_times {s : Bool} {A D v : Int} (hD : 0 < D) (hv : 0 < v) : mkR s (A * v) (D * v) = mkR s A D := by
  unfold mkR
  have e1 : sg s (A * v) = sg s A * (v.toNat : Int) := by
    rw [Int.toNat_of_nonneg (Int.le_of_lt hv)]
    cases s <;> simp [sg, Int.neg_mul]
  have e2 : (D * v).toNat = D.toNat * v.toNat := by
    rw [Int.toNat_mul (Int.le_of_lt hD) (Int.le_of_lt hv)]
  rw [e1, e2]
  exact Rat.mkRat_mul_right (by omega)
theorem mkR_int (v : Int) : mkR (decide (v < 0)) (v.natAbs : Int) 1 = ((v : Int) : Rat) := by
  unfold mkR
  have e : sg (decide (v < 0)) (v.natAbs : Int) = v := by
    by_cases h : v < 0 <;> simp [sg, h] <;> omega
  rw [e]
  apply Rat.ext
  · rw [Rat.num_mkRat, Rat.num_intCast]; simp
  · rw [Rat.den_mkRat, Rat.den_intCast]; simp
theorem nm_pad {x : Int} (h : 0 ≤ x ∧ x < 18446744073709551616) : Nm [x, 0] x := by
  have := Nm.two (x := x) (y := 0) h (by omega)
  simpa using this
section
variable {w : World} {s1 : Bool} {a1 b1 : Option Addr} {n1 c1 m1 d1 : Nat} {x1 y1 : List Int} {u v : Int}
set_option maxHeartbeats 102400000 in
set_option maxRecDepth 100000 in
theorem lowest_walk (ha1 : RowAt .u64 w a1 n1 x1) (hb1 : RowAt .u64 w b1 m1 y1) (hx1 : Ws x1) (hy1 : Ws y1) (hn1 : n1 ≤ maxLen) (hm1 : m1 ≤ maxLen) (hu : 0 ≤ u ∧ u < 18446744073709551616) (hv : -9223372036854775808 ≤ v ∧ v ≤ 9223372036854775807) :
    Calls Try.prog 6 #[.agg #[.bool s1, .slice a1 n1 c1, .slice b1 m1 d1], .int .u64 u, .int .i64 v] w fun e w' => e = .returned (.bool true) ∧ Below w.heap.size w w' := by
  have hnot : ∀ (x : Bool) (w : World), (Op.unary .not (.bool x)).run Try.prog w = .ok (.bool (!x)) w := fun _ _ => rfl
  have HB := alloc_below (w := w) (.cells #[.bool s1, .slice a1 n1 c1, .slice b1 m1 d1] 45)
  have tP := st_new w (.bool s1) (.slice a1 n1 c1) (.slice b1 m1 d1) 45
  have f0 := whole_any (s1 := s1) (c1 := c1) (d1 := d1) (ha1.later HB) (hb1.later HB) hx1 hy1 hn1 hm1
  have rA := ha1.later HB
  have rB := hb1.later HB
  have lA := pNum_lt hx1
  have lD := pDen_lt hy1
  have pD := pDen_pos hy1
  clear ha1 hb1
  go_enter Try.func6, Try.ntmps6
  go_wp2_with fail
  refine f0.mono ?_
  rintro e v0 ⟨aN, nN, cN, lN, aD, nD, cD, ld, rfl, rN, nmN, kN, rD, nmD, kD, hbN⟩
  replace rA := rA.later hbN
  replace rB := rB.later hbN
  replace tP := tP.later hbN
  replace HB := HB.trans (hbN.mono HB.size)
  clear f0 hbN
  obtain ⟨eP0, eP1, eP2⟩ := tP.cells
  go_wp2_with fail
  refine (made_any (s1 := s1) (c1 := c1) (d1 := d1) rA rB hx1 hy1 hn1 hm1).mono ?_
  rintro e v1 ⟨sR, q1, q2, rfl, hRR, zR, hbN⟩
  clear rA rB hx1 hy1 hn1 hm1 eP0 eP1 eP2
  have HX := cross (s := s1) lA.1 pD
  have HNG := rat_neg (s := s1) lA.1 pD
  rw [← rat_abs (s := s1) lA.1 pD] at HNG
  have HTm : ∀ t, 0 < t → mkR s1 (pNum x1 * t) (pDen y1 * t) = mkR s1 (pNum x1) (pDen y1) := fun t ht => mkR_times pD ht
  generalize mkR s1 (pNum x1) (pDen y1) = p at *
  generalize pNum x1 = A at *
  generalize pDen y1 = D at *
  obtain ⟨aR, nR, cR, bR, mR, dR, rfl, rfl, hR⟩ := hRR.opens
  have hal := alloc_below (w := v1) (.cells #[.bool sR, .slice aR nR cR, .slice bR mR dR] 47)
  have tR := st_new v1 (.bool sR) (.slice aR nR cR) (.slice bR mR dR) 47
  replace rN := (rN.later hbN).later hal
  replace rD := (rD.later hbN).later hal
  replace tP := (tP.later hbN).later hal
  replace HB := HB.trans (hbN.mono HB.size)
  replace HB := HB.trans (hal.mono HB.size)
  replace hR := hR.later hal
  clear hbN hal hRR
  go_wp2_with fail
  refine (alive5_any _).mono ?_
  rintro e v2 ⟨rfl, hbN⟩
  replace hR := hR.later hbN
  replace tR := tR.later hbN
  replace rN := rN.later hbN
  replace rD := rD.later hbN
  replace tP := tP.later hbN
  replace HB := HB.trans (hbN.mono HB.size)
  clear hbN
  have lX : Lt (A * (p.den : Int)) (12 + 12) := lA.mul zR.2
  have lY : Lt ((p.num.natAbs : Int) * D) (12 + 12) := zR.1.mul lD
  obtain ⟨eR0, eR1, eR2⟩ := tR.cells
  go_wp2_with fail
  refine (mulQ rN hR.de nmN (nm_den zR (by omega)) lX (by omega)).mono ?_
  rintro e v3 ⟨aX, nX, cX, lX, rfl, rX, nmX, eX, hbN⟩
  clear eR0 eR1 eR2
  replace hR := hR.later hbN
  replace tR := tR.later hbN
  replace rN := rN.later hbN
  replace rD := rD.later hbN
  replace tP := tP.later hbN
  replace HB := HB.trans (hbN.mono HB.size)
  clear hbN
  obtain ⟨eR0, eR1, eR2⟩ := tR.cells
  go_wp2_with fail
  refine (mulQ hR.nu rD (nm_abs zR (by omega)) nmD lY (by omega)).mono ?_
  rintro e v4 ⟨aY, nY, cY, lY, rfl, rY, nmY, eY, hbN⟩
  clear eR0 eR1 eR2
  replace hR := hR.later hbN
  replace tR := tR.later hbN
  replace rN := rN.later hbN
  replace rD := rD.later hbN
  replace tP := tP.later hbN
  replace rX := rX.later hbN
  replace HB := HB.trans (hbN.mono HB.size)
  clear hbN
  obtain ⟨eR0, eR1, eR2⟩ := tR.cells
  have lR1 := hR.le zR
  have lR2 := hR.leD zR
  have gc := gcd_any hR.nu hR.de (Dg_words _) (Dg_words _) (by omega) (by omega)
  rw [num_words (by omega), num_words (by omega), coprime_of] at gc
  go_wp2_with fail
  refine gc.mono ?_
  rintro e v5 ⟨vG, rfl, oG, hbN⟩
  obtain ⟨aG, nG, cG, lG, rfl, rG, nmG, eG⟩ := oG.opens (k := 1) lt_one (by omega)
  clear gc oG
  clear eR0 eR1 eR2
  replace hR := hR.later hbN
  replace tR := tR.later hbN
  replace rN := rN.later hbN
  replace rD := rD.later hbN
  replace tP := tP.later hbN
  replace rX := rX.later hbN
  replace rY := rY.later hbN
  replace HB := HB.trans (hbN.mono HB.size)
  clear hbN
  have eG1 : lG = [1] := eG.out.trans (words_word (by omega) (by omega))
  rw [eG1] at rG
  obtain ⟨g, hg⟩ : ∃ g, g = w.heap.size := ⟨_, rfl⟩
  obtain ⟨r, hr⟩ : ∃ r, r = v1.heap.size := ⟨_, rfl⟩
  have Hg : Hid (g = w.heap.size) := hg
  have Hr : Hid (r = v1.heap.size) := hr
  go_upto_region 8 with (fail)
  rw [← hg] at tP ⊢
  rw [← hr] at tR ⊢
  clear hg hr
  have sm1 := sameQ rX rY nmX nmY eX eY HX
  go_cut [98] (fun cv wx => cv = .bool false ∧ Below v5.heap.size v5 wx)
  case first =>
    go_wp2_with fail
    refine sm1.mono ?_
    rintro e vA ⟨rfl, hbA⟩
    have hal := alloc_below (w := vA) (.cells #[.int .u64 1] 31)
    have ro := rowC_one vA 1 31
    have sm2 := sameN ((rG.later hbA).later hal) ro (by simp) (by simp) rfl
    go_wp2_with fail
    refine sm2.mono ?_
    rintro e vB ⟨rfl, hbB⟩
    have hBB : Below v5.heap.size v5 vB := (hbA.trans (hal.mono hbA.size)).trans (hbB.mono (Nat.le_trans hbA.size hal.size))
    obtain ⟨eR0, eR1, eR2⟩ := (tR.later hBB).cells
    obtain ⟨eP0, eP1, eP2⟩ := (tP.later hBB).cells
    have hsg := hR.sgn
    have hnR := hR.len
    have zn := words_nil (N := (p.num.natAbs : Int)) (by omega)
    rw [HNG] at hsg
    rw [← hnR] at zn
    clear sm1 sm2 hbA hal ro hbB hnR HNG
    by_cases h0 : nR = 0
    · have e0 : ((nR : Int) == 0) = true := beq_of (by omega)
      have e1 : ¬ 0 < (nR : Int) := by omega
      have e2 : decide (0 < nR) = false := decide_eq_false (by omega)
      have hs0 : sR = false := by rw [hsg, decide_eq_false (by have := zn.mp h0; omega)]; simp
      subst hs0
      clear hsg zn h0
      cases s1
      · go_wp2
        go_meet
        exact ⟨by first | rfl | rw [e2] | (rw [e2]; rfl) | simp [e2], hBB⟩
      · go_wp2
        go_meet
        exact ⟨by first | rfl | rw [e2] | (rw [e2]; rfl) | simp [e2], hBB⟩
    · have e0 : ((nR : Int) == 0) = false := beq_no (by omega)
      have e1 : 0 < (nR : Int) := by omega
      have e2 : decide (0 < nR) = true := decide_eq_true (by omega)
      have hne : (p.num.natAbs : Int) ≠ 0 := fun h => h0 (zn.mpr h)
      have hs0 : sR = s1 := by rw [hsg, decide_eq_true hne]; simp
      clear hne
      subst hs0
      clear hsg zn h0
      cases sR
      · go_wp2
        go_meet
        exact ⟨by first | rfl | rw [e2] | (rw [e2]; rfl) | simp [e2], hBB⟩
      · go_wp2
        go_meet
        exact ⟨by first | rfl | rw [e2] | (rw [e2]; rfl) | simp [e2], hBB⟩
  obtain ⟨rfl, hbN⟩ := hcut
  obtain ⟨cw1, hy⟩ : ∃ z, z = wc := ⟨_, rfl⟩
  subst hy
  clear rX rY rG sm1 HX nmX nmY eX eY HNG eG eG1 nmG lX lY
  rw [Hg.out] at tP ⊢
  rw [Hr.out] at tR ⊢
  replace hR := hR.later hbN
  replace tR := tR.later hbN
  replace rN := rN.later hbN
  replace rD := rD.later hbN
  replace tP := tP.later hbN
  replace HB := HB.trans (hbN.mono HB.size)
  clear hbN Hg Hr
  go_upto_if 100 with (fail)
  go_cut [1] (fun wv wx => ∃ t : Int, wv = .int .u64 t ∧ (1 ≤ t ∧ t < 18446744073709551616) ∧ wx = cw1)
  case first =>
    by_cases hu0 : u = 0
    · have e0 : (u == 0) = true := beq_of hu0
      clear hu0
      go_wp2
      go_meet
      exact ⟨1, rfl, by omega, rfl⟩
    · have e0 : (u == 0) = false := beq_no hu0
      go_wp2
      go_meet
      exact ⟨u, rfl, by omega, rfl⟩
  obtain ⟨t, rfl, ht, rfl⟩ := hcut
  obtain ⟨cw2, hy⟩ : ∃ z, z = wc := ⟨_, rfl⟩
  subst hy
  have ht0 : 0 ≤ t ∧ t < 18446744073709551616 := by omega
  have LtU : Lt (A * t) (12 + 1) := lA.mul (Lt.word ht0)
  have LtV : Lt (D * t) (12 + 1) := lD.mul (Lt.word ht0)
  have hal := alloc_below (w := cw2) (.cells #[.int .u64 t] 31)
  have ro := rowC_one cw2 t 31
  go_wp2_with fail
  refine (mulQ (rN.later hal) ro nmN (Nm.one ht0) LtU (by omega)).mono ?_
  rintro e v6 ⟨aU, nU, cU, lU, rfl, rU, nmU, eU, hbM⟩
  have hbN := hal.trans (hbM.mono hal.size)
  clear ro
  replace hR := hR.later hbN
  replace tR := tR.later hbN
  replace rN := rN.later hbN
  replace rD := rD.later hbN
  replace tP := tP.later hbN
  replace HB := HB.trans (hbN.mono HB.size)
  clear hbN hal hbM
  have hal := alloc_below (w := v6) (.cells #[.int .u64 t, .int .u64 0] 31)
  have ro := rowC_two v6 t 0 31
  go_wp2_with fail
  refine (mulQ (rD.later hal) ro nmD (nm_pad ht0) LtV (by omega)).mono ?_
  rintro e v7 ⟨aV, nV, cV, lV, rfl, rV, nmV, eV, hbM⟩
  have hbN := hal.trans (hbM.mono hal.size)
  clear ro
  replace hR := hR.later hbN
  replace tR := tR.later hbN
  replace rN := rN.later hbN
  replace rD := rD.later hbN
  replace tP := tP.later hbN
  replace rU := rU.later hbN
  replace HB := HB.trans (hbN.mono HB.size)
  clear hbN hal hbM
  obtain ⟨eP0, eP1, eP2⟩ := tP.cells
  have kU : nU ≤ 13 := by rw [← rU.1.1, eU.out]; exact LtU.len
  have kV : nV ≤ 13 := by rw [← rV.1.1, eV.out]; exact LtV.len
  have hDt : 0 < D * t := Int.mul_pos pD (by omega)
  go_wp2_with fail
  refine (rNew_ok rU rV nmU nmV hDt (LtU.mono (by omega)) (LtV.mono (by omega)) (by omega) (by omega)).mono ?_
  rintro e v8 ⟨sS, q1, q2, rfl, hRS, hbN⟩
  rw [HTm t (by omega)] at hRS
  have zS := zR
  clear eP0 eP1 eP2 nmU nmV eU eV kU kV hDt LtU LtV HTm rU rV rN rD tP nmN nmD
  obtain ⟨aS, nS, cS, bS, mS, dS, rfl, rfl, hS⟩ := hRS.opens
  have hal := alloc_below (w := v8) (.cells #[.bool sS, .slice aS nS cS, .slice bS mS dS] 47)
  have tS := st_new v8 (.bool sS) (.slice aS nS cS) (.slice bS mS dS) 47
  replace hR := (hR.later hbN).later hal
  replace tR := (tR.later hbN).later hal
  replace HB := HB.trans (hbN.mono HB.size)
  replace HB := HB.trans (hal.mono HB.size)
  replace hS := hS.later hal
  clear hbN hal hRS
  obtain ⟨zz, hz⟩ : ∃ z, z = v8.alloc (.cells #[.bool sS, .slice aS nS cS, .slice bS mS dS] 47) := ⟨_, rfl⟩
  go_upto_if 126 with (fail)
  rw [← hz] at hR tR hS tS HB ⊢
  clear hz
  go_cut [20] (fun uv wx => uv = .int .u64 (v.natAbs : Int) ∧ wx = zz)
  case first =>
    by_cases hv0 : v < 0
    · have e1 : IntKind.u64.wrap (-IntKind.u64.wrap v) = (v.natAbs : Int) := by rw [wrapU, wrapU]; omega
      go_wp2
      go_meet
      exact ⟨by first | rfl | rw [e1], rfl⟩
    · have e1 : IntKind.u64.wrap v = (v.natAbs : Int) := by rw [wrapU]; omega
      go_wp2
      go_meet
      exact ⟨by first | rfl | rw [e1], rfl⟩
  obtain ⟨rfl, rfl⟩ := hcut
  obtain ⟨cw3, hy⟩ : ∃ z, z = wc := ⟨_, rfl⟩
  subst hy
  have hva : 0 ≤ (v.natAbs : Int) ∧ (v.natAbs : Int) < 18446744073709551616 := by omega
  have hal1 := alloc_below (w := cw3) (.cells #[.int .u64 (v.natAbs : Int), .int .u64 0] 31)
  have ro1 := rowC_two cw3 (v.natAbs : Int) 0 31
  have hal2 := alloc_below (w := cw3.alloc (.cells #[.int .u64 (v.natAbs : Int), .int .u64 0] 31)) (.cells #[.int .u64 1] 31)
  have ro2 := rowC_one (cw3.alloc (.cells #[.int .u64 (v.natAbs : Int), .int .u64 0] 31)) 1 31
  rw [show (cw3.alloc (.cells #[.int .u64 (v.natAbs : Int), .int .u64 0] 31)).heap.size = cw3.heap.size + 1 by simp] at ro2
  go_wp2_with fail
  refine (rNew_ok (neg := decide (v < 0)) (ro1.later hal2) ro2 (nm_pad hva) (Nm.one (x := 1) (by omega)) (by omega) ((Lt.word hva).mono (by omega)) (lt_one.mono (by omega)) (by omega) (by omega)).mono ?_
  rintro e v9 ⟨sI9, q1, q2, rfl, hRJ, hbM⟩
  rw [mkR_int] at hRJ
  have hbN := (hal1.trans (hal2.mono hal1.size)).trans (hbM.mono (Nat.le_trans hal1.size hal2.size))
  clear ro1 ro2 hal1 hal2 hbM
  have zJ : Sz ((v : Int) : Rat) 1 := sz_int (by omega)
  obtain ⟨sJ, hsJ⟩ : ∃ s, s = sI9 := ⟨_, rfl⟩
  rw [← hsJ] at hRJ ⊢
  clear hsJ
  obtain ⟨aJ, nJ, cJ, bJ, mJ, dJ, rfl, rfl, hJ⟩ := hRJ.opens
  have hal := alloc_below (w := v9) (.cells #[.bool sJ, .slice aJ nJ cJ, .slice bJ mJ dJ] 47)
  have tJ := st_new v9 (.bool sJ) (.slice aJ nJ cJ) (.slice bJ mJ dJ) 47
  replace hR := (hR.later hbN).later hal
  replace tR := (tR.later hbN).later hal
  replace hS := (hS.later hbN).later hal
  replace tS := (tS.later hbN).later hal
  replace HB := HB.trans (hbN.mono HB.size)
  replace HB := HB.trans (hal.mono HB.size)
  replace hJ := hJ.later hal
  clear hbN hal hRJ
  go_upto_region 19 with (fail)
  obtain ⟨z10, hz⟩ : ∃ z, z = v9.alloc (.cells #[.bool sJ, .slice aJ nJ cJ, .slice bJ mJ dJ] 47) := ⟨_, rfl⟩
  rw [← hz] at hR tR hS tS hJ tJ  HB ⊢
  clear hz
  obtain ⟨rS, hrS⟩ : ∃ r, r = v8.heap.size := ⟨_, rfl⟩
  rw [← hrS] at tS ⊢
  have HrS : Hid (rS = v8.heap.size) := hrS
  clear hrS
  obtain ⟨rR, hrR⟩ : ∃ r, r = v1.heap.size := ⟨_, rfl⟩
  rw [← hrR] at tR ⊢
  have HrR : Hid (rR = v1.heap.size) := hrR
  clear hrR
  obtain ⟨rJ, hrJ⟩ : ∃ r, r = v9.heap.size := ⟨_, rfl⟩
  rw [← hrJ] at tJ ⊢
  have HrJ : Hid (rJ = v9.heap.size) := hrJ
  clear hrJ
  have hcl : ∀ w1, Below z10.heap.size z10 w1 → w1.cell? ⟨rS, 0, none⟩ = some (.bool sS) ∧ w1.cell? ⟨rS, 1, none⟩ = some (.slice aS nS cS) ∧ w1.cell? ⟨rS, 2, none⟩ = some (.slice bS mS dS) ∧ w1.cell? ⟨rR, 0, none⟩ = some (.bool sR) ∧ w1.cell? ⟨rR, 1, none⟩ = some (.slice aR nR cR) ∧ w1.cell? ⟨rR, 2, none⟩ = some (.slice bR mR dR) ∧ w1.cell? ⟨rJ, 0, none⟩ = some (.bool sJ) ∧ w1.cell? ⟨rJ, 1, none⟩ = some (.slice aJ nJ cJ) ∧ w1.cell? ⟨rJ, 2, none⟩ = some (.slice bJ mJ dJ) := fun w1 h => by
    obtain ⟨kS0, kS1, kS2⟩ := (tS.later h).cells
    obtain ⟨kR0, kR1, kR2⟩ := (tR.later h).cells
    obtain ⟨kJ0, kJ1, kJ2⟩ := (tJ.later h).cells
    exact ⟨kS0, kS1, kS2, kR0, kR1, kR2, kJ0, kJ1, kJ2⟩
  obtain ⟨xS0, xS1, xS2, xR0, xR1, xR2, xJ0, xJ1, xJ2⟩ := hcl z10 (Below.refl _ _)
  have o0 := fun w1 (h : Below z10.heap.size z10 w1) => one_any (hS.later h) (hR.later h) zS zR (by omega) (by omega) (decide_eq_true rfl)
  have i1 := fun w1 h => int_at (v := v) (w0 := z10) (w1 := w1) h (by omega) (by omega)
  have zI1 := sz_int (v := v) (by omega)
  go_region_held3 (fun w' => w'.cell? ⟨rS, 0, none⟩ = some (.bool sS) ∧ w'.cell? ⟨rS, 1, none⟩ = some (.slice aS nS cS) ∧ w'.cell? ⟨rS, 2, none⟩ = some (.slice bS mS dS) ∧ w'.cell? ⟨rR, 0, none⟩ = some (.bool sR) ∧ w'.cell? ⟨rR, 1, none⟩ = some (.slice aR nR cR) ∧ w'.cell? ⟨rR, 2, none⟩ = some (.slice bR mR dR) ∧ w'.cell? ⟨rJ, 0, none⟩ = some (.bool sJ) ∧ w'.cell? ⟨rJ, 1, none⟩ = some (.slice aJ nJ cJ) ∧ w'.cell? ⟨rJ, 2, none⟩ = some (.slice bJ mJ dJ)) (go_keep) (first | (go_at_call_of 35 aS; refine (o0 _ (by first | exact Below.refl _ _ | exact below_drewN (Below.refl _ _) _)).mono ?_; rintro e y0 ⟨rfl, hb0⟩; have hB0 : Below z10.heap.size z10 y0 := (by first | exact hb0 | exact (below_drewN (Below.refl _ _) 1).trans hb0); obtain ⟨xS0, xS1, xS2, xR0, xR1, xR2, xJ0, xJ1, xJ2⟩ := hcl y0 hB0) | (go_at_call 36; refine (i1 _ (by first | exact hB0 | exact below_drewN hB0 _)).mono ?_; rintro e yI1 ⟨sI, aI, nI, cI, bI, mI, dI, rfl, hI, hBI1, hbI1⟩; obtain ⟨xS0, xS1, xS2, xR0, xR1, xR2, xJ0, xJ1, xJ2⟩ := hcl yI1 hBI1) | (go_at_call_of 35 aJ; refine (one_any (hJ.later hBI1) hI zJ zI1 (by omega) (by omega) (decide_eq_true rfl)).mono ?_; rintro e y1 ⟨rfl, hb1⟩; have hB1 := hBI1.trans (hb1.mono hBI1.size); obtain ⟨xS0, xS1, xS2, xR0, xR1, xR2, xJ0, xJ1, xJ2⟩ := hcl y1 hB1))
  have hbN := hB1
  rw [HrS.out] at tS ⊢
  rw [HrR.out] at tR ⊢
  rw [HrJ.out] at tJ ⊢
  clear hcl HrS xS0 xS1 xS2 HrR xR0 xR1 xR2 HrJ xJ0 xJ1 xJ2
  replace HB := HB.trans (hbN.mono HB.size)
  go_wp2
  go_ret
  exact ⟨rfl, HB⟩
end
end Go.Proofs.Ytopcdpeepchgfab
