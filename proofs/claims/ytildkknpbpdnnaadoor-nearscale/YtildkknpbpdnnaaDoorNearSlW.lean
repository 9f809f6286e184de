/- NearScale. -/
import Derived.Test.YtildkknpbpdnnaaDoorNearG
namespace Go.Proofs.YtildkknpbpdnnaaDoor
open Go.ChangeShapes Go.WideShapes Go.ChangeAt Go.RowKit
open Na Ar
set_option linter.unusedVariables false
theorem scale_both {N D k mode b e : Int} {neg : Bool} (hk : 0 < k) : RoundIs (scA (N * k) 0) (scB (D * k) 0) false neg mode b e ↔ RoundIs (scA N 0) (scB D 0) false neg mode b e := by
  have e1 : scA (N * k) 0 = scA N 0 * k := by unfold scA; rw [Int.mul_assoc, Int.mul_comm k, ← Int.mul_assoc]
  have e2 : scB (D * k) 0 = scB D 0 * k := by unfold scB; rw [Int.mul_assoc, Int.mul_comm k, ← Int.mul_assoc]
  rw [e1, e2, round_scale hk]
theorem scale_up {N mode b e : Int} {neg : Bool} {t : Nat} : RoundIs (scA N (t : Int)) (scB 1 (t : Int)) false neg mode b e ↔ RoundIs (scA (N * 2 ^ t) 0) (scB 1 0) false neg mode b e := by
  refine round_cross (scB_pos (by omega)) (scB_pos (by omega)) ?_
  unfold scA scB
  rw [e2_zero (k := -(0 + 1074)) (by omega), e2_zero (k := -((t : Int) + 1074)) (by omega), e2_add (by omega) (by omega), e2_nat, show (0 + 1074 : Int) = 1074 by omega]
  simp only [Int.mul_one, Int.mul_assoc]
theorem scale_down {N mode b e : Int} {neg : Bool} {t : Nat} : RoundIs (scA N (-(t : Int))) (scB 1 (-(t : Int))) false neg mode b e ↔ RoundIs (scA N 0) (scB (1 * 2 ^ t) 0) false neg mode b e := by
  have pt := p2pos t
  refine round_cross (scB_pos (by omega)) (scB_pos (by omega)) ?_
  unfold scA scB
  rw [e2_zero (k := -(0 + 1074)) (by omega), show (0 + 1074 : Int) = 1074 by omega, Int.one_mul, Int.mul_one]
  have key : e2 (-(t : Int) + 1074) * 2 ^ t = e2 1074 * e2 (-(-(t : Int) + 1074)) := by
    rw [← e2_nat t]
    by_cases h : 0 ≤ -(t : Int) + 1074
    · rw [e2_zero (k := -(-(t : Int) + 1074)) (by omega), Int.mul_one, ← e2_add h (by omega)]; congr 1; omega
    · rw [e2_zero (k := -(t : Int) + 1074) (by omega), Int.one_mul, ← e2_add (by omega) (by omega)]; congr 1; omega
  rw [Int.mul_assoc, Int.one_mul, key, Int.mul_assoc]
set_option maxHeartbeats 6400000 in
set_option maxRecDepth 100000 in
theorem scale_walk {w : World} {s : Bool} {a b : Option Addr} {n m c d : Nat} {xs ys : List Int} {k x : Int} (ha : RowC w a n c xs) (hb : RowC w b m d ys) (hx : Ws xs) (hy : Ws ys) (hk : 0 ≤ k ∧ k < 18446744073709551616) (G : -9223372036854775808 ≤ x ∧ x ≤ 9223372036854775807) (hG : GrVar w) :
    Calls Tryd.prog 5 #[.agg #[.bool s, .slice a n c, .slice b m d], .int .u64 k, .int .i64 x] w fun e w' => e = .returned (.bool true) ∧ Below w.heap.size w w' := by
  have t0 := st_new w (.bool s) (.slice a n c) (.slice b m d) 43
  have hb0 := alloc_below (w := w) (.cells #[.bool s, .slice a n c, .slice b m d] 43)
  obtain ⟨w0, hw0⟩ : ∃ w0, w0 = w.alloc (.cells #[.bool s, .slice a n c, .slice b m d] 43) := ⟨_, rfl⟩
  rw [← hw0] at t0 hb0
  have f0 := exact7_any (s := s) (ha.later hb0) (hb.later hb0) hx hy
  have G0 := hG.later hb0
  have hG0 := hG.lt
  obtain ⟨lD, pD⟩ := eDen_lt hy
  have lN := eNum_lt hx
  clear ha hb hx hy hG
  generalize eNum xs = N at *
  generalize eDen ys = D at *
  obtain ⟨g, hg⟩ : ∃ g, g = w.heap.size := ⟨_, rfl⟩
  have HG : Hid (w.heap.size = g) := hg.symm
  rw [← hg] at t0
  have HB0 : Below w.heap.size w w0 := hb0
  obtain ⟨p0, p1, p2⟩ := t0.cells
  go_enter Tryd.func5, Tryd.ntmps5
  go_wp2_with fail
  rw [← hw0, ← hg]
  refine f0.mono ?_
  rintro e w1 ⟨a1, n1, c1, l1, b1, m1, d1, l2, s9, u1, u2, rfl, r1, nm1, hn1, r2, nm2, hm1, hR, ⟨of1, of2⟩, hb1⟩
  obtain ⟨a9, n9, c9, b9, m9, d9, rfl, rfl, hRt⟩ := hR.opens
  have t1 := t0.later hb1
  have sg := t1.lt
  obtain ⟨y0, y1, y2⟩ := t1.cells
  obtain ⟨v0, v1, v2⟩ := t1.frozen
  obtain ⟨x0, x1, x2⟩ := (t1.later (alloc_below (w := w1) (.cells #[.bool false, .slice none 0 0, .slice none 0 0] 44))).cells
  obtain ⟨z0, z1, z2⟩ := (t1.later (alloc_below (w := w1) (.cells #[.bool false, .slice none 0 0, .slice none 0 0] 44))).frozen
  have ng1 : ¬ g = w1.heap.size := by omega
  have ng2 : ¬ w1.heap.size = g := by omega
  have hgw : g < w0.heap.size := by rw [hw0]; simp [hg]
  have o1 := of1 g hgw
  have o2 := of2 g hgw
  clear of1 of2 hgw
  have iP := in3 w1 g (.bool s) (.slice a1 n1 c1) (.slice b1 m1 d1)
  have tP := t1.set (.bool s) (.slice a1 n1 c1) (.slice b1 m1 d1)
  obtain ⟨wP, hwP⟩ : ∃ wP, wP = ((w1.setCell ⟨g, 0, none⟩ (.bool s)).setCell ⟨g, 1, none⟩ (.slice a1 n1 c1)).setCell ⟨g, 2, none⟩ (.slice b1 m1 d1) := ⟨_, rfl⟩
  rw [← hwP] at iP tP
  have r1P := r1.inn iP o1
  have r2P := r2.inn iP o2
  have G1 := G0.later hb1
  have hne : ¬ 0 = g := by rw [hg]; omega
  have HB1 := HB0.trans (hb1.mono HB0.size)
  have HBP : Below w.heap.size w wP := below_inn HB1 iP (by rw [HG.out]; exact Nat.le_refl _) (Nat.le_refl _)
  have GP : GrVar wP := G1.inn iP hne
  have hal := alloc_below (w := wP) (.cells #[.bool s9, .slice a9 n9 c9, .slice b9 m9 d9] 44)
  have HWP : Hid (wP = ((w1.setCell ⟨g, 0, none⟩ (.bool s)).setCell ⟨g, 1, none⟩ (.slice a1 n1 c1)).setCell ⟨g, 2, none⟩ (.slice b1 m1 d1)) := hwP
  clear hwP
  have tQ := tP.later hal
  have r1Q := r1P.later hal
  have r2Q := r2P.later hal
  have GQ := GP.later hal
  have HBQ := HBP.trans (hal.mono HBP.size)
  have hfx := fixed_any GQ
  clear f0 hw0 hg p0 p1 p2 t0 hRt hR iP tP r1P r2P G1 HB1 HBP GP hal r1 r2
  go_wp2_with fail
  rw [← HWP.out]
  clear HWP x0 x1 x2 z0 z1 z2 y0 y1 y2 v0 v1 v2 ng1 ng2 t1 sg
  generalize wP.alloc (.cells #[.bool s9, .slice a9 n9 c9, .slice b9 m9 d9] 44) = wQ at *
  refine hfx.mono ?_
  rintro e w2 ⟨rfl, hb2⟩
  have t2 := tQ.later hb2
  have r1 := r1Q.later hb2
  have r2 := r2Q.later hb2
  have G2 := GQ.later hb2
  have HB2 := HBQ.trans (hb2.mono HBQ.size)
  clear hfx tQ r1Q r2Q GQ HBQ hb2
  obtain ⟨p0, p1, p2⟩ := t2.cells
  obtain ⟨K, hK⟩ : ∃ K, K = if k = 0 then 7 else k := ⟨_, rfl⟩
  have hKp : 0 < K ∧ K < 18446744073709551616 := by rw [hK]; split <;> omega
  obtain ⟨X, hX⟩ : ∃ X, X = x.tmod 1201 := ⟨_, rfl⟩
  have hXb : -1200 ≤ X ∧ X ≤ 1200 := by
    rw [hX]
    have := Int.lt_tmod_of_pos x (show (0 : Int) < 1201 by omega)
    have := Int.tmod_lt_of_pos x (show (0 : Int) < 1201 by omega)
    omega
  have rX : x.tmod 1201 = X := hX.symm
  clear hX
  obtain ⟨X0, X1⟩ := hXb
  by_cases hk0 : k = 0
  · by_cases hXs : 0 ≤ X
    · have hKe : K = 7 := by rw [hK]; rw [if_pos hk0]
      have tk : (k == 0) = true := by simp [hk0]
      rw [hKe] at hKp
      clear hK hKe hk0
      have hal2 := alloc_below (w := w2) (.cells #[.int .u64 7] 26)
      have one2 := rowC_one w2 7 26
      have lT : Lt (N * 7) 61 := (lN.mul (Lt.word (x := 7) ⟨by omega, by omega⟩)).mono (by omega)
      have lL : Lt (D * 7) 61 := (lD.mul (Lt.word (x := 7) ⟨by omega, by omega⟩)).mono (by omega)
      have hM1 := mulQ (r1.later hal2) one2 nm1 (Nm.one ⟨by omega, by omega⟩) lT (by omega)
      have pL : 0 < D * 7 := Int.mul_pos pD (by omega)
      have HS1 : Hid (∀ mode b e, RoundIs (scA (N * 7) 0) (scB (D * 7) 0) false s mode b e ↔ RoundIs (scA N 0) (scB D 0) false s mode b e) := fun mode b e => scale_both (by omega)
      obtain ⟨NT, hNT⟩ : ∃ NT, NT = N * 7 := ⟨_, rfl⟩
      rw [← hNT] at hM1 lT HS1
      clear hNT
      obtain ⟨DL, hDL⟩ : ∃ DL, DL = D * 7 := ⟨_, rfl⟩
      rw [← hDL] at lL HS1 pL
      have HDL : Hid (DL = D * 7) := hDL
      clear hDL
      go_wp2_with fail
      refine hM1.mono ?_
      rintro e w3 ⟨ta, tn, tc, tl, rfl, rT, nmT, ET, hb3⟩
      have b23 := hal2.trans (hb3.mono hal2.size)
      have t3 := t2.later b23
      have N3 := r1.later b23
      have D3 := r2.later b23
      have G3 := G2.later b23
      have HB3 := HB2.trans (b23.mono HB2.size)
      have htn := lT.len
      rw [← ET.out, rT.1.1] at htn
      clear hM1 hal2 one2 b23 hb3 p0 p1 p2 t2 r1 r2 G2 HB2 ET
      obtain ⟨p0, p1, p2⟩ := t3.cells
      have hal3 := alloc_below (w := w3) (.cells #[.int .u64 7] 26)
      have one3 := rowC_one w3 7 26
      have hM2 := mulQ (k := 61) (D3.later hal3) one3 nm2 (Nm.one ⟨by omega, by omega⟩) (by rw [← HDL.out]; exact lL) (by omega)
      rw [← HDL.out] at hM2
      clear HDL
      go_wp2_with fail
      refine hM2.mono ?_
      rintro e w4 ⟨la, ln, lc, ll, rfl, rL, nmL, EL, hb4⟩
      have b34 := hal3.trans (hb4.mono hal3.size)
      obtain ⟨o0', o1', o2'⟩ := (t3.later b34).cells
      have hal4 := alloc_below (w := w4) (.cells #[.int .u64 1] 26)
      have one4 := rowC_one w4 1 26
      have b35 := b34.trans (hal4.mono b34.size)
      have t5 := t3.later b35
      have N5 := N3.later b35
      have D5 := D3.later b35
      have T5 := rT.later b35
      have L5 := rL.later hal4
      have G5 := G3.later b35
      have HB5 := HB3.trans (b35.mono HB3.size)
      have hln := lL.len
      rw [← EL.out, rL.1.1] at hln
      clear hM2 hal3 one3 b34 b35 hb4 p0 p1 p2 t3 N3 D3 rT rL G3 HB3 EL hal4
      obtain ⟨tn', htt⟩ : ∃ tn' : Nat, X = (tn' : Int) := ⟨X.toNat, by omega⟩
      have HS2 : Hid (∀ mode b e, RoundIs (scA N X) (scB 1 X) false s mode b e ↔ RoundIs (scA (N * 2 ^ tn') 0) (scB 1 0) false s mode b e) := fun mode b e => by rw [htt]; exact scale_up
      have lH : Lt (N * 2 ^ tn') 80 := (lN.pow2 (t := tn')).mono (by omega)
      have hSh := shlQ (N5) nm1 tn' (by omega) lH (by omega)
      obtain ⟨NH, hNH⟩ : ∃ NH, NH = N * 2 ^ tn' := ⟨_, rfl⟩
      rw [← hNH] at hSh lH HS2
      clear hNH
      have HX : Hid (X = (tn' : Int)) := htt
      have hXn : ¬ X < 0 := by omega
      have hX0 : 0 ≤ X := by omega
      rw [← htt] at hSh
      clear htt
      generalize hw5 : w4.alloc (.cells #[.int .u64 1] 26) = w5 at hSh t5 N5 D5 T5 L5 G5 HB5 one4
      obtain ⟨p0, p1, p2⟩ := t5.cells
      go_wp2_with fail
      clear hw5 o0' o1' o2'
      refine hSh.mono ?_
      rintro e w7 ⟨ha', hn', hc', hl', rfl, H7, nmH, EH, hb7⟩
      have P7 := one4.later hb7
      have nmP : Nm [1] 1 := Nm.one (by omega)
      have pP : (0 : Int) < 1 := by omega
      have hhn := lH.len
      rw [← EH.out, H7.1.1] at hhn
      clear hSh EH one4
      have t7 := t5.later hb7
      have N7 := N5.later hb7
      have D7 := D5.later hb7
      have T7 := T5.later hb7
      have L7 := L5.later hb7
      have G7 := G5.later hb7
      have HB7 := HB5.trans (hb7.mono HB5.size)
      clear p0 p1 p2 t5 N5 D5 T5 L5 G5 HB5 hb7
      obtain ⟨p0, p1, p2⟩ := t7.cells
      go_wp2_with fail
      refine (num7_same 0 w7).mono ?_
      rintro e wz ⟨rfl, rfl⟩
      go_wp2_with fail
      refine (num7_same 0 w7).mono ?_
      rintro e wz ⟨rfl, rfl⟩
      go_wp2_with fail
      refine (num7_same 0 w7).mono ?_
      rintro e wz ⟨rfl, rfl⟩
      go_wp2
      go_loopw [16] (fun mv wr => ∃ j : Nat, mv = .int .i64 j ∧ j ≤ 5 ∧ Below w7.heap.size w7 wr) (fun mv _ => 5 - (intOf mv).toNat)
      case atStart => exact ⟨0, rfl, by omega, Below.refl _ _⟩
      case round =>
        obtain ⟨j, rfl, hj, hnx⟩ := hrel
        clear p0 p1 p2
        have q1 := t7.later hnx
        have qN := N7.later hnx
        have qD := D7.later hnx
        have qT := T7.later hnx
        have qL := L7.later hnx
        have qH := H7.later hnx
        have qP := P7.later hnx
        have qG := G7.later hnx
        have HB8 := HB7.trans (hnx.mono HB7.size)
        obtain ⟨p0, p1, p2⟩ := q1.cells
        by_cases hj4 : j ≤ 4
        · have hQ1 := quotient_any (mode := (j : Int)) (neg := s) qN qD nm1.ws nm2.ws (by omega) (by omega) (by omega) (by omega) (by rw [nm2.num]; exact pD) qG
          rw [nm1.num, nm2.num] at hQ1
          go_wp2_with fail
          refine hQ1.mono ?_
          rintro e wa ⟨v1, E1, rfl, A1, _, ba⟩
          have hQ2 := quotient_any (mode := (j : Int)) (neg := s) (qT.later ba) (qL.later ba) nmT.ws nmL.ws (by omega) (by omega) (by omega) (by omega) (by rw [nmL.num]; exact pL) (qG.later ba)
          rw [nmT.num, nmL.num] at hQ2
          clear p0 p1 p2 hQ1
          obtain ⟨p0, p1, p2⟩ := (q1.later ba).cells
          go_wp2_with fail
          refine hQ2.mono ?_
          rintro e wb ⟨v2, E2, rfl, A2, _, bb⟩
          obtain ⟨rfl, rfl⟩ := roundIs_uniq (scB_pos pD) A1 ((HS1.out (j : Int) v2 E2).mp A2)
          have bab := ba.trans (bb.mono ba.size)
          clear p0 p1 p2 hQ2 ba bb A1 A2
          obtain ⟨p0, p1, p2⟩ := (q1.later bab).cells
          go_wp2_with fail
          refine (num7_same E1 wb).mono ?_
          rintro e wz ⟨rfl, rfl⟩
          go_wp2_with fail
          refine (num7_same E1 wb).mono ?_
          rintro e wz ⟨rfl, rfl⟩
          have hS3 := scaled_go (x := X) (mode := (j : Int)) (neg := s) (more := false) (qN.later bab) nm1.ws (by omega) (by omega) (by omega) (by omega) (by omega) (qG.later bab)
          rw [nm1.num] at hS3
          go_wp2_with fail
          refine hS3.mono ?_
          rintro e wc ⟨v3, E3, rfl, A3, _, bc⟩
          have babc := bab.trans (bc.mono bab.size)
          have hQ4 := quotient_any (mode := (j : Int)) (neg := s) (qH.later babc) (qP.later babc) nmH.ws nmP.ws (by omega) (by omega) (by omega) (by omega) (by rw [nmP.num]; exact pP) (qG.later babc)
          rw [nmH.num, nmP.num] at hQ4
          clear p0 p1 p2 hS3
          obtain ⟨p0, p1, p2⟩ := (q1.later babc).cells
          go_wp2_with fail
          refine hQ4.mono ?_
          rintro e wd ⟨v4, E4, rfl, A4, _, bd⟩
          obtain ⟨rfl, rfl⟩ := roundIs_uniq (scB_pos (by omega)) A3 ((HS2.out (j : Int) v4 E4).mpr A4)
          have hb9 := (hnx.trans (babc.mono hnx.size)).trans (bd.mono (Nat.le_trans hnx.size babc.size))
          clear p0 p1 p2 hQ4 bc bd bab babc A3 A4 q1 qN qD qT qL qH qP qG HB8 hnx
          go_wp2_with fail
          refine (num7_same E3 wd).mono ?_
          rintro e wz ⟨rfl, rfl⟩
          go_wp2_with fail
          refine (num7_same E3 wd).mono ?_
          rintro e wz ⟨rfl, rfl⟩
          go_wp2
          go_roundw
          case rel => exact ⟨j + 1, by go_num, by omega, hb9⟩
          case measure => simp [intOf]; omega
        · clear q1 qN qD qT qL qH qP qG p0 p1 p2
          go_wp2
          go_ret
          exact ⟨rfl, HB8⟩
    · have hKe : K = 7 := by rw [hK]; rw [if_pos hk0]
      have tk : (k == 0) = true := by simp [hk0]
      rw [hKe] at hKp
      clear hK hKe hk0
      have hal2 := alloc_below (w := w2) (.cells #[.int .u64 7] 26)
      have one2 := rowC_one w2 7 26
      have lT : Lt (N * 7) 61 := (lN.mul (Lt.word (x := 7) ⟨by omega, by omega⟩)).mono (by omega)
      have lL : Lt (D * 7) 61 := (lD.mul (Lt.word (x := 7) ⟨by omega, by omega⟩)).mono (by omega)
      have hM1 := mulQ (r1.later hal2) one2 nm1 (Nm.one ⟨by omega, by omega⟩) lT (by omega)
      have pL : 0 < D * 7 := Int.mul_pos pD (by omega)
      have HS1 : Hid (∀ mode b e, RoundIs (scA (N * 7) 0) (scB (D * 7) 0) false s mode b e ↔ RoundIs (scA N 0) (scB D 0) false s mode b e) := fun mode b e => scale_both (by omega)
      obtain ⟨NT, hNT⟩ : ∃ NT, NT = N * 7 := ⟨_, rfl⟩
      rw [← hNT] at hM1 lT HS1
      clear hNT
      obtain ⟨DL, hDL⟩ : ∃ DL, DL = D * 7 := ⟨_, rfl⟩
      rw [← hDL] at lL HS1 pL
      have HDL : Hid (DL = D * 7) := hDL
      clear hDL
      go_wp2_with fail
      refine hM1.mono ?_
      rintro e w3 ⟨ta, tn, tc, tl, rfl, rT, nmT, ET, hb3⟩
      have b23 := hal2.trans (hb3.mono hal2.size)
      have t3 := t2.later b23
      have N3 := r1.later b23
      have D3 := r2.later b23
      have G3 := G2.later b23
      have HB3 := HB2.trans (b23.mono HB2.size)
      have htn := lT.len
      rw [← ET.out, rT.1.1] at htn
      clear hM1 hal2 one2 b23 hb3 p0 p1 p2 t2 r1 r2 G2 HB2 ET
      obtain ⟨p0, p1, p2⟩ := t3.cells
      have hal3 := alloc_below (w := w3) (.cells #[.int .u64 7] 26)
      have one3 := rowC_one w3 7 26
      have hM2 := mulQ (k := 61) (D3.later hal3) one3 nm2 (Nm.one ⟨by omega, by omega⟩) (by rw [← HDL.out]; exact lL) (by omega)
      rw [← HDL.out] at hM2
      clear HDL
      go_wp2_with fail
      refine hM2.mono ?_
      rintro e w4 ⟨la, ln, lc, ll, rfl, rL, nmL, EL, hb4⟩
      have b34 := hal3.trans (hb4.mono hal3.size)
      obtain ⟨o0', o1', o2'⟩ := (t3.later b34).cells
      have hal4 := alloc_below (w := w4) (.cells #[.int .u64 1] 26)
      have one4 := rowC_one w4 1 26
      have b35 := b34.trans (hal4.mono b34.size)
      have t5 := t3.later b35
      have N5 := N3.later b35
      have D5 := D3.later b35
      have T5 := rT.later b35
      have L5 := rL.later hal4
      have G5 := G3.later b35
      have HB5 := HB3.trans (b35.mono HB3.size)
      have hln := lL.len
      rw [← EL.out, rL.1.1] at hln
      clear hM2 hal3 one3 b34 b35 hb4 p0 p1 p2 t3 N3 D3 rT rL G3 HB3 EL hal4
      obtain ⟨tn', htt⟩ : ∃ tn' : Nat, X = -(tn' : Int) := ⟨(-X).toNat, by omega⟩
      have HS2 : Hid (∀ mode b e, RoundIs (scA N X) (scB 1 X) false s mode b e ↔ RoundIs (scA N 0) (scB (1 * 2 ^ tn') 0) false s mode b e) := fun mode b e => by rw [htt]; exact scale_down
      have lP : Lt (1 * 2 ^ tn') 80 := ((Lt.word (x := 1) (by omega)).pow2 (t := tn')).mono (by omega)
      have hSh := shlQ one4 (Nm.one (by omega)) tn' (by omega) lP (by omega)
      obtain ⟨DP, hDP⟩ : ∃ DP, DP = 1 * (2 : Int) ^ tn' := ⟨_, rfl⟩
      have pP : 0 < DP := by rw [hDP, Int.one_mul]; exact p2pos tn'
      rw [← hDP] at hSh lP HS2
      clear hDP
      have hXe : -X = (tn' : Int) := by omega
      have hXn : X < 0 := by omega
      have hX0 : ¬ 0 ≤ X := by omega
      clear htt
      generalize hw5 : w4.alloc (.cells #[.int .u64 1] 26) = w5 at hSh t5 N5 D5 T5 L5 G5 HB5
      obtain ⟨p0, p1, p2⟩ := t5.cells
      go_wp2_with fail
      clear hw5 o0' o1' o2'
      refine hSh.mono ?_
      rintro e w7 ⟨ha', hn', hc', hl', rfl, P7, nmP, EP, hb7⟩
      have H7 := N5.later hb7
      have nmH := nm1
      have hhn := lP.len
      rw [← EP.out, P7.1.1] at hhn
      clear hSh EP one4
      have t7 := t5.later hb7
      have N7 := N5.later hb7
      have D7 := D5.later hb7
      have T7 := T5.later hb7
      have L7 := L5.later hb7
      have G7 := G5.later hb7
      have HB7 := HB5.trans (hb7.mono HB5.size)
      clear p0 p1 p2 t5 N5 D5 T5 L5 G5 HB5 hb7
      obtain ⟨p0, p1, p2⟩ := t7.cells
      go_wp2_with fail
      refine (num7_same 0 w7).mono ?_
      rintro e wz ⟨rfl, rfl⟩
      go_wp2_with fail
      refine (num7_same 0 w7).mono ?_
      rintro e wz ⟨rfl, rfl⟩
      go_wp2_with fail
      refine (num7_same 0 w7).mono ?_
      rintro e wz ⟨rfl, rfl⟩
      go_wp2
      go_loopw [16] (fun mv wr => ∃ j : Nat, mv = .int .i64 j ∧ j ≤ 5 ∧ Below w7.heap.size w7 wr) (fun mv _ => 5 - (intOf mv).toNat)
      case atStart => exact ⟨0, rfl, by omega, Below.refl _ _⟩
      case round =>
        obtain ⟨j, rfl, hj, hnx⟩ := hrel
        clear p0 p1 p2
        have q1 := t7.later hnx
        have qN := N7.later hnx
        have qD := D7.later hnx
        have qT := T7.later hnx
        have qL := L7.later hnx
        have qH := H7.later hnx
        have qP := P7.later hnx
        have qG := G7.later hnx
        have HB8 := HB7.trans (hnx.mono HB7.size)
        obtain ⟨p0, p1, p2⟩ := q1.cells
        by_cases hj4 : j ≤ 4
        · have hQ1 := quotient_any (mode := (j : Int)) (neg := s) qN qD nm1.ws nm2.ws (by omega) (by omega) (by omega) (by omega) (by rw [nm2.num]; exact pD) qG
          rw [nm1.num, nm2.num] at hQ1
          go_wp2_with fail
          refine hQ1.mono ?_
          rintro e wa ⟨v1, E1, rfl, A1, _, ba⟩
          have hQ2 := quotient_any (mode := (j : Int)) (neg := s) (qT.later ba) (qL.later ba) nmT.ws nmL.ws (by omega) (by omega) (by omega) (by omega) (by rw [nmL.num]; exact pL) (qG.later ba)
          rw [nmT.num, nmL.num] at hQ2
          clear p0 p1 p2 hQ1
          obtain ⟨p0, p1, p2⟩ := (q1.later ba).cells
          go_wp2_with fail
          refine hQ2.mono ?_
          rintro e wb ⟨v2, E2, rfl, A2, _, bb⟩
          obtain ⟨rfl, rfl⟩ := roundIs_uniq (scB_pos pD) A1 ((HS1.out (j : Int) v2 E2).mp A2)
          have bab := ba.trans (bb.mono ba.size)
          clear p0 p1 p2 hQ2 ba bb A1 A2
          obtain ⟨p0, p1, p2⟩ := (q1.later bab).cells
          go_wp2_with fail
          refine (num7_same E1 wb).mono ?_
          rintro e wz ⟨rfl, rfl⟩
          go_wp2_with fail
          refine (num7_same E1 wb).mono ?_
          rintro e wz ⟨rfl, rfl⟩
          have hS3 := scaled_go (x := X) (mode := (j : Int)) (neg := s) (more := false) (qN.later bab) nm1.ws (by omega) (by omega) (by omega) (by omega) (by omega) (qG.later bab)
          rw [nm1.num] at hS3
          go_wp2_with fail
          refine hS3.mono ?_
          rintro e wc ⟨v3, E3, rfl, A3, _, bc⟩
          have babc := bab.trans (bc.mono bab.size)
          have hQ4 := quotient_any (mode := (j : Int)) (neg := s) (qH.later babc) (qP.later babc) nmH.ws nmP.ws (by omega) (by omega) (by omega) (by omega) (by rw [nmP.num]; exact pP) (qG.later babc)
          rw [nmH.num, nmP.num] at hQ4
          clear p0 p1 p2 hS3
          obtain ⟨p0, p1, p2⟩ := (q1.later babc).cells
          go_wp2_with fail
          refine hQ4.mono ?_
          rintro e wd ⟨v4, E4, rfl, A4, _, bd⟩
          obtain ⟨rfl, rfl⟩ := roundIs_uniq (scB_pos (by omega)) A3 ((HS2.out (j : Int) v4 E4).mpr A4)
          have hb9 := (hnx.trans (babc.mono hnx.size)).trans (bd.mono (Nat.le_trans hnx.size babc.size))
          clear p0 p1 p2 hQ4 bc bd bab babc A3 A4 q1 qN qD qT qL qH qP qG HB8 hnx
          go_wp2_with fail
          refine (num7_same E3 wd).mono ?_
          rintro e wz ⟨rfl, rfl⟩
          go_wp2_with fail
          refine (num7_same E3 wd).mono ?_
          rintro e wz ⟨rfl, rfl⟩
          go_wp2
          go_roundw
          case rel => exact ⟨j + 1, by go_num, by omega, hb9⟩
          case measure => simp [intOf]; omega
        · clear q1 qN qD qT qL qH qP qG p0 p1 p2
          go_wp2
          go_ret
          exact ⟨rfl, HB8⟩
  · by_cases hXs : 0 ≤ X
    · have hKe : K = k := by rw [hK]; rw [if_neg hk0]
      have tk : (k == 0) = false := by simp [hk0]
      rw [hKe] at hKp
      clear hK hKe hk0
      have hal2 := alloc_below (w := w2) (.cells #[.int .u64 k] 26)
      have one2 := rowC_one w2 k 26
      have lT : Lt (N * k) 61 := (lN.mul (Lt.word (x := k) ⟨by omega, by omega⟩)).mono (by omega)
      have lL : Lt (D * k) 61 := (lD.mul (Lt.word (x := k) ⟨by omega, by omega⟩)).mono (by omega)
      have hM1 := mulQ (r1.later hal2) one2 nm1 (Nm.one ⟨by omega, by omega⟩) lT (by omega)
      have pL : 0 < D * k := Int.mul_pos pD (by omega)
      have HS1 : Hid (∀ mode b e, RoundIs (scA (N * k) 0) (scB (D * k) 0) false s mode b e ↔ RoundIs (scA N 0) (scB D 0) false s mode b e) := fun mode b e => scale_both (by omega)
      obtain ⟨NT, hNT⟩ : ∃ NT, NT = N * k := ⟨_, rfl⟩
      rw [← hNT] at hM1 lT HS1
      clear hNT
      obtain ⟨DL, hDL⟩ : ∃ DL, DL = D * k := ⟨_, rfl⟩
      rw [← hDL] at lL HS1 pL
      have HDL : Hid (DL = D * k) := hDL
      clear hDL
      go_wp2_with fail
      refine hM1.mono ?_
      rintro e w3 ⟨ta, tn, tc, tl, rfl, rT, nmT, ET, hb3⟩
      have b23 := hal2.trans (hb3.mono hal2.size)
      have t3 := t2.later b23
      have N3 := r1.later b23
      have D3 := r2.later b23
      have G3 := G2.later b23
      have HB3 := HB2.trans (b23.mono HB2.size)
      have htn := lT.len
      rw [← ET.out, rT.1.1] at htn
      clear hM1 hal2 one2 b23 hb3 p0 p1 p2 t2 r1 r2 G2 HB2 ET
      obtain ⟨p0, p1, p2⟩ := t3.cells
      have hal3 := alloc_below (w := w3) (.cells #[.int .u64 k] 26)
      have one3 := rowC_one w3 k 26
      have hM2 := mulQ (k := 61) (D3.later hal3) one3 nm2 (Nm.one ⟨by omega, by omega⟩) (by rw [← HDL.out]; exact lL) (by omega)
      rw [← HDL.out] at hM2
      clear HDL
      go_wp2_with fail
      refine hM2.mono ?_
      rintro e w4 ⟨la, ln, lc, ll, rfl, rL, nmL, EL, hb4⟩
      have b34 := hal3.trans (hb4.mono hal3.size)
      obtain ⟨o0', o1', o2'⟩ := (t3.later b34).cells
      have hal4 := alloc_below (w := w4) (.cells #[.int .u64 1] 26)
      have one4 := rowC_one w4 1 26
      have b35 := b34.trans (hal4.mono b34.size)
      have t5 := t3.later b35
      have N5 := N3.later b35
      have D5 := D3.later b35
      have T5 := rT.later b35
      have L5 := rL.later hal4
      have G5 := G3.later b35
      have HB5 := HB3.trans (b35.mono HB3.size)
      have hln := lL.len
      rw [← EL.out, rL.1.1] at hln
      clear hM2 hal3 one3 b34 b35 hb4 p0 p1 p2 t3 N3 D3 rT rL G3 HB3 EL hal4
      obtain ⟨tn', htt⟩ : ∃ tn' : Nat, X = (tn' : Int) := ⟨X.toNat, by omega⟩
      have HS2 : Hid (∀ mode b e, RoundIs (scA N X) (scB 1 X) false s mode b e ↔ RoundIs (scA (N * 2 ^ tn') 0) (scB 1 0) false s mode b e) := fun mode b e => by rw [htt]; exact scale_up
      have lH : Lt (N * 2 ^ tn') 80 := (lN.pow2 (t := tn')).mono (by omega)
      have hSh := shlQ (N5) nm1 tn' (by omega) lH (by omega)
      obtain ⟨NH, hNH⟩ : ∃ NH, NH = N * 2 ^ tn' := ⟨_, rfl⟩
      rw [← hNH] at hSh lH HS2
      clear hNH
      have HX : Hid (X = (tn' : Int)) := htt
      have hXn : ¬ X < 0 := by omega
      have hX0 : 0 ≤ X := by omega
      rw [← htt] at hSh
      clear htt
      generalize hw5 : w4.alloc (.cells #[.int .u64 1] 26) = w5 at hSh t5 N5 D5 T5 L5 G5 HB5 one4
      obtain ⟨p0, p1, p2⟩ := t5.cells
      go_wp2_with fail
      clear hw5 o0' o1' o2'
      refine hSh.mono ?_
      rintro e w7 ⟨ha', hn', hc', hl', rfl, H7, nmH, EH, hb7⟩
      have P7 := one4.later hb7
      have nmP : Nm [1] 1 := Nm.one (by omega)
      have pP : (0 : Int) < 1 := by omega
      have hhn := lH.len
      rw [← EH.out, H7.1.1] at hhn
      clear hSh EH one4
      have t7 := t5.later hb7
      have N7 := N5.later hb7
      have D7 := D5.later hb7
      have T7 := T5.later hb7
      have L7 := L5.later hb7
      have G7 := G5.later hb7
      have HB7 := HB5.trans (hb7.mono HB5.size)
      clear p0 p1 p2 t5 N5 D5 T5 L5 G5 HB5 hb7
      obtain ⟨p0, p1, p2⟩ := t7.cells
      go_wp2_with fail
      refine (num7_same 0 w7).mono ?_
      rintro e wz ⟨rfl, rfl⟩
      go_wp2_with fail
      refine (num7_same 0 w7).mono ?_
      rintro e wz ⟨rfl, rfl⟩
      go_wp2_with fail
      refine (num7_same 0 w7).mono ?_
      rintro e wz ⟨rfl, rfl⟩
      go_wp2
      go_loopw [16] (fun mv wr => ∃ j : Nat, mv = .int .i64 j ∧ j ≤ 5 ∧ Below w7.heap.size w7 wr) (fun mv _ => 5 - (intOf mv).toNat)
      case atStart => exact ⟨0, rfl, by omega, Below.refl _ _⟩
      case round =>
        obtain ⟨j, rfl, hj, hnx⟩ := hrel
        clear p0 p1 p2
        have q1 := t7.later hnx
        have qN := N7.later hnx
        have qD := D7.later hnx
        have qT := T7.later hnx
        have qL := L7.later hnx
        have qH := H7.later hnx
        have qP := P7.later hnx
        have qG := G7.later hnx
        have HB8 := HB7.trans (hnx.mono HB7.size)
        obtain ⟨p0, p1, p2⟩ := q1.cells
        by_cases hj4 : j ≤ 4
        · have hQ1 := quotient_any (mode := (j : Int)) (neg := s) qN qD nm1.ws nm2.ws (by omega) (by omega) (by omega) (by omega) (by rw [nm2.num]; exact pD) qG
          rw [nm1.num, nm2.num] at hQ1
          go_wp2_with fail
          refine hQ1.mono ?_
          rintro e wa ⟨v1, E1, rfl, A1, _, ba⟩
          have hQ2 := quotient_any (mode := (j : Int)) (neg := s) (qT.later ba) (qL.later ba) nmT.ws nmL.ws (by omega) (by omega) (by omega) (by omega) (by rw [nmL.num]; exact pL) (qG.later ba)
          rw [nmT.num, nmL.num] at hQ2
          clear p0 p1 p2 hQ1
          obtain ⟨p0, p1, p2⟩ := (q1.later ba).cells
          go_wp2_with fail
          refine hQ2.mono ?_
          rintro e wb ⟨v2, E2, rfl, A2, _, bb⟩
          obtain ⟨rfl, rfl⟩ := roundIs_uniq (scB_pos pD) A1 ((HS1.out (j : Int) v2 E2).mp A2)
          have bab := ba.trans (bb.mono ba.size)
          clear p0 p1 p2 hQ2 ba bb A1 A2
          obtain ⟨p0, p1, p2⟩ := (q1.later bab).cells
          go_wp2_with fail
          refine (num7_same E1 wb).mono ?_
          rintro e wz ⟨rfl, rfl⟩
          go_wp2_with fail
          refine (num7_same E1 wb).mono ?_
          rintro e wz ⟨rfl, rfl⟩
          have hS3 := scaled_go (x := X) (mode := (j : Int)) (neg := s) (more := false) (qN.later bab) nm1.ws (by omega) (by omega) (by omega) (by omega) (by omega) (qG.later bab)
          rw [nm1.num] at hS3
          go_wp2_with fail
          refine hS3.mono ?_
          rintro e wc ⟨v3, E3, rfl, A3, _, bc⟩
          have babc := bab.trans (bc.mono bab.size)
          have hQ4 := quotient_any (mode := (j : Int)) (neg := s) (qH.later babc) (qP.later babc) nmH.ws nmP.ws (by omega) (by omega) (by omega) (by omega) (by rw [nmP.num]; exact pP) (qG.later babc)
          rw [nmH.num, nmP.num] at hQ4
          clear p0 p1 p2 hS3
          obtain ⟨p0, p1, p2⟩ := (q1.later babc).cells
          go_wp2_with fail
          refine hQ4.mono ?_
          rintro e wd ⟨v4, E4, rfl, A4, _, bd⟩
          obtain ⟨rfl, rfl⟩ := roundIs_uniq (scB_pos (by omega)) A3 ((HS2.out (j : Int) v4 E4).mpr A4)
          have hb9 := (hnx.trans (babc.mono hnx.size)).trans (bd.mono (Nat.le_trans hnx.size babc.size))
          clear p0 p1 p2 hQ4 bc bd bab babc A3 A4 q1 qN qD qT qL qH qP qG HB8 hnx
          go_wp2_with fail
          refine (num7_same E3 wd).mono ?_
          rintro e wz ⟨rfl, rfl⟩
          go_wp2_with fail
          refine (num7_same E3 wd).mono ?_
          rintro e wz ⟨rfl, rfl⟩
          go_wp2
          go_roundw
          case rel => exact ⟨j + 1, by go_num, by omega, hb9⟩
          case measure => simp [intOf]; omega
        · clear q1 qN qD qT qL qH qP qG p0 p1 p2
          go_wp2
          go_ret
          exact ⟨rfl, HB8⟩
    · have hKe : K = k := by rw [hK]; rw [if_neg hk0]
      have tk : (k == 0) = false := by simp [hk0]
      rw [hKe] at hKp
      clear hK hKe hk0
      have hal2 := alloc_below (w := w2) (.cells #[.int .u64 k] 26)
      have one2 := rowC_one w2 k 26
      have lT : Lt (N * k) 61 := (lN.mul (Lt.word (x := k) ⟨by omega, by omega⟩)).mono (by omega)
      have lL : Lt (D * k) 61 := (lD.mul (Lt.word (x := k) ⟨by omega, by omega⟩)).mono (by omega)
      have hM1 := mulQ (r1.later hal2) one2 nm1 (Nm.one ⟨by omega, by omega⟩) lT (by omega)
      have pL : 0 < D * k := Int.mul_pos pD (by omega)
      have HS1 : Hid (∀ mode b e, RoundIs (scA (N * k) 0) (scB (D * k) 0) false s mode b e ↔ RoundIs (scA N 0) (scB D 0) false s mode b e) := fun mode b e => scale_both (by omega)
      obtain ⟨NT, hNT⟩ : ∃ NT, NT = N * k := ⟨_, rfl⟩
      rw [← hNT] at hM1 lT HS1
      clear hNT
      obtain ⟨DL, hDL⟩ : ∃ DL, DL = D * k := ⟨_, rfl⟩
      rw [← hDL] at lL HS1 pL
      have HDL : Hid (DL = D * k) := hDL
      clear hDL
      go_wp2_with fail
      refine hM1.mono ?_
      rintro e w3 ⟨ta, tn, tc, tl, rfl, rT, nmT, ET, hb3⟩
      have b23 := hal2.trans (hb3.mono hal2.size)
      have t3 := t2.later b23
      have N3 := r1.later b23
      have D3 := r2.later b23
      have G3 := G2.later b23
      have HB3 := HB2.trans (b23.mono HB2.size)
      have htn := lT.len
      rw [← ET.out, rT.1.1] at htn
      clear hM1 hal2 one2 b23 hb3 p0 p1 p2 t2 r1 r2 G2 HB2 ET
      obtain ⟨p0, p1, p2⟩ := t3.cells
      have hal3 := alloc_below (w := w3) (.cells #[.int .u64 k] 26)
      have one3 := rowC_one w3 k 26
      have hM2 := mulQ (k := 61) (D3.later hal3) one3 nm2 (Nm.one ⟨by omega, by omega⟩) (by rw [← HDL.out]; exact lL) (by omega)
      rw [← HDL.out] at hM2
      clear HDL
      go_wp2_with fail
      refine hM2.mono ?_
      rintro e w4 ⟨la, ln, lc, ll, rfl, rL, nmL, EL, hb4⟩
      have b34 := hal3.trans (hb4.mono hal3.size)
      obtain ⟨o0', o1', o2'⟩ := (t3.later b34).cells
      have hal4 := alloc_below (w := w4) (.cells #[.int .u64 1] 26)
      have one4 := rowC_one w4 1 26
      have b35 := b34.trans (hal4.mono b34.size)
      have t5 := t3.later b35
      have N5 := N3.later b35
      have D5 := D3.later b35
      have T5 := rT.later b35
      have L5 := rL.later hal4
      have G5 := G3.later b35
      have HB5 := HB3.trans (b35.mono HB3.size)
      have hln := lL.len
      rw [← EL.out, rL.1.1] at hln
      clear hM2 hal3 one3 b34 b35 hb4 p0 p1 p2 t3 N3 D3 rT rL G3 HB3 EL hal4
      obtain ⟨tn', htt⟩ : ∃ tn' : Nat, X = -(tn' : Int) := ⟨(-X).toNat, by omega⟩
      have HS2 : Hid (∀ mode b e, RoundIs (scA N X) (scB 1 X) false s mode b e ↔ RoundIs (scA N 0) (scB (1 * 2 ^ tn') 0) false s mode b e) := fun mode b e => by rw [htt]; exact scale_down
      have lP : Lt (1 * 2 ^ tn') 80 := ((Lt.word (x := 1) (by omega)).pow2 (t := tn')).mono (by omega)
      have hSh := shlQ one4 (Nm.one (by omega)) tn' (by omega) lP (by omega)
      obtain ⟨DP, hDP⟩ : ∃ DP, DP = 1 * (2 : Int) ^ tn' := ⟨_, rfl⟩
      have pP : 0 < DP := by rw [hDP, Int.one_mul]; exact p2pos tn'
      rw [← hDP] at hSh lP HS2
      clear hDP
      have hXe : -X = (tn' : Int) := by omega
      have hXn : X < 0 := by omega
      have hX0 : ¬ 0 ≤ X := by omega
      clear htt
      generalize hw5 : w4.alloc (.cells #[.int .u64 1] 26) = w5 at hSh t5 N5 D5 T5 L5 G5 HB5
      obtain ⟨p0, p1, p2⟩ := t5.cells
      go_wp2_with fail
      clear hw5 o0' o1' o2'
      refine hSh.mono ?_
      rintro e w7 ⟨ha', hn', hc', hl', rfl, P7, nmP, EP, hb7⟩
      have H7 := N5.later hb7
      have nmH := nm1
      have hhn := lP.len
      rw [← EP.out, P7.1.1] at hhn
      clear hSh EP one4
      have t7 := t5.later hb7
      have N7 := N5.later hb7
      have D7 := D5.later hb7
      have T7 := T5.later hb7
      have L7 := L5.later hb7
      have G7 := G5.later hb7
      have HB7 := HB5.trans (hb7.mono HB5.size)
      clear p0 p1 p2 t5 N5 D5 T5 L5 G5 HB5 hb7
      obtain ⟨p0, p1, p2⟩ := t7.cells
      go_wp2_with fail
      refine (num7_same 0 w7).mono ?_
      rintro e wz ⟨rfl, rfl⟩
      go_wp2_with fail
      refine (num7_same 0 w7).mono ?_
      rintro e wz ⟨rfl, rfl⟩
      go_wp2_with fail
      refine (num7_same 0 w7).mono ?_
      rintro e wz ⟨rfl, rfl⟩
      go_wp2
      go_loopw [16] (fun mv wr => ∃ j : Nat, mv = .int .i64 j ∧ j ≤ 5 ∧ Below w7.heap.size w7 wr) (fun mv _ => 5 - (intOf mv).toNat)
      case atStart => exact ⟨0, rfl, by omega, Below.refl _ _⟩
      case round =>
        obtain ⟨j, rfl, hj, hnx⟩ := hrel
        clear p0 p1 p2
        have q1 := t7.later hnx
        have qN := N7.later hnx
        have qD := D7.later hnx
        have qT := T7.later hnx
        have qL := L7.later hnx
        have qH := H7.later hnx
        have qP := P7.later hnx
        have qG := G7.later hnx
        have HB8 := HB7.trans (hnx.mono HB7.size)
        obtain ⟨p0, p1, p2⟩ := q1.cells
        by_cases hj4 : j ≤ 4
        · have hQ1 := quotient_any (mode := (j : Int)) (neg := s) qN qD nm1.ws nm2.ws (by omega) (by omega) (by omega) (by omega) (by rw [nm2.num]; exact pD) qG
          rw [nm1.num, nm2.num] at hQ1
          go_wp2_with fail
          refine hQ1.mono ?_
          rintro e wa ⟨v1, E1, rfl, A1, _, ba⟩
          have hQ2 := quotient_any (mode := (j : Int)) (neg := s) (qT.later ba) (qL.later ba) nmT.ws nmL.ws (by omega) (by omega) (by omega) (by omega) (by rw [nmL.num]; exact pL) (qG.later ba)
          rw [nmT.num, nmL.num] at hQ2
          clear p0 p1 p2 hQ1
          obtain ⟨p0, p1, p2⟩ := (q1.later ba).cells
          go_wp2_with fail
          refine hQ2.mono ?_
          rintro e wb ⟨v2, E2, rfl, A2, _, bb⟩
          obtain ⟨rfl, rfl⟩ := roundIs_uniq (scB_pos pD) A1 ((HS1.out (j : Int) v2 E2).mp A2)
          have bab := ba.trans (bb.mono ba.size)
          clear p0 p1 p2 hQ2 ba bb A1 A2
          obtain ⟨p0, p1, p2⟩ := (q1.later bab).cells
          go_wp2_with fail
          refine (num7_same E1 wb).mono ?_
          rintro e wz ⟨rfl, rfl⟩
          go_wp2_with fail
          refine (num7_same E1 wb).mono ?_
          rintro e wz ⟨rfl, rfl⟩
          have hS3 := scaled_go (x := X) (mode := (j : Int)) (neg := s) (more := false) (qN.later bab) nm1.ws (by omega) (by omega) (by omega) (by omega) (by omega) (qG.later bab)
          rw [nm1.num] at hS3
          go_wp2_with fail
          refine hS3.mono ?_
          rintro e wc ⟨v3, E3, rfl, A3, _, bc⟩
          have babc := bab.trans (bc.mono bab.size)
          have hQ4 := quotient_any (mode := (j : Int)) (neg := s) (qH.later babc) (qP.later babc) nmH.ws nmP.ws (by omega) (by omega) (by omega) (by omega) (by rw [nmP.num]; exact pP) (qG.later babc)
          rw [nmH.num, nmP.num] at hQ4
          clear p0 p1 p2 hS3
          obtain ⟨p0, p1, p2⟩ := (q1.later babc).cells
          go_wp2_with fail
          refine hQ4.mono ?_
          rintro e wd ⟨v4, E4, rfl, A4, _, bd⟩
          obtain ⟨rfl, rfl⟩ := roundIs_uniq (scB_pos (by omega)) A3 ((HS2.out (j : Int) v4 E4).mpr A4)
          have hb9 := (hnx.trans (babc.mono hnx.size)).trans (bd.mono (Nat.le_trans hnx.size babc.size))
          clear p0 p1 p2 hQ4 bc bd bab babc A3 A4 q1 qN qD qT qL qH qP qG HB8 hnx
          go_wp2_with fail
          refine (num7_same E3 wd).mono ?_
          rintro e wz ⟨rfl, rfl⟩
          go_wp2_with fail
          refine (num7_same E3 wd).mono ?_
          rintro e wz ⟨rfl, rfl⟩
          go_wp2
          go_roundw
          case rel => exact ⟨j + 1, by go_num, by omega, hb9⟩
          case measure => simp [intOf]; omega
        · clear q1 qN qD qT qL qH qP qG p0 p1 p2
          go_wp2
          go_ret
          exact ⟨rfl, HB8⟩
end Go.Proofs.YtildkknpbpdnnaaDoor
