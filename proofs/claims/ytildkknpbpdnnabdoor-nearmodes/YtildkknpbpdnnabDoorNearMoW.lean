/- NearModes. -/
import Derived.Test.YtildkknpbpdnnabDoorNearNeW
namespace Go.Proofs.YtildkknpbpdnnabDoor
open Go.ChangeShapes Go.WideShapes Go.ChangeAt Go.RowKit
open Na Ar
set_option linter.unusedVariables false
theorem even_two {A B d b e : Int} {neg : Bool} (hB : 0 < B) (hd : BelP A B d) (h : RoundIs A B false neg 0 b e) :
    (A = numW d * B → b = d + sgB neg ∧ e = 0) ∧ ((b = d + sgB neg ∧ e = 0) ∨ (d = mostP ∧ b = 0 ∧ e = 70) ∨ (d < mostP ∧ b = d + 1 + sgB neg ∧ e = 0)) := by
  obtain ⟨d', hd', h⟩ := h
  obtain rfl := belP_uniq hB hd hd'
  constructor
  · intro hA
    have ha : agn A B (numW d) false = 0 := by unfold agn; rw [if_neg (by omega), if_pos hA]; rfl
    rcases h with ⟨_, h1, h2⟩ | ⟨⟨c, _⟩, _⟩
    · exact ⟨h1, h2⟩
    · exact absurd ha c
  · rcases h with ⟨_, h1, h2⟩ | ⟨_, h | h⟩
    · exact Or.inl ⟨h1, h2⟩
    · exact Or.inr (Or.inl h)
    · exact Or.inr (Or.inr h)
/-- the five modes together -/
theorem modes_tell {A B i e o f u g d h n k : Int} {neg : Bool} (hB : 0 < B) (h1 : RoundIs A B false neg 1 i e) (h2 : RoundIs A B false neg 2 o f) (h3 : RoundIs A B false neg 3 u g) (h4 : RoundIs A B false neg 4 d h) (h0 : RoundIs A B false neg 0 n k) :
    ∃ dd, BelP A B dd ∧ i = dd + sgB neg ∧ e = 0 ∧ ((neg = false ∧ u = o ∧ g = f ∧ d = i ∧ h = 0) ∨ (neg = true ∧ d = o ∧ h = f ∧ u = i ∧ g = 0)) ∧
      ((A = numW dd * B ∧ o = i ∧ f = 0 ∧ n = i ∧ k = 0) ∨ (numW dd * B < A ∧ dd < mostP ∧ o = i + 1 ∧ f = 0 ∧ k = 0 ∧ (n = i ∨ n = o) ∧ A < numW (dd + 1) * B) ∨
       (numW dd * B < A ∧ dd = mostP ∧ o = 0 ∧ f = 70 ∧ (k = 70 ∨ (k = 0 ∧ n = i)))) := by
  obtain ⟨rfl, dd, hd, rfl⟩ := inward_is h1
  obtain ⟨d2, hd2, ho⟩ := outward_is h2
  obtain rfl := belP_uniq hB hd hd2
  have he := even_two hB hd h0
  refine ⟨dd, hd, rfl, rfl, ?_, ?_⟩
  · cases neg
    · left
      have q3 := up_is.mp h3
      have q4 := down_is.mp h4
      rw [if_neg (by simp)] at q3 q4
      obtain ⟨a1, a2⟩ := roundIs_uniq hB q3 h2
      obtain ⟨b1, b2⟩ := roundIs_uniq hB q4 h1
      exact ⟨rfl, a1, a2, b1, b2⟩
    · right
      have q3 := up_is.mp h3
      have q4 := down_is.mp h4
      rw [if_pos rfl] at q3 q4
      obtain ⟨a1, a2⟩ := roundIs_uniq hB q3 h1
      obtain ⟨b1, b2⟩ := roundIs_uniq hB q4 h2
      exact ⟨rfl, b1, b2, a1, a2⟩
  · rcases ho with ⟨x1, x2, x3⟩ | ⟨x1, x2, x3, x4⟩ | ⟨x1, x2, x3, x4⟩
    · left
      obtain ⟨n1, n2⟩ := he.1 x1
      exact ⟨x1, x2, x3, n1, n2⟩
    · right; right
      refine ⟨x1, x2, x3, x4, ?_⟩
      rcases he.2 with ⟨n1, n2⟩ | ⟨_, n1, n2⟩ | ⟨n0, _, _⟩
      · exact Or.inr ⟨n2, n1⟩
      · exact Or.inl n2
      · omega
    · right; left
      have hlt : A < numW (dd + 1) * B := by
        rcases hd.2.2.2 with q | q
        · omega
        · exact q
      refine ⟨x1, x2, by omega, x4, ?_⟩
      rcases he.2 with ⟨n1, n2⟩ | ⟨n0, _, _⟩ | ⟨_, n1, n2⟩
      · exact ⟨n2, Or.inl n1, hlt⟩
      · omega
      · exact ⟨n2, Or.inr (by omega), hlt⟩
theorem cmp_ord {N D x E : Int} (hN : 0 ≤ N) (hD : 0 < D) (hx : 0 ≤ x) (hE : 0 < E) : ordR (mkR false x E) (mkR false N D) = ordN (x * D) (N * E) := by
  rw [ordR_mk hx hE hN hD]; rfl
set_option maxHeartbeats 6400000 in
set_option maxRecDepth 100000 in
theorem modes_walk {w : World} {s : Bool} {a b : Option Addr} {n m c d : Nat} {xs ys : List Int} (ha : RowC w a n c xs) (hb : RowC w b m d ys) (hx : Ws xs) (hy : Ws ys) (hG : GrVar w) :
    Calls Tryd.prog 3 #[.agg #[.bool s, .slice a n c, .slice b m d]] w fun e w' => e = .returned (.bool true) ∧ Below w.heap.size w w' := by
  have t0 := st_new w (.bool s) (.slice a n c) (.slice b m d) 24
  have hb0 := alloc_below (w := w) (.cells #[.bool s, .slice a n c, .slice b m d] 24)
  obtain ⟨w0, hw0⟩ : ∃ w0, w0 = w.alloc (.cells #[.bool s, .slice a n c, .slice b m d] 24) := ⟨_, rfl⟩
  rw [← hw0] at t0 hb0
  have f0 := exact7_any (s := s) (ha.later hb0) (hb.later hb0) hx hy
  have G0 := hG.later hb0
  have hG0 := hG.lt
  obtain ⟨lD, pD⟩ := eDen_lt hy
  have lN := eNum_lt hx
  have hN0 := lN.1
  clear ha hb hx hy hG
  generalize eNum xs = N at *
  generalize eDen ys = D at *
  obtain ⟨g, hg⟩ : ∃ g, g = w.heap.size := ⟨_, rfl⟩
  have HG : Hid (w.heap.size = g) := hg.symm
  rw [← hg] at t0
  have HB0 : Below w.heap.size w w0 := hb0
  obtain ⟨p0, p1, p2⟩ := t0.cells
  go_enter Tryd.func3, Tryd.ntmps3
  go_wp2_with fail
  rw [← hw0, ← hg]
  refine f0.mono ?_
  rintro e w1 ⟨a1, n1, c1, l1, b1, m1, d1, l2, s9, u1, u2, rfl, r1, nm1, hn1, r2, nm2, hm1, hR, ⟨of1, of2⟩, hb1⟩
  obtain ⟨a9, n9, c9, b9, m9, d9, rfl, rfl, hRt⟩ := hR.opens
  have t1 := t0.later hb1
  have sg := t1.lt
  obtain ⟨y0, y1, y2⟩ := t1.cells
  obtain ⟨v0, v1, v2⟩ := t1.frozen
  obtain ⟨x0, x1, x2⟩ := (t1.later (alloc_below (w := w1) (.cells #[.bool false, .slice none 0 0, .slice none 0 0] 25))).cells
  obtain ⟨z0, z1, z2⟩ := (t1.later (alloc_below (w := w1) (.cells #[.bool false, .slice none 0 0, .slice none 0 0] 25))).frozen
  have ng1 : ¬ g = w1.heap.size := by omega
  have ng2 : ¬ w1.heap.size = g := by omega
  have hgw : g < w0.heap.size := by rw [hw0]; simp [hg]
  have o1 := of1 g hgw
  have o2 := of2 g hgw
  clear of1 of2
  have iP := in3 w1 g (.bool s) (.slice a1 n1 c1) (.slice b1 m1 d1)
  have tP := t1.set (.bool s) (.slice a1 n1 c1) (.slice b1 m1 d1)
  obtain ⟨wP, hwP⟩ : ∃ wP, wP = ((w1.setCell ⟨g, 0, none⟩ (.bool s)).setCell ⟨g, 1, none⟩ (.slice a1 n1 c1)).setCell ⟨g, 2, none⟩ (.slice b1 m1 d1) := ⟨_, rfl⟩
  rw [← hwP] at iP tP
  have r1P := r1.inn iP o1
  have r2P := r2.inn iP o2
  have G1 := G0.later hb1
  have hne : ¬ 0 = g := by rw [hg]; omega
  have HB1 := HB0.trans (hb1.mono HB0.size)
  have HBP : Below w.heap.size w wP := below_inn HB1 iP (by rw [HG.out]; exact Nat.le_refl _) (Nat.le_refl _)
  have GP : GrVar wP := G1.inn iP hne
  have hal := alloc_below (w := wP) (.cells #[.bool s9, .slice a9 n9 c9, .slice b9 m9 d9] 25)
  have HWP : Hid (wP = ((w1.setCell ⟨g, 0, none⟩ (.bool s)).setCell ⟨g, 1, none⟩ (.slice a1 n1 c1)).setCell ⟨g, 2, none⟩ (.slice b1 m1 d1)) := hwP
  clear hwP
  have tQ := tP.later hal
  have r1Q := r1P.later hal
  have r2Q := r2P.later hal
  have GQ := GP.later hal
  have HBQ := HBP.trans (hal.mono HBP.size)
  have tqQ := st_new wP (.bool s9) (.slice a9 n9 c9) (.slice b9 m9 d9) 25
  have ewP : wP.heap.size = w1.heap.size := by rw [HWP.out]; simp [World.setCell]
  rw [ewP] at tqQ
  have hRQ := ((hR.lower (base' := g + 1) (by omega)).inn iP (by omega)).later hal
  clear ewP
  obtain ⟨o, ho⟩ : ∃ o, o = w1.heap.size := ⟨_, rfl⟩
  rw [← ho] at tqQ
  have HO : Hid (o = w1.heap.size) := ho
  clear ho
  have hfx := fixed_any GQ
  clear f0 hw0 hg p0 p1 p2 t0 hRt hR iP tP r1P r2P G1 HB1 HBP GP hal r1 r2
  go_wp2_with fail
  rw [← HWP.out, ← HO.out]
  clear HWP HO x0 x1 x2 z0 z1 z2 y0 y1 y2 v0 v1 v2 ng1 ng2 t1 sg
  generalize wP.alloc (.cells #[.bool s9, .slice a9 n9 c9, .slice b9 m9 d9] 25) = wQ at *
  refine hfx.mono ?_
  rintro e w2 ⟨rfl, hb2⟩
  have t2 := tQ.later hb2
  have r1 := r1Q.later hb2
  have r2 := r2Q.later hb2
  have G2 := GQ.later hb2
  have HB2 := HBQ.trans (hb2.mono HBQ.size)
  have tq := tqQ.later hb2
  have hq := hRQ.later hb2
  clear tqQ hRQ hfx tQ r1Q r2Q GQ HBQ hb2
  obtain ⟨p0, p1, p2⟩ := t2.cells
  obtain ⟨ea, eb⟩ := scab N D
  have hQ := quotient_any (mode := 1) (neg := s) r1 r2 nm1.ws nm2.ws (by omega) (by omega) (by omega) (by omega) (by rw [nm2.num]; exact pD) G2
  rw [nm1.num, nm2.num] at hQ
  go_wp2_with fail
  refine hQ.mono ?_
  rintro e wa ⟨v0, E0, rfl, hr0, hU0, hbq⟩
  rw [ea, eb] at hr0
  replace t2 := t2.later hbq
  replace tq := tq.later hbq
  replace hq := hq.later hbq
  replace r1 := r1.later hbq
  replace r2 := r2.later hbq
  have Gq := G2.later hbq
  replace HB2 := HB2.trans (hbq.mono HB2.size)
  clear hQ hbq p0 p1 p2
  obtain ⟨p0, p1, p2⟩ := t2.cells
  have hQ := quotient_any (mode := 2) (neg := s) r1 r2 nm1.ws nm2.ws (by omega) (by omega) (by omega) (by omega) (by rw [nm2.num]; exact pD) Gq
  rw [nm1.num, nm2.num] at hQ
  go_wp2_with fail
  refine hQ.mono ?_
  rintro e wb ⟨v1, E1, rfl, hr1, hU1, hbq⟩
  rw [ea, eb] at hr1
  replace t2 := t2.later hbq
  replace tq := tq.later hbq
  replace hq := hq.later hbq
  replace r1 := r1.later hbq
  replace r2 := r2.later hbq
  have Gq' := Gq.later hbq
  replace Gq := Gq'
  clear Gq'
  replace HB2 := HB2.trans (hbq.mono HB2.size)
  clear hQ hbq p0 p1 p2
  obtain ⟨p0, p1, p2⟩ := t2.cells
  have hQ := quotient_any (mode := 3) (neg := s) r1 r2 nm1.ws nm2.ws (by omega) (by omega) (by omega) (by omega) (by rw [nm2.num]; exact pD) Gq
  rw [nm1.num, nm2.num] at hQ
  go_wp2_with fail
  refine hQ.mono ?_
  rintro e wc ⟨v2, E2, rfl, hr2, hU2, hbq⟩
  rw [ea, eb] at hr2
  replace t2 := t2.later hbq
  replace tq := tq.later hbq
  replace hq := hq.later hbq
  replace r1 := r1.later hbq
  replace r2 := r2.later hbq
  have Gq' := Gq.later hbq
  replace Gq := Gq'
  clear Gq'
  replace HB2 := HB2.trans (hbq.mono HB2.size)
  clear hQ hbq p0 p1 p2
  obtain ⟨p0, p1, p2⟩ := t2.cells
  have hQ := quotient_any (mode := 4) (neg := s) r1 r2 nm1.ws nm2.ws (by omega) (by omega) (by omega) (by omega) (by rw [nm2.num]; exact pD) Gq
  rw [nm1.num, nm2.num] at hQ
  go_wp2_with fail
  refine hQ.mono ?_
  rintro e wd ⟨v3, E3, rfl, hr3, hU3, hbq⟩
  rw [ea, eb] at hr3
  replace t2 := t2.later hbq
  replace tq := tq.later hbq
  replace hq := hq.later hbq
  replace r1 := r1.later hbq
  replace r2 := r2.later hbq
  have Gq' := Gq.later hbq
  replace Gq := Gq'
  clear Gq'
  replace HB2 := HB2.trans (hbq.mono HB2.size)
  clear hQ hbq p0 p1 p2
  obtain ⟨p0, p1, p2⟩ := t2.cells
  have hQ := quotient_any (mode := 0) (neg := s) r1 r2 nm1.ws nm2.ws (by omega) (by omega) (by omega) (by omega) (by rw [nm2.num]; exact pD) Gq
  rw [nm1.num, nm2.num] at hQ
  go_wp2_with fail
  refine hQ.mono ?_
  rintro e we ⟨v4, E4, rfl, hr4, hU4, hbq⟩
  rw [ea, eb] at hr4
  replace t2 := t2.later hbq
  replace tq := tq.later hbq
  replace hq := hq.later hbq
  replace r1 := r1.later hbq
  replace r2 := r2.later hbq
  have Gq' := Gq.later hbq
  replace Gq := Gq'
  clear Gq'
  replace HB2 := HB2.trans (hbq.mono HB2.size)
  clear hQ hbq p0 p1 p2
  obtain ⟨p0, p1, p2⟩ := t2.cells
  have zs : Sz (mkR false N D) 60 := Sz.mkR lN lD pD
  have hE : 0 < e2 1074 := e2_pos _
  obtain ⟨dd, hbp, rfl, rfl, hside, hcase⟩ := modes_tell pD hr0 hr1 hr2 hr3 hr4
  obtain ⟨d0, d1, _, _⟩ := id hbp
  obtain ⟨ud, fd, _⟩ := size_fin d0 d1
  have hnum := num_nonneg' d0 d1
  have e0 : mostP = 9218868437227405311 := rfl
  obtain ⟨vb, hvb⟩ : ∃ vb, vb = dd + sgB s := ⟨_, rfl⟩
  have hsg : sgB s = if s = true then 9223372036854775808 else 0 := rfl
  rw [← hvb] at hU0 hside hcase ⊢
  have hsn : (bits .and .u64 vb 9223372036854775808 != 0) = s := by
    rw [sign_ne hU0, hvb, hsg]
    rw [e0] at d1
    cases s <;> simp <;> omega
  have han : bits .andNot .u64 vb 9223372036854775808 = dd := by
    rw [size_bits hU0, hvb, hsg]
    rw [e0] at d1
    unfold mg
    cases s <;> simp <;> omega
  have hvr : 0 ≤ vb ∧ vb ≤ 18442240474082181119 := by
    rw [hvb, hsg]
    rw [e0] at d1
    split <;> omega
  have han1 : dd < mostP → bits .andNot .u64 (vb + 1) 9223372036854775808 = dd + 1 := fun hl => by
    rw [size_bits (by unfold U; omega), hvb, hsg]
    rw [e0] at hl
    unfold mg
    cases s <;> simp <;> omega
  clear hvb hsg hr0 hr1 hr2 hr3 hr4 ea eb r1 r2 Gq nm1 nm2 lN lD hbp
  have hV := fun w1 => value7_any ud fd w1
  obtain ⟨C, hC⟩ : ∃ C, ordR (valR dd) (mkR false N D) = C := ⟨_, rfl⟩
  have hCe : C = ordN (numW dd * D) (N * e2 1074) := by rw [← hC, valR_low d0 d1, cmp_ord hN0 pD hnum hE]
  rcases hside with ⟨rfl, rfl, rfl, hu3, rfl⟩ | ⟨rfl, rfl, rfl, hu3, rfl⟩
  all_goals
    have hu3' := hu3.symm
    clear hu3
    subst hu3'
  · obtain ⟨y0, y1, y2⟩ := tq.cells
    go_wp2_with (go_at_call 8; refine (num7_same _ _).mono ?_; rintro e wz ⟨rfl, rfl⟩)
    refine (hV _).mono ?_
    rintro e wf ⟨sv, v1', v2', rfl, rv, zv, hbf⟩
    obtain ⟨aV, nV, cV, bV, mV, dV, rfl, rfl, rv'⟩ := rv.opens
    have half := alloc_below (w := wf) (.cells #[.bool sv, .slice aV nV cV, .slice bV mV dV] 25)
    have tv := st_new wf (.bool sv) (.slice aV nV cV) (.slice bV mV dV) 25
    have bf := hbf.trans (half.mono hbf.size)
    have tq1 := tq.later bf
    have hq1 := (hq.later bf).rt7
    have hv1 := rv'.later half
    have HB3 := HB2.trans (bf.mono HB2.size)
    obtain ⟨o6, ho6⟩ : ∃ o6, o6 = wf.heap.size := ⟨_, rfl⟩
    rw [← ho6] at tv
    have ho6' : wf.heap.size = o6 := ho6.symm
    clear rv rv' hbf half bf tq hq HB2 ho6 p0 p1 p2 y0 y1 y2 hV t2
    generalize hwn : wf.alloc (.cells #[.bool sv, .slice aV nV cV, .slice bV mV dV] 25) = wg at *
    obtain ⟨y0, y1, y2⟩ := tq1.cells
    have hS := size7_any hN0 pD hq1
    go_wp2_with fail
    clear hwn ho6'
    refine hS.mono ?_
    rintro e wh ⟨rfl, hs4, hbh⟩
    have halh := alloc_below (w := wh) (.cells #[.bool false, .slice a9 n9 c9, .slice b9 m9 d9] 25)
    have ts := st_new wh (.bool false) (.slice a9 n9 c9) (.slice b9 m9 d9) 25
    have bh := hbh.trans (halh.mono hbh.size)
    have tv2 := tv.later bh
    have hv2 := hv1.later bh
    have hs5 := hs4.later halh
    have HB5 := HB3.trans (bh.mono HB3.size)
    obtain ⟨o7, ho7⟩ : ∃ o7, o7 = wh.heap.size := ⟨_, rfl⟩
    rw [← ho7] at ts
    have ho7' : wh.heap.size = o7 := ho7.symm
    clear hS hs4 hbh halh bh tv hv1 HB3 tq1 hq1 y0 y1 y2 ho7
    generalize hwn : wh.alloc (.cells #[.bool false, .slice a9 n9 c9, .slice b9 m9 d9] 25) = wi at *
    obtain ⟨x0, x1, x2⟩ := tv2.cells
    obtain ⟨y0, y1, y2⟩ := ts.cells
    have hCm := cmp7_any hv2 hs5 zv zs (by omega) hC
    go_wp2_with fail
    clear hwn ho7'
    refine hCm.mono ?_
    rintro e wj ⟨rfl, hbj⟩
    have ts6 := ts.later hbj
    have hs6 := hs5.later hbj
    have HB6 := HB5.trans (hbj.mono HB5.size)
    clear hCm hC x0 x1 x2 y0 y1 y2 tv2 hv2 ts hs5 HB5 hbj zv
    rcases hcase with ⟨q1, rfl, rfl, rfl, rfl⟩ | ⟨q1, q2, rfl, rfl, rfl, q3, q4⟩ | ⟨q1, q2, rfl, rfl, q3⟩
    · have cz : C = 0 := by rw [hCe]; exact ordN_eq q1.symm
      subst cz
      clear hCe q1
      go_wp2_with (go_at_call 8; refine (num7_same _ _).mono ?_; rintro e wz ⟨rfl, rfl⟩)
      go_ret
      exact ⟨rfl, HB6⟩
    · have cz : C = -1 := by rw [hCe]; exact ordN_lt q1
      subst cz
      have han2 := han1 q2
      obtain ⟨ue, fe, _⟩ := size_fin (p := dd + 1) (by omega) (by omega)
      have hnum1 := num_nonneg' (p := dd + 1) (by omega) (by omega)
      obtain ⟨C2, hC2⟩ : ∃ C2, ordR (valR (dd + 1)) (mkR false N D) = C2 := ⟨_, rfl⟩
      have cz2 : C2 = 1 := by rw [← hC2, valR_low (by omega) (by omega), cmp_ord hN0 pD hnum1 hE]; exact ordN_gt q4
      subst cz2
      have hV2 := fun w1 => value7_any ue fe w1
      clear hCe q1 q4 han1
      go_wp2_with (go_at_call 8; refine (num7_same _ _).mono ?_; rintro e wz ⟨rfl, rfl⟩)
      refine (hV2 _).mono ?_
      rintro e wk ⟨sv, v1', v2', rfl, rv, zv, hbk⟩
      obtain ⟨aV, nV, cV, bV, mV, dV, rfl, rfl, rv'⟩ := rv.opens
      have halk := alloc_below (w := wk) (.cells #[.bool sv, .slice aV nV cV, .slice bV mV dV] 25)
      have tv := st_new wk (.bool sv) (.slice aV nV cV) (.slice bV mV dV) 25
      have bk := hbk.trans (halk.mono hbk.size)
      have ts7 := ts6.later bk
      have hs7 := hs6.later bk
      have hv1 := rv'.later halk
      have HB7 := HB6.trans (bk.mono HB6.size)
      obtain ⟨o8, ho8⟩ : ∃ o8, o8 = wk.heap.size := ⟨_, rfl⟩
      rw [← ho8] at tv
      have ho8' : wk.heap.size = o8 := ho8.symm
      clear rv rv' hbk halk bk HB6 ho8 hV2 ts6 hs6
      generalize hwn : wk.alloc (.cells #[.bool sv, .slice aV nV cV, .slice bV mV dV] 25) = wl at *
      obtain ⟨x0, x1, x2⟩ := tv.cells
      obtain ⟨y0, y1, y2⟩ := ts7.cells
      have hCm := cmp7_any hv1 hs7 zv zs (by omega) hC2
      go_wp2_with fail
      clear hwn ho8'
      refine hCm.mono ?_
      rintro e wm ⟨rfl, hbm⟩
      have HB8 := HB7.trans (hbm.mono HB7.size)
      have hv3 := hv1.later hbm
      have hs8 := hs7.later hbm
      clear x0 x1 x2 y0 y1 y2 hCm
      obtain ⟨x0, x1, x2⟩ := (tv.later hbm).cells
      obtain ⟨y0, y1, y2⟩ := (ts7.later hbm).cells
      have hCm := cmp7_any hv3 hs8 zv zs (by omega) hC2
      go_wp2_with fail
      refine hCm.mono ?_
      rintro e wn ⟨rfl, hbn⟩
      have HB9 := HB8.trans (hbn.mono HB8.size)
      clear hCm hC2 x0 x1 x2 y0 y1 y2 tv ts7 hv1 hs7 hv3 hs8 hbm hbn HB7 HB8
      rcases q3 with q3 | q3
      · have q3' : (v4 == vb) = true := by simp [q3]
        clear q3
        go_wp2_with (go_at_call 8; refine (num7_same _ _).mono ?_; rintro e wz ⟨rfl, rfl⟩)
        go_ret
        exact ⟨rfl, HB9⟩
      · have q3' : (v4 == vb) = false := by simp; omega
        have q4' : (v4 == vb + 1) = true := by simp [q3]
        clear q3
        go_wp2_with (go_at_call 8; refine (num7_same _ _).mono ?_; rintro e wz ⟨rfl, rfl⟩)
        go_ret
        exact ⟨rfl, HB9⟩
    · have cz : C = -1 := by rw [hCe]; exact ordN_lt q1
      subst cz
      clear hCe q1 han1
      rw [e0] at q2
      have qd : (dd == 9218868437227405311) = true := by simp [q2]
      clear q2
      rcases q3 with rfl | ⟨rfl, q3⟩
      · go_wp2_with (go_at_call 8; refine (num7_same _ _).mono ?_; rintro e wz ⟨rfl, rfl⟩)
        go_ret
        exact ⟨rfl, HB6⟩
      · have q3' : (v4 == vb) = true := by simp [q3]
        clear q3
        go_wp2_with (go_at_call 8; refine (num7_same _ _).mono ?_; rintro e wz ⟨rfl, rfl⟩)
        go_ret
        exact ⟨rfl, HB6⟩
  · obtain ⟨y0, y1, y2⟩ := tq.cells
    go_wp2_with (go_at_call 8; refine (num7_same _ _).mono ?_; rintro e wz ⟨rfl, rfl⟩)
    refine (hV _).mono ?_
    rintro e wf ⟨sv, v1', v2', rfl, rv, zv, hbf⟩
    obtain ⟨aV, nV, cV, bV, mV, dV, rfl, rfl, rv'⟩ := rv.opens
    have half := alloc_below (w := wf) (.cells #[.bool sv, .slice aV nV cV, .slice bV mV dV] 25)
    have tv := st_new wf (.bool sv) (.slice aV nV cV) (.slice bV mV dV) 25
    have bf := hbf.trans (half.mono hbf.size)
    have tq1 := tq.later bf
    have hq1 := (hq.later bf).rt7
    have hv1 := rv'.later half
    have HB3 := HB2.trans (bf.mono HB2.size)
    obtain ⟨o6, ho6⟩ : ∃ o6, o6 = wf.heap.size := ⟨_, rfl⟩
    rw [← ho6] at tv
    have ho6' : wf.heap.size = o6 := ho6.symm
    clear rv rv' hbf half bf tq hq HB2 ho6 p0 p1 p2 y0 y1 y2 hV t2
    generalize hwn : wf.alloc (.cells #[.bool sv, .slice aV nV cV, .slice bV mV dV] 25) = wg at *
    obtain ⟨y0, y1, y2⟩ := tq1.cells
    have hS := size7_any hN0 pD hq1
    go_wp2_with fail
    clear hwn ho6'
    refine hS.mono ?_
    rintro e wh ⟨rfl, hs4, hbh⟩
    have halh := alloc_below (w := wh) (.cells #[.bool false, .slice a9 n9 c9, .slice b9 m9 d9] 25)
    have ts := st_new wh (.bool false) (.slice a9 n9 c9) (.slice b9 m9 d9) 25
    have bh := hbh.trans (halh.mono hbh.size)
    have tv2 := tv.later bh
    have hv2 := hv1.later bh
    have hs5 := hs4.later halh
    have HB5 := HB3.trans (bh.mono HB3.size)
    obtain ⟨o7, ho7⟩ : ∃ o7, o7 = wh.heap.size := ⟨_, rfl⟩
    rw [← ho7] at ts
    have ho7' : wh.heap.size = o7 := ho7.symm
    clear hS hs4 hbh halh bh tv hv1 HB3 tq1 hq1 y0 y1 y2 ho7
    generalize hwn : wh.alloc (.cells #[.bool false, .slice a9 n9 c9, .slice b9 m9 d9] 25) = wi at *
    obtain ⟨x0, x1, x2⟩ := tv2.cells
    obtain ⟨y0, y1, y2⟩ := ts.cells
    have hCm := cmp7_any hv2 hs5 zv zs (by omega) hC
    go_wp2_with fail
    clear hwn ho7'
    refine hCm.mono ?_
    rintro e wj ⟨rfl, hbj⟩
    have ts6 := ts.later hbj
    have hs6 := hs5.later hbj
    have HB6 := HB5.trans (hbj.mono HB5.size)
    clear hCm hC x0 x1 x2 y0 y1 y2 tv2 hv2 ts hs5 HB5 hbj zv
    rcases hcase with ⟨q1, rfl, rfl, rfl, rfl⟩ | ⟨q1, q2, rfl, rfl, rfl, q3, q4⟩ | ⟨q1, q2, rfl, rfl, q3⟩
    · have cz : C = 0 := by rw [hCe]; exact ordN_eq q1.symm
      subst cz
      clear hCe q1
      go_wp2_with (go_at_call 8; refine (num7_same _ _).mono ?_; rintro e wz ⟨rfl, rfl⟩)
      go_ret
      exact ⟨rfl, HB6⟩
    · have cz : C = -1 := by rw [hCe]; exact ordN_lt q1
      subst cz
      have han2 := han1 q2
      obtain ⟨ue, fe, _⟩ := size_fin (p := dd + 1) (by omega) (by omega)
      have hnum1 := num_nonneg' (p := dd + 1) (by omega) (by omega)
      obtain ⟨C2, hC2⟩ : ∃ C2, ordR (valR (dd + 1)) (mkR false N D) = C2 := ⟨_, rfl⟩
      have cz2 : C2 = 1 := by rw [← hC2, valR_low (by omega) (by omega), cmp_ord hN0 pD hnum1 hE]; exact ordN_gt q4
      subst cz2
      have hV2 := fun w1 => value7_any ue fe w1
      clear hCe q1 q4 han1
      go_wp2_with (go_at_call 8; refine (num7_same _ _).mono ?_; rintro e wz ⟨rfl, rfl⟩)
      refine (hV2 _).mono ?_
      rintro e wk ⟨sv, v1', v2', rfl, rv, zv, hbk⟩
      obtain ⟨aV, nV, cV, bV, mV, dV, rfl, rfl, rv'⟩ := rv.opens
      have halk := alloc_below (w := wk) (.cells #[.bool sv, .slice aV nV cV, .slice bV mV dV] 25)
      have tv := st_new wk (.bool sv) (.slice aV nV cV) (.slice bV mV dV) 25
      have bk := hbk.trans (halk.mono hbk.size)
      have ts7 := ts6.later bk
      have hs7 := hs6.later bk
      have hv1 := rv'.later halk
      have HB7 := HB6.trans (bk.mono HB6.size)
      obtain ⟨o8, ho8⟩ : ∃ o8, o8 = wk.heap.size := ⟨_, rfl⟩
      rw [← ho8] at tv
      have ho8' : wk.heap.size = o8 := ho8.symm
      clear rv rv' hbk halk bk HB6 ho8 hV2 ts6 hs6
      generalize hwn : wk.alloc (.cells #[.bool sv, .slice aV nV cV, .slice bV mV dV] 25) = wl at *
      obtain ⟨x0, x1, x2⟩ := tv.cells
      obtain ⟨y0, y1, y2⟩ := ts7.cells
      have hCm := cmp7_any hv1 hs7 zv zs (by omega) hC2
      go_wp2_with fail
      clear hwn ho8'
      refine hCm.mono ?_
      rintro e wm ⟨rfl, hbm⟩
      have HB8 := HB7.trans (hbm.mono HB7.size)
      have hv3 := hv1.later hbm
      have hs8 := hs7.later hbm
      clear x0 x1 x2 y0 y1 y2 hCm
      obtain ⟨x0, x1, x2⟩ := (tv.later hbm).cells
      obtain ⟨y0, y1, y2⟩ := (ts7.later hbm).cells
      have hCm := cmp7_any hv3 hs8 zv zs (by omega) hC2
      go_wp2_with fail
      refine hCm.mono ?_
      rintro e wn ⟨rfl, hbn⟩
      have HB9 := HB8.trans (hbn.mono HB8.size)
      clear hCm hC2 x0 x1 x2 y0 y1 y2 tv ts7 hv1 hs7 hv3 hs8 hbm hbn HB7 HB8
      rcases q3 with q3 | q3
      · have q3' : (v4 == vb) = true := by simp [q3]
        clear q3
        go_wp2_with (go_at_call 8; refine (num7_same _ _).mono ?_; rintro e wz ⟨rfl, rfl⟩)
        go_ret
        exact ⟨rfl, HB9⟩
      · have q3' : (v4 == vb) = false := by simp; omega
        have q4' : (v4 == vb + 1) = true := by simp [q3]
        clear q3
        go_wp2_with (go_at_call 8; refine (num7_same _ _).mono ?_; rintro e wz ⟨rfl, rfl⟩)
        go_ret
        exact ⟨rfl, HB9⟩
    · have cz : C = -1 := by rw [hCe]; exact ordN_lt q1
      subst cz
      clear hCe q1 han1
      rw [e0] at q2
      have qd : (dd == 9218868437227405311) = true := by simp [q2]
      clear q2
      rcases q3 with rfl | ⟨rfl, q3⟩
      · go_wp2_with (go_at_call 8; refine (num7_same _ _).mono ?_; rintro e wz ⟨rfl, rfl⟩)
        go_ret
        exact ⟨rfl, HB6⟩
      · have q3' : (v4 == vb) = true := by simp [q3]
        clear q3
        go_wp2_with (go_at_call 8; refine (num7_same _ _).mono ?_; rintro e wz ⟨rfl, rfl⟩)
        go_ret
        exact ⟨rfl, HB6⟩
end Go.Proofs.YtildkknpbpdnnabDoor
