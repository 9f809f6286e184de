/- NearNearest. -/
import Derived.Test.YtildkknpbpdnnabDoorNearV2
namespace Go.Proofs.YtildkknpbpdnnabDoor
open Go.ChangeShapes Go.WideShapes Go.ChangeAt Go.RowKit
open Na Ar
set_option linter.unusedVariables false
theorem RtO.rt7 {w : World} {base : Nat} {s : Bool} {a b : Option Addr} {n c m d : Nat} {q : Rat} (h : RtO w base s (.slice a n c) (.slice b m d) q) : Rt w s a n c b m d q := by
  obtain ⟨a', n', c', b', m', d', e1, e2, r⟩ := h.opens
  simp only [Value.slice.injEq] at e1 e2
  obtain ⟨rfl, rfl, rfl⟩ := e1
  obtain ⟨rfl, rfl, rfl⟩ := e2
  exact r
/-- twice a number against two others together -/
theorem twice_ord {N D x y E : Int} (hN : 0 ≤ N) (hD : 0 < D) (hx : 0 ≤ x) (hy : 0 ≤ y) (hE : 0 < E) : ordR (mkR false N D + mkR false N D) (mkR false x E + mkR false y E) = ordN (2 * (N * E)) ((x + y) * D) := by
  rw [add_mk hD hD, add_mk hE hE]
  have n0 : 0 ≤ N * D := Int.mul_nonneg hN (by omega)
  have x0 : 0 ≤ x * E := Int.mul_nonneg hx (by omega)
  have y0 : 0 ≤ y * E := Int.mul_nonneg hy (by omega)
  rw [ordR_mk (by omega) (Int.mul_pos hD hD) (by omega) (Int.mul_pos hE hE)]
  have s1 : ∀ z : Int, sg false z = z := fun z => rfl
  rw [s1, s1]
  have e1 : (N * D + N * D) * (E * E) = 2 * (N * E) * (D * E) := by grind
  have e2 : (x * E + y * E) * (D * D) = (x + y) * D * (D * E) := by grind
  rw [e1, e2, ordN_mul (Int.mul_pos hD hE)]
theorem low_is7 : mkR false (9007199254740991 * 2 ^ 971) 1 = mkR false (numW mostP) (e2 1074) := by
  obtain ⟨m1, _⟩ := most_nums
  rw [m1, mk_eq (Int.mul_nonneg (by omega) (Int.le_of_lt (p2pos _))) (by omega) (Int.mul_nonneg (by omega) (Int.le_of_lt (e2_pos _))) (e2_pos _)]
  have s1 : ∀ z : Int, sg false z = z := fun z => rfl
  rw [s1, s1, Int.mul_one, Int.mul_assoc, ← e2_nat 971, ← e2_add (by omega) (by omega)]
  rfl
theorem scab (N D : Int) : scA N 0 = N * e2 1074 ∧ scB D 0 = D := by
  unfold scA scB
  rw [e2_zero (k := -(0 + 1074)) (by omega), Int.mul_one]
  exact ⟨rfl, rfl⟩
set_option maxHeartbeats 6400000 in
set_option maxRecDepth 100000 in
theorem nearest_walk {w : World} {s : Bool} {a b : Option Addr} {n m c d : Nat} {xs ys : List Int} (ha : RowC w a n c xs) (hb : RowC w b m d ys) (hx : Ws xs) (hy : Ws ys) (hG : GrVar w) :
    Calls Tryd.prog 4 #[.agg #[.bool s, .slice a n c, .slice b m d]] w fun e w' => e = .returned (.bool true) ∧ Below w.heap.size w w' := by
  have t0 := st_new w (.bool s) (.slice a n c) (.slice b m d) 24
  have hb0 := alloc_below (w := w) (.cells #[.bool s, .slice a n c, .slice b m d] 24)
  obtain ⟨w0, hw0⟩ : ∃ w0, w0 = w.alloc (.cells #[.bool s, .slice a n c, .slice b m d] 24) := ⟨_, rfl⟩
  rw [← hw0] at t0 hb0
  have f0 := exact7_any (s := s) (ha.later hb0) (hb.later hb0) hx hy
  have G0 := hG.later hb0
  have hG0 := hG.lt
  obtain ⟨lD, pD⟩ := eDen_lt hy
  have lN := eNum_lt hx
  have hN0 := lN.1
  clear ha hb hx hy hG
  generalize eNum xs = N at *
  generalize eDen ys = D at *
  obtain ⟨g, hg⟩ : ∃ g, g = w.heap.size := ⟨_, rfl⟩
  have HG : Hid (w.heap.size = g) := hg.symm
  rw [← hg] at t0
  have HB0 : Below w.heap.size w w0 := hb0
  obtain ⟨p0, p1, p2⟩ := t0.cells
  go_enter Tryd.func4, Tryd.ntmps4
  go_wp2_with fail
  rw [← hw0, ← hg]
  refine f0.mono ?_
  rintro e w1 ⟨a1, n1, c1, l1, b1, m1, d1, l2, s9, u1, u2, rfl, r1, nm1, hn1, r2, nm2, hm1, hR, ⟨of1, of2⟩, hb1⟩
  obtain ⟨a9, n9, c9, b9, m9, d9, rfl, rfl, hRt⟩ := hR.opens
  have t1 := t0.later hb1
  have sg := t1.lt
  obtain ⟨y0, y1, y2⟩ := t1.cells
  obtain ⟨v0, v1, v2⟩ := t1.frozen
  obtain ⟨x0, x1, x2⟩ := (t1.later (alloc_below (w := w1) (.cells #[.bool false, .slice none 0 0, .slice none 0 0] 25))).cells
  obtain ⟨z0, z1, z2⟩ := (t1.later (alloc_below (w := w1) (.cells #[.bool false, .slice none 0 0, .slice none 0 0] 25))).frozen
  have ng1 : ¬ g = w1.heap.size := by omega
  have ng2 : ¬ w1.heap.size = g := by omega
  have hgw : g < w0.heap.size := by rw [hw0]; simp [hg]
  have o1 := of1 g hgw
  have o2 := of2 g hgw
  clear of1 of2
  have iP := in3 w1 g (.bool s) (.slice a1 n1 c1) (.slice b1 m1 d1)
  have tP := t1.set (.bool s) (.slice a1 n1 c1) (.slice b1 m1 d1)
  obtain ⟨wP, hwP⟩ : ∃ wP, wP = ((w1.setCell ⟨g, 0, none⟩ (.bool s)).setCell ⟨g, 1, none⟩ (.slice a1 n1 c1)).setCell ⟨g, 2, none⟩ (.slice b1 m1 d1) := ⟨_, rfl⟩
  rw [← hwP] at iP tP
  have r1P := r1.inn iP o1
  have r2P := r2.inn iP o2
  have G1 := G0.later hb1
  have hne : ¬ 0 = g := by rw [hg]; omega
  have HB1 := HB0.trans (hb1.mono HB0.size)
  have HBP : Below w.heap.size w wP := below_inn HB1 iP (by rw [HG.out]; exact Nat.le_refl _) (Nat.le_refl _)
  have GP : GrVar wP := G1.inn iP hne
  have hal := alloc_below (w := wP) (.cells #[.bool s9, .slice a9 n9 c9, .slice b9 m9 d9] 25)
  have HWP : Hid (wP = ((w1.setCell ⟨g, 0, none⟩ (.bool s)).setCell ⟨g, 1, none⟩ (.slice a1 n1 c1)).setCell ⟨g, 2, none⟩ (.slice b1 m1 d1)) := hwP
  clear hwP
  have tQ := tP.later hal
  have r1Q := r1P.later hal
  have r2Q := r2P.later hal
  have GQ := GP.later hal
  have HBQ := HBP.trans (hal.mono HBP.size)
  have tqQ := st_new wP (.bool s9) (.slice a9 n9 c9) (.slice b9 m9 d9) 25
  have ewP : wP.heap.size = w1.heap.size := by rw [HWP.out]; simp [World.setCell]
  rw [ewP] at tqQ
  have hRQ := ((hR.lower (base' := g + 1) (by omega)).inn iP (by omega)).later hal
  clear ewP
  obtain ⟨o, ho⟩ : ∃ o, o = w1.heap.size := ⟨_, rfl⟩
  rw [← ho] at tqQ
  have HO : Hid (o = w1.heap.size) := ho
  clear ho
  have hfx := fixed_any GQ
  clear f0 hw0 hg p0 p1 p2 t0 hRt hR iP tP r1P r2P G1 HB1 HBP GP hal r1 r2
  go_wp2_with fail
  rw [← HWP.out, ← HO.out]
  clear HWP HO x0 x1 x2 z0 z1 z2 y0 y1 y2 v0 v1 v2 ng1 ng2 t1 sg
  generalize wP.alloc (.cells #[.bool s9, .slice a9 n9 c9, .slice b9 m9 d9] 25) = wQ at *
  refine hfx.mono ?_
  rintro e w2 ⟨rfl, hb2⟩
  have t2 := tQ.later hb2
  have r1 := r1Q.later hb2
  have r2 := r2Q.later hb2
  have G2 := GQ.later hb2
  have HB2 := HBQ.trans (hb2.mono HBQ.size)
  have tq := tqQ.later hb2
  have hq := hRQ.later hb2
  clear tqQ hRQ hfx tQ r1Q r2Q GQ HBQ hb2
  obtain ⟨p0, p1, p2⟩ := t2.cells
  have hQ := quotient_any (mode := 0) (neg := s) r1 r2 nm1.ws nm2.ws (by omega) (by omega) (by omega) (by omega) (by rw [nm2.num]; exact pD) G2
  rw [nm1.num, nm2.num] at hQ
  go_wp2_with fail
  refine hQ.mono ?_
  rintro e w3 ⟨v, E, rfl, hr, hU, hb3⟩
  have t3 := t2.later hb3
  have tq3 := tq.later hb3
  have hq3 := (hq.later hb3).rt7
  have HB3 := HB2.trans (hb3.mono HB2.size)
  obtain ⟨ea, eb⟩ := scab N D
  rw [ea, eb] at hr
  have hnear := even_near pD hr
  have zs : Sz (mkR false N D) 60 := Sz.mkR lN lD pD
  clear hQ hr ea eb t2 tq hq r1 r2 G2 hb3 p0 p1 p2 HB2 nm1 nm2 lN lD
  obtain ⟨y0, y1, y2⟩ := tq3.cells
  have hS := size7_any hN0 pD hq3
  go_wp2_with fail
  refine hS.mono ?_
  rintro e w4 ⟨rfl, hs4, hb4⟩
  have hal4 := alloc_below (w := w4) (.cells #[.bool false, .slice a9 n9 c9, .slice b9 m9 d9] 25)
  have ts := st_new w4 (.bool false) (.slice a9 n9 c9) (.slice b9 m9 d9) 25
  have b34 := hb4.trans (hal4.mono hb4.size)
  have t5 := t3.later b34
  have hs5 := hs4.later hal4
  have HB5 := HB3.trans (b34.mono HB3.size)
  obtain ⟨o5, ho5⟩ : ∃ o5, o5 = w4.heap.size := ⟨_, rfl⟩
  rw [← ho5] at ts
  have ho5' : w4.heap.size = o5 := ho5.symm
  clear hS t3 tq3 hq3 HB3 y0 y1 y2 hs4 hb4 hal4 b34 ho5
  generalize hw5 : w4.alloc (.cells #[.bool false, .slice a9 n9 c9, .slice b9 m9 d9] 25) = w5 at *
  obtain ⟨x0, x1, x2⟩ := t5.cells
  obtain ⟨y0, y1, y2⟩ := ts.cells
  have hE : 0 < e2 1074 := e2_pos _
  have hnm : 0 ≤ numW mostP ∧ 0 ≤ nxtN mostP := by
    have h1 := num_nonneg' (p := mostP) (by decide) (Int.le_refl _)
    have h2 := nxt_gt mostP
    omega
  rcases hnear with ⟨rfl, rfl, hov⟩ | ⟨rfl, dd, d0, d1, rfl, h2A, heq, hlow⟩
  · -- too great
    obtain ⟨C, hC⟩ : ∃ C, ordR (mkR false N D + mkR false N D) (mkR false (1 * 2 ^ (1024 : Int).toNat) 1 + mkR false (9007199254740991 * 2 ^ (971 : Int).toNat) 1) = C := ⟨_, rfl⟩
    have n1024 : (1024 : Int).toNat = 1024 := rfl
    have n971 : (971 : Int).toNat = 971 := rfl
    have hCb : 0 ≤ C ∧ C ≤ 1 := by
      rw [← hC, n1024, n971, top_is7, low_is7, twice_ord hN0 pD hnm.2 hnm.1 hE]
      have hbd := ordN_bd (2 * (N * e2 1074)) ((nxtN mostP + numW mostP) * D)
      refine ⟨?_, hbd.2⟩
      apply Decidable.byContradiction
      intro hc
      have : ordN (2 * (N * e2 1074)) ((nxtN mostP + numW mostP) * D) ≤ 0 := by omega
      have h3 : ordN (2 * (N * e2 1074)) ((nxtN mostP + numW mostP) * D) ≠ 0 := by omega
      have h4 := ordN_le.mp this
      rw [Int.add_comm] at h4
      have h5 : 2 * (N * e2 1074) = (nxtN mostP + numW mostP) * D := by rw [Int.add_comm (nxtN mostP)]; omega
      exact h3 (ordN_eq h5)
    clear n1024 n971 hov hnm
    go_wp2_with fail
    refine (num7_same 70 w5).mono ?_
    rintro e w6 ⟨rfl, rfl⟩
    clear hw5 ho5'
    go_wp2
    have hwG : ∀ w1 (m t : Int), U m → 0 ≤ t → t ≤ 1100 → Below w5.heap.size w5 w1 → Calls Tryd.prog 13 #[.bool false, .int .u64 m, .int .i64 t] w1 fun e w' => ∃ s v1 v2, e = .returned (.agg #[.bool s, v1, v2]) ∧ RtO w' w1.heap.size s v1 v2 (mkR false (m * 2 ^ t.toNat) 1) ∧ Sz (mkR false (m * 2 ^ t.toNat) 1) 20 ∧ Below w5.heap.size w5 w' ∧ Below w1.heap.size w1 w' := fun w1 m t hm ht0 ht1 h => by
      have hh := whole7_any (neg := false) hm t.toNat (by omega) w1
      rw [show ((t.toNat : Nat) : Int) = t by omega] at hh
      refine hh.mono ?_
      rintro e w' ⟨s, v1, v2, rfl, r, z, hb⟩
      exact ⟨s, v1, v2, rfl, r, z, h.trans (hb.mono h.size), hb⟩
    go_region_held3 (fun w' => w'.cell? ⟨o5, 0, none⟩ = some (.bool false) ∧ w'.cell? ⟨o5, 1, none⟩ = some (.slice a9 n9 c9) ∧ w'.cell? ⟨o5, 2, none⟩ = some (.slice b9 m9 d9)) (go_keep) (first | (go_at_call 13; refine (hwG _ _ _ (by unfold U; omega) (by omega) (by omega) (by first | exact Below.refl _ _ | exact below_drewN (Below.refl _ _) _)).mono ?_; rintro e wA ⟨sA, v1, v2, rfl, rA, zA, hBA, _⟩; obtain ⟨aA, nA, cA, bA, mA, dA, rfl, rfl, rA'⟩ := rA.opens; obtain ⟨y0, y1, y2⟩ := (ts.later hBA).cells) | (go_at_call 13; refine (hwG _ _ _ (by unfold U; omega) (by omega) (by omega) (by first | exact hBA | exact below_drewN hBA _)).mono ?_; rintro e wB ⟨sB, v1, v2, rfl, rB, zB, hBB, hbB⟩; obtain ⟨aB, nB, cB, bB, mB, dB, rfl, rfl, rB'⟩ := rB.opens; obtain ⟨y0, y1, y2⟩ := (ts.later hBB).cells; have hT := twice7_any (rA'.later hbB) rB' (hs5.later hBB) zA zB zs (by omega) (by omega) hC) | (go_at_call 12; refine hT.mono ?_; rintro e wC ⟨rfl, hbC⟩; have hBC := hBB.trans (hbC.mono hBB.size); obtain ⟨y0, y1, y2⟩ := (ts.later hBC).cells))
    have HBC := HB5.trans (hBC.mono HB5.size)
    have tc1 : decide (C ≥ 0) = true := by simp; omega
    have tc2 : decide (C < 9) = true := by simp; omega
    obtain ⟨cb0, cb1⟩ := hCb
    clear hC hwG hT
    go_wp2
    go_ret
    exact ⟨rfl, HBC⟩
  · obtain ⟨ud, fd, _⟩ := size_fin d0 d1
    have hnum := num_nonneg' d0 d1
    have hnx := nxt_gt dd
    have e0 : mostP = 9218868437227405311 := rfl
    obtain ⟨vb, hvb⟩ : ∃ vb, vb = dd + sgB s := ⟨_, rfl⟩
    rw [← hvb] at hU ⊢
    have hsg : sgB s = if s = true then 9223372036854775808 else 0 := rfl
    have hsn : (bits .and .u64 vb 9223372036854775808 != 0) = s := by
      rw [sign_ne hU, hvb, hsg]
      rw [e0] at d1
      cases s <;> simp <;> omega
    have han : bits .andNot .u64 vb 9223372036854775808 = dd := by
      rw [size_bits hU, hvb, hsg]
      rw [e0] at d1
      unfold mg
      cases s <;> simp <;> omega
    have hone := and_one ud
    clear hvb hsg
    obtain ⟨C1, hC1⟩ : ∃ C1, ordR (mkR false N D + mkR false N D) (valR dd + mkR false (nxtN dd) (e2 1074)) = C1 := ⟨_, rfl⟩
    have hC1' : C1 ≤ 0 ∧ -1 ≤ C1 ∧ (C1 = 0 → dd % 2 = 0 ∧ dd ≠ 9218868437227405311) := by
      rw [← hC1, valR_low d0 d1, twice_ord hN0 pD hnum (by omega) hE]
      refine ⟨ordN_le.mpr h2A, (ordN_bd _ _).1, fun h => ?_⟩
      apply heq
      have h3 := ordN_zero (2 * (N * e2 1074)) ((numW dd + nxtN dd) * D)
      rw [h] at h3
      exact of_decide_eq_true h3
    obtain ⟨k1, k2, k3⟩ := hC1'
    have hV := fun w1 => value7_any ud fd w1
    have hA := fun w1 => above7_any d0 d1 w1
    clear h2A heq hnm
    go_wp2_with fail
    refine (num7_same 0 w5).mono ?_
    rintro e w6 ⟨rfl, rfl⟩
    clear hw5 ho5'
    go_wp2_with fail
    refine (num7_same 0 w5).mono ?_
    rintro e w6 ⟨rfl, rfl⟩
    go_wp2_with fail
    refine (hV w5).mono ?_
    rintro e w6 ⟨sv, v1, v2, rfl, rv, zv, hb6⟩
    obtain ⟨aV, nV, cV, bV, mV, dV, rfl, rfl, rv'⟩ := rv.opens
    have hal6 := alloc_below (w := w6) (.cells #[.bool sv, .slice aV nV cV, .slice bV mV dV] 25)
    have tv := st_new w6 (.bool sv) (.slice aV nV cV) (.slice bV mV dV) 25
    have b6 := hb6.trans (hal6.mono hb6.size)
    have t7 := t5.later b6
    have ts7 := ts.later b6
    have hs7 := hs5.later b6
    have hv7 := rv'.later hal6
    have HB7 := HB5.trans (b6.mono HB5.size)
    obtain ⟨o6, ho6⟩ : ∃ o6, o6 = w6.heap.size := ⟨_, rfl⟩
    rw [← ho6] at tv
    have ho6' : w6.heap.size = o6 := ho6.symm
    clear rv rv' hb6 hal6 b6 t5 ts hs5 HB5 ho6 x0 x1 x2 y0 y1 y2
    generalize hw7 : w6.alloc (.cells #[.bool sv, .slice aV nV cV, .slice bV mV dV] 25) = w7 at *
    go_wp2_with fail
    clear hw7 ho6'
    refine (hA w7).mono ?_
    rintro e w8 ⟨sw, v1, v2, rfl, rw8, zw, hb8⟩
    obtain ⟨aW, nW, cW, bW, mW, dW, rfl, rfl, rw8'⟩ := rw8.opens
    have hal8 := alloc_below (w := w8) (.cells #[.bool sw, .slice aW nW cW, .slice bW mW dW] 25)
    have tw := st_new w8 (.bool sw) (.slice aW nW cW) (.slice bW mW dW) 25
    have b8 := hb8.trans (hal8.mono hb8.size)
    have ts9 := ts7.later b8
    have hs9 := hs7.later b8
    have tv9 := tv.later b8
    have hv9 := hv7.later b8
    have hw9 := rw8'.later hal8
    have HB9 := HB7.trans (b8.mono HB7.size)
    obtain ⟨o8, ho8⟩ : ∃ o8, o8 = w8.heap.size := ⟨_, rfl⟩
    rw [← ho8] at tw
    have ho8' : w8.heap.size = o8 := ho8.symm
    clear hA rw8 rw8' hb8 hal8 b8 t7 ts7 hs7 tv hv7 HB7 ho8
    generalize hwn : w8.alloc (.cells #[.bool sw, .slice aW nW cW, .slice bW mW dW] 25) = w9 at *
    obtain ⟨x0, x1, x2⟩ := tv9.cells
    obtain ⟨y0, y1, y2⟩ := tw.cells
    obtain ⟨q0, q1, q2⟩ := ts9.cells
    have hT := twice7_any hv9 hw9 hs9 zv zw zs (by omega) (by omega) hC1
    go_wp2_with fail
    clear hwn ho8'
    refine hT.mono ?_
    rintro e wa ⟨rfl, hba⟩
    have HBa := HB9.trans (hba.mono HB9.size)
    have tsa := ts9.later hba
    have hsa := hs9.later hba
    have tva := tv9.later hba
    have hva := hv9.later hba
    clear hT hC1 x0 x1 x2 y0 y1 y2 q0 q1 q2 ts9 hs9 tv9 hv9 hw9 tw zw HB9 hba
    have c1 : decide (C1 > 0) = false := by simp; omega
    have c1' : decide (0 < C1) = false := by simp; omega
    have hpass : (C1 == 0) = false ∨ ((C1 == 0) = true ∧ (dd % 2 == 1) = false ∧ (dd == 9218868437227405311) = false) := by
      by_cases h : C1 = 0
      · right
        obtain ⟨h1, h2⟩ := k3 h
        exact ⟨by simp [h], by rw [h1]; rfl, by simp [h2]⟩
      · left; simp [h]
    by_cases hd0 : dd = 0
    · subst hd0
      clear hlow hV
      rcases hpass with hp | ⟨hp1, hp2, hp3⟩
      · go_wp2
        go_ret
        exact ⟨rfl, HBa⟩
      · go_wp2
        go_ret
        exact ⟨rfl, HBa⟩
    · obtain ⟨hl1, hl2⟩ := hlow hd0
      have td0 : (dd == 0) = false := by simp [hd0]
      obtain ⟨ue, fe, _⟩ := size_fin (p := dd - 1) (by omega) (by omega)
      have hnum1 := num_nonneg' (p := dd - 1) (by omega) (by omega)
      obtain ⟨C2, hC2⟩ : ∃ C2, ordR (mkR false N D + mkR false N D) (valR (dd - 1) + valR dd) = C2 := ⟨_, rfl⟩
      have hC2' : 0 ≤ C2 ∧ C2 ≤ 1 ∧ (C2 = 0 → dd % 2 = 0) := by
        rw [← hC2, valR_low d0 d1, valR_low (by omega) (by omega), twice_ord hN0 pD hnum1 hnum hE]
        have hbd := ordN_bd (2 * (N * e2 1074)) ((numW (dd - 1) + numW dd) * D)
        refine ⟨?_, hbd.2, fun h => ?_⟩
        · apply Decidable.byContradiction
          intro hc
          have h1 : ordN (2 * (N * e2 1074)) ((numW (dd - 1) + numW dd) * D) ≤ 0 := by omega
          have h4 := ordN_le.mp h1
          have h5 : 2 * (N * e2 1074) = (numW (dd - 1) + numW dd) * D := by omega
          have := ordN_eq h5
          omega
        · apply hl2
          have h3 := ordN_zero (2 * (N * e2 1074)) ((numW (dd - 1) + numW dd) * D)
          rw [h] at h3
          exact (of_decide_eq_true h3).symm
      obtain ⟨g1, g2, g3⟩ := hC2'
      have hV2 := value7_any ue fe wa
      have hge : 1 ≤ dd := by omega
      rw [e0] at d1
      clear hlow hV hl1 hl2 hd0
      have hgo : (C2 > 0) ∨ (C2 = 0 ∧ dd % 2 = 0) := by
        by_cases h : C2 = 0
        · exact Or.inr ⟨h, g3 h⟩
        · left; omega
      rcases hpass with hp | ⟨hp1, hp2, hp3⟩
      all_goals
        go_wp2_with fail
        refine hV2.mono ?_
        rintro e wb ⟨su, v1, v2, rfl, ru, zu, hbb⟩
        obtain ⟨aU, nU, cU, bU, mU, dU, rfl, rfl, ru'⟩ := ru.opens
        have halb := alloc_below (w := wb) (.cells #[.bool su, .slice aU nU cU, .slice bU mU dU] 25)
        have tu := st_new wb (.bool su) (.slice aU nU cU) (.slice bU mU dU) 25
        have bb := hbb.trans (halb.mono hbb.size)
        have tsb := tsa.later bb
        have hsb := hsa.later bb
        have tvb := tva.later bb
        have hvb := hva.later bb
        have hub := ru'.later halb
        have HBb := HBa.trans (bb.mono HBa.size)
        obtain ⟨ob, hob⟩ : ∃ ob, ob = wb.heap.size := ⟨_, rfl⟩
        rw [← hob] at tu
        have hob' : wb.heap.size = ob := hob.symm
        clear hV2 ru ru' hbb halb bb tsa hsa tva hva HBa hob
        generalize hwn : wb.alloc (.cells #[.bool su, .slice aU nU cU, .slice bU mU dU] 25) = wc at *
        obtain ⟨x0, x1, x2⟩ := tu.cells
        obtain ⟨y0, y1, y2⟩ := tvb.cells
        obtain ⟨q0, q1, q2⟩ := tsb.cells
        have hT := twice7_any hub hvb hsb zu zv zs (by omega) (by omega) hC2
        go_wp2_with fail
        clear hwn hob'
        refine hT.mono ?_
        rintro e wd ⟨rfl, hbd⟩
        have HBd := HBb.trans (hbd.mono HBb.size)
        clear hT hC2 x0 x1 x2 y0 y1 y2 q0 q1 q2 tsb hsb tvb hvb tu hub HBb hbd
        have cc1 : decide (C2 ≥ 0) = true := by simp; omega
        have cc2 : decide (C2 < 9) = true := by simp; omega
        rcases hgo with hgo | ⟨hgo, hev⟩
        · have cc3 : decide (C2 > 0) = true := by simp; omega
          go_wp2
          go_ret
          exact ⟨rfl, HBd⟩
        · have cc3 : decide (C2 > 0) = false := by simp; omega
          have cc4 : (dd % 2 == 0) = true := by rw [hev]; rfl
          go_wp2
          go_ret
          exact ⟨rfl, HBd⟩
end Go.Proofs.YtildkknpbpdnnabDoor
