/- plumbref05 on Rats: Add. -/
import Derived.Test.YtopcdpeepchgfacGreatRatKe
namespace Go.Proofs.YtopcdpeepchgfacGreat
open Go.ChangeShapes Go.WideShapes Go.ChangeAt Go.RowKit
open Na Ar
set_option linter.unusedVariables false
section
variable {w : World} {s1 s2 : Bool} {a1 b1 a2 b2 : Option Addr} {n1 c1 m1 d1 n2 c2 m2 d2 : Nat} {p q : Rat} {k l : Nat}
theorem sum_zero1 (s t : Bool) (n m D : Int) (d : Nat) (hD : D.toNat = d) (hn : n = 0) : mkR t (n + m) D = mkRat (sg s n + sg t m) d := by
  subst hn
  have : sg s 0 = 0 := by cases s <;> rfl
  rw [mkR, hD, this, Int.zero_add, Int.zero_add]
theorem sum_zero2 (s t : Bool) (n m D : Int) (d : Nat) (hD : D.toNat = d) (hm : m = 0) : mkR s (n + m) D = mkRat (sg s n + sg t m) d := by
  subst hm
  have : sg t 0 = 0 := by cases t <;> rfl
  rw [mkR, hD, this, Int.add_zero, Int.add_zero]
theorem ref2Cmp_at {w : World} {a b : Option Addr} {n c m d : Nat} {xs ys : List Int} {A B S : Int} (hr1 : RowC w a n c xs) (hr2 : RowC w b m d ys) (h1 : Nm xs A) (h2 : Nm ys B) (hn : n ≤ 1000000) (hm : m ≤ 1000000) (hS : ordN A B = S) :
    Calls Tryz.prog 27 #[.slice a n c, .slice b m d] w fun e w' => e = .returned (.int .i64 S) ∧ Below w.heap.size w w' := by
  have h := refCmp_any (c1 := c) (c2 := d) hr1.1 hr2.1 h1.ws h2.ws hn hm
  rw [h1.num, h2.num, hS] at h
  exact h
set_option maxHeartbeats 12800000 in
set_option maxRecDepth 100000 in
theorem ref5Add_ok (h1 : Rt w s1 a1 n1 c1 b1 m1 d1 p) (h2 : Rt w s2 a2 n2 c2 b2 m2 d2 q) (z1 : Sz p k) (z2 : Sz q l) (hk : k + l + 1 ≤ 4096) :
    Calls Tryz.prog 6 #[.agg #[.bool s1, .slice a1 n1 c1, .slice b1 m1 d1], .agg #[.bool s2, .slice a2 n2 c2, .slice b2 m2 d2]] w fun e w' => ∃ s v1 v2, e = .returned (.tuple #[.agg #[.bool s, v1, v2], .int .i64 0]) ∧ RtO w' w.heap.size s v1 v2 (p + q) ∧ Below w.heap.size w w' := by
  have lN : Lt ((p.num.natAbs : Int) * (q.den : Int)) (k + l) := z1.1.mul z2.2
  have lM : Lt ((q.num.natAbs : Int) * (p.den : Int)) (k + l) := (z2.1.mul z1.2).mono (by omega)
  have lD : Lt ((p.den : Int) * (q.den : Int)) (k + l) := z1.2.mul z2.2
  have hD : 0 < (p.den : Int) * (q.den : Int) := Int.mul_pos (den_pos p) (den_pos q)
  have HT : Hid (((p.den : Int) * (q.den : Int)).toNat = p.den * q.den) := toNat_mul
  have HR := add_rat p q s2
  rw [← h1.sgn, ← h2.sgn, if_pos rfl] at HR
  have HRr : Hid (mkRat (sg s1 ((p.num.natAbs : Int) * (q.den : Int)) + sg s2 ((q.num.natAbs : Int) * (p.den : Int))) (p.den * q.den) = p + q) := HR
  clear HR
  have hz1 : s1 = true → (p.num.natAbs : Int) * (q.den : Int) = 0 → False := fun hs h => by
    rcases Int.mul_eq_zero.mp h with h | h
    · have := of_decide_eq_true (h1.sgn.symm.trans hs); omega
    · have := den_pos q; omega
  have hz2 : s2 = true → (q.num.natAbs : Int) * (p.den : Int) = 0 → False := fun hs h => by
    rcases Int.mul_eq_zero.mp h with h | h
    · have := of_decide_eq_true (h2.sgn.symm.trans hs); omega
    · have := den_pos p; omega
  obtain ⟨t1, t2, t3, hb0⟩ := st_three w (.bool s1) (.slice a1 n1 c1) (.slice b1 m1 d1) (.bool s2) (.slice a2 n2 c2) (.slice b2 m2 d2) (.bool false) (.slice none 0 0) (.slice none 0 0) 24 24 24
  obtain ⟨w0, hw0⟩ : ∃ w0, w0 = ((w.alloc (.cells #[.bool s1, .slice a1 n1 c1, .slice b1 m1 d1] 24)).alloc (.cells #[.bool s2, .slice a2 n2 c2, .slice b2 m2 d2] 24)).alloc (.cells #[.bool false, .slice none 0 0, .slice none 0 0] 24) := ⟨_, rfl⟩
  rw [← hw0] at t1 t2 t3 hb0
  have r1 := h1.later hb0
  have r2 := h2.later hb0
  have l1 := h1.le z1
  have l2 := h1.leD z1
  have l3 := h2.le z2
  have l4 := h2.leD z2
  obtain ⟨g, hg⟩ : ∃ g, g = w.heap.size := ⟨_, rfl⟩
  have HG : Hid (w.heap.size = g) := hg.symm
  rw [← hg] at t1 t2 t3 hb0
  have HS : g ≤ w0.heap.size := by rw [hg]; exact hb0.size
  go_enter Tryz.func6, Tryz.ntmps6
  go_wp2_with fail
  rw [← hw0, ← hg]
  refine (ref5Two_ok r1 r2 z1 z2 (by omega) (by omega)).mono ?_
  rintro e wA ⟨rfl, hbA⟩
  have r1A := r1.later hbA
  have r2A := r2.later hbA
  have t1A := t1.later hbA
  have t2A := t2.later hbA
  have t3A := t3.later hbA
  have HA := hb0.trans (hbA.mono HS)
  have HAs : w0.heap.size ≤ wA.heap.size := hbA.size
  have sA := t3A.lt
  clear hw0 hg t1 t2 t3 r1 r2 hbA hb0 h1 h2
  have hcl : ∀ w1, Below wA.heap.size wA w1 → w1.cell? ⟨g, 0, none⟩ = some (.bool s1) ∧ w1.cell? ⟨g, 1, none⟩ = some (.slice a1 n1 c1) ∧ w1.cell? ⟨g, 2, none⟩ = some (.slice b1 m1 d1) ∧ w1.cell? ⟨g + 1, 0, none⟩ = some (.bool s2) ∧ w1.cell? ⟨g + 1, 1, none⟩ = some (.slice a2 n2 c2) ∧ w1.cell? ⟨g + 1, 2, none⟩ = some (.slice b2 m2 d2) := fun w1 h => by
    obtain ⟨x0, x1, x2⟩ := (t1A.later h).cells
    obtain ⟨y0, y1, y2⟩ := (t2A.later h).cells
    exact ⟨x0, x1, x2, y0, y1, y2⟩
  obtain ⟨x0, x1, x2, y0, y1, y2⟩ := hcl wA (Below.refl _ _)
  have f1 := fun w1 h => ref2Mul_ok (w := w1) (r1A.nu.later h) (r2A.de.later h) (nm_abs z1 (by omega)) (nm_den z2 (by omega)) (by omega) (by omega) lN (by omega)
  have f2 := fun w1 h => ref2Mul_ok (w := w1) (r2A.nu.later h) (r1A.de.later h) (nm_abs z2 (by omega)) (nm_den z1 (by omega)) (by omega) (by omega) lM (by omega)
  have f3 := fun w1 h => ref2Mul_ok (w := w1) (r1A.de.later h) (r2A.de.later h) (nm_den z1 (by omega)) (nm_den z2 (by omega)) (by omega) (by omega) lD (by omega)
  clear r1A r2A z1 z2
  generalize (p.num.natAbs : Int) * (q.den : Int) = N at *
  generalize (q.num.natAbs : Int) * (p.den : Int) = M at *
  generalize (p.den : Int) * (q.den : Int) = D at *
  generalize p.den * q.den = D' at *
  go_wp2_with fail
  refine (f1 _ (Below.refl _ _)).mono ?_
  rintro e wX ⟨xa, xn, xc, xl, rfl, rx, mx, ex, lx, hbX⟩
  obtain ⟨x0, x1, x2, y0, y1, y2⟩ := hcl wX hbX
  go_wp2_with fail
  refine (f2 _ hbX).mono ?_
  rintro e wY ⟨ya, yn, yc, yl, rfl, ry, my, ey, ly, hbY⟩
  have hBY := hbX.trans (hbY.mono hbX.size)
  obtain ⟨x0, x1, x2, y0, y1, y2⟩ := hcl wY hBY
  go_wp2_with fail
  refine (f3 _ hBY).mono ?_
  rintro e wC ⟨za, zn, zc, zl, rfl, rz, mz, _, lz, hbC⟩
  have hBC := hBY.trans (hbC.mono hBY.size)
  obtain ⟨x0, x1, x2, y0, y1, y2⟩ := hcl wC hBC
  have rxC := (rx.later hbY).later hbC
  have ryC := ry.later hbC
  have lS := lt_add1 lN lM
  clear f1 f2 f3 rx ry hbX hbY hbC hBY
  cases s1
  · cases s2
    · have HQ : Hid (mkR false (N + M) D = p + q) := by
        show _ = _
        rw [← HRr.out]
        exact sum_same false N M D _ HT.out
      clear HRr HT hz1 hz2
      go_wp2_with fail
      refine (ref2Add_ok rxC ryC mx my (by omega) (by omega) lS hk).mono ?_
      rintro e wD ⟨ua, un, uc, ul, rfl, ru, mu, _, lu, hbD⟩
      have rzD := rz.later hbD
      have hBD := hBC.trans (hbD.mono hBC.size)
      obtain ⟨x0, x1, x2, y0, y1, y2⟩ := hcl wD hBD
      clear rxC ryC rz
      go_wp2_with fail
      refine (ref5Low_any ru rzD mu mz hD (by omega) (by omega)).mono ?_
      rintro e wE ⟨s9, v1, v2, rfl, hR, hbE⟩
      rw [HQ.out] at hR
      obtain ⟨a9, n9, c9, b9, m9, d9, rfl, rfl, _⟩ := hR.opens
      have HE := hBD.trans (hbE.mono hBD.size)
      have sD := hBD.size
      have t3E := t3A.later HE
      obtain ⟨u0, u1, u2⟩ := t3E.cells
      obtain ⟨v0, v1, v2⟩ := t3E.frozen
      clear x0 x1 x2 y0 y1 y2
      go_wp2
      have st9 := (t3E.set (.bool s9) (.slice a9 n9 c9) (.slice b9 m9 d9)).cells
      refine bodyPost_ret (v := .tuple #[.agg #[.bool s9, .slice a9 n9 c9, .slice b9 m9 d9], .int .i64 0]) (by simp [results, Tryz.results6, go_sem, st9]) rfl ?_
      rw [HG.out]
      exact ⟨_, _, _, rfl, (hR.inn (in3 _ (g + 1 + 1) _ _ _) (by omega)).lower (by omega), below_in (HA.trans (HE.mono (by omega))) (in3 _ (g + 1 + 1) _ _ _) (by omega) (by rw [HG.out]; exact Nat.le_refl _)⟩
    · have hst : false ≠ true := by decide
      by_cases hN0 : N = 0
      · have e0 : ((xn : Int) == 0) = true := beq_of (by rw [← rxC.1.1, ex.out, (words_nil mx.nonneg).mpr hN0]; rfl)
        have HQ : Hid (mkR true (N + M) D = p + q) := by
          show _ = _
          rw [← HRr.out]
          exact sum_zero1 false true N M D _ HT.out hN0
        clear HRr HT hz1 hz2
        go_wp2_with fail
        refine (ref2Add_ok rxC ryC mx my (by omega) (by omega) lS hk).mono ?_
        rintro e wD ⟨ua, un, uc, ul, rfl, ru, mu, _, lu, hbD⟩
        have rzD := rz.later hbD
        have hBD := hBC.trans (hbD.mono hBC.size)
        obtain ⟨x0, x1, x2, y0, y1, y2⟩ := hcl wD hBD
        clear rxC ryC rz
        go_wp2_with fail
        refine (ref5Low_any ru rzD mu mz hD (by omega) (by omega)).mono ?_
        rintro e wE ⟨s9, v1, v2, rfl, hR, hbE⟩
        rw [HQ.out] at hR
        obtain ⟨a9, n9, c9, b9, m9, d9, rfl, rfl, _⟩ := hR.opens
        have HE := hBD.trans (hbE.mono hBD.size)
        have sD := hBD.size
        have t3E := t3A.later HE
        obtain ⟨u0, u1, u2⟩ := t3E.cells
        obtain ⟨v0, v1, v2⟩ := t3E.frozen
        clear x0 x1 x2 y0 y1 y2
        go_wp2
        have st9 := (t3E.set (.bool s9) (.slice a9 n9 c9) (.slice b9 m9 d9)).cells
        refine bodyPost_ret (v := .tuple #[.agg #[.bool s9, .slice a9 n9 c9, .slice b9 m9 d9], .int .i64 0]) (by simp [results, Tryz.results6, go_sem, st9]) rfl ?_
        rw [HG.out]
        exact ⟨_, _, _, rfl, (hR.inn (in3 _ (g + 1 + 1) _ _ _) (by omega)).lower (by omega), below_in (HA.trans (HE.mono (by omega))) (in3 _ (g + 1 + 1) _ _ _) (by omega) (by rw [HG.out]; exact Nat.le_refl _)⟩
      · have e0 : ((xn : Int) == 0) = false := beq_no (by
          intro h
          exact hN0 ((words_nil mx.nonneg).mp (by rw [← ex.out, rxC.1.1]; omega)))
        by_cases hM0 : M = 0
        · have e1 : ((yn : Int) == 0) = true := beq_of (by rw [← ryC.1.1, ey.out, (words_nil my.nonneg).mpr hM0]; rfl)
          exact (hz2 rfl hM0).elim
        · have e1 : ((yn : Int) == 0) = false := beq_no (by
            intro h
            exact hM0 ((words_nil my.nonneg).mp (by rw [← ey.out, ryC.1.1]; omega)))
          by_cases hlt : N < M
          · have HQ : Hid (mkR true (M - N) D = p + q) := by
              show _ = _
              rw [← HRr.out]
              exact sum_less false true hst N M D _ HT.out
            obtain ⟨S, hSS⟩ : ∃ S, ordN N M = S := ⟨_, rfl⟩
            have bS : S < 0 := by rw [← hSS]; unfold ordN; split <;> (try split) <;> omega
            have oc := ref2Cmp_at rxC ryC mx my (by omega) (by omega) hSS
            have os := fun w1 h => ref2Sub_ok (w := w1) (ryC.later h) (rxC.later h) my mx (by omega) (by omega) (by omega) (lM.le (by omega) (by have := mx.nonneg; have := my.nonneg; omega)) (by omega)
            clear HRr HT hSS hz1 hz2
            go_wp2_with fail
            refine oc.mono ?_
            rintro e wK ⟨rfl, hbK⟩
            have hBK := hBC.trans (hbK.mono hBC.size)
            obtain ⟨x0, x1, x2, y0, y1, y2⟩ := hcl wK hBK
            go_wp2_with fail
            refine (os _ hbK).mono ?_
            rintro e wD ⟨ua, un, uc, ul, rfl, ru, mu, _, lu, hbD⟩
            have rzD := (rz.later hbK).later hbD
            have hBD := hBK.trans (hbD.mono hBK.size)
            obtain ⟨x0, x1, x2, y0, y1, y2⟩ := hcl wD hBD
            clear rxC ryC rz oc os
            go_wp2_with fail
            refine (ref5Low_any ru rzD mu mz hD (by omega) (by omega)).mono ?_
            rintro e wE ⟨s9, v1, v2, rfl, hR, hbE⟩
            rw [HQ.out] at hR
            obtain ⟨a9, n9, c9, b9, m9, d9, rfl, rfl, _⟩ := hR.opens
            have HE := hBD.trans (hbE.mono hBD.size)
            have sD := hBD.size
            have t3E := t3A.later HE
            obtain ⟨u0, u1, u2⟩ := t3E.cells
            obtain ⟨v0, v1, v2⟩ := t3E.frozen
            clear x0 x1 x2 y0 y1 y2
            go_wp2
            have st9 := (t3E.set (.bool s9) (.slice a9 n9 c9) (.slice b9 m9 d9)).cells
            refine bodyPost_ret (v := .tuple #[.agg #[.bool s9, .slice a9 n9 c9, .slice b9 m9 d9], .int .i64 0]) (by simp [results, Tryz.results6, go_sem, st9]) rfl ?_
            rw [HG.out]
            exact ⟨_, _, _, rfl, (hR.inn (in3 _ (g + 1 + 1) _ _ _) (by omega)).lower (by omega), below_in (HA.trans (HE.mono (by omega))) (in3 _ (g + 1 + 1) _ _ _) (by omega) (by rw [HG.out]; exact Nat.le_refl _)⟩
          · have HQ : Hid (mkR false (N - M) D = p + q) := by
              show _ = _
              rw [← HRr.out]
              exact sum_more false true hst N M D _ HT.out
            obtain ⟨S, hSS⟩ : ∃ S, ordN N M = S := ⟨_, rfl⟩
            have bS : 0 ≤ S := by rw [← hSS]; unfold ordN; split <;> (try split) <;> omega
            have oc := ref2Cmp_at rxC ryC mx my (by omega) (by omega) hSS
            have os := fun w1 h => ref2Sub_ok (w := w1) (rxC.later h) (ryC.later h) mx my (by omega) (by omega) (by omega) (lN.le (by omega) (by have := mx.nonneg; have := my.nonneg; omega)) (by omega)
            clear HRr HT hSS hz1 hz2
            go_wp2_with fail
            refine oc.mono ?_
            rintro e wK ⟨rfl, hbK⟩
            have hBK := hBC.trans (hbK.mono hBC.size)
            obtain ⟨x0, x1, x2, y0, y1, y2⟩ := hcl wK hBK
            go_wp2_with fail
            refine (os _ hbK).mono ?_
            rintro e wD ⟨ua, un, uc, ul, rfl, ru, mu, _, lu, hbD⟩
            have rzD := (rz.later hbK).later hbD
            have hBD := hBK.trans (hbD.mono hBK.size)
            obtain ⟨x0, x1, x2, y0, y1, y2⟩ := hcl wD hBD
            clear rxC ryC rz oc os
            go_wp2_with fail
            refine (ref5Low_any ru rzD mu mz hD (by omega) (by omega)).mono ?_
            rintro e wE ⟨s9, v1, v2, rfl, hR, hbE⟩
            rw [HQ.out] at hR
            obtain ⟨a9, n9, c9, b9, m9, d9, rfl, rfl, _⟩ := hR.opens
            have HE := hBD.trans (hbE.mono hBD.size)
            have sD := hBD.size
            have t3E := t3A.later HE
            obtain ⟨u0, u1, u2⟩ := t3E.cells
            obtain ⟨v0, v1, v2⟩ := t3E.frozen
            clear x0 x1 x2 y0 y1 y2
            go_wp2
            have st9 := (t3E.set (.bool s9) (.slice a9 n9 c9) (.slice b9 m9 d9)).cells
            refine bodyPost_ret (v := .tuple #[.agg #[.bool s9, .slice a9 n9 c9, .slice b9 m9 d9], .int .i64 0]) (by simp [results, Tryz.results6, go_sem, st9]) rfl ?_
            rw [HG.out]
            exact ⟨_, _, _, rfl, (hR.inn (in3 _ (g + 1 + 1) _ _ _) (by omega)).lower (by omega), below_in (HA.trans (HE.mono (by omega))) (in3 _ (g + 1 + 1) _ _ _) (by omega) (by rw [HG.out]; exact Nat.le_refl _)⟩
  · cases s2
    · have hst : true ≠ false := by decide
      by_cases hN0 : N = 0
      · have e0 : ((xn : Int) == 0) = true := beq_of (by rw [← rxC.1.1, ex.out, (words_nil mx.nonneg).mpr hN0]; rfl)
        exact (hz1 rfl hN0).elim
      · have e0 : ((xn : Int) == 0) = false := beq_no (by
          intro h
          exact hN0 ((words_nil mx.nonneg).mp (by rw [← ex.out, rxC.1.1]; omega)))
        by_cases hM0 : M = 0
        · have e1 : ((yn : Int) == 0) = true := beq_of (by rw [← ryC.1.1, ey.out, (words_nil my.nonneg).mpr hM0]; rfl)
          have HQ : Hid (mkR true (N + M) D = p + q) := by
            show _ = _
            rw [← HRr.out]
            exact sum_zero2 true false N M D _ HT.out hM0
          clear HRr HT hz1 hz2
          go_wp2_with fail
          refine (ref2Add_ok rxC ryC mx my (by omega) (by omega) lS hk).mono ?_
          rintro e wD ⟨ua, un, uc, ul, rfl, ru, mu, _, lu, hbD⟩
          have rzD := rz.later hbD
          have hBD := hBC.trans (hbD.mono hBC.size)
          obtain ⟨x0, x1, x2, y0, y1, y2⟩ := hcl wD hBD
          clear rxC ryC rz
          go_wp2_with fail
          refine (ref5Low_any ru rzD mu mz hD (by omega) (by omega)).mono ?_
          rintro e wE ⟨s9, v1, v2, rfl, hR, hbE⟩
          rw [HQ.out] at hR
          obtain ⟨a9, n9, c9, b9, m9, d9, rfl, rfl, _⟩ := hR.opens
          have HE := hBD.trans (hbE.mono hBD.size)
          have sD := hBD.size
          have t3E := t3A.later HE
          obtain ⟨u0, u1, u2⟩ := t3E.cells
          obtain ⟨v0, v1, v2⟩ := t3E.frozen
          clear x0 x1 x2 y0 y1 y2
          go_wp2
          have st9 := (t3E.set (.bool s9) (.slice a9 n9 c9) (.slice b9 m9 d9)).cells
          refine bodyPost_ret (v := .tuple #[.agg #[.bool s9, .slice a9 n9 c9, .slice b9 m9 d9], .int .i64 0]) (by simp [results, Tryz.results6, go_sem, st9]) rfl ?_
          rw [HG.out]
          exact ⟨_, _, _, rfl, (hR.inn (in3 _ (g + 1 + 1) _ _ _) (by omega)).lower (by omega), below_in (HA.trans (HE.mono (by omega))) (in3 _ (g + 1 + 1) _ _ _) (by omega) (by rw [HG.out]; exact Nat.le_refl _)⟩
        · have e1 : ((yn : Int) == 0) = false := beq_no (by
            intro h
            exact hM0 ((words_nil my.nonneg).mp (by rw [← ey.out, ryC.1.1]; omega)))
          by_cases hlt : N < M
          · have HQ : Hid (mkR false (M - N) D = p + q) := by
              show _ = _
              rw [← HRr.out]
              exact sum_less true false hst N M D _ HT.out
            obtain ⟨S, hSS⟩ : ∃ S, ordN N M = S := ⟨_, rfl⟩
            have bS : S < 0 := by rw [← hSS]; unfold ordN; split <;> (try split) <;> omega
            have oc := ref2Cmp_at rxC ryC mx my (by omega) (by omega) hSS
            have os := fun w1 h => ref2Sub_ok (w := w1) (ryC.later h) (rxC.later h) my mx (by omega) (by omega) (by omega) (lM.le (by omega) (by have := mx.nonneg; have := my.nonneg; omega)) (by omega)
            clear HRr HT hSS hz1 hz2
            go_wp2_with fail
            refine oc.mono ?_
            rintro e wK ⟨rfl, hbK⟩
            have hBK := hBC.trans (hbK.mono hBC.size)
            obtain ⟨x0, x1, x2, y0, y1, y2⟩ := hcl wK hBK
            go_wp2_with fail
            refine (os _ hbK).mono ?_
            rintro e wD ⟨ua, un, uc, ul, rfl, ru, mu, _, lu, hbD⟩
            have rzD := (rz.later hbK).later hbD
            have hBD := hBK.trans (hbD.mono hBK.size)
            obtain ⟨x0, x1, x2, y0, y1, y2⟩ := hcl wD hBD
            clear rxC ryC rz oc os
            go_wp2_with fail
            refine (ref5Low_any ru rzD mu mz hD (by omega) (by omega)).mono ?_
            rintro e wE ⟨s9, v1, v2, rfl, hR, hbE⟩
            rw [HQ.out] at hR
            obtain ⟨a9, n9, c9, b9, m9, d9, rfl, rfl, _⟩ := hR.opens
            have HE := hBD.trans (hbE.mono hBD.size)
            have sD := hBD.size
            have t3E := t3A.later HE
            obtain ⟨u0, u1, u2⟩ := t3E.cells
            obtain ⟨v0, v1, v2⟩ := t3E.frozen
            clear x0 x1 x2 y0 y1 y2
            go_wp2
            have st9 := (t3E.set (.bool s9) (.slice a9 n9 c9) (.slice b9 m9 d9)).cells
            refine bodyPost_ret (v := .tuple #[.agg #[.bool s9, .slice a9 n9 c9, .slice b9 m9 d9], .int .i64 0]) (by simp [results, Tryz.results6, go_sem, st9]) rfl ?_
            rw [HG.out]
            exact ⟨_, _, _, rfl, (hR.inn (in3 _ (g + 1 + 1) _ _ _) (by omega)).lower (by omega), below_in (HA.trans (HE.mono (by omega))) (in3 _ (g + 1 + 1) _ _ _) (by omega) (by rw [HG.out]; exact Nat.le_refl _)⟩
          · have HQ : Hid (mkR true (N - M) D = p + q) := by
              show _ = _
              rw [← HRr.out]
              exact sum_more true false hst N M D _ HT.out
            obtain ⟨S, hSS⟩ : ∃ S, ordN N M = S := ⟨_, rfl⟩
            have bS : 0 ≤ S := by rw [← hSS]; unfold ordN; split <;> (try split) <;> omega
            have oc := ref2Cmp_at rxC ryC mx my (by omega) (by omega) hSS
            have os := fun w1 h => ref2Sub_ok (w := w1) (rxC.later h) (ryC.later h) mx my (by omega) (by omega) (by omega) (lN.le (by omega) (by have := mx.nonneg; have := my.nonneg; omega)) (by omega)
            clear HRr HT hSS hz1 hz2
            go_wp2_with fail
            refine oc.mono ?_
            rintro e wK ⟨rfl, hbK⟩
            have hBK := hBC.trans (hbK.mono hBC.size)
            obtain ⟨x0, x1, x2, y0, y1, y2⟩ := hcl wK hBK
            go_wp2_with fail
            refine (os _ hbK).mono ?_
            rintro e wD ⟨ua, un, uc, ul, rfl, ru, mu, _, lu, hbD⟩
            have rzD := (rz.later hbK).later hbD
            have hBD := hBK.trans (hbD.mono hBK.size)
            obtain ⟨x0, x1, x2, y0, y1, y2⟩ := hcl wD hBD
            clear rxC ryC rz oc os
            go_wp2_with fail
            refine (ref5Low_any ru rzD mu mz hD (by omega) (by omega)).mono ?_
            rintro e wE ⟨s9, v1, v2, rfl, hR, hbE⟩
            rw [HQ.out] at hR
            obtain ⟨a9, n9, c9, b9, m9, d9, rfl, rfl, _⟩ := hR.opens
            have HE := hBD.trans (hbE.mono hBD.size)
            have sD := hBD.size
            have t3E := t3A.later HE
            obtain ⟨u0, u1, u2⟩ := t3E.cells
            obtain ⟨v0, v1, v2⟩ := t3E.frozen
            clear x0 x1 x2 y0 y1 y2
            go_wp2
            have st9 := (t3E.set (.bool s9) (.slice a9 n9 c9) (.slice b9 m9 d9)).cells
            refine bodyPost_ret (v := .tuple #[.agg #[.bool s9, .slice a9 n9 c9, .slice b9 m9 d9], .int .i64 0]) (by simp [results, Tryz.results6, go_sem, st9]) rfl ?_
            rw [HG.out]
            exact ⟨_, _, _, rfl, (hR.inn (in3 _ (g + 1 + 1) _ _ _) (by omega)).lower (by omega), below_in (HA.trans (HE.mono (by omega))) (in3 _ (g + 1 + 1) _ _ _) (by omega) (by rw [HG.out]; exact Nat.le_refl _)⟩
    · have HQ : Hid (mkR true (N + M) D = p + q) := by
        show _ = _
        rw [← HRr.out]
        exact sum_same true N M D _ HT.out
      clear HRr HT hz1 hz2
      go_wp2_with fail
      refine (ref2Add_ok rxC ryC mx my (by omega) (by omega) lS hk).mono ?_
      rintro e wD ⟨ua, un, uc, ul, rfl, ru, mu, _, lu, hbD⟩
      have rzD := rz.later hbD
      have hBD := hBC.trans (hbD.mono hBC.size)
      obtain ⟨x0, x1, x2, y0, y1, y2⟩ := hcl wD hBD
      clear rxC ryC rz
      go_wp2_with fail
      refine (ref5Low_any ru rzD mu mz hD (by omega) (by omega)).mono ?_
      rintro e wE ⟨s9, v1, v2, rfl, hR, hbE⟩
      rw [HQ.out] at hR
      obtain ⟨a9, n9, c9, b9, m9, d9, rfl, rfl, _⟩ := hR.opens
      have HE := hBD.trans (hbE.mono hBD.size)
      have sD := hBD.size
      have t3E := t3A.later HE
      obtain ⟨u0, u1, u2⟩ := t3E.cells
      obtain ⟨v0, v1, v2⟩ := t3E.frozen
      clear x0 x1 x2 y0 y1 y2
      go_wp2
      have st9 := (t3E.set (.bool s9) (.slice a9 n9 c9) (.slice b9 m9 d9)).cells
      refine bodyPost_ret (v := .tuple #[.agg #[.bool s9, .slice a9 n9 c9, .slice b9 m9 d9], .int .i64 0]) (by simp [results, Tryz.results6, go_sem, st9]) rfl ?_
      rw [HG.out]
      exact ⟨_, _, _, rfl, (hR.inn (in3 _ (g + 1 + 1) _ _ _) (by omega)).lower (by omega), below_in (HA.trans (HE.mono (by omega))) (in3 _ (g + 1 + 1) _ _ _) (by omega) (by rw [HG.out]; exact Nat.le_refl _)⟩
end
end Go.Proofs.YtopcdpeepchgfacGreat
