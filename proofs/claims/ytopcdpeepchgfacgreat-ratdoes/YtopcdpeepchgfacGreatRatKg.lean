/- plumbref05 on Rats: turned, Sub, Sign, Cmp. -/
import Derived.Test.YtopcdpeepchgfacGreatRatKf
namespace Go.Proofs.YtopcdpeepchgfacGreat
open Go.ChangeShapes Go.WideShapes Go.ChangeAt Go.RowKit
open Na Ar
set_option linter.unusedVariables false
section
variable {w : World} {s s1 s2 : Bool} {a b a1 b1 a2 b2 : Option Addr} {n c m d n1 c1 m1 d1 n2 c2 m2 d2 : Nat} {p q : Rat} {k l : Nat}
theorem Rt.turn (h : Rt w s a n c b m d q) : Rt w (if 0 < n then !s else s) a n c b m d (-q) := by
  have ed : (-q).den = q.den := Rat.neg_den q
  have en : (-q).num = -q.num := Rat.neg_num q
  refine ⟨?_, by rw [en, Int.natAbs_neg]; exact h.nu, by rw [ed]; exact h.de⟩
  rw [en]
  have hl := h.len
  have z := (words_nil (N := (q.num.natAbs : Int)) (by omega))
  have hs := h.sgn
  by_cases h0 : 0 < n
  · rw [if_pos h0, hs]
    have : q.num ≠ 0 := fun e => by
      have := z.mpr (by omega)
      omega
    by_cases hl : q.num < 0
    · rw [decide_eq_true hl, decide_eq_false (by omega)]; rfl
    · rw [decide_eq_false hl, decide_eq_true (by omega)]; rfl
  · rw [if_neg h0, hs]
    have : q.num = 0 := by
      have := z.mp (by omega)
      omega
    rw [this]
    rfl
theorem Sz.neg (h : Sz q k) : Sz (-q) k := by
  have ed : (-q).den = q.den := Rat.neg_den q
  have en : (-q).num = -q.num := Rat.neg_num q
  unfold Sz
  rw [en, ed, Int.natAbs_neg]
  exact h
set_option maxHeartbeats 6400000 in
set_option maxRecDepth 100000 in
theorem turned_any (h : Rt w s a n c b m d q) :
    Calls Tryz.prog 31 #[.agg #[.bool s, .slice a n c, .slice b m d]] w fun e w' => ∃ t, e = .returned (.agg #[.bool t, .slice a n c, .slice b m d]) ∧ Rt w' t a n c b m d (-q) ∧ Below w.heap.size w w' := by
  have hT := h.turn
  by_cases h0 : 0 < n
  · rw [if_pos h0] at hT
    have h0' : (0 : Int) < (n : Int) := by omega
    have e1 : ¬ n = 0 := by omega
    clear h
    go_enter Tryz.func31, Tryz.ntmps31
    go_wp2
    obtain ⟨_, t9, hb9⟩ := st_two w (.bool (!s)) (.slice a n c) (.slice b m d) (.bool (!s)) (.slice a n c) (.slice b m d) 24 24
    have st9 := t9.cells
    refine bodyPost_ret (v := .agg #[.bool (!s), .slice a n c, .slice b m d]) (by simp [results, Tryz.results31, go_sem, st9]) rfl ?_
    exact ⟨_, rfl, hT.later hb9, hb9⟩
  · rw [if_neg h0] at hT
    have h0' : n = 0 := by omega
    clear h h0
    subst h0'
    go_enter Tryz.func31, Tryz.ntmps31
    go_wp2
    obtain ⟨_, t9, hb9⟩ := st_two w (.bool s) (.slice a 0 c) (.slice b m d) (.bool s) (.slice a 0 c) (.slice b m d) 24 24
    have st9 := t9.cells
    refine bodyPost_ret (v := .agg #[.bool s, .slice a 0 c, .slice b m d]) (by simp [results, Tryz.results31, go_sem, st9]) rfl ?_
    exact ⟨_, rfl, hT.later hb9, hb9⟩
set_option maxHeartbeats 6400000 in
set_option maxRecDepth 100000 in
theorem ref5Sub_ok (h1 : Rt w s1 a1 n1 c1 b1 m1 d1 p) (h2 : Rt w s2 a2 n2 c2 b2 m2 d2 q) (z1 : Sz p k) (z2 : Sz q l) (hk : k + l + 1 ≤ 4096) :
    Calls Tryz.prog 9 #[.agg #[.bool s1, .slice a1 n1 c1, .slice b1 m1 d1], .agg #[.bool s2, .slice a2 n2 c2, .slice b2 m2 d2]] w fun e w' => ∃ s v1 v2, e = .returned (.tuple #[.agg #[.bool s, v1, v2], .int .i64 0]) ∧ RtO w' w.heap.size s v1 v2 (p - q) ∧ Below w.heap.size w w' := by
  obtain ⟨t1, t2, t3, hb0⟩ := st_three w (.bool s1) (.slice a1 n1 c1) (.slice b1 m1 d1) (.bool s2) (.slice a2 n2 c2) (.slice b2 m2 d2) (.bool false) (.slice none 0 0) (.slice none 0 0) 24 24 24
  obtain ⟨w0, hw0⟩ : ∃ w0, w0 = ((w.alloc (.cells #[.bool s1, .slice a1 n1 c1, .slice b1 m1 d1] 24)).alloc (.cells #[.bool s2, .slice a2 n2 c2, .slice b2 m2 d2] 24)).alloc (.cells #[.bool false, .slice none 0 0, .slice none 0 0] 24) := ⟨_, rfl⟩
  rw [← hw0] at t1 t2 t3 hb0
  have r1 := h1.later hb0
  have r2 := h2.later hb0
  have l1 := h1.le z1
  have l2 := h1.leD z1
  have l3 := h2.le z2
  have l4 := h2.leD z2
  obtain ⟨g, hg⟩ : ∃ g, g = w.heap.size := ⟨_, rfl⟩
  have HG : Hid (w.heap.size = g) := hg.symm
  rw [← hg] at t1 t2 t3 hb0
  have HS : g ≤ w0.heap.size := by rw [hg]; exact hb0.size
  go_enter Tryz.func9, Tryz.ntmps9
  go_wp2_with fail
  rw [← hw0, ← hg]
  refine (ref5Two_ok r1 r2 z1 z2 (by omega) (by omega)).mono ?_
  rintro e wA ⟨rfl, hbA⟩
  have r1A := r1.later hbA
  have r2A := r2.later hbA
  have t1A := t1.later hbA
  have t2A := t2.later hbA
  have t3A := t3.later hbA
  have HA := hb0.trans (hbA.mono HS)
  have HAs : w0.heap.size ≤ wA.heap.size := hbA.size
  have sA := t3A.lt
  clear hw0 hg t1 t2 t3 r1 r2 hbA hb0 h1 h2
  have hcl : ∀ w1, Below wA.heap.size wA w1 → w1.cell? ⟨g, 0, none⟩ = some (.bool s1) ∧ w1.cell? ⟨g, 1, none⟩ = some (.slice a1 n1 c1) ∧ w1.cell? ⟨g, 2, none⟩ = some (.slice b1 m1 d1) ∧ w1.cell? ⟨g + 1, 0, none⟩ = some (.bool s2) ∧ w1.cell? ⟨g + 1, 1, none⟩ = some (.slice a2 n2 c2) ∧ w1.cell? ⟨g + 1, 2, none⟩ = some (.slice b2 m2 d2) := fun w1 h => by
    obtain ⟨x0, x1, x2⟩ := (t1A.later h).cells
    obtain ⟨y0, y1, y2⟩ := (t2A.later h).cells
    exact ⟨x0, x1, x2, y0, y1, y2⟩
  obtain ⟨x0, x1, x2, y0, y1, y2⟩ := hcl wA (Below.refl _ _)
  have f1 : ∀ w1, Below wA.heap.size wA w1 → Calls Tryz.prog 31 #[.agg #[.bool s2, .slice a2 n2 c2, .slice b2 m2 d2]] w1 fun e w' => ∃ t, e = .returned (.agg #[.bool t, .slice a2 n2 c2, .slice b2 m2 d2]) ∧ Rt w' t a2 n2 c2 b2 m2 d2 (-q) ∧ Below wA.heap.size wA w' := fun w1 h => (turned_any (r2A.later h)).mono (by
    rintro e w' ⟨t, rfl, rT, hb⟩
    exact ⟨t, rfl, rT, h.trans (hb.mono h.size)⟩)
  have f2 : ∀ w1 t, Below wA.heap.size wA w1 → Rt w1 t a2 n2 c2 b2 m2 d2 (-q) → Calls Tryz.prog 6 #[.agg #[.bool s1, .slice a1 n1 c1, .slice b1 m1 d1], .agg #[.bool t, .slice a2 n2 c2, .slice b2 m2 d2]] w1 fun e w' => ∃ s v1 v2, e = .returned (.tuple #[.agg #[.bool s, v1, v2], .int .i64 0]) ∧ RtO w' wA.heap.size s v1 v2 (p - q) ∧ Below wA.heap.size wA w' := fun w1 t h rT => (ref5Add_ok (r1A.later h) rT z1 z2.neg hk).mono (by
    rintro e w' ⟨s, v1, v2, rfl, hR, hb⟩
    rw [← Rat.sub_eq_add_neg] at hR
    exact ⟨s, v1, v2, rfl, hR.lower h.size, h.trans (hb.mono h.size)⟩)
  clear r1A r2A z1 z2
  have ne1 : ¬ g = g + 1 + 1 := by omega
  have ne3 : ¬ g + 1 + 1 = g := by omega
  go_wp2
  go_region_held3 (fun w' => w'.cell? ⟨g, 0, none⟩ = some (.bool s1) ∧ w'.cell? ⟨g, 1, none⟩ = some (.slice a1 n1 c1) ∧ w'.cell? ⟨g, 2, none⟩ = some (.slice b1 m1 d1) ∧ w'.cell? ⟨g + 1, 0, none⟩ = some (.bool s2) ∧ w'.cell? ⟨g + 1, 1, none⟩ = some (.slice a2 n2 c2) ∧ w'.cell? ⟨g + 1, 2, none⟩ = some (.slice b2 m2 d2)) (go_keep) (first | (go_at_call 31; refine (f1 _ (by first | exact Below.refl _ _ | exact below_drewN (Below.refl _ _) _)).mono ?_; rintro e wT ⟨t, rfl, rT, hBT⟩; obtain ⟨x0, x1, x2, y0, y1, y2⟩ := hcl wT hBT) | (go_at_call 6; refine (f2 _ _ (by first | exact hBT | exact below_drewN hBT _) (by first | exact rT | exact rT.later (below_drewN (Below.refl _ _) _))).mono ?_; rintro e wB ⟨s9, v1, v2, rfl, hR, hbB⟩; obtain ⟨a9, n9, c9, b9, m9, d9, rfl, rfl, _⟩ := hR.opens; obtain ⟨x0, x1, x2, y0, y1, y2⟩ := hcl wB hbB; have t3B := t3A.later hbB; obtain ⟨u0, u1, u2⟩ := t3B.cells; obtain ⟨v0, v1, v2⟩ := t3B.frozen))
  go_wp2
  have st9 := (t3B.set (.bool s9) (.slice a9 n9 c9) (.slice b9 m9 d9)).cells
  refine bodyPost_ret (v := .tuple #[.agg #[.bool s9, .slice a9 n9 c9, .slice b9 m9 d9], .int .i64 0]) (by simp [results, Tryz.results9, go_sem, st9]) rfl ?_
  rw [HG.out]
  exact ⟨_, _, _, rfl, (hR.inn (in3 _ (g + 1 + 1) _ _ _) (by omega)).lower (by omega), below_in (HA.trans (hbB.mono (by omega))) (in3 _ (g + 1 + 1) _ _ _) (by omega) (by rw [HG.out]; exact Nat.le_refl _)⟩
set_option maxHeartbeats 6400000 in
theorem ref5Sign_any {K : Int} (h1 : Rt w s1 a1 n1 c1 b1 m1 d1 p) (hn : n1 ≤ 1000000) (hK : sgnR p = K) :
    Calls Tryz.prog 47 #[.agg #[.bool s1, .slice a1 n1 c1, .slice b1 m1 d1]] w fun e w' => e = .returned (.int .i64 K) ∧ Below w.heap.size w w' := by
  have hb0 := alloc_below (w := w) (.cells #[.bool s1, .slice a1 n1 c1, .slice b1 m1 d1] 24)
  have st := st_new w (.bool s1) (.slice a1 n1 c1) (.slice b1 m1 d1) 24
  have bt := refNorm_any (cap := c1) (h1.nu.later hb0).1 (Dg_words _) hn
  have ev : val 18446744073709551616 (words (p.num.natAbs : Int)) = (p.num.natAbs : Int) := num_words (by omega)
  rw [ev] at bt
  have hs := h1.sgn
  clear h1
  by_cases h0 : p.num = 0
  · have HK : Hid (0 = K) := by show _ = _; rw [← hK]; unfold sgnR; rw [if_pos h0]
    have e : (p.num.natAbs : Int) = 0 := by omega
    rw [e, show words 0 = [] from dig_zero _] at bt
    clear hK h0 e hs ev
    go_enter Tryz.func47, Tryz.ntmps47
    go_wp2_with fail
    refine bt.mono ?_
    rintro e w1 ⟨v, rfl, ho, hb1⟩
    obtain ⟨a', c', rfl, _⟩ := ho.readsC
    clear ho bt
    go_wp2
    go_ret
    exact ⟨ret_i HK.out, hb0.trans (hb1.mono hb0.size)⟩
  · obtain ⟨j, hj⟩ : ∃ j, (words (p.num.natAbs : Int)).length = j + 1 := ⟨(words (p.num.natAbs : Int)).length - 1, by
      have : (words (p.num.natAbs : Int)).length ≠ 0 := fun e => by
        have := (words_nil (N := (p.num.natAbs : Int)) (by omega)).mp e
        omega
      omega⟩
    have tj : (((j : Int) + 1) == 0) = false := beq_no (by omega)
    have tk : (((j + 1 : Nat) : Int) == 0) = false := beq_no (by omega)
    by_cases hl : p.num < 0
    · have HK : Hid (-1 = K) := by show _ = _; rw [← hK]; unfold sgnR; rw [if_neg h0, if_pos hl]
      have hs1 : s1 = true := by rw [hs]; exact decide_eq_true hl
      subst hs1
      clear hK h0 hl hs ev
      go_enter Tryz.func47, Tryz.ntmps47
      go_wp2_with fail
      refine bt.mono ?_
      rintro e w1 ⟨v, rfl, ho, hb1⟩
      obtain ⟨a', c', rfl, _⟩ := ho.readsC
      rw [hj]
      clear ho bt hj
      obtain ⟨x0, x1, x2⟩ := (st.later hb1).cells
      go_wp2
      go_ret
      exact ⟨ret_i HK.out, hb0.trans (hb1.mono hb0.size)⟩
    · have HK : Hid (1 = K) := by show _ = _; rw [← hK]; unfold sgnR; rw [if_neg h0, if_neg hl]
      have hs1 : s1 = false := by rw [hs]; exact decide_eq_false hl
      subst hs1
      clear hK h0 hl hs ev
      go_enter Tryz.func47, Tryz.ntmps47
      go_wp2_with fail
      refine bt.mono ?_
      rintro e w1 ⟨v, rfl, ho, hb1⟩
      obtain ⟨a', c', rfl, _⟩ := ho.readsC
      rw [hj]
      clear ho bt hj
      obtain ⟨x0, x1, x2⟩ := (st.later hb1).cells
      go_wp2
      go_ret
      exact ⟨ret_i HK.out, hb0.trans (hb1.mono hb0.size)⟩
theorem sgn3 (p : Rat) : sgnR p = -1 ∨ sgnR p = 0 ∨ sgnR p = 1 := by
  unfold sgnR; split <;> (try split) <;> simp
theorem cmp_sgn (p q : Rat) (h : sgnR p = sgnR q) : ordR p q = sgnR p * ordN ((p.num.natAbs : Int) * (q.den : Int)) ((q.num.natAbs : Int) * (p.den : Int)) := by
  have e := abs_cmp p q h
  rw [ordN_alt] at e
  by_cases h0 : p.num = 0
  · have h1 : sgnR p = 0 := by unfold sgnR; rw [if_pos h0]
    have h2 : q.num = 0 := by
      rw [h1] at h
      unfold sgnR at h
      by_cases hq : q.num = 0
      · exact hq
      · rw [if_neg hq] at h
        split at h <;> omega
    rw [h1, Int.zero_mul]
    unfold ordR
    have e1 : p = 0 := Rat.num_eq_zero.mp h0
    have e2 : q = 0 := Rat.num_eq_zero.mp h2
    rw [e1, e2]
    rfl
  · by_cases hl : p.num < 0
    · have h1 : sgnR p = -1 := by unfold sgnR; rw [if_neg h0, if_pos hl]
      rw [e, decide_eq_true hl, h1, sg_true]
      omega
    · have h1 : sgnR p = 1 := by unfold sgnR; rw [if_neg h0, if_neg hl]
      rw [e, decide_eq_false hl, h1, sg_false]
      omega
set_option maxHeartbeats 6400000 in
set_option maxRecDepth 100000 in
theorem ref5Cmp_ok {K : Int} (h1 : Rt w s1 a1 n1 c1 b1 m1 d1 p) (h2 : Rt w s2 a2 n2 c2 b2 m2 d2 q) (z1 : Sz p k) (z2 : Sz q l) (hk : k + l ≤ 4096) (hK : ordR p q = K) :
    Calls Tryz.prog 17 #[.agg #[.bool s1, .slice a1 n1 c1, .slice b1 m1 d1], .agg #[.bool s2, .slice a2 n2 c2, .slice b2 m2 d2]] w fun e w' => e = .returned (.tuple #[.int .i64 K, .int .i64 0]) ∧ Below w.heap.size w w' := by
  obtain ⟨t1, t2, hb0⟩ := st_two w (.bool s1) (.slice a1 n1 c1) (.slice b1 m1 d1) (.bool s2) (.slice a2 n2 c2) (.slice b2 m2 d2) 24 24
  obtain ⟨w0, hw0⟩ : ∃ w0, w0 = (w.alloc (.cells #[.bool s1, .slice a1 n1 c1, .slice b1 m1 d1] 24)).alloc (.cells #[.bool s2, .slice a2 n2 c2, .slice b2 m2 d2] 24) := ⟨_, rfl⟩
  rw [← hw0] at t1 t2 hb0
  have r1 := h1.later hb0
  have r2 := h2.later hb0
  have l1 := h1.le z1
  have l2 := h1.leD z1
  have l3 := h2.le z2
  have l4 := h2.leD z2
  obtain ⟨g, hg⟩ : ∃ g, g = w.heap.size := ⟨_, rfl⟩
  have HG : Hid (w.heap.size = g) := hg.symm
  rw [← hg] at t1 t2 hb0
  have HS : g ≤ w0.heap.size := by rw [hg]; exact hb0.size
  go_enter Tryz.func17, Tryz.ntmps17
  go_wp2_with fail
  rw [← hw0, ← hg]
  refine (ref5Two_ok r1 r2 z1 z2 (by omega) (by omega)).mono ?_
  rintro e wA ⟨rfl, hbA⟩
  have r1A := r1.later hbA
  have r2A := r2.later hbA
  have t1A := t1.later hbA
  have t2A := t2.later hbA
  have HA := hb0.trans (hbA.mono HS)
  have HAs : w0.heap.size ≤ wA.heap.size := hbA.size
  clear hw0 hg t1 t2 r1 r2 hbA hb0 h1 h2
  have hcl : ∀ w1, Below wA.heap.size wA w1 → w1.cell? ⟨g, 0, none⟩ = some (.bool s1) ∧ w1.cell? ⟨g, 1, none⟩ = some (.slice a1 n1 c1) ∧ w1.cell? ⟨g, 2, none⟩ = some (.slice b1 m1 d1) ∧ w1.cell? ⟨g + 1, 0, none⟩ = some (.bool s2) ∧ w1.cell? ⟨g + 1, 1, none⟩ = some (.slice a2 n2 c2) ∧ w1.cell? ⟨g + 1, 2, none⟩ = some (.slice b2 m2 d2) := fun w1 h => by
    obtain ⟨x0, x1, x2⟩ := (t1A.later h).cells
    obtain ⟨y0, y1, y2⟩ := (t2A.later h).cells
    exact ⟨x0, x1, x2, y0, y1, y2⟩
  obtain ⟨x0, x1, x2, y0, y1, y2⟩ := hcl wA (Below.refl _ _)
  obtain ⟨P0, hP0⟩ : ∃ P0, sgnR p = P0 := ⟨_, rfl⟩
  obtain ⟨Q0, hQ0⟩ : ∃ Q0, sgnR q = Q0 := ⟨_, rfl⟩
  have g1 := ref5Sign_any r1A (by omega) hP0
  have g2 := fun w1 h => ref5Sign_any (w := w1) (r2A.later h) (by omega) hQ0
  go_wp2_with fail
  refine g1.mono ?_
  rintro e wS ⟨rfl, hbS⟩
  obtain ⟨x0, x1, x2, y0, y1, y2⟩ := hcl wS hbS
  go_wp2_with fail
  refine (g2 _ hbS).mono ?_
  rintro e wT ⟨rfl, hbT⟩
  have hBT := hbS.trans (hbT.mono hbS.size)
  obtain ⟨x0, x1, x2, y0, y1, y2⟩ := hcl wT hBT
  clear g1 g2
  by_cases hpq : P0 = Q0
  · have tpq : (P0 != Q0) = false := bne_of hpq
    have hK2 := cmp_sgn p q (by rw [hP0, hQ0]; exact hpq)
    rw [hK, hP0] at hK2
    have h3 := sgn3 p
    rw [hP0] at h3
    have lN : Lt ((p.num.natAbs : Int) * (q.den : Int)) (k + l) := z1.1.mul z2.2
    have lM : Lt ((q.num.natAbs : Int) * (p.den : Int)) (k + l) := (z2.1.mul z1.2).mono (by omega)
    have f1 := fun w1 h => ref2Mul_ok (w := w1) (r1A.nu.later h) (r2A.de.later h) (nm_abs z1 (by omega)) (nm_den z2 (by omega)) (by omega) (by omega) lN (by omega)
    have f2 := fun w1 h => ref2Mul_ok (w := w1) (r2A.nu.later h) (r1A.de.later h) (nm_abs z2 (by omega)) (nm_den z1 (by omega)) (by omega) (by omega) lM (by omega)
    clear r1A r2A z1 z2 hP0 hQ0
    generalize (p.num.natAbs : Int) * (q.den : Int) = N at *
    generalize (q.num.natAbs : Int) * (p.den : Int) = M at *
    obtain ⟨S, hSS⟩ : ∃ S, ordN N M = S := ⟨_, rfl⟩
    have bd := ordN_bd N M
    rw [hSS] at hK2 bd
    have HK2 : Hid (K = P0 * S) := hK2
    have H3 : Hid (P0 = -1 ∨ P0 = 0 ∨ P0 = 1) := h3
    clear hpq hK2 h3 hK
    go_wp2_with fail
    refine (f1 _ hBT).mono ?_
    rintro e wX ⟨xa, xn, xc, xl, rfl, rx, mx, _, lx, hbX⟩
    have hBX := hBT.trans (hbX.mono hBT.size)
    obtain ⟨x0, x1, x2, y0, y1, y2⟩ := hcl wX hBX
    go_wp2_with fail
    refine (f2 _ hBX).mono ?_
    rintro e wY ⟨ya, yn, yc, yl, rfl, ry, my, _, ly, hbY⟩
    have hBY := hBX.trans (hbY.mono hBX.size)
    obtain ⟨x0, x1, x2, y0, y1, y2⟩ := hcl wY hBY
    have oc := ref2Cmp_at (rx.later hbY) ry mx my (by omega) (by omega) hSS
    clear f1 f2 rx ry hSS
    go_wp2_with fail
    refine oc.mono ?_
    rintro e wZ ⟨rfl, hbZ⟩
    have hBZ := hBY.trans (hbZ.mono hBY.size)
    clear oc x0 x1 x2 y0 y1 y2 tpq
    have hK3 := HK2.out
    rcases H3.out with h | h | h
    all_goals subst h
    all_goals (first | rw [Int.zero_mul] at hK3 | rw [Int.one_mul] at hK3 | rw [Int.neg_one_mul] at hK3)
    all_goals (have HK : Hid (_ = K) := hK3.symm; clear hK3 HK2 H3)
    all_goals go_wp2
    all_goals go_ret2
    all_goals rw [HG.out]
    all_goals exact ⟨by first | (rw [HK.out]; done) | (rw [HK.out]; rfl) | (rw [← HK.out]; done) | (rw [← HK.out]; rfl), HA.trans (hBZ.mono (by omega))⟩
  · have tpq : (P0 != Q0) = true := bne_yes hpq
    have hK2 := sgn_cmp p q (by rw [hP0, hQ0]; exact hpq)
    rw [hK, hP0, hQ0] at hK2
    clear r1A r2A z1 z2 hP0 hQ0 hK
    by_cases hlt : P0 < Q0
    · rw [if_pos hlt] at hK2
      have HK : Hid (-1 = K) := hK2.symm
      clear hK2 hpq
      go_wp2
      go_ret2
      rw [HG.out]
      exact ⟨by first | (rw [← HK.out]; done) | (rw [← HK.out]; rfl), HA.trans (hBT.mono (by omega))⟩
    · rw [if_neg hlt] at hK2
      have HK : Hid (1 = K) := hK2.symm
      clear hK2 hpq
      go_wp2
      go_ret2
      rw [HG.out]
      exact ⟨by first | (rw [← HK.out]; done) | (rw [← HK.out]; rfl), HA.trans (hBT.mono (by omega))⟩
end
end Go.Proofs.YtopcdpeepchgfacGreat
