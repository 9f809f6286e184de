/- NearMonotone. -/
import Derived.Test.YtildkknpbpdnnaaDoorNearV2
import Derived.Test.YtildkknpbpdnnaaDoorNearR
namespace Go.Proofs.YtildkknpbpdnnaaDoor
open Go.ChangeShapes Go.WideShapes Go.ChangeAt Go.RowKit
open Na Ar
set_option linter.unusedVariables false
theorem round_err {A B mode b e : Int} {neg : Bool} (h : RoundIs A B false neg mode b e) : e = 0 ∨ e = 70 := by
  obtain ⟨d, _, h⟩ := h
  rcases h with ⟨_, _, h⟩ | ⟨_, ⟨_, _, h⟩ | ⟨_, _, h⟩⟩
  · exact Or.inl h
  · exact Or.inr h
  · exact Or.inl h
theorem round_form {A B mode b : Int} {neg : Bool} (h : RoundIs A B false neg mode b 0) : ∃ D, 0 ≤ D ∧ D ≤ mostP ∧ b = D + sgB neg := by
  obtain ⟨d, ⟨h0, h1, _⟩, h⟩ := h
  rcases h with ⟨_, h, _⟩ | ⟨_, ⟨_, _, h⟩ | ⟨hl, h, _⟩⟩
  · exact ⟨d, h0, h1, h⟩
  · omega
  · exact ⟨d + 1, by omega, by omega, h⟩
theorem form_rank {D b : Int} {neg : Bool} (h0 : 0 ≤ D) (h1 : D ≤ mostP) (hb : b = D + sgB neg) : ef b ≠ 2047 ∧ rk0 b = (if neg = true then -D else D) := by
  unfold mostP at h1
  have hs : sgB neg = if neg = true then 9223372036854775808 else 0 := rfl
  rw [hs] at hb
  unfold ef rk0
  cases neg
  · simp at hb ⊢
    refine ⟨by omega, ?_⟩
    split <;> omega
  · simp at hb ⊢
    refine ⟨by omega, ?_⟩
    split <;> omega
/-- the greater is not rounded below -/
theorem mono_sign {p q : Rat} {x y mode : Int} (hx : RoundIs (scA (p.num.natAbs : Int) 0) (scB (p.den : Int) 0) false (decide (p.num < 0)) mode x 0) (hy : RoundIs (scA (q.num.natAbs : Int) 0) (scB (q.den : Int) 0) false (decide (q.num < 0)) mode y 0) :
    cmE x y = 0 ∧ (ordR p q < 0 → cmW x y ≤ 0) ∧ (0 < ordR p q → 0 ≤ cmW x y) ∧ (ordR p q = 0 → x = y) := by
  obtain ⟨D1, a0, a1, a2⟩ := round_form hx
  obtain ⟨D2, b0, b1, b2⟩ := round_form hy
  obtain ⟨f1, k1⟩ := form_rank a0 a1 a2
  obtain ⟨f2, k2⟩ := form_rank b0 b1 b2
  have pB : (0 : Int) < (p.den : Int) := by have := p.den_pos; omega
  have qB : (0 : Int) < (q.den : Int) := by have := q.den_pos; omega
  have key : ∀ (p q : Rat) (x y D1 D2 : Int), 0 ≤ D1 → 0 ≤ D2 → x = D1 + sgB (decide (p.num < 0)) → y = D2 + sgB (decide (q.num < 0)) → RoundIs (scA (p.num.natAbs : Int) 0) (scB (p.den : Int) 0) false (decide (p.num < 0)) mode x 0 → RoundIs (scA (q.num.natAbs : Int) 0) (scB (q.den : Int) 0) false (decide (q.num < 0)) mode y 0 → (0 : Int) < (p.den : Int) → (0 : Int) < (q.den : Int) → p.num * (q.den : Int) < q.num * (p.den : Int) → (if decide (p.num < 0) = true then -D1 else D1) ≤ (if decide (q.num < 0) = true then -D2 else D2) := by
    intro p q x y D1 D2 h1 h2 ex ey hx hy pB qB hl
    have hE : 0 < e2 1074 := e2_pos _
    obtain ⟨s1, s2⟩ := (show scA (p.num.natAbs : Int) 0 = (p.num.natAbs : Int) * e2 1074 ∧ scB (p.den : Int) 0 = (p.den : Int) from ⟨rfl, by unfold scB; rw [e2_zero (by omega), Int.mul_one]⟩)
    obtain ⟨s3, s4⟩ := (show scA (q.num.natAbs : Int) 0 = (q.num.natAbs : Int) * e2 1074 ∧ scB (q.den : Int) 0 = (q.den : Int) from ⟨rfl, by unfold scB; rw [e2_zero (by omega), Int.mul_one]⟩)
    rw [s1, s2] at hx
    rw [s3, s4] at hy
    by_cases hp : p.num < 0
    · by_cases hq : q.num < 0
      · rw [decide_eq_true hp] at hx ex ⊢
        rw [decide_eq_true hq] at hy ey ⊢
        simp only [if_true]
        have hab : (q.num.natAbs : Int) * e2 1074 * (p.den : Int) ≤ (p.num.natAbs : Int) * e2 1074 * (q.den : Int) := by
          have e1 : (q.num.natAbs : Int) = -q.num := by omega
          have e2' : (p.num.natAbs : Int) = -p.num := by omega
          rw [e1, e2']
          have l1 : -q.num * (p.den : Int) ≤ -p.num * (q.den : Int) := by rw [Int.neg_mul, Int.neg_mul]; omega
          have l2 := Int.mul_le_mul_of_nonneg_right l1 (Int.le_of_lt hE)
          have c1 : -q.num * e2 1074 * (p.den : Int) = -q.num * (p.den : Int) * e2 1074 := by rw [Int.mul_assoc, Int.mul_comm (e2 1074), ← Int.mul_assoc]
          have c2 : -p.num * e2 1074 * (q.den : Int) = -p.num * (q.den : Int) * e2 1074 := by rw [Int.mul_assoc, Int.mul_comm (e2 1074), ← Int.mul_assoc]
          rw [c1, c2]; exact l2
        have := round_mono qB pB hab hy hx rfl rfl
        omega
      · rw [decide_eq_true hp, decide_eq_false hq]
        simp; omega
    · by_cases hq : q.num < 0
      · exfalso
        have n1 : 0 ≤ p.num * (q.den : Int) := Int.mul_nonneg (by omega) (by omega)
        have n2 : q.num * (p.den : Int) < 0 := Int.mul_neg_of_neg_of_pos hq pB
        omega
      · rw [decide_eq_false hp] at hx ex ⊢
        rw [decide_eq_false hq] at hy ey ⊢
        simp only [Bool.false_eq_true, if_false]
        have hab : (p.num.natAbs : Int) * e2 1074 * (q.den : Int) ≤ (q.num.natAbs : Int) * e2 1074 * (p.den : Int) := by
          have e1 : (q.num.natAbs : Int) = q.num := by omega
          have e2' : (p.num.natAbs : Int) = p.num := by omega
          rw [e1, e2']
          have l2 := Int.mul_le_mul_of_nonneg_right (Int.le_of_lt hl) (Int.le_of_lt hE)
          have c1 : q.num * e2 1074 * (p.den : Int) = q.num * (p.den : Int) * e2 1074 := by rw [Int.mul_assoc, Int.mul_comm (e2 1074), ← Int.mul_assoc]
          have c2 : p.num * e2 1074 * (q.den : Int) = p.num * (q.den : Int) * e2 1074 := by rw [Int.mul_assoc, Int.mul_comm (e2 1074), ← Int.mul_assoc]
          rw [c1, c2]; exact l2
        have := round_mono pB qB hab hx hy rfl rfl
        omega
  have hcm : cmW x y = ord (rk0 x) (rk0 y) := by unfold cmW; rw [if_neg f1, if_neg f2]
  refine ⟨by unfold cmE; rw [if_neg f1, if_neg f2], fun h => ?_, fun h => ?_, fun h => ?_⟩
  · have hl : p.num * (q.den : Int) < q.num * (p.den : Int) := by
      rw [ordR_num] at h
      apply Decidable.byContradiction
      intro hc
      rw [if_neg hc] at h
      split at h <;> omega
    have := key p q x y D1 D2 a0 b0 a2 b2 hx hy pB qB hl
    rw [← k1, ← k2] at this
    rw [hcm]; unfold ord; split <;> (try split) <;> omega
  · have hl : q.num * (p.den : Int) < p.num * (q.den : Int) := by
      rw [ordR_num] at h
      apply Decidable.byContradiction
      intro hc
      by_cases h1 : p.num * (q.den : Int) < q.num * (p.den : Int)
      · rw [if_pos h1] at h; omega
      · rw [if_neg h1, if_pos (by omega)] at h; omega
    have := key q p y x D2 D1 b0 a0 b2 a2 hy hx qB pB hl
    rw [← k1, ← k2] at this
    rw [hcm]; unfold ord; split <;> (try split) <;> omega
  · have := ordR_zero.mp h
    subst this
    exact (roundIs_uniq (scB_pos pB) hx hy).1
set_option maxHeartbeats 6400000 in
set_option maxRecDepth 100000 in
theorem mono_walk {w : World} {s s' : Bool} {a b a' b' : Option Addr} {n m c d n' m' c' d' : Nat} {xs ys xs' ys' : List Int} (ha : RowC w a n c xs) (hb : RowC w b m d ys) (hx : Ws xs) (hy : Ws ys) (ha' : RowC w a' n' c' xs') (hb' : RowC w b' m' d' ys') (hx' : Ws xs') (hy' : Ws ys') (hG : GrVar w) :
    Calls Tryd.prog 7 #[.agg #[.bool s, .slice a n c, .slice b m d], .agg #[.bool s', .slice a' n' c', .slice b' m' d']] w fun e w' => e = .returned (.bool true) ∧ Below w.heap.size w w' := by
  obtain ⟨tP, tQ, hb0⟩ := st_two7 w (.bool s) (.slice a n c) (.slice b m d) (.bool s') (.slice a' n' c') (.slice b' m' d') 43 43
  obtain ⟨w0, hw0⟩ : ∃ w0, w0 = (w.alloc (.cells #[.bool s, .slice a n c, .slice b m d] 43)).alloc (.cells #[.bool s', .slice a' n' c', .slice b' m' d'] 43) := ⟨_, rfl⟩
  rw [← hw0] at tP tQ hb0
  have e0 : w.heap.size + 2 ≤ w0.heap.size := by rw [hw0]; simp
  have f0 := exact7_any (s := s) (ha.later hb0) (hb.later hb0) hx hy
  have oa' := off_old ha' (Nat.le_refl _)
  have ob' := off_old hb' (Nat.le_refl _)
  have ra' := ha'.later hb0
  have rb' := hb'.later hb0
  have G0 := hG.later hb0
  have hG0 := hG.lt
  have zA : Sz (mkR s (eNum xs) (eDen ys)) 60 := Sz.mkR (eNum_lt hx) (eDen_lt hy).1 (eDen_lt hy).2
  have zB : Sz (mkR s' (eNum xs') (eDen ys')) 60 := Sz.mkR (eNum_lt hx') (eDen_lt hy').1 (eDen_lt hy').2
  clear ha hb hx hy ha' hb' hG
  generalize mkR s (eNum xs) (eDen ys) = RA at *
  obtain ⟨RB, hRB⟩ : ∃ RB, RB = mkR s' (eNum xs') (eDen ys') := ⟨_, rfl⟩
  rw [← hRB] at zB
  obtain ⟨g, hg⟩ : ∃ g, g = w.heap.size := ⟨_, rfl⟩
  have HG : Hid (w.heap.size = g) := hg.symm
  rw [← hg] at tP tQ oa' ob' e0
  have hG0' : ¬ 0 = g ∧ ¬ 0 = g + 1 := by rw [← hg] at hG0; omega
  have HB0 : Below w.heap.size w w0 := hb0
  obtain ⟨p0, p1, p2⟩ := tP.cells
  go_enter Tryd.func7, Tryd.ntmps7
  go_wp2_with fail
  rw [← hw0, ← hg]
  refine f0.mono ?_
  rintro e w1 ⟨a1, n1, c1, l1, b1, m1, d1, l2, s9, u1, u2, rfl, r1, nm1, hn1, r2, nm2, hm1, hR, ⟨of1, of2⟩, hb1⟩
  obtain ⟨a9, n9, c9, b9, m9, d9, rfl, rfl, hRt⟩ := hR.opens
  have t1 := tP.later hb1
  have sg := t1.lt
  obtain ⟨y0, y1, y2⟩ := t1.cells
  obtain ⟨v0, v1, v2⟩ := t1.frozen
  have s1' := hb1.size
  have ng1 : ¬ g = w1.heap.size := by omega
  have ng2 : ¬ w1.heap.size = g := by omega
  have iP := in3 w1 g (.bool s) (.slice a1 n1 c1) (.slice b1 m1 d1)
  obtain ⟨wP, hwP⟩ : ∃ wP, wP = ((w1.setCell ⟨g, 0, none⟩ (.bool s)).setCell ⟨g, 1, none⟩ (.slice a1 n1 c1)).setCell ⟨g, 2, none⟩ (.slice b1 m1 d1) := ⟨_, rfl⟩
  rw [← hwP] at iP
  have ewP : wP.heap.size = w1.heap.size := by rw [hwP]; simp [World.setCell]
  have hal := alloc_below (w := wP) (.cells #[.bool s9, .slice a9 n9 c9, .slice b9 m9 d9] 44)
  have tA := st_new wP (.bool s9) (.slice a9 n9 c9) (.slice b9 m9 d9) 44
  rw [ewP] at tA
  have hRA := ((hR.lower (base' := g + 2) (by omega)).inn iP (by omega)).later hal
  have tQ1 := ((tQ.later hb1).inn iP (by omega)).later hal
  have ra1 := ((ra'.later hb1).inn iP oa').later hal
  have rb1 := ((rb'.later hb1).inn iP ob').later hal
  have G1 := ((G0.later hb1).inn iP hG0'.1).later hal
  have HB1 : Below w.heap.size w (wP.alloc (.cells #[.bool s9, .slice a9 n9 c9, .slice b9 m9 d9] 44)) := by
    have h1 := below_inn (HB0.trans (hb1.mono HB0.size)) iP (by rw [HG.out]; exact Nat.le_refl _) (Nat.le_refl _)
    exact h1.trans (hal.mono h1.size)
  have s2' := hal.size
  rw [ewP] at s2'
  obtain ⟨oA, hoA⟩ : ∃ oA, oA = w1.heap.size := ⟨_, rfl⟩
  rw [← hoA] at tA s2'
  have hoA2 : g + 2 ≤ oA := by omega
  have HOA : Hid (oA = w1.heap.size) := hoA
  have HWP : Hid (wP = ((w1.setCell ⟨g, 0, none⟩ (.bool s)).setCell ⟨g, 1, none⟩ (.slice a1 n1 c1)).setCell ⟨g, 2, none⟩ (.slice b1 m1 d1)) := hwP
  clear hwP hoA ewP f0 hw0 hg p0 p1 p2 tP tQ hRt hR iP ra' rb' G0 hal r1 r2 nm1 nm2 HB0 of1 of2
  have f2 := exact7_any (s := s') ra1 rb1 hx' hy'
  rw [← hRB] at f2
  clear hRB hx' hy'
  go_upto_region 2 with (fail)
  rw [← HWP.out, ← HOA.out]
  generalize wP.alloc (.cells #[.bool s9, .slice a9 n9 c9, .slice b9 m9 d9] 44) = wG at *
  clear HWP HOA y0 y1 y2 v0 v1 v2 ng1 ng2 t1 sg ra1 rb1 s1' hb1
  obtain ⟨q0, q1, q2⟩ := tQ1.cells
  go_wp2_with fail
  refine f2.mono ?_
  rintro e w2 ⟨a1', n1', c1', l1', b1', m1', d1', l2', s8, u1, u2, rfl, r1, nm1, hn1', r2, nm2, hm1', hR, ⟨of1, of2⟩, hb2⟩
  obtain ⟨a8, n8, c8, b8, m8, d8, rfl, rfl, hRt⟩ := hR.opens
  have t2 := tQ1.later hb2
  have sg := t2.lt
  obtain ⟨y0, y1, y2⟩ := t2.cells
  obtain ⟨v0, v1, v2⟩ := t2.frozen
  have s3' := hb2.size
  have ltA := tA.lt
  have ng1 : ¬ g + 1 = w2.heap.size := by omega
  have ng2 : ¬ w2.heap.size = g + 1 := by omega
  have iP := in3 w2 (g + 1) (.bool s') (.slice a1' n1' c1') (.slice b1' m1' d1')
  obtain ⟨wP, hwP⟩ : ∃ wP, wP = ((w2.setCell ⟨g + 1, 0, none⟩ (.bool s')).setCell ⟨g + 1, 1, none⟩ (.slice a1' n1' c1')).setCell ⟨g + 1, 2, none⟩ (.slice b1' m1' d1') := ⟨_, rfl⟩
  rw [← hwP] at iP
  have ewP : wP.heap.size = w2.heap.size := by rw [hwP]; simp [World.setCell]
  have hal := alloc_below (w := wP) (.cells #[.bool s8, .slice a8 n8 c8, .slice b8 m8 d8] 44)
  have tB := st_new wP (.bool s8) (.slice a8 n8 c8) (.slice b8 m8 d8) 44
  rw [ewP] at tB
  have hRB := ((hR.lower (base' := g + 2) (by omega)).inn iP (by omega)).later hal
  have hRA2 := ((hRA.later hb2).inn iP (by omega)).later hal
  have tA2 := ((tA.later hb2).inn iP (by omega)).later hal
  have G2 := ((G1.later hb2).inn iP hG0'.2).later hal
  have HB2 : Below w.heap.size w (wP.alloc (.cells #[.bool s8, .slice a8 n8 c8, .slice b8 m8 d8] 44)) := by
    have h1 := below_inn (HB1.trans (hb2.mono HB1.size)) iP (by rw [HG.out]; omega) (Nat.le_refl _)
    exact h1.trans (hal.mono h1.size)
  obtain ⟨oB, hoB⟩ : ∃ oB, oB = w2.heap.size := ⟨_, rfl⟩
  rw [← hoB] at tB
  have HOB : Hid (oB = w2.heap.size) := hoB
  have HWP : Hid (wP = ((w2.setCell ⟨g + 1, 0, none⟩ (.bool s')).setCell ⟨g + 1, 1, none⟩ (.slice a1' n1' c1')).setCell ⟨g + 1, 2, none⟩ (.slice b1' m1' d1')) := hwP
  clear hwP hoB ewP f2 q0 q1 q2 tQ1 hRt hR iP hal r1 r2 nm1 nm2 HB1 of1 of2 hRA tA G1
  go_upto_region 3 with (fail)
  rw [← HWP.out, ← HOB.out]
  generalize wP.alloc (.cells #[.bool s8, .slice a8 n8 c8, .slice b8 m8 d8] 44) = wH at *
  clear HWP HOB y0 y1 y2 v0 v1 v2 ng1 ng2 t2 sg s3' hb2 ltA
  have hfx := fixed_any G2
  go_wp2_with fail
  refine hfx.mono ?_
  rintro e w3 ⟨rfl, hb3⟩
  have tA3 := tA2.later hb3
  have tB3 := tB.later hb3
  have rA := (hRA2.later hb3)
  have rB := (hRB.later hb3)
  have sA : Hid (s9 = decide (RA.num < 0)) := rA.sgn
  have sB : Hid (s8 = decide (RB.num < 0)) := rB.sgn
  obtain ⟨_, _, _, _, _, _, ee1, ee2, RA3⟩ := rA.opens
  obtain ⟨_, _, _, _, _, _, ee3, ee4, RB3⟩ := rB.opens
  simp only [Value.slice.injEq] at ee1 ee2 ee3 ee4
  obtain ⟨rfl, rfl, rfl⟩ := ee1
  obtain ⟨rfl, rfl, rfl⟩ := ee2
  obtain ⟨rfl, rfl, rfl⟩ := ee3
  obtain ⟨rfl, rfl, rfl⟩ := ee4
  have G3 := G2.later hb3
  have HB3 := HB2.trans (hb3.mono HB2.size)
  clear hfx tA2 tB hRA2 hRB rA rB G2 HB2 hb3
  obtain ⟨x0, x1, x2⟩ := tA3.cells
  obtain ⟨y0, y1, y2⟩ := tB3.cells
  obtain ⟨K, hK⟩ : ∃ K, ordR RA RB = K := ⟨_, rfl⟩
  have hKb : -1 ≤ K ∧ K ≤ 1 := by rw [← hK]; unfold ordR; split <;> (try split) <;> omega
  have hCm := cmp7_any RA3 RB3 zA zB (by omega) hK
  go_wp2_with fail
  refine hCm.mono ?_
  rintro e w4 ⟨rfl, hb4⟩
  have tA4 := tA3.later hb4
  have tB4 := tB3.later hb4
  have rA4 := RA3.later hb4
  have rB4 := RB3.later hb4
  have G4 := G3.later hb4
  have HB4 := HB3.trans (hb4.mono HB3.size)
  clear hCm x0 x1 x2 y0 y1 y2 tA3 tB3 RA3 RB3 G3 HB3 hb4
  have hK1 : decide (K > 1) = false := by simp; omega
  obtain ⟨hKb0, hKb1⟩ := hKb
  go_wp2
  go_loopw [10] (fun mv wr => ∃ j : Nat, mv = .int .i64 j ∧ j ≤ 5 ∧ Below w4.heap.size w4 wr) (fun mv _ => 5 - (intOf mv).toNat)
  case atStart => exact ⟨0, rfl, by omega, Below.refl _ _⟩
  case round =>
    obtain ⟨j, rfl, hj, hnx⟩ := hrel
    have tA5 := tA4.later hnx
    have tB5 := tB4.later hnx
    have rA5 := rA4.later hnx
    have rB5 := rB4.later hnx
    have G5 := G4.later hnx
    have HB5 := HB4.trans (hnx.mono HB4.size)
    by_cases hj4 : j ≤ 4
    · obtain ⟨x0, x1, x2⟩ := tA5.cells
      have hR1 := nearRat_ok (mode := (j : Int)) rA5 zA (by omega) (by omega) (by omega) G5
      go_wp2_with fail
      refine hR1.mono ?_
      rintro e wa ⟨vx, Ex, rfl, hx, ux, ba⟩
      clear x0 x1 x2 hR1
      obtain ⟨y0, y1, y2⟩ := (tB5.later ba).cells
      have hR2 := nearRat_ok (mode := (j : Int)) (rB5.later ba) zB (by omega) (by omega) (by omega) (G5.later ba)
      go_wp2_with fail
      refine hR2.mono ?_
      rintro e wb ⟨vy, Ey, rfl, hy, uy, bb⟩
      have hb9 := (hnx.trans (ba.mono hnx.size)).trans (bb.mono (Nat.le_trans hnx.size ba.size))
      rw [sA.out] at hx
      rw [sB.out] at hy
      have ex := round_err hx
      have ey := round_err hy
      have hC := f6Cmp_any ux uy wb
      clear y0 y1 y2 hR2 ba bb tA5 tB5 rA5 rB5 G5 HB5 hnx
      rcases ex with rfl | rfl
      · rcases ey with rfl | rfl
        · obtain ⟨m1', m2, m3, m4⟩ := mono_sign hx hy
          rw [hK] at m2 m3 m4
          rw [m1'] at hC
          generalize cmW vx vy = n at *
          clear hx hy ux uy
          go_wp2_with (go_at_call 11; refine (num7_same _ _).mono ?_; rintro e wz ⟨rfl, rfl⟩)
          refine hC.mono ?_
          rintro e wz ⟨rfl, rfl⟩
          clear hC
          rcases Int.lt_trichotomy K 0 with hk | hk | hk
          · have g1 := m2 hk
            have c1 : decide (K < 0) = true := by simp; omega
            have c2 : decide (n > 0) = false := by simp; omega
            have c3 : decide (K > 0) = false := by simp; omega
            have c4 : (K == 0) = false := by simp; omega
            go_wp2_with (go_at_call 11; refine (num7_same _ _).mono ?_; rintro e wz ⟨rfl, rfl⟩)
            go_roundw
            case rel => exact ⟨j + 1, by go_num, by omega, hb9⟩
            case measure => simp [intOf]; omega
          · have g1 := m4 hk
            subst g1
            have c1 : decide (K < 0) = false := by simp; omega
            have c3 : decide (K > 0) = false := by simp; omega
            have c4 : (K == 0) = true := by simp [hk]
            clear m2 m3 m4 hk
            go_wp2_with (go_at_call 11; refine (num7_same _ _).mono ?_; rintro e wz ⟨rfl, rfl⟩)
            go_roundw
            case rel => exact ⟨j + 1, by go_num, by omega, hb9⟩
            case measure => simp [intOf]; omega
          · have g1 := m3 hk
            have c1 : decide (K < 0) = false := by simp; omega
            have c2 : decide (n < 0) = false := by simp; omega
            have c3 : decide (K > 0) = true := by simp; omega
            have c4 : (K == 0) = false := by simp; omega
            go_wp2_with (go_at_call 11; refine (num7_same _ _).mono ?_; rintro e wz ⟨rfl, rfl⟩)
            go_roundw
            case rel => exact ⟨j + 1, by go_num, by omega, hb9⟩
            case measure => simp [intOf]; omega
        · clear hC hx hy
          go_wp2_with (go_at_call 11; refine (num7_same _ _).mono ?_; rintro e wz ⟨rfl, rfl⟩)
          go_roundw
          case rel => exact ⟨j + 1, by go_num, by omega, hb9⟩
          case measure => simp [intOf]; omega
      · clear hC hx
        rcases ey with rfl | rfl
        · clear hy
          go_wp2_with (go_at_call 11; refine (num7_same _ _).mono ?_; rintro e wz ⟨rfl, rfl⟩)
          go_roundw
          case rel => exact ⟨j + 1, by go_num, by omega, hb9⟩
          case measure => simp [intOf]; omega
        · clear hy
          go_wp2_with (go_at_call 11; refine (num7_same _ _).mono ?_; rintro e wz ⟨rfl, rfl⟩)
          go_roundw
          case rel => exact ⟨j + 1, by go_num, by omega, hb9⟩
          case measure => simp [intOf]; omega
    · clear tA5 tB5 rA5 rB5 G5
      go_wp2
      go_ret
      exact ⟨rfl, HB5⟩
end Go.Proofs.YtildkknpbpdnnaaDoor
