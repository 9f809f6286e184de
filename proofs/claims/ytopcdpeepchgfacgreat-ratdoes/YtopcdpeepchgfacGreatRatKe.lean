/- plumbref05 on Rats: two, Mul, Div. -/
import Derived.Test.YtopcdpeepchgfacGreatRatKd
namespace Go.Proofs.YtopcdpeepchgfacGreat
open Go.ChangeShapes Go.WideShapes Go.ChangeAt Go.RowKit
open Na Ar
set_option linter.unusedVariables false
section
variable {w : World} {a b : Option Addr} {n c m d : Nat} {xs ys : List Int} {A B : Int} {k : Nat}
theorem resE_ok {N : Int} {k : Nat} (h : Lt N k) (hk : k ≤ 4096) : resE N = 0 := if_pos (by have := h.len; omega)
theorem resL_ok {N : Int} {k : Nat} (h : Lt N k) (hk : k ≤ 4096) : resL N = words N := if_pos (by have := h.len; omega)
theorem ref2Mul_ok (hr1 : RowC w a n c xs) (hr2 : RowC w b m d ys) (h1 : Nm xs A) (h2 : Nm ys B) (hn : n ≤ 100000) (hm : m ≤ 100000) (hL : Lt (A * B) k) (hk : k ≤ 4096) :
    Calls Tryz.prog 24 #[.slice a n c, .slice b m d] w fun e w' => ∃ a2 n2 c2 l2, e = .returned (.tuple #[.slice a2 n2 c2, .int .i64 0]) ∧ RowC w' a2 n2 c2 l2 ∧ Nm l2 (A * B) ∧ Hid (l2 = words (A * B)) ∧ n2 ≤ k ∧ Below w.heap.size w w' := by
  refine (refMul_any hr1.1 hr2.1 h1.ws h2.ws hn hm).mono ?_
  rintro e w' ⟨v, rfl, ho, hb⟩
  rw [h1.num, h2.num, resL_ok hL hk] at ho
  obtain ⟨a', c', rfl, r⟩ := ho.readsC
  exact ⟨a', _, c', _, by rw [h1.num, h2.num, resE_ok hL hk], r, hL.nm (by omega), rfl, hL.len, hb⟩
theorem ref2Add_ok (hr1 : RowC w a n c xs) (hr2 : RowC w b m d ys) (h1 : Nm xs A) (h2 : Nm ys B) (hn : n ≤ 100000) (hm : m ≤ 100000) (hL : Lt (A + B) k) (hk : k ≤ 4096) :
    Calls Tryz.prog 25 #[.slice a n c, .slice b m d] w fun e w' => ∃ a2 n2 c2 l2, e = .returned (.tuple #[.slice a2 n2 c2, .int .i64 0]) ∧ RowC w' a2 n2 c2 l2 ∧ Nm l2 (A + B) ∧ Hid (l2 = words (A + B)) ∧ n2 ≤ k ∧ Below w.heap.size w w' := by
  refine (refAdd_any hr1.1 hr2.1 h1.ws h2.ws hn hm).mono ?_
  rintro e w' ⟨v, rfl, ho, hb⟩
  rw [h1.num, h2.num, resL_ok hL hk] at ho
  obtain ⟨a', c', rfl, r⟩ := ho.readsC
  exact ⟨a', _, c', _, by rw [h1.num, h2.num, resE_ok hL hk], r, hL.nm (by omega), rfl, hL.len, hb⟩
theorem ref2Sub_ok (hr1 : RowC w a n c xs) (hr2 : RowC w b m d ys) (h1 : Nm xs A) (h2 : Nm ys B) (hn : n ≤ 100000) (hm : m ≤ 100000) (hle : B ≤ A) (hL : Lt (A - B) k) (hk : k ≤ 4096) :
    Calls Tryz.prog 28 #[.slice a n c, .slice b m d] w fun e w' => ∃ a2 n2 c2 l2, e = .returned (.tuple #[.slice a2 n2 c2, .int .i64 0]) ∧ RowC w' a2 n2 c2 l2 ∧ Nm l2 (A - B) ∧ Hid (l2 = words (A - B)) ∧ n2 ≤ k ∧ Below w.heap.size w w' := by
  refine (refSub_any hr1.1 hr2.1 h1.ws h2.ws hn hm).mono ?_
  rintro e w' ⟨v, rfl, ho, hb⟩
  have e1 : subE A B = 0 := by unfold subE; rw [if_neg (by omega), resE_ok hL hk]
  have e2 : subL A B = words (A - B) := by unfold subL; rw [if_neg (by omega), resL_ok hL hk]
  rw [h1.num, h2.num, e2] at ho
  obtain ⟨a', c', rfl, r⟩ := ho.readsC
  exact ⟨a', _, c', _, by rw [h1.num, h2.num, e1], r, hL.nm (by omega), rfl, hL.len, hb⟩
end
section
variable {w : World} {s1 s2 : Bool} {a1 b1 a2 b2 : Option Addr} {n1 c1 m1 d1 n2 c2 m2 d2 : Nat} {p q : Rat} {k l : Nat}
set_option maxHeartbeats 1600000 in
theorem ref5Two_ok (h1 : Rt w s1 a1 n1 c1 b1 m1 d1 p) (h2 : Rt w s2 a2 n2 c2 b2 m2 d2 q) (z1 : Sz p k) (z2 : Sz q l) (hk : k ≤ 4096) (hl : l ≤ 4096) :
    Calls Tryz.prog 23 #[.agg #[.bool s1, .slice a1 n1 c1, .slice b1 m1 d1], .agg #[.bool s2, .slice a2 n2 c2, .slice b2 m2 d2]] w fun e w' => e = .returned (.bool true) ∧ Below w.heap.size w w' := by
  obtain ⟨t1, t2, hb0⟩ := st_two w (.bool s1) (.slice a1 n1 c1) (.slice b1 m1 d1) (.bool s2) (.slice a2 n2 c2) (.slice b2 m2 d2) 24 24
  have k1 := ref5Check_ok (h1.later hb0) z1 hk
  have r2 := h2.later hb0
  clear h1 h2
  go_enter Tryz.func23, Tryz.ntmps23
  go_wp2_with fail
  refine k1.mono ?_
  rintro e wA ⟨rfl, hbA⟩
  have t2A := t2.later hbA
  obtain ⟨x0, x1, x2⟩ := t2A.cells
  clear k1 t1 t2
  go_wp2_with fail
  refine (ref5Check_ok (r2.later hbA) z2 hl).mono ?_
  rintro e wB ⟨rfl, hbB⟩
  go_wp2
  go_ret
  exact ⟨rfl, hb0.trans ((hbA.trans (hbB.mono hbA.size)).mono hb0.size)⟩
set_option maxHeartbeats 6400000 in
set_option maxRecDepth 100000 in
theorem ref5Mul_ok (h1 : Rt w s1 a1 n1 c1 b1 m1 d1 p) (h2 : Rt w s2 a2 n2 c2 b2 m2 d2 q) (z1 : Sz p k) (z2 : Sz q l) (hk : k + l ≤ 4096) :
    Calls Tryz.prog 11 #[.agg #[.bool s1, .slice a1 n1 c1, .slice b1 m1 d1], .agg #[.bool s2, .slice a2 n2 c2, .slice b2 m2 d2]] w fun e w' => ∃ s v1 v2, e = .returned (.tuple #[.agg #[.bool s, v1, v2], .int .i64 0]) ∧ RtO w' w.heap.size s v1 v2 (p * q) ∧ Below w.heap.size w w' := by
  have lN : Lt ((p.num.natAbs : Int) * (q.num.natAbs : Int)) (k + l) := z1.1.mul z2.1
  have lD : Lt ((p.den : Int) * (q.den : Int)) (k + l) := z1.2.mul z2.2
  have hD : 0 < (p.den : Int) * (q.den : Int) := Int.mul_pos (den_pos p) (den_pos q)
  have HQ := mul_rat p q
  rw [← h1.sgn, ← h2.sgn] at HQ
  have HQh : Hid (mkR (!(s1 == s2)) ((p.num.natAbs : Int) * (q.num.natAbs : Int)) ((p.den : Int) * (q.den : Int)) = p * q) := HQ
  clear HQ
  obtain ⟨t1, t2, t3, hb0⟩ := st_three w (.bool s1) (.slice a1 n1 c1) (.slice b1 m1 d1) (.bool s2) (.slice a2 n2 c2) (.slice b2 m2 d2) (.bool false) (.slice none 0 0) (.slice none 0 0) 24 24 24
  obtain ⟨w0, hw0⟩ : ∃ w0, w0 = ((w.alloc (.cells #[.bool s1, .slice a1 n1 c1, .slice b1 m1 d1] 24)).alloc (.cells #[.bool s2, .slice a2 n2 c2, .slice b2 m2 d2] 24)).alloc (.cells #[.bool false, .slice none 0 0, .slice none 0 0] 24) := ⟨_, rfl⟩
  rw [← hw0] at t1 t2 t3 hb0
  have r1 := h1.later hb0
  have r2 := h2.later hb0
  have l1 := h1.le z1
  have l2 := h1.leD z1
  have l3 := h2.le z2
  have l4 := h2.leD z2
  obtain ⟨g, hg⟩ : ∃ g, g = w.heap.size := ⟨_, rfl⟩
  have HG : Hid (w.heap.size = g) := hg.symm
  rw [← hg] at t1 t2 t3 hb0
  have HS : g ≤ w0.heap.size := by rw [hg]; exact hb0.size
  go_enter Tryz.func11, Tryz.ntmps11
  go_wp2_with fail
  rw [← hw0, ← hg]
  refine (ref5Two_ok r1 r2 z1 z2 (by omega) (by omega)).mono ?_
  rintro e wA ⟨rfl, hbA⟩
  have r1A := r1.later hbA
  have r2A := r2.later hbA
  have t1A := t1.later hbA
  have t2A := t2.later hbA
  have t3A := t3.later hbA
  have HA := hb0.trans (hbA.mono HS)
  have HAs : w0.heap.size ≤ wA.heap.size := hbA.size
  have sA := t3A.lt
  clear hw0 hg t1 t2 t3 r1 r2 hbA hb0 h1 h2
  have hcl : ∀ w1, Below wA.heap.size wA w1 → w1.cell? ⟨g, 0, none⟩ = some (.bool s1) ∧ w1.cell? ⟨g, 1, none⟩ = some (.slice a1 n1 c1) ∧ w1.cell? ⟨g, 2, none⟩ = some (.slice b1 m1 d1) ∧ w1.cell? ⟨g + 1, 0, none⟩ = some (.bool s2) ∧ w1.cell? ⟨g + 1, 1, none⟩ = some (.slice a2 n2 c2) ∧ w1.cell? ⟨g + 1, 2, none⟩ = some (.slice b2 m2 d2) := fun w1 h => by
    obtain ⟨x0, x1, x2⟩ := (t1A.later h).cells
    obtain ⟨y0, y1, y2⟩ := (t2A.later h).cells
    exact ⟨x0, x1, x2, y0, y1, y2⟩
  obtain ⟨x0, x1, x2, y0, y1, y2⟩ := hcl wA (Below.refl _ _)
  have f1 := fun w1 h => ref2Mul_ok (w := w1) (r1A.nu.later h) (r2A.nu.later h) (nm_abs z1 (by omega)) (nm_abs z2 (by omega)) (by omega) (by omega) lN (by omega)
  have f2 := fun w1 h => ref2Mul_ok (w := w1) (r1A.de.later h) (r2A.de.later h) (nm_den z1 (by omega)) (nm_den z2 (by omega)) (by omega) (by omega) lD (by omega)
  clear r1A r2A z1 z2
  generalize (p.num.natAbs : Int) * (q.num.natAbs : Int) = N at *
  generalize (p.den : Int) * (q.den : Int) = D at *
  go_wp2_with fail
  refine (f1 _ (Below.refl _ _)).mono ?_
  rintro e wX ⟨xa, xn, xc, xl, rfl, rx, mx, _, lx, hbX⟩
  obtain ⟨x0, x1, x2, y0, y1, y2⟩ := hcl wX hbX
  go_wp2_with fail
  refine (f2 _ hbX).mono ?_
  rintro e wY ⟨ya, yn, yc, yl, rfl, ry, my, _, ly, hbY⟩
  have hBY := hbX.trans (hbY.mono hbX.size)
  obtain ⟨x0, x1, x2, y0, y1, y2⟩ := hcl wY hBY
  have rxY := rx.later hbY
  clear f1 f2 rx
  go_wp2_with fail
  refine (ref5Low_any rxY ry mx my hD (by omega) (by omega)).mono ?_
  rintro e wE ⟨s9, v1, v2, rfl, hR, hbE⟩
  rw [HQh.out] at hR
  obtain ⟨a9, n9, c9, b9, m9, d9, rfl, rfl, _⟩ := hR.opens
  have HE := hBY.trans (hbE.mono hBY.size)
  have sD := hBY.size
  have t3E := t3A.later HE
  obtain ⟨u0, u1, u2⟩ := t3E.cells
  obtain ⟨v0, v1, v2⟩ := t3E.frozen
  clear x0 x1 x2 y0 y1 y2
  go_wp2
  have st9 := (t3E.set (.bool s9) (.slice a9 n9 c9) (.slice b9 m9 d9)).cells
  refine bodyPost_ret (v := .tuple #[.agg #[.bool s9, .slice a9 n9 c9, .slice b9 m9 d9], .int .i64 0]) (by simp [results, Tryz.results11, go_sem, st9]) rfl ?_
  rw [HG.out]
  exact ⟨_, _, _, rfl, (hR.inn (in3 _ (g + 1 + 1) _ _ _) (by omega)).lower (by omega), below_in (HA.trans (HE.mono (by omega))) (in3 _ (g + 1 + 1) _ _ _) (by omega) (by rw [HG.out]; exact Nat.le_refl _)⟩
set_option maxHeartbeats 6400000 in
set_option maxRecDepth 100000 in
theorem ref5Div_ok (h1 : Rt w s1 a1 n1 c1 b1 m1 d1 p) (h2 : Rt w s2 a2 n2 c2 b2 m2 d2 q) (z1 : Sz p k) (z2 : Sz q l) (hk : k + l ≤ 4096) (hq : q ≠ 0) :
    Calls Tryz.prog 13 #[.agg #[.bool s1, .slice a1 n1 c1, .slice b1 m1 d1], .agg #[.bool s2, .slice a2 n2 c2, .slice b2 m2 d2]] w fun e w' => ∃ s v1 v2, e = .returned (.tuple #[.agg #[.bool s, v1, v2], .int .i64 0]) ∧ RtO w' w.heap.size s v1 v2 (p / q) ∧ Below w.heap.size w w' := by
  have lN : Lt ((p.num.natAbs : Int) * (q.den : Int)) (k + l) := z1.1.mul z2.2
  have lD : Lt ((p.den : Int) * (q.num.natAbs : Int)) (k + l) := z1.2.mul z2.1
  have hD : 0 < (p.den : Int) * (q.num.natAbs : Int) := Int.mul_pos (den_pos p) (by have : q.num ≠ 0 := fun h => hq (Rat.num_eq_zero.mp h); omega)
  have HQ := div_rat p q hq
  rw [← h1.sgn, ← h2.sgn] at HQ
  have HQh : Hid (mkR (!(s1 == s2)) ((p.num.natAbs : Int) * (q.den : Int)) ((p.den : Int) * (q.num.natAbs : Int)) = p / q) := HQ
  have tq : ((n2 : Int) == 0) = false := beq_no (by
    have e := h2.len
    have z := (words_nil (N := (q.num.natAbs : Int)) (by omega)).mp
    intro e0
    have z1 := z (by omega)
    have : q.num ≠ 0 := fun h => hq (Rat.num_eq_zero.mp h)
    omega)
  clear HQ
  obtain ⟨t1, t2, t3, hb0⟩ := st_three w (.bool s1) (.slice a1 n1 c1) (.slice b1 m1 d1) (.bool s2) (.slice a2 n2 c2) (.slice b2 m2 d2) (.bool false) (.slice none 0 0) (.slice none 0 0) 24 24 24
  obtain ⟨w0, hw0⟩ : ∃ w0, w0 = ((w.alloc (.cells #[.bool s1, .slice a1 n1 c1, .slice b1 m1 d1] 24)).alloc (.cells #[.bool s2, .slice a2 n2 c2, .slice b2 m2 d2] 24)).alloc (.cells #[.bool false, .slice none 0 0, .slice none 0 0] 24) := ⟨_, rfl⟩
  rw [← hw0] at t1 t2 t3 hb0
  have r1 := h1.later hb0
  have r2 := h2.later hb0
  have l1 := h1.le z1
  have l2 := h1.leD z1
  have l3 := h2.le z2
  have l4 := h2.leD z2
  obtain ⟨g, hg⟩ : ∃ g, g = w.heap.size := ⟨_, rfl⟩
  have HG : Hid (w.heap.size = g) := hg.symm
  rw [← hg] at t1 t2 t3 hb0
  have HS : g ≤ w0.heap.size := by rw [hg]; exact hb0.size
  go_enter Tryz.func13, Tryz.ntmps13
  go_wp2_with fail
  rw [← hw0, ← hg]
  refine (ref5Two_ok r1 r2 z1 z2 (by omega) (by omega)).mono ?_
  rintro e wA ⟨rfl, hbA⟩
  have r1A := r1.later hbA
  have r2A := r2.later hbA
  have t1A := t1.later hbA
  have t2A := t2.later hbA
  have t3A := t3.later hbA
  have HA := hb0.trans (hbA.mono HS)
  have HAs : w0.heap.size ≤ wA.heap.size := hbA.size
  have sA := t3A.lt
  clear hw0 hg t1 t2 t3 r1 r2 hbA hb0 h1 h2
  have hcl : ∀ w1, Below wA.heap.size wA w1 → w1.cell? ⟨g, 0, none⟩ = some (.bool s1) ∧ w1.cell? ⟨g, 1, none⟩ = some (.slice a1 n1 c1) ∧ w1.cell? ⟨g, 2, none⟩ = some (.slice b1 m1 d1) ∧ w1.cell? ⟨g + 1, 0, none⟩ = some (.bool s2) ∧ w1.cell? ⟨g + 1, 1, none⟩ = some (.slice a2 n2 c2) ∧ w1.cell? ⟨g + 1, 2, none⟩ = some (.slice b2 m2 d2) := fun w1 h => by
    obtain ⟨x0, x1, x2⟩ := (t1A.later h).cells
    obtain ⟨y0, y1, y2⟩ := (t2A.later h).cells
    exact ⟨x0, x1, x2, y0, y1, y2⟩
  obtain ⟨x0, x1, x2, y0, y1, y2⟩ := hcl wA (Below.refl _ _)
  have f1 := fun w1 h => ref2Mul_ok (w := w1) (r1A.nu.later h) (r2A.de.later h) (nm_abs z1 (by omega)) (nm_den z2 (by omega)) (by omega) (by omega) lN (by omega)
  have f2 := fun w1 h => ref2Mul_ok (w := w1) (r1A.de.later h) (r2A.nu.later h) (nm_den z1 (by omega)) (nm_abs z2 (by omega)) (by omega) (by omega) lD (by omega)
  clear r1A r2A z1 z2
  generalize (p.num.natAbs : Int) * (q.den : Int) = N at *
  generalize (p.den : Int) * (q.num.natAbs : Int) = D at *
  go_wp2_with fail
  refine (f1 _ (Below.refl _ _)).mono ?_
  rintro e wX ⟨xa, xn, xc, xl, rfl, rx, mx, _, lx, hbX⟩
  obtain ⟨x0, x1, x2, y0, y1, y2⟩ := hcl wX hbX
  go_wp2_with fail
  refine (f2 _ hbX).mono ?_
  rintro e wY ⟨ya, yn, yc, yl, rfl, ry, my, _, ly, hbY⟩
  have hBY := hbX.trans (hbY.mono hbX.size)
  obtain ⟨x0, x1, x2, y0, y1, y2⟩ := hcl wY hBY
  have rxY := rx.later hbY
  clear f1 f2 rx
  go_wp2_with fail
  refine (ref5Low_any rxY ry mx my hD (by omega) (by omega)).mono ?_
  rintro e wE ⟨s9, v1, v2, rfl, hR, hbE⟩
  rw [HQh.out] at hR
  obtain ⟨a9, n9, c9, b9, m9, d9, rfl, rfl, _⟩ := hR.opens
  have HE := hBY.trans (hbE.mono hBY.size)
  have sD := hBY.size
  have t3E := t3A.later HE
  obtain ⟨u0, u1, u2⟩ := t3E.cells
  obtain ⟨v0, v1, v2⟩ := t3E.frozen
  clear x0 x1 x2 y0 y1 y2
  go_wp2
  have st9 := (t3E.set (.bool s9) (.slice a9 n9 c9) (.slice b9 m9 d9)).cells
  refine bodyPost_ret (v := .tuple #[.agg #[.bool s9, .slice a9 n9 c9, .slice b9 m9 d9], .int .i64 0]) (by simp [results, Tryz.results13, go_sem, st9]) rfl ?_
  rw [HG.out]
  exact ⟨_, _, _, rfl, (hR.inn (in3 _ (g + 1 + 1) _ _ _) (by omega)).lower (by omega), below_in (HA.trans (HE.mono (by omega))) (in3 _ (g + 1 + 1) _ _ _) (by omega) (by rw [HG.out]; exact Nat.le_refl _)⟩
end
end Go.Proofs.YtopcdpeepchgfacGreat
