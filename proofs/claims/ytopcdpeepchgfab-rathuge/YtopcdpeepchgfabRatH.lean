/- package rat: products that just fit; products that are too long. -/
import Derived.Test.YtopcdpeepchgfabRatF
import Derived.WalkLawsBesides
namespace Go.Proofs.Ytopcdpeepchgfab
open Go.ChangeShapes Go.WideShapes Go.ChangeAt Go.RowKit
open Na Ar
set_option linter.unusedVariables false
section
variable {w : World} {s1 s2 : Bool} {a1 b1 a2 b2 : Option Addr} {n1 c1 m1 d1 n2 c2 m2 d2 : Nat} {p q : Rat} {k l Kw : Nat}
set_option maxHeartbeats 6400000 in
set_option maxRecDepth 100000 in
theorem rMul_w (h1 : Rt w s1 a1 n1 c1 b1 m1 d1 p) (h2 : Rt w s2 a2 n2 c2 b2 m2 d2 q) (z1 : Sz p k) (z2 : Sz q l) (hk : k ≤ 4096) (hl : l ≤ 4096) (lN : Lt ((p.num.natAbs : Int) * (q.num.natAbs : Int)) Kw) (lD : Lt ((p.den : Int) * (q.den : Int)) Kw) (hK : Kw ≤ 4096) :
    Calls Try.prog 40 #[.agg #[.bool s1, .slice a1 n1 c1, .slice b1 m1 d1], .agg #[.bool s2, .slice a2 n2 c2, .slice b2 m2 d2]] w fun e w' => ∃ s v1 v2, e = .returned (.tuple #[.agg #[.bool s, v1, v2], .int .i64 0]) ∧ RtO w' w.heap.size s v1 v2 (p * q) ∧ Sz (p * q) Kw ∧ Below w.heap.size w w' := by
  have hD : 0 < (p.den : Int) * (q.den : Int) := Int.mul_pos (den_pos p) (den_pos q)
  have HQ := mul_rat p q
  rw [← h1.sgn, ← h2.sgn] at HQ
  have hsz := Sz.mkR (s := (s1 != s2)) lN lD hD
  rw [HQ] at hsz
  have HQh : Hid (mkR (!(s1 == s2)) ((p.num.natAbs : Int) * (q.num.natAbs : Int)) ((p.den : Int) * (q.den : Int)) = p * q) := HQ
  clear HQ
  have hmf : ∀ (fn : Fn) (first cap : Array Value) (w : World), (Instr.makeFunc fn first cap).run Try.prog w = .ok (.func fn first cap) w := fun _ _ _ _ => rfl
  obtain ⟨t1, t2, t3, t4, hb0, e0⟩ := st_four w (.bool s1) (.slice a1 n1 c1) (.slice b1 m1 d1) (.bool s2) (.slice a2 n2 c2) (.slice b2 m2 d2)
  obtain ⟨w0, hw0⟩ : ∃ w0, w0 = (((w.alloc (.cells #[.bool s1, .slice a1 n1 c1, .slice b1 m1 d1] 47)).alloc (.cells #[.bool s2, .slice a2 n2 c2, .slice b2 m2 d2] 47)).alloc (.cells #[.bool false, .slice none 0 0, .slice none 0 0] 47)).alloc (.cells #[.int .i64 0] 28) := ⟨_, rfl⟩
  rw [← hw0] at t1 t2 t3 t4 hb0 e0
  have r1 := h1.later hb0
  have r2 := h2.later hb0
  obtain ⟨g, hg⟩ : ∃ g, g = w.heap.size := ⟨_, rfl⟩
  have HG : Hid (w.heap.size = g) := hg.symm
  rw [← hg] at t1 t2 t3 t4 hb0 e0
  have HS : g ≤ w0.heap.size := by rw [hg]; exact hb0.size
  go_enter_defers Try.func40, Try.ntmps40
  go_wp2_with fail
  rw [← hw0, ← hg]
  refine (areRats_ok r1 r2 z1 z2 (by omega) (by omega)).mono ?_
  rintro e wA ⟨rfl, hbA⟩
  have r1A := r1.later hbA
  have r2A := r2.later hbA
  have t1A := t1.later hbA
  have t2A := t2.later hbA
  have t3A := t3.later hbA
  have t4A := t4.later hbA
  have HA := hb0.trans (hbA.mono HS)
  have HAs : w0.heap.size ≤ wA.heap.size := hbA.size
  clear hw0 hg t1 t2 t3 t4 r1 r2 hbA hb0 h1 h2
  obtain ⟨x0, x1, x2⟩ := t1A.cells
  obtain ⟨y0, y1, y2⟩ := t2A.cells
  have hcl : ∀ w1, Below wA.heap.size wA w1 → w1.cell? ⟨g, 0, none⟩ = some (.bool s1) ∧ w1.cell? ⟨g, 1, none⟩ = some (.slice a1 n1 c1) ∧ w1.cell? ⟨g, 2, none⟩ = some (.slice b1 m1 d1) ∧ w1.cell? ⟨g + 1, 0, none⟩ = some (.bool s2) ∧ w1.cell? ⟨g + 1, 1, none⟩ = some (.slice a2 n2 c2) ∧ w1.cell? ⟨g + 1, 2, none⟩ = some (.slice b2 m2 d2) := fun w1 h => by
    obtain ⟨x0, x1, x2⟩ := (t1A.later h).cells
    obtain ⟨y0, y1, y2⟩ := (t2A.later h).cells
    exact ⟨x0, x1, x2, y0, y1, y2⟩
  have f1 := fun w1 h => times_at (w0 := wA) (w1 := w1) h r1A.nu r2A.nu (nm_abs z1 (by omega)) (nm_abs z2 (by omega)) lN (by omega)
  have f2 := fun w1 h => times_at (w0 := wA) (w1 := w1) h r1A.de r2A.de (nm_den z1 (by omega)) (nm_den z2 (by omega)) lD (by omega)
  clear r1A r2A z1 z2
  generalize (p.num.natAbs : Int) * (q.num.natAbs : Int) = N at *
  generalize (p.den : Int) * (q.den : Int) = D at *
  have ne1 : ¬ g = g + 1 + 1 := by omega
  have ne2 : ¬ g = g + 1 + 1 + 1 := by omega
  have ne3 : ¬ g + 1 + 1 = g := by omega
  have ne4 : ¬ g + 1 + 1 + 1 = g := by omega
  go_wp2
  go_region_held3 (fun w' => w'.cell? ⟨g, 0, none⟩ = some (.bool s1) ∧ w'.cell? ⟨g, 1, none⟩ = some (.slice a1 n1 c1) ∧ w'.cell? ⟨g, 2, none⟩ = some (.slice b1 m1 d1) ∧ w'.cell? ⟨g + 1, 0, none⟩ = some (.bool s2) ∧ w'.cell? ⟨g + 1, 1, none⟩ = some (.slice a2 n2 c2) ∧ w'.cell? ⟨g + 1, 2, none⟩ = some (.slice b2 m2 d2)) (go_keep) (first | (go_at_call_of 80 a1; refine (f1 _ (by first | exact Below.refl _ _ | exact below_drewN (Below.refl _ _) _)).mono ?_; rintro e wX ⟨xa, xn, xc, xl, rfl, rx, mx, lx, hBX, hbX⟩; obtain ⟨x0, x1, x2, y0, y1, y2⟩ := hcl wX hBX) | (go_at_call 80; refine (f2 _ (by first | exact hBX | exact below_drewN hBX _)).mono ?_; rintro e wY ⟨ya, yn, yc, yl, rfl, ry, my, ly, hBY, hbY⟩; obtain ⟨x0, x1, x2, y0, y1, y2⟩ := hcl wY hBY; have rxY := rx.later hbY) | (go_at_call 74; refine (rlow_any rxY ry mx my hD (by omega) (by omega)).mono ?_; rintro e wB ⟨s9, v1, v2, rfl, hR0, hbZ⟩; have hR := hR0.lower hBY.size; have hbB := hBY.trans (hbZ.mono hBY.size); obtain ⟨a9, n9, c9, b9, m9, d9, rfl, rfl, _⟩ := hR.opens; obtain ⟨x0, x1, x2, y0, y1, y2⟩ := hcl wB hbB; have t3B := t3A.later hbB; have t4B := t4A.later hbB; obtain ⟨u0, u1, u2⟩ := t3B.cells; obtain ⟨v0, v1, v2⟩ := t3B.frozen; have o0 := t4B.cell; have o1 := t4B.frozen; have sA := t3A.lt; have sB := t4A.lt))
  rw [HQh.out] at hR
  go_wp2
  have t3C := (t3B.set (.bool s9) (.slice a9 n9 c9) (.slice b9 m9 d9)).inn (in1 _ (g + 1 + 1 + 1) (.int .i64 0)) (by omega)
  have t4C := (t4B.inn (in3 _ (g + 1 + 1) (.bool s9) (.slice a9 n9 c9) (.slice b9 m9 d9)) (by omega)).set (.int .i64 0)
  have hRC := (hR.inn (in3 _ (g + 1 + 1) (.bool s9) (.slice a9 n9 c9) (.slice b9 m9 d9)) (by omega)).inn (in1 _ (g + 1 + 1 + 1) (.int .i64 0)) (by omega)
  have HC := below_in (below_in (HA.trans (hbB.mono (by omega))) (in3 _ (g + 1 + 1) (.bool s9) (.slice a9 n9 c9) (.slice b9 m9 d9)) (by omega) (by rw [HG.out]; exact Nat.le_refl _)) (in1 _ (g + 1 + 1 + 1) (.int .i64 0)) (by omega) (by rw [HG.out]; exact Nat.le_refl _)
  clear u0 u1 u2 v0 v1 v2 o0 o1 t3B t4B hR x0 x1 x2 y0 y1 y2
  generalize (((wB.setCell ⟨g + 1 + 1, 0, none⟩ (.bool s9)).setCell ⟨g + 1 + 1, 1, none⟩ (.slice a9 n9 c9)).setCell ⟨g + 1 + 1, 2, none⟩ (.slice b9 m9 d9)).setCell ⟨g + 1 + 1 + 1, 0, none⟩ (.int .i64 0) = wC at *
  refine leaves_cons (f := 77) (args := #[.pointer (some ⟨g + 1 + 1 + 1, 0, none⟩)]) (by simp) (by simp [go_sem]) ?_
  refine (idleMul (g + 1 + 1 + 1) 0 _ t4C.cell t4C.frozen).mono ?_
  rintro e u' w'' ⟨rfl, rfl, rfl⟩
  have t3D := (t3C.inn (in1 _ (g + 1 + 1 + 1) (.int .i64 0)) (by omega)).drew
  have t4D := (t4C.set (.int .i64 0)).drew
  have hRD := (hRC.inn (in1 _ (g + 1 + 1 + 1) (.int .i64 0)) (by omega)).inn (in_drew (g + 1 + 1 + 1) _) (by omega)
  have HD := below_in (below_in HC (in1 _ (g + 1 + 1 + 1) (.int .i64 0)) (by omega) (by rw [HG.out]; exact Nat.le_refl _)) (in_drew (g + 1 + 1 + 1) _) (by omega) (by rw [HG.out]; exact Nat.le_refl _)
  clear t3C t4C hRC HC
  generalize ((wC.setCell ⟨g + 1 + 1 + 1, 0, none⟩ (.int .i64 0)).drew) = wD at *
  obtain ⟨u0, u1, u2⟩ := t3D.cells
  have o0 := t4D.cell
  refine ⟨.tuple #[.agg #[.bool s9, .slice a9 n9 c9, .slice b9 m9 d9], .int .i64 0], by simp [results, Try.results40, go_sem, u0, u1, u2, o0], ?_⟩
  rw [HG.out]
  exact ⟨_, _, _, rfl, hRD.lower (by omega), hsz, HD⟩
set_option maxHeartbeats 6400000 in
set_option maxRecDepth 100000 in
theorem rDiv_w (h1 : Rt w s1 a1 n1 c1 b1 m1 d1 p) (h2 : Rt w s2 a2 n2 c2 b2 m2 d2 q) (z1 : Sz p k) (z2 : Sz q l) (hk : k ≤ 4096) (hl : l ≤ 4096) (lN : Lt ((p.num.natAbs : Int) * (q.den : Int)) Kw) (lD : Lt ((p.den : Int) * (q.num.natAbs : Int)) Kw) (hK : Kw ≤ 4096) (hq : q ≠ 0) :
    Calls Try.prog 41 #[.agg #[.bool s1, .slice a1 n1 c1, .slice b1 m1 d1], .agg #[.bool s2, .slice a2 n2 c2, .slice b2 m2 d2]] w fun e w' => ∃ s v1 v2, e = .returned (.tuple #[.agg #[.bool s, v1, v2], .int .i64 0]) ∧ RtO w' w.heap.size s v1 v2 (p / q) ∧ Sz (p / q) Kw ∧ Below w.heap.size w w' := by
  have hD : 0 < (p.den : Int) * (q.num.natAbs : Int) := Int.mul_pos (den_pos p) (by have : q.num ≠ 0 := fun h => hq (Rat.num_eq_zero.mp h); omega)
  have HQ := div_rat p q hq
  rw [← h1.sgn, ← h2.sgn] at HQ
  have hsz := Sz.mkR (s := (s1 != s2)) lN lD hD
  rw [HQ] at hsz
  have HQh : Hid (mkR (!(s1 == s2)) ((p.num.natAbs : Int) * (q.den : Int)) ((p.den : Int) * (q.num.natAbs : Int)) = p / q) := HQ
  have tq : ((n2 : Int) == 0) = false := beq_no (by
    have e := h2.len
    have z := (words_nil (N := (q.num.natAbs : Int)) (by omega)).mp
    intro e0
    have z1 := z (by omega)
    have : q.num ≠ 0 := fun h => hq (Rat.num_eq_zero.mp h)
    omega)
  clear HQ
  have hmf : ∀ (fn : Fn) (first cap : Array Value) (w : World), (Instr.makeFunc fn first cap).run Try.prog w = .ok (.func fn first cap) w := fun _ _ _ _ => rfl
  obtain ⟨t1, t2, t3, t4, hb0, e0⟩ := st_four w (.bool s1) (.slice a1 n1 c1) (.slice b1 m1 d1) (.bool s2) (.slice a2 n2 c2) (.slice b2 m2 d2)
  obtain ⟨w0, hw0⟩ : ∃ w0, w0 = (((w.alloc (.cells #[.bool s1, .slice a1 n1 c1, .slice b1 m1 d1] 47)).alloc (.cells #[.bool s2, .slice a2 n2 c2, .slice b2 m2 d2] 47)).alloc (.cells #[.bool false, .slice none 0 0, .slice none 0 0] 47)).alloc (.cells #[.int .i64 0] 28) := ⟨_, rfl⟩
  rw [← hw0] at t1 t2 t3 t4 hb0 e0
  have r1 := h1.later hb0
  have r2 := h2.later hb0
  obtain ⟨g, hg⟩ : ∃ g, g = w.heap.size := ⟨_, rfl⟩
  have HG : Hid (w.heap.size = g) := hg.symm
  rw [← hg] at t1 t2 t3 t4 hb0 e0
  have HS : g ≤ w0.heap.size := by rw [hg]; exact hb0.size
  go_enter_defers Try.func41, Try.ntmps41
  go_wp2_with fail
  rw [← hw0, ← hg]
  refine (areRats_ok r1 r2 z1 z2 (by omega) (by omega)).mono ?_
  rintro e wA ⟨rfl, hbA⟩
  have r1A := r1.later hbA
  have r2A := r2.later hbA
  have t1A := t1.later hbA
  have t2A := t2.later hbA
  have t3A := t3.later hbA
  have t4A := t4.later hbA
  have HA := hb0.trans (hbA.mono HS)
  have HAs : w0.heap.size ≤ wA.heap.size := hbA.size
  clear hw0 hg t1 t2 t3 t4 r1 r2 hbA hb0 h1 h2
  obtain ⟨x0, x1, x2⟩ := t1A.cells
  obtain ⟨y0, y1, y2⟩ := t2A.cells
  have hcl : ∀ w1, Below wA.heap.size wA w1 → w1.cell? ⟨g, 0, none⟩ = some (.bool s1) ∧ w1.cell? ⟨g, 1, none⟩ = some (.slice a1 n1 c1) ∧ w1.cell? ⟨g, 2, none⟩ = some (.slice b1 m1 d1) ∧ w1.cell? ⟨g + 1, 0, none⟩ = some (.bool s2) ∧ w1.cell? ⟨g + 1, 1, none⟩ = some (.slice a2 n2 c2) ∧ w1.cell? ⟨g + 1, 2, none⟩ = some (.slice b2 m2 d2) := fun w1 h => by
    obtain ⟨x0, x1, x2⟩ := (t1A.later h).cells
    obtain ⟨y0, y1, y2⟩ := (t2A.later h).cells
    exact ⟨x0, x1, x2, y0, y1, y2⟩
  have f1 := fun w1 h => times_at (w0 := wA) (w1 := w1) h r1A.nu r2A.de (nm_abs z1 (by omega)) (nm_den z2 (by omega)) lN (by omega)
  have f2 := fun w1 h => times_at (w0 := wA) (w1 := w1) h r1A.de r2A.nu (nm_den z1 (by omega)) (nm_abs z2 (by omega)) lD (by omega)
  clear r1A r2A z1 z2
  generalize (p.num.natAbs : Int) * (q.den : Int) = N at *
  generalize (p.den : Int) * (q.num.natAbs : Int) = D at *
  have ne1 : ¬ g = g + 1 + 1 := by omega
  have ne2 : ¬ g = g + 1 + 1 + 1 := by omega
  have ne3 : ¬ g + 1 + 1 = g := by omega
  have ne4 : ¬ g + 1 + 1 + 1 = g := by omega
  go_wp2
  go_region_held3 (fun w' => w'.cell? ⟨g, 0, none⟩ = some (.bool s1) ∧ w'.cell? ⟨g, 1, none⟩ = some (.slice a1 n1 c1) ∧ w'.cell? ⟨g, 2, none⟩ = some (.slice b1 m1 d1) ∧ w'.cell? ⟨g + 1, 0, none⟩ = some (.bool s2) ∧ w'.cell? ⟨g + 1, 1, none⟩ = some (.slice a2 n2 c2) ∧ w'.cell? ⟨g + 1, 2, none⟩ = some (.slice b2 m2 d2)) (go_keep) (first | (go_at_call_of 80 a1; refine (f1 _ (by first | exact Below.refl _ _ | exact below_drewN (Below.refl _ _) _)).mono ?_; rintro e wX ⟨xa, xn, xc, xl, rfl, rx, mx, lx, hBX, hbX⟩; obtain ⟨x0, x1, x2, y0, y1, y2⟩ := hcl wX hBX) | (go_at_call 80; refine (f2 _ (by first | exact hBX | exact below_drewN hBX _)).mono ?_; rintro e wY ⟨ya, yn, yc, yl, rfl, ry, my, ly, hBY, hbY⟩; obtain ⟨x0, x1, x2, y0, y1, y2⟩ := hcl wY hBY; have rxY := rx.later hbY) | (go_at_call 74; refine (rlow_any rxY ry mx my hD (by omega) (by omega)).mono ?_; rintro e wB ⟨s9, v1, v2, rfl, hR0, hbZ⟩; have hR := hR0.lower hBY.size; have hbB := hBY.trans (hbZ.mono hBY.size); obtain ⟨a9, n9, c9, b9, m9, d9, rfl, rfl, _⟩ := hR.opens; obtain ⟨x0, x1, x2, y0, y1, y2⟩ := hcl wB hbB; have t3B := t3A.later hbB; have t4B := t4A.later hbB; obtain ⟨u0, u1, u2⟩ := t3B.cells; obtain ⟨v0, v1, v2⟩ := t3B.frozen; have o0 := t4B.cell; have o1 := t4B.frozen; have sA := t3A.lt; have sB := t4A.lt))
  rw [HQh.out] at hR
  go_wp2
  have t3C := (t3B.set (.bool s9) (.slice a9 n9 c9) (.slice b9 m9 d9)).inn (in1 _ (g + 1 + 1 + 1) (.int .i64 0)) (by omega)
  have t4C := (t4B.inn (in3 _ (g + 1 + 1) (.bool s9) (.slice a9 n9 c9) (.slice b9 m9 d9)) (by omega)).set (.int .i64 0)
  have hRC := (hR.inn (in3 _ (g + 1 + 1) (.bool s9) (.slice a9 n9 c9) (.slice b9 m9 d9)) (by omega)).inn (in1 _ (g + 1 + 1 + 1) (.int .i64 0)) (by omega)
  have HC := below_in (below_in (HA.trans (hbB.mono (by omega))) (in3 _ (g + 1 + 1) (.bool s9) (.slice a9 n9 c9) (.slice b9 m9 d9)) (by omega) (by rw [HG.out]; exact Nat.le_refl _)) (in1 _ (g + 1 + 1 + 1) (.int .i64 0)) (by omega) (by rw [HG.out]; exact Nat.le_refl _)
  clear u0 u1 u2 v0 v1 v2 o0 o1 t3B t4B hR x0 x1 x2 y0 y1 y2
  generalize (((wB.setCell ⟨g + 1 + 1, 0, none⟩ (.bool s9)).setCell ⟨g + 1 + 1, 1, none⟩ (.slice a9 n9 c9)).setCell ⟨g + 1 + 1, 2, none⟩ (.slice b9 m9 d9)).setCell ⟨g + 1 + 1 + 1, 0, none⟩ (.int .i64 0) = wC at *
  refine leaves_cons (f := 81) (args := #[.pointer (some ⟨g + 1 + 1 + 1, 0, none⟩)]) (by simp) (by simp [go_sem]) ?_
  refine (idleDiv (g + 1 + 1 + 1) 0 _ t4C.cell t4C.frozen).mono ?_
  rintro e u' w'' ⟨rfl, rfl, rfl⟩
  have t3D := (t3C.inn (in1 _ (g + 1 + 1 + 1) (.int .i64 0)) (by omega)).drew
  have t4D := (t4C.set (.int .i64 0)).drew
  have hRD := (hRC.inn (in1 _ (g + 1 + 1 + 1) (.int .i64 0)) (by omega)).inn (in_drew (g + 1 + 1 + 1) _) (by omega)
  have HD := below_in (below_in HC (in1 _ (g + 1 + 1 + 1) (.int .i64 0)) (by omega) (by rw [HG.out]; exact Nat.le_refl _)) (in_drew (g + 1 + 1 + 1) _) (by omega) (by rw [HG.out]; exact Nat.le_refl _)
  clear t3C t4C hRC HC
  generalize ((wC.setCell ⟨g + 1 + 1 + 1, 0, none⟩ (.int .i64 0)).drew) = wD at *
  obtain ⟨u0, u1, u2⟩ := t3D.cells
  have o0 := t4D.cell
  refine ⟨.tuple #[.agg #[.bool s9, .slice a9 n9 c9, .slice b9 m9 d9], .int .i64 0], by simp [results, Try.results41, go_sem, u0, u1, u2, o0], ?_⟩
  rw [HG.out]
  exact ⟨_, _, _, rfl, hRD.lower (by omega), hsz, HD⟩
set_option maxHeartbeats 6400000 in
set_option maxRecDepth 100000 in
theorem sum_w (h1 : Rt w s1 a1 n1 c1 b1 m1 d1 p) (h2 : Rt w s2 a2 n2 c2 b2 m2 d2 q) (z1 : Sz p k) (z2 : Sz q l) (hk : k ≤ 4096) (hl : l ≤ 4096) (t : Bool) (lN : Lt ((p.num.natAbs : Int) * (q.den : Int)) Kw) (lM : Lt ((q.num.natAbs : Int) * (p.den : Int)) Kw) (lD : Lt ((p.den : Int) * (q.den : Int)) Kw) (hK : Kw ≤ 4096) (hst : s1 ≠ t) :
    Calls Try.prog 83 #[.agg #[.bool s1, .slice a1 n1 c1, .slice b1 m1 d1], .agg #[.bool s2, .slice a2 n2 c2, .slice b2 m2 d2], .bool t] w fun e w' => ∃ s v1 v2, e = .returned (.agg #[.bool s, v1, v2]) ∧ RtO w' w.heap.size s v1 v2 (if t = decide (q.num < 0) then p + q else p - q) ∧ Sz (if t = decide (q.num < 0) then p + q else p - q) Kw ∧ Below w.heap.size w w' := by
  obtain ⟨t1, t2, t3, hb0⟩ := st_three w (.bool s1) (.slice a1 n1 c1) (.slice b1 m1 d1) (.bool s2) (.slice a2 n2 c2) (.slice b2 m2 d2) (.bool false) (.slice none 0 0) (.slice none 0 0) 47 47 47
  have e0 : (((w.alloc (.cells #[.bool s1, .slice a1 n1 c1, .slice b1 m1 d1] 47)).alloc (.cells #[.bool s2, .slice a2 n2 c2, .slice b2 m2 d2] 47)).alloc (.cells #[.bool false, .slice none 0 0, .slice none 0 0] 47)).heap.size = w.heap.size + 3 := by simp
  obtain ⟨w0, hw0⟩ : ∃ w0, w0 = ((w.alloc (.cells #[.bool s1, .slice a1 n1 c1, .slice b1 m1 d1] 47)).alloc (.cells #[.bool s2, .slice a2 n2 c2, .slice b2 m2 d2] 47)).alloc (.cells #[.bool false, .slice none 0 0, .slice none 0 0] 47) := ⟨_, rfl⟩
  rw [← hw0] at t1 t2 t3 hb0 e0
  have r1 := h1.later hb0
  have r2 := h2.later hb0
  have hS := h1.sgn
  have hD : 0 < (p.den : Int) * (q.den : Int) := Int.mul_pos (den_pos p) (den_pos q)
  have HT : Hid (((p.den : Int) * (q.den : Int)).toNat = p.den * q.den) := toNat_mul
  have HR := add_rat p q t
  rw [← hS] at HR
  have HRr : Hid (mkRat (sg s1 ((p.num.natAbs : Int) * (q.den : Int)) + sg t ((q.num.natAbs : Int) * (p.den : Int))) (p.den * q.den) = (if t = decide (q.num < 0) then p + q else p - q)) := HR
  have f1 := fun w1 h => times_at (w0 := w0) (w1 := w1) h r1.nu r2.de (nm_abs z1 (by omega)) (nm_den z2 (by omega)) lN (by omega)
  have f2 := fun w1 h => times_at (w0 := w0) (w1 := w1) h r2.nu r1.de (nm_abs z2 (by omega)) (nm_den z1 (by omega)) lM (by omega)
  have f3 := fun w1 h => times_at (w0 := w0) (w1 := w1) h r1.de r2.de (nm_den z1 (by omega)) (nm_den z2 (by omega)) lD (by omega)
  clear HR r1 r2 h1 h2 z1 z2 hS
  generalize (p.num.natAbs : Int) * (q.den : Int) = N at *
  generalize (q.num.natAbs : Int) * (p.den : Int) = M at *
  generalize (p.den : Int) * (q.den : Int) = D at *
  generalize p.den * q.den = D' at *
  generalize (if t = decide (q.num < 0) then p + q else p - q) = R at *
  obtain ⟨g, hg⟩ : ∃ g, g = w.heap.size := ⟨_, rfl⟩
  have HG : Hid (w.heap.size = g) := hg.symm
  rw [← hg] at t1 t2 t3 hb0 e0
  have hcl : ∀ w1, Below w0.heap.size w0 w1 → w1.cell? ⟨g, 0, none⟩ = some (.bool s1) ∧ w1.cell? ⟨g, 1, none⟩ = some (.slice a1 n1 c1) ∧ w1.cell? ⟨g, 2, none⟩ = some (.slice b1 m1 d1) ∧ w1.cell? ⟨g + 1, 1, none⟩ = some (.slice a2 n2 c2) ∧ w1.cell? ⟨g + 1, 2, none⟩ = some (.slice b2 m2 d2) := fun w1 h => by
    obtain ⟨x0, x1, x2⟩ := (t1.later h).cells
    obtain ⟨y0, y1, y2⟩ := (t2.later h).cells
    exact ⟨x0, x1, x2, y1, y2⟩
  obtain ⟨p0, p1, p2, p3, p4⟩ := hcl w0 (Below.refl _ _)
  go_enter Try.func83, Try.ntmps83
  go_wp2
  rw [← hw0, ← hg]
  have HB0 := hb0
  have HS : g ≤ w0.heap.size := by rw [hg]; exact hb0.size
  clear hw0 hb0 hg t1 t2
  go_region_held3 (fun w' => w'.cell? ⟨g, 1, none⟩ = some (.slice a1 n1 c1) ∧ w'.cell? ⟨g, 2, none⟩ = some (.slice b1 m1 d1) ∧ w'.cell? ⟨g + 1, 1, none⟩ = some (.slice a2 n2 c2) ∧ w'.cell? ⟨g + 1, 2, none⟩ = some (.slice b2 m2 d2)) (go_keep) (first | (go_at_call_of 80 a1; refine (f1 _ (by first | exact Below.refl _ _ | exact below_drewN (Below.refl _ _) _)).mono ?_; rintro e wA ⟨xa, xn, xc, xl, rfl, rx, mx, lx, hBA, hbA⟩; obtain ⟨p0, p1, p2, p3, p4⟩ := hcl wA hBA) | (go_at_call_of 80 a2; refine (f2 _ (by first | exact hBA | exact below_drewN hBA _)).mono ?_; rintro e wB ⟨ya, yn, yc, yl, rfl, ry, my, ly, hBB, hbB⟩; obtain ⟨p0, p1, p2, p3, p4⟩ := hcl wB hBB) | (go_at_call 80; refine (f3 _ (by first | exact hBB | exact below_drewN hBB _)).mono ?_; rintro e wC ⟨za, zn, zc, zl, rfl, rz, mz, lz, hBC, hbC⟩; obtain ⟨p0, p1, p2, p3, p4⟩ := hcl wC hBC))
  have rxC := (rx.later hbB).later hbC
  have ryC := ry.later hbC
  have t3C := t3.later hBC
  clear rx ry f1 f2 f3 hbA hbB hbC hBA hBB hcl t3
  have HBC := HB0.trans (hBC.mono HS)
  have HZ : Hid (∀ s A, Lt A Kw → Sz (mkR s A D) Kw) := fun s A h => Sz.mkR h lD hD
  have sC := t3C.lt
  have sW := HBC.size
  clear HB0 HS hBC
  have e1 : (s1 == t) = false := by simp [hst]
  by_cases hlt : N < M
  · have HQ : Hid (mkR t (M - N) D = R) := by
      show _ = _
      rw [sum_less s1 t hst N M D _ HT.out, ← HRr.out]
    have lS : Lt (M - N) Kw := lM.le (by omega) (by have := lN.1; omega)
    have hle : N ≤ M := by omega
    have ho := ordN_lt hlt
    clear hst HRr HT hlt
    go_wp2_with fail
    refine (cmpK rxC ryC mx my ho).mono ?_
    rintro e wF ⟨rfl, hbF⟩
    have rxF := rxC.later hbF
    have ryF := ryC.later hbF
    have rzF := rz.later hbF
    have t3F := t3C.later hbF
    clear rxC ryC rz t3C
    go_wp2_with fail
    refine (subQ ryF rxF my mx hle lS (by omega)).mono ?_
    rintro e wD ⟨ua, un, uc, ul, rfl, ru, mu, eu, hbD0⟩
    have lu : un ≤ Kw := by rw [← ru.1.1, eu.out]; exact lS.len
    have hbD := hbF.trans (hbD0.mono hbF.size)
    have rzD := rzF.later hbD0
    have t3D := t3F.later hbD0
    clear rxF ryF rzF t3F eu
    go_wp2_with fail
    refine (rlow_any ru rzD mu mz hD (by omega) (by omega)).mono ?_
    rintro e wE ⟨s9, v1, v2, rfl, hR, hbE⟩
    rw [HQ.out] at hR
    have hsz := HZ.out t (M - N) (lS.mono (by omega))
    rw [HQ.out] at hsz
    obtain ⟨a9, n9, c9, b9, m9, d9, rfl, rfl, _⟩ := hR.opens
    have t3E := t3D.later hbE
    obtain ⟨x0, x1, x2⟩ := t3E.cells
    obtain ⟨y0, y1, y2⟩ := t3E.frozen
    have sD := t3D.lt
    go_wp2
    have st9 := (t3E.set (.bool s9) (.slice a9 n9 c9) (.slice b9 m9 d9)).cells
    refine bodyPost_ret (v := .agg #[.bool s9, .slice a9 n9 c9, .slice b9 m9 d9]) (by simp [results, Try.results83, go_sem, st9]) rfl ?_
    have hbF9 := HBC.trans ((hbD.trans (hbE.mono hbD.size)).mono (by omega))
    rw [HG.out]
    exact ⟨_, _, _, rfl, (hR.inn (in3 _ _ _ _ _) (by omega)).lower (by omega), hsz, below_in hbF9 (in3 _ _ _ _ _) (by omega) (by rw [HG.out]; exact Nat.le_refl _)⟩
  · have HQ : Hid (mkR s1 (N - M) D = R) := by
      show _ = _
      rw [sum_more s1 t hst N M D _ HT.out, ← HRr.out]
    have lS : Lt (N - M) Kw := lN.le (by omega) (by have := lM.1; omega)
    have hle : M ≤ N := by omega
    obtain ⟨K, hK, hK0⟩ : ∃ K, ordN N M = K ∧ ¬ K < 0 := ⟨_, rfl, by unfold ordN; rw [if_neg hlt]; split <;> omega⟩
    clear hst HRr HT hlt
    go_wp2_with fail
    refine (cmpK rxC ryC mx my hK).mono ?_
    rintro e wF ⟨rfl, hbF⟩
    have rxF := rxC.later hbF
    have ryF := ryC.later hbF
    have rzF := rz.later hbF
    have t3F := t3C.later hbF
    have q0 := (hbF.cell (p := ⟨g, 0, none⟩) (by show g < _; omega)).trans p0
    clear rxC ryC rz t3C
    go_wp2_with fail
    refine (subQ rxF ryF mx my hle lS (by omega)).mono ?_
    rintro e wD ⟨ua, un, uc, ul, rfl, ru, mu, eu, hbD0⟩
    have lu : un ≤ Kw := by rw [← ru.1.1, eu.out]; exact lS.len
    have hbD := hbF.trans (hbD0.mono hbF.size)
    have rzD := rzF.later hbD0
    have t3D := t3F.later hbD0
    have q1 := (hbD.cell (p := ⟨g, 0, none⟩) (by show g < _; omega)).trans p0
    clear rxF ryF rzF t3F eu
    go_wp2_with fail
    refine (rlow_any ru rzD mu mz hD (by omega) (by omega)).mono ?_
    rintro e wE ⟨s9, v1, v2, rfl, hR, hbE⟩
    rw [HQ.out] at hR
    have hsz := HZ.out s1 (N - M) (lS.mono (by omega))
    rw [HQ.out] at hsz
    obtain ⟨a9, n9, c9, b9, m9, d9, rfl, rfl, _⟩ := hR.opens
    have t3E := t3D.later hbE
    obtain ⟨x0, x1, x2⟩ := t3E.cells
    obtain ⟨y0, y1, y2⟩ := t3E.frozen
    have sD := t3D.lt
    go_wp2
    have st9 := (t3E.set (.bool s9) (.slice a9 n9 c9) (.slice b9 m9 d9)).cells
    refine bodyPost_ret (v := .agg #[.bool s9, .slice a9 n9 c9, .slice b9 m9 d9]) (by simp [results, Try.results83, go_sem, st9]) rfl ?_
    have hbF9 := HBC.trans ((hbD.trans (hbE.mono hbD.size)).mono (by omega))
    rw [HG.out]
    exact ⟨_, _, _, rfl, (hR.inn (in3 _ _ _ _ _) (by omega)).lower (by omega), hsz, below_in hbF9 (in3 _ _ _ _ _) (by omega) (by rw [HG.out]; exact Nat.le_refl _)⟩
set_option maxHeartbeats 6400000 in
set_option maxRecDepth 100000 in
theorem rAdd_w (h1 : Rt w s1 a1 n1 c1 b1 m1 d1 p) (h2 : Rt w s2 a2 n2 c2 b2 m2 d2 q) (z1 : Sz p k) (z2 : Sz q l) (hk : k ≤ 4096) (hl : l ≤ 4096) (lN : Lt ((p.num.natAbs : Int) * (q.den : Int)) Kw) (lM : Lt ((q.num.natAbs : Int) * (p.den : Int)) Kw) (lD : Lt ((p.den : Int) * (q.den : Int)) Kw) (hK : Kw ≤ 4096) (hst : s1 ≠ s2) :
    Calls Try.prog 42 #[.agg #[.bool s1, .slice a1 n1 c1, .slice b1 m1 d1], .agg #[.bool s2, .slice a2 n2 c2, .slice b2 m2 d2]] w fun e w' => ∃ s v1 v2, e = .returned (.tuple #[.agg #[.bool s, v1, v2], .int .i64 0]) ∧ RtO w' w.heap.size s v1 v2 (p + q) ∧ Sz (p + q) Kw ∧ Below w.heap.size w w' := by
  have HC : Hid ((if s2 = decide (q.num < 0) then p + q else p - q) = p + q) := by
    show _ = _
    rw [h2.sgn]
    first | exact if_pos rfl | exact if_neg (by cases decide (q.num < 0) <;> simp)
  have hmf : ∀ (fn : Fn) (first cap : Array Value) (w : World), (Instr.makeFunc fn first cap).run Try.prog w = .ok (.func fn first cap) w := fun _ _ _ _ => rfl
  obtain ⟨t1, t2, t3, t4, hb0, e0⟩ := st_four w (.bool s1) (.slice a1 n1 c1) (.slice b1 m1 d1) (.bool s2) (.slice a2 n2 c2) (.slice b2 m2 d2)
  obtain ⟨w0, hw0⟩ : ∃ w0, w0 = (((w.alloc (.cells #[.bool s1, .slice a1 n1 c1, .slice b1 m1 d1] 47)).alloc (.cells #[.bool s2, .slice a2 n2 c2, .slice b2 m2 d2] 47)).alloc (.cells #[.bool false, .slice none 0 0, .slice none 0 0] 47)).alloc (.cells #[.int .i64 0] 28) := ⟨_, rfl⟩
  rw [← hw0] at t1 t2 t3 t4 hb0 e0
  have r1 := h1.later hb0
  have r2 := h2.later hb0
  obtain ⟨g, hg⟩ : ∃ g, g = w.heap.size := ⟨_, rfl⟩
  have HG : Hid (w.heap.size = g) := hg.symm
  rw [← hg] at t1 t2 t3 t4 hb0 e0
  have HS : g ≤ w0.heap.size := by rw [hg]; exact hb0.size
  go_enter_defers Try.func42, Try.ntmps42
  go_wp2_with fail
  rw [← hw0, ← hg]
  refine (areRats_ok r1 r2 z1 z2 (by omega) (by omega)).mono ?_
  rintro e wA ⟨rfl, hbA⟩
  have r1A := r1.later hbA
  have r2A := r2.later hbA
  have t1A := t1.later hbA
  have t2A := t2.later hbA
  have t3A := t3.later hbA
  have t4A := t4.later hbA
  have HA := hb0.trans (hbA.mono HS)
  have HAs : w0.heap.size ≤ wA.heap.size := hbA.size
  clear hw0 hg t1 t2 t3 t4 r1 r2 hbA hb0 h1 h2
  obtain ⟨x0, x1, x2⟩ := t1A.cells
  obtain ⟨y0, y1, y2⟩ := t2A.cells
  have f1 := sum_w r1A r2A z1 z2 hk hl s2 lN lM lD hK hst
  rw [HC.out] at f1
  clear r1A r2A HC
  go_wp2_with fail
  refine f1.mono ?_
  rintro e wB ⟨s9, v1, v2, rfl, hR, hsz, hbB⟩
  clear f1
  obtain ⟨a9, n9, c9, b9, m9, d9, rfl, rfl, _⟩ := hR.opens
  have t3B := t3A.later hbB
  have t4B := t4A.later hbB
  obtain ⟨u0, u1, u2⟩ := t3B.cells
  obtain ⟨v0, v1, v2⟩ := t3B.frozen
  have o0 := t4B.cell
  have o1 := t4B.frozen
  have sA := t3A.lt
  have sB := t4A.lt
  go_wp2
  have t3C := (t3B.set (.bool s9) (.slice a9 n9 c9) (.slice b9 m9 d9)).inn (in1 _ (g + 1 + 1 + 1) (.int .i64 0)) (by omega)
  have t4C := (t4B.inn (in3 _ (g + 1 + 1) (.bool s9) (.slice a9 n9 c9) (.slice b9 m9 d9)) (by omega)).set (.int .i64 0)
  have hRC := (hR.inn (in3 _ (g + 1 + 1) (.bool s9) (.slice a9 n9 c9) (.slice b9 m9 d9)) (by omega)).inn (in1 _ (g + 1 + 1 + 1) (.int .i64 0)) (by omega)
  have HC := below_in (below_in (HA.trans (hbB.mono (by omega))) (in3 _ (g + 1 + 1) (.bool s9) (.slice a9 n9 c9) (.slice b9 m9 d9)) (by omega) (by rw [HG.out]; exact Nat.le_refl _)) (in1 _ (g + 1 + 1 + 1) (.int .i64 0)) (by omega) (by rw [HG.out]; exact Nat.le_refl _)
  clear u0 u1 u2 v0 v1 v2 o0 o1 t3B t4B hR x0 x1 x2 y0 y1 y2
  generalize (((wB.setCell ⟨g + 1 + 1, 0, none⟩ (.bool s9)).setCell ⟨g + 1 + 1, 1, none⟩ (.slice a9 n9 c9)).setCell ⟨g + 1 + 1, 2, none⟩ (.slice b9 m9 d9)).setCell ⟨g + 1 + 1 + 1, 0, none⟩ (.int .i64 0) = wC at *
  refine leaves_cons (f := 82) (args := #[.pointer (some ⟨g + 1 + 1 + 1, 0, none⟩)]) (by simp) (by simp [go_sem]) ?_
  refine (idleAdd (g + 1 + 1 + 1) 0 _ t4C.cell t4C.frozen).mono ?_
  rintro e u' w'' ⟨rfl, rfl, rfl⟩
  have t3D := (t3C.inn (in1 _ (g + 1 + 1 + 1) (.int .i64 0)) (by omega)).drew
  have t4D := (t4C.set (.int .i64 0)).drew
  have hRD := (hRC.inn (in1 _ (g + 1 + 1 + 1) (.int .i64 0)) (by omega)).inn (in_drew (g + 1 + 1 + 1) _) (by omega)
  have HD := below_in (below_in HC (in1 _ (g + 1 + 1 + 1) (.int .i64 0)) (by omega) (by rw [HG.out]; exact Nat.le_refl _)) (in_drew (g + 1 + 1 + 1) _) (by omega) (by rw [HG.out]; exact Nat.le_refl _)
  clear t3C t4C hRC HC
  generalize ((wC.setCell ⟨g + 1 + 1 + 1, 0, none⟩ (.int .i64 0)).drew) = wD at *
  obtain ⟨u0, u1, u2⟩ := t3D.cells
  have o0 := t4D.cell
  refine ⟨.tuple #[.agg #[.bool s9, .slice a9 n9 c9, .slice b9 m9 d9], .int .i64 0], by simp [results, Try.results42, go_sem, u0, u1, u2, o0], ?_⟩
  rw [HG.out]
  exact ⟨_, _, _, rfl, hRD.lower (by omega), hsz, HD⟩
set_option maxHeartbeats 6400000 in
set_option maxRecDepth 100000 in
theorem rCmp_d {V : Int} (h1 : Rt w s1 a1 n1 c1 b1 m1 d1 p) (h2 : Rt w s2 a2 n2 c2 b2 m2 d2 q) (z1 : Sz p k) (z2 : Sz q l) (hk : k ≤ 4096) (hl : l ≤ 4096) (hpq' : sgnR p ≠ sgnR q) (hK : ordR p q = V) :
    Calls Try.prog 43 #[.agg #[.bool s1, .slice a1 n1 c1, .slice b1 m1 d1], .agg #[.bool s2, .slice a2 n2 c2, .slice b2 m2 d2]] w fun e w' => e = .returned (.tuple #[.int .i64 V, .int .i64 0]) ∧ Below w.heap.size w w' := by
  have hmf : ∀ (fn : Fn) (first cap : Array Value) (w : World), (Instr.makeFunc fn first cap).run Try.prog w = .ok (.func fn first cap) w := fun _ _ _ _ => rfl
  obtain ⟨t1, t2, t3, hb0, e0⟩ := st_cmp w (.bool s1) (.slice a1 n1 c1) (.slice b1 m1 d1) (.bool s2) (.slice a2 n2 c2) (.slice b2 m2 d2)
  obtain ⟨w0, hw0⟩ : ∃ w0, w0 = ((w.alloc (.cells #[.bool s1, .slice a1 n1 c1, .slice b1 m1 d1] 47)).alloc (.cells #[.bool s2, .slice a2 n2 c2, .slice b2 m2 d2] 47)).alloc (.cells #[.int .i64 0] 28) := ⟨_, rfl⟩
  rw [← hw0] at t1 t2 t3 hb0 e0
  have r1 := h1.later hb0
  have r2 := h2.later hb0
  have l1 := h1.le z1
  have l2 := h2.le z2
  have hS : Hid (s1 = decide (p.num < 0)) := h1.sgn
  obtain ⟨g, hg⟩ : ∃ g, g = w.heap.size := ⟨_, rfl⟩
  have HG : Hid (w.heap.size = g) := hg.symm
  rw [← hg] at t1 t2 t3 hb0 e0
  have HS : g ≤ w0.heap.size := by rw [hg]; exact hb0.size
  go_enter_defers Try.func43, Try.ntmps43
  go_wp2_with fail
  rw [← hw0, ← hg]
  refine (areRats_ok r1 r2 z1 z2 (by omega) (by omega)).mono ?_
  rintro e wA ⟨rfl, hbA⟩
  have r1A := r1.later hbA
  have r2A := r2.later hbA
  have t1A := t1.later hbA
  have t2A := t2.later hbA
  have t3A := t3.later hbA
  have HA := hb0.trans (hbA.mono HS)
  have HAs : w0.heap.size ≤ wA.heap.size := hbA.size
  clear hw0 hg t1 t2 t3 r1 r2 hbA hb0 h1 h2
  have hcl : ∀ w1, Below wA.heap.size wA w1 → w1.cell? ⟨g, 0, none⟩ = some (.bool s1) ∧ w1.cell? ⟨g, 1, none⟩ = some (.slice a1 n1 c1) ∧ w1.cell? ⟨g, 2, none⟩ = some (.slice b1 m1 d1) ∧ w1.cell? ⟨g + 1, 0, none⟩ = some (.bool s2) ∧ w1.cell? ⟨g + 1, 1, none⟩ = some (.slice a2 n2 c2) ∧ w1.cell? ⟨g + 1, 2, none⟩ = some (.slice b2 m2 d2) := fun w1 h => by
    obtain ⟨x0, x1, x2⟩ := (t1A.later h).cells
    obtain ⟨y0, y1, y2⟩ := (t2A.later h).cells
    exact ⟨x0, x1, x2, y0, y1, y2⟩
  obtain ⟨x0, x1, x2, y0, y1, y2⟩ := hcl wA (Below.refl _ _)
  have ne1 : ¬ g = g + 1 + 1 := by omega
  have ne2 : ¬ g + 1 + 1 = g := by omega
  have sA := t3A.lt
  obtain ⟨P0, hP0⟩ : ∃ P0, sgnR p = P0 := ⟨_, rfl⟩
  obtain ⟨Q0, hQ0⟩ : ∃ Q0, sgnR q = Q0 := ⟨_, rfl⟩
  have g1 := fun w1 h => sign_at (w0 := wA) (w1 := w1) h r1A (by omega) hP0
  have g2 := fun w1 h => sign_at (w0 := wA) (w1 := w1) h r2A (by omega) hQ0
  have hpq : P0 ≠ Q0 := by rw [← hP0, ← hQ0]; exact hpq'
  have tpq : (P0 != Q0) = true := bne_yes hpq
  have hK2 := sgn_cmp p q (by rw [hP0, hQ0]; exact hpq)
  rw [hK, hP0, hQ0] at hK2
  have g3 := fun w => compare_int P0 Q0 hpq hK2.symm w
  clear r1A r2A z1 z2 hS hP0 hQ0 hK2
  go_wp2
  go_region_held3 (fun w' => w'.cell? ⟨g, 0, none⟩ = some (.bool s1) ∧ w'.cell? ⟨g, 1, none⟩ = some (.slice a1 n1 c1) ∧ w'.cell? ⟨g, 2, none⟩ = some (.slice b1 m1 d1) ∧ w'.cell? ⟨g + 1, 0, none⟩ = some (.bool s2) ∧ w'.cell? ⟨g + 1, 1, none⟩ = some (.slice a2 n2 c2) ∧ w'.cell? ⟨g + 1, 2, none⟩ = some (.slice b2 m2 d2)) (go_keep) (first | (go_at_call_of 85 a1; refine (g1 _ (by first | exact Below.refl _ _ | exact below_drewN (Below.refl _ _) _)).mono ?_; rintro e wS ⟨rfl, hBS, _⟩; obtain ⟨x0, x1, x2, y0, y1, y2⟩ := hcl wS hBS) | (go_at_call_of 85 a2; refine (g2 _ (by first | exact hBS | exact below_drewN hBS _)).mono ?_; rintro e wT ⟨rfl, hBT, _⟩; obtain ⟨x0, x1, x2, y0, y1, y2⟩ := hcl wT hBT))
  go_wp2
  go_region_held3 (fun w' => w'.cell? ⟨g, 0, none⟩ = some (.bool s1) ∧ w'.cell? ⟨g, 1, none⟩ = some (.slice a1 n1 c1) ∧ w'.cell? ⟨g, 2, none⟩ = some (.slice b1 m1 d1) ∧ w'.cell? ⟨g + 1, 0, none⟩ = some (.bool s2) ∧ w'.cell? ⟨g + 1, 1, none⟩ = some (.slice a2 n2 c2) ∧ w'.cell? ⟨g + 1, 2, none⟩ = some (.slice b2 m2 d2)) (go_keep) (first | (go_at_call_of 85 a1; refine (g1 _ (by first | exact hBT | exact below_drewN hBT _)).mono ?_; rintro e wX ⟨rfl, hBX, _⟩; obtain ⟨x0, x1, x2, y0, y1, y2⟩ := hcl wX hBX) | (go_at_call_of 85 a2; refine (g2 _ (by first | exact hBX | exact below_drewN hBX _)).mono ?_; rintro e wZ0 ⟨rfl, HBZ, _⟩; obtain ⟨x0, x1, x2, y0, y1, y2⟩ := hcl wZ0 HBZ; have t3Z := t3A.later HBZ; have o0 := t3Z.cell; have o1 := t3Z.frozen) | (go_at_call 53; refine (g3 _).mono ?_; rintro e wZ ⟨rfl, rfl⟩))
  clear g1 g2 g3
  go_wp2
  have t4C := t3Z.set (.int .i64 0)
  have HC := below_in (HA.trans (HBZ.mono (by omega))) (in1 _ (g + 1 + 1) (.int .i64 0)) (by omega) (by rw [HG.out]; exact Nat.le_refl _)
  clear o0 o1 t3Z
  generalize (wZ.setCell ⟨g + 1 + 1, 0, none⟩ (.int .i64 0)) = wC at *
  refine leaves_cons (f := 84) (args := #[.pointer (some ⟨g + 1 + 1, 0, none⟩)]) (by simp) (by simp [go_sem]) ?_
  refine (idleCmp (g + 1 + 1) 0 _ t4C.cell t4C.frozen).mono ?_
  rintro e u' w'' ⟨rfl, rfl, rfl⟩
  have t4D := (t4C.set (.int .i64 0)).drew
  have HD := below_in (below_in HC (in1 _ (g + 1 + 1) (.int .i64 0)) (by omega) (by rw [HG.out]; exact Nat.le_refl _)) (in_drew (g + 1 + 1) _) (by omega) (by rw [HG.out]; exact Nat.le_refl _)
  clear t4C HC
  generalize ((wC.setCell ⟨g + 1 + 1, 0, none⟩ (.int .i64 0)).drew) = wD at *
  have o0 := t4D.cell
  refine ⟨.tuple #[.int .i64 V, .int .i64 0], by simp [results, Try.results43, go_sem, o0], ?_⟩
  rw [HG.out]
  exact ⟨rfl, HD⟩

theorem times_long {w : World} {a b : Option Addr} {n c m d : Nat} {xs ys : List Int} {A B : Int} (hr1 : RowC w a n c xs) (hr2 : RowC w b m d ys) (h1 : Nm xs A) (h2 : Nm ys B) (hL : 4096 < (words (A * B)).length) :
    Calls Try.prog 80 #[.slice a n c, .slice b m d] w fun e w' => e = .panicked [{ v := .iface 99 (.agg #[]), recovered := false }] ∧ Below w.heap.size w w' := by
  have l1 := hr1.1.1
  have l2 := hr2.1.1
  have h := natMul_any hr1 hr2 h1.ws h2.ws (by have := h1.len; omega) (by have := h2.len; omega)
  rw [h1.num, h2.num, (res_huge hL).1, (res_huge hL).2] at h
  clear hr1 hr2 h1 h2 hL l1 l2
  go_enter Try.func80, Try.ntmps80
  go_wp2_with fail
  refine h.mono ?_
  rintro e w1 ⟨v, rfl, ho, hb⟩
  obtain ⟨a', c', rfl, _⟩ := ho.readsC
  clear h
  go_wp2
  exact ⟨rfl, rfl, hb⟩
end
end Go.Proofs.Ytopcdpeepchgfab
