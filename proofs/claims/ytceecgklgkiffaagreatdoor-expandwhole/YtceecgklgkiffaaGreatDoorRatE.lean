/- package rat: Sign, Cmp, New, Int, Floor, where nothing is too long. -/
import Derived.Test.YtceecgklgkiffaaGreatDoorRatD
namespace Go.Proofs.YtceecgklgkiffaaGreatDoor
open Go.ChangeShapes Go.WideShapes Go.ChangeAt Go.RowKit
open Na Ar
set_option linter.unusedVariables false
section
variable {w : World} {s1 s2 : Bool} {a1 b1 a2 b2 : Option Addr} {n1 c1 m1 d1 n2 c2 m2 d2 : Nat} {p q : Rat} {k l : Nat}
set_option maxHeartbeats 1600000 in
theorem rSign_any {K : Int} (h1 : Rt w s1 a1 n1 c1 b1 m1 d1 p) (hn : n1 ≤ 4000000) (hK : sgnR p = K) :
    Calls Tryz.prog 25 #[.agg #[.bool s1, .slice a1 n1 c1, .slice b1 m1 d1]] w fun e w' => e = .returned (.int .i64 K) ∧ Below w.heap.size w w' := by
  have hb0 := alloc_below (w := w) (.cells #[.bool s1, .slice a1 n1 c1, .slice b1 m1 d1] 50)
  have st := st_new w (.bool s1) (.slice a1 n1 c1) (.slice b1 m1 d1) 50
  have bt := natBits_any (h1.nu.later hb0) (Dg_words _) hn
  rw [num_words (by omega)] at bt
  have hs := h1.sgn
  clear h1
  by_cases h0 : p.num = 0
  · have HK : Hid (0 = K) := by show _ = _; rw [← hK]; unfold sgnR; rw [if_pos h0]
    have e : (p.num.natAbs : Int) = 0 := by omega
    rw [e, bits_none] at bt
    clear hK h0 e hs
    go_enter Tryz.func25, Tryz.ntmps25
    go_wp2_with fail
    refine bt.mono ?_
    rintro e w1 ⟨rfl, hb1⟩
    go_wp2
    go_ret
    exact ⟨ret_i HK.out, hb0.trans (hb1.mono hb0.size)⟩
  · obtain ⟨j, hj, _⟩ := bits_some (N := (p.num.natAbs : Int)) (by omega)
    rw [hj] at bt
    have tj : (((j : Int) + 1) == 0) = false := beq_no (by omega)
    by_cases hl : p.num < 0
    · have HK : Hid (-1 = K) := by show _ = _; rw [← hK]; unfold sgnR; rw [if_neg h0, if_pos hl]
      have hs1 : s1 = true := by rw [hs]; exact decide_eq_true hl
      subst hs1
      clear hK h0 hl hs hj
      go_enter Tryz.func25, Tryz.ntmps25
      go_wp2_with fail
      refine bt.mono ?_
      rintro e w1 ⟨rfl, hb1⟩
      obtain ⟨x0, x1, x2⟩ := (st.later hb1).cells
      go_wp2
      go_ret
      exact ⟨ret_i HK.out, hb0.trans (hb1.mono hb0.size)⟩
    · have HK : Hid (1 = K) := by show _ = _; rw [← hK]; unfold sgnR; rw [if_neg h0, if_neg hl]
      have hs1 : s1 = false := by rw [hs]; exact decide_eq_false hl
      subst hs1
      clear hK h0 hl hs hj
      go_enter Tryz.func25, Tryz.ntmps25
      go_wp2_with fail
      refine bt.mono ?_
      rintro e w1 ⟨rfl, hb1⟩
      obtain ⟨x0, x1, x2⟩ := (st.later hb1).cells
      go_wp2
      go_ret
      exact ⟨ret_i HK.out, hb0.trans (hb1.mono hb0.size)⟩
theorem isNaN_int (x : Int) (w : World) : Calls Tryz.prog 82 #[.int .i64 x] w fun e w' => e = .returned (.bool false) ∧ w' = w := by
  have t : (x != x) = false := by simp
  go_enter Tryz.func82, Tryz.ntmps82
  go_wp2
  go_ret
  exact ⟨by simp, rfl⟩
theorem compare_int (x y : Int) {K : Int} (hxy : x ≠ y) (hK : (if x < y then (-1 : Int) else 1) = K) (w : World) : Calls Tryz.prog 42 #[.int .i64 x, .int .i64 y] w fun e w' => e = .returned (.int .i64 K) ∧ w' = w := by
  by_cases h : x < y
  · rw [if_pos h] at hK
    subst hK
    go_enter Tryz.func42, Tryz.ntmps42
    go_wp2_with (go_at_call 82; refine (isNaN_int _ _).mono ?_; rintro e w' ⟨rfl, rfl⟩)
    go_ret
    exact ⟨rfl, rfl⟩
  · rw [if_neg h] at hK
    have h' : y < x := by omega
    subst hK
    go_enter Tryz.func42, Tryz.ntmps42
    go_wp2_with (go_at_call 82; refine (isNaN_int _ _).mono ?_; rintro e w' ⟨rfl, rfl⟩)
    go_ret
    exact ⟨rfl, rfl⟩
theorem ordN_alt (N M : Int) : (if N < M then (-1 : Int) else if N = M then 0 else 1) = ordN N M := by
  unfold ordN; (repeat' split) <;> omega
theorem sign_at {w0 w1 : World} {K : Int} (h : Below w0.heap.size w0 w1) (h1 : Rt w0 s1 a1 n1 c1 b1 m1 d1 p) (hn : n1 ≤ 4000000) (hK : sgnR p = K) :
    Calls Tryz.prog 25 #[.agg #[.bool s1, .slice a1 n1 c1, .slice b1 m1 d1]] w1 fun e w' => e = .returned (.int .i64 K) ∧ Below w0.heap.size w0 w' ∧ Below w1.heap.size w1 w' := by
  refine (rSign_any (h1.later h) hn hK).mono ?_
  rintro e w' ⟨rfl, hb⟩
  exact ⟨rfl, h.trans (hb.mono h.size), hb⟩
theorem st_cmp (w : World) (x y z x' y' z' : Value) : St (((w.alloc (.cells #[x, y, z] 50)).alloc (.cells #[x', y', z'] 50)).alloc (.cells #[.int .i64 0] 27)) w.heap.size 50 x y z ∧ St (((w.alloc (.cells #[x, y, z] 50)).alloc (.cells #[x', y', z'] 50)).alloc (.cells #[.int .i64 0] 27)) (w.heap.size + 1) 50 x' y' z' ∧ E1 (((w.alloc (.cells #[x, y, z] 50)).alloc (.cells #[x', y', z'] 50)).alloc (.cells #[.int .i64 0] 27)) (w.heap.size + 1 + 1) 27 (.int .i64 0) ∧ Below w.heap.size w (((w.alloc (.cells #[x, y, z] 50)).alloc (.cells #[x', y', z'] 50)).alloc (.cells #[.int .i64 0] 27)) ∧ (((w.alloc (.cells #[x, y, z] 50)).alloc (.cells #[x', y', z'] 50)).alloc (.cells #[.int .i64 0] 27)).heap.size = w.heap.size + 3 := by
  obtain ⟨s1, s2, b⟩ := st_two w x y z x' y' z' 50 50
  have e1 : ((w.alloc (.cells #[x, y, z] 50)).alloc (.cells #[x', y', z'] 50)).heap.size = w.heap.size + 1 + 1 := by simp
  generalize (w.alloc (.cells #[x, y, z] 50)).alloc (.cells #[x', y', z'] 50) = w1 at *
  have b2 := alloc_below (w := w1) (.cells #[.int .i64 0] 27)
  have s4 : E1 (w1.alloc (.cells #[.int .i64 0] 27)) w1.heap.size 27 (.int .i64 0) := heap_alloc_new _ _
  rw [e1] at s4
  exact ⟨s1.later b2, s2.later b2, s4, b.trans (b2.mono b.size), by simp [e1]⟩
set_option maxHeartbeats 6400000 in
set_option maxRecDepth 100000 in
theorem rCmp_ok {K : Int} (h1 : Rt w s1 a1 n1 c1 b1 m1 d1 p) (h2 : Rt w s2 a2 n2 c2 b2 m2 d2 q) (z1 : Sz p k) (z2 : Sz q l) (hk : k + l ≤ 4096) (hK : ordR p q = K) :
    Calls Tryz.prog 27 #[.agg #[.bool s1, .slice a1 n1 c1, .slice b1 m1 d1], .agg #[.bool s2, .slice a2 n2 c2, .slice b2 m2 d2]] w fun e w' => e = .returned (.tuple #[.int .i64 K, .int .i64 0]) ∧ Below w.heap.size w w' := by
  have hmf : ∀ (fn : Fn) (first cap : Array Value) (w : World), (Instr.makeFunc fn first cap).run Tryz.prog w = .ok (.func fn first cap) w := fun _ _ _ _ => rfl
  obtain ⟨t1, t2, t3, hb0, e0⟩ := st_cmp w (.bool s1) (.slice a1 n1 c1) (.slice b1 m1 d1) (.bool s2) (.slice a2 n2 c2) (.slice b2 m2 d2)
  obtain ⟨w0, hw0⟩ : ∃ w0, w0 = ((w.alloc (.cells #[.bool s1, .slice a1 n1 c1, .slice b1 m1 d1] 50)).alloc (.cells #[.bool s2, .slice a2 n2 c2, .slice b2 m2 d2] 50)).alloc (.cells #[.int .i64 0] 27) := ⟨_, rfl⟩
  rw [← hw0] at t1 t2 t3 hb0 e0
  have r1 := h1.later hb0
  have r2 := h2.later hb0
  have l1 := h1.le z1
  have l2 := h2.le z2
  have hS : Hid (s1 = decide (p.num < 0)) := h1.sgn
  obtain ⟨g, hg⟩ : ∃ g, g = w.heap.size := ⟨_, rfl⟩
  have HG : Hid (w.heap.size = g) := hg.symm
  rw [← hg] at t1 t2 t3 hb0 e0
  have HS : g ≤ w0.heap.size := by rw [hg]; exact hb0.size
  go_enter_defers Tryz.func27, Tryz.ntmps27
  go_wp2_with fail
  rw [← hw0, ← hg]
  refine (areRats_ok r1 r2 z1 z2 (by omega) (by omega)).mono ?_
  rintro e wA ⟨rfl, hbA⟩
  have r1A := r1.later hbA
  have r2A := r2.later hbA
  have t1A := t1.later hbA
  have t2A := t2.later hbA
  have t3A := t3.later hbA
  have HA := hb0.trans (hbA.mono HS)
  have HAs : w0.heap.size ≤ wA.heap.size := hbA.size
  clear hw0 hg t1 t2 t3 r1 r2 hbA hb0 h1 h2
  have hcl : ∀ w1, Below wA.heap.size wA w1 → w1.cell? ⟨g, 0, none⟩ = some (.bool s1) ∧ w1.cell? ⟨g, 1, none⟩ = some (.slice a1 n1 c1) ∧ w1.cell? ⟨g, 2, none⟩ = some (.slice b1 m1 d1) ∧ w1.cell? ⟨g + 1, 0, none⟩ = some (.bool s2) ∧ w1.cell? ⟨g + 1, 1, none⟩ = some (.slice a2 n2 c2) ∧ w1.cell? ⟨g + 1, 2, none⟩ = some (.slice b2 m2 d2) := fun w1 h => by
    obtain ⟨x0, x1, x2⟩ := (t1A.later h).cells
    obtain ⟨y0, y1, y2⟩ := (t2A.later h).cells
    exact ⟨x0, x1, x2, y0, y1, y2⟩
  obtain ⟨x0, x1, x2, y0, y1, y2⟩ := hcl wA (Below.refl _ _)
  have ne1 : ¬ g = g + 1 + 1 := by omega
  have ne2 : ¬ g + 1 + 1 = g := by omega
  have sA := t3A.lt
  obtain ⟨P0, hP0⟩ : ∃ P0, sgnR p = P0 := ⟨_, rfl⟩
  obtain ⟨Q0, hQ0⟩ : ∃ Q0, sgnR q = Q0 := ⟨_, rfl⟩
  have g1 := fun w1 h => sign_at (w0 := wA) (w1 := w1) h r1A (by omega) hP0
  have g2 := fun w1 h => sign_at (w0 := wA) (w1 := w1) h r2A (by omega) hQ0
  by_cases hpq : P0 = Q0
  · have tpq : (P0 != Q0) = false := bne_of hpq
    have hK2 := abs_cmp p q (by rw [hP0, hQ0]; exact hpq)
    rw [hK, ordN_alt, ← hS.out] at hK2
    have lN : Lt ((p.num.natAbs : Int) * (q.den : Int)) (k + l) := z1.1.mul z2.2
    have lM : Lt ((q.num.natAbs : Int) * (p.den : Int)) (k + l) := (z2.1.mul z1.2).mono (by omega)
    have f1 := fun w1 h => times_at (w0 := wA) (w1 := w1) h r1A.nu r2A.de (nm_abs z1 (by omega)) (nm_den z2 (by omega)) lN (by omega)
    have f2 := fun w1 h => times_at (w0 := wA) (w1 := w1) h r2A.nu r1A.de (nm_abs z2 (by omega)) (nm_den z1 (by omega)) lM (by omega)
    clear r1A r2A z1 z2 hS hP0 hQ0
    generalize (p.num.natAbs : Int) * (q.den : Int) = N at *
    generalize (q.num.natAbs : Int) * (p.den : Int) = M at *
    obtain ⟨S, hSS⟩ : ∃ S, ordN N M = S := ⟨_, rfl⟩
    have bd := ordN_bd N M
    rw [hSS] at hK2 bd
    clear hpq
    go_wp2
    go_region_held3 (fun w' => w'.cell? ⟨g, 0, none⟩ = some (.bool s1) ∧ w'.cell? ⟨g, 1, none⟩ = some (.slice a1 n1 c1) ∧ w'.cell? ⟨g, 2, none⟩ = some (.slice b1 m1 d1) ∧ w'.cell? ⟨g + 1, 0, none⟩ = some (.bool s2) ∧ w'.cell? ⟨g + 1, 1, none⟩ = some (.slice a2 n2 c2) ∧ w'.cell? ⟨g + 1, 2, none⟩ = some (.slice b2 m2 d2)) (go_keep) (first | (go_at_call_of 25 a1; refine (g1 _ (by first | exact Below.refl _ _ | exact below_drewN (Below.refl _ _) _)).mono ?_; rintro e wS ⟨rfl, hBS, _⟩; obtain ⟨x0, x1, x2, y0, y1, y2⟩ := hcl wS hBS) | (go_at_call_of 25 a2; refine (g2 _ (by first | exact hBS | exact below_drewN hBS _)).mono ?_; rintro e wT ⟨rfl, hBT, _⟩; obtain ⟨x0, x1, x2, y0, y1, y2⟩ := hcl wT hBT))
    go_wp2
    go_region_held3 (fun w' => w'.cell? ⟨g, 0, none⟩ = some (.bool s1) ∧ w'.cell? ⟨g, 1, none⟩ = some (.slice a1 n1 c1) ∧ w'.cell? ⟨g, 2, none⟩ = some (.slice b1 m1 d1) ∧ w'.cell? ⟨g + 1, 0, none⟩ = some (.bool s2) ∧ w'.cell? ⟨g + 1, 1, none⟩ = some (.slice a2 n2 c2) ∧ w'.cell? ⟨g + 1, 2, none⟩ = some (.slice b2 m2 d2)) (go_keep) (first | (go_at_call_of 64 a1; refine (f1 _ (by first | exact hBT | exact below_drewN hBT _)).mono ?_; rintro e wX ⟨xa, xn, xc, xl, rfl, rx, mx, lx, hBX, hbX⟩; obtain ⟨x0, x1, x2, y0, y1, y2⟩ := hcl wX hBX) | (go_at_call 64; refine (f2 _ (by first | exact hBX | exact below_drewN hBX _)).mono ?_; rintro e wY ⟨ya, yn, yc, yl, rfl, ry, my, ly, hBY, hbY⟩; obtain ⟨x0, x1, x2, y0, y1, y2⟩ := hcl wY hBY; have rxY := rx.later hbY) | (go_at_call 15; refine (cmpK rxY ry mx my hSS).mono ?_; rintro e wZ ⟨rfl, hbZ⟩; have HBZ := hBY.trans (hbZ.mono hBY.size); obtain ⟨x0, x1, x2, y0, y1, y2⟩ := hcl wZ HBZ))
    clear f1 f2 g1 g2
    cases s1
    · have HK : Hid (S = K) := hK2.symm
      clear hK2 hSS
      have t3Z := t3A.later HBZ
      have o0 := t3Z.cell
      have o1 := t3Z.frozen
      go_wp2
      have t4C := t3Z.set (.int .i64 0)
      have HC := below_in (HA.trans (HBZ.mono (by omega))) (in1 _ (g + 1 + 1) (.int .i64 0)) (by omega) (by rw [HG.out]; exact Nat.le_refl _)
      clear o0 o1 t3Z
      generalize (wZ.setCell ⟨g + 1 + 1, 0, none⟩ (.int .i64 0)) = wC at *
      refine leaves_cons (f := 61) (args := #[.pointer (some ⟨g + 1 + 1, 0, none⟩)]) (by simp) (by simp [go_sem]) ?_
      refine (idleCmp (g + 1 + 1) 0 _ t4C.cell t4C.frozen).mono ?_
      rintro e u' w'' ⟨rfl, rfl, rfl⟩
      have t4D := (t4C.set (.int .i64 0)).drew
      have HD := below_in (below_in HC (in1 _ (g + 1 + 1) (.int .i64 0)) (by omega) (by rw [HG.out]; exact Nat.le_refl _)) (in_drew (g + 1 + 1) _) (by omega) (by rw [HG.out]; exact Nat.le_refl _)
      clear t4C HC
      generalize ((wC.setCell ⟨g + 1 + 1, 0, none⟩ (.int .i64 0)).drew) = wD at *
      have o0 := t4D.cell
      refine ⟨.tuple #[.int .i64 S, .int .i64 0], by simp [results, Tryz.results27, go_sem, o0], ?_⟩
      rw [HG.out]
      exact ⟨by rw [HK.out], HD⟩
    · have HK : Hid (-S = K) := hK2.symm
      clear hK2 hSS
      have t3Z := t3A.later HBZ
      have o0 := t3Z.cell
      have o1 := t3Z.frozen
      go_wp2
      have t4C := t3Z.set (.int .i64 0)
      have HC := below_in (HA.trans (HBZ.mono (by omega))) (in1 _ (g + 1 + 1) (.int .i64 0)) (by omega) (by rw [HG.out]; exact Nat.le_refl _)
      clear o0 o1 t3Z
      generalize (wZ.setCell ⟨g + 1 + 1, 0, none⟩ (.int .i64 0)) = wC at *
      refine leaves_cons (f := 61) (args := #[.pointer (some ⟨g + 1 + 1, 0, none⟩)]) (by simp) (by simp [go_sem]) ?_
      refine (idleCmp (g + 1 + 1) 0 _ t4C.cell t4C.frozen).mono ?_
      rintro e u' w'' ⟨rfl, rfl, rfl⟩
      have t4D := (t4C.set (.int .i64 0)).drew
      have HD := below_in (below_in HC (in1 _ (g + 1 + 1) (.int .i64 0)) (by omega) (by rw [HG.out]; exact Nat.le_refl _)) (in_drew (g + 1 + 1) _) (by omega) (by rw [HG.out]; exact Nat.le_refl _)
      clear t4C HC
      generalize ((wC.setCell ⟨g + 1 + 1, 0, none⟩ (.int .i64 0)).drew) = wD at *
      have o0 := t4D.cell
      refine ⟨.tuple #[.int .i64 (-S), .int .i64 0], by simp [results, Tryz.results27, go_sem, o0], ?_⟩
      rw [HG.out]
      exact ⟨by rw [HK.out], HD⟩
  · have tpq : (P0 != Q0) = true := bne_yes hpq
    have hK2 := sgn_cmp p q (by rw [hP0, hQ0]; exact hpq)
    rw [hK, hP0, hQ0] at hK2
    have g3 := fun w => compare_int P0 Q0 hpq hK2.symm w
    clear r1A r2A z1 z2 hS hP0 hQ0 hK2
    go_wp2
    go_region_held3 (fun w' => w'.cell? ⟨g, 0, none⟩ = some (.bool s1) ∧ w'.cell? ⟨g, 1, none⟩ = some (.slice a1 n1 c1) ∧ w'.cell? ⟨g, 2, none⟩ = some (.slice b1 m1 d1) ∧ w'.cell? ⟨g + 1, 0, none⟩ = some (.bool s2) ∧ w'.cell? ⟨g + 1, 1, none⟩ = some (.slice a2 n2 c2) ∧ w'.cell? ⟨g + 1, 2, none⟩ = some (.slice b2 m2 d2)) (go_keep) (first | (go_at_call_of 25 a1; refine (g1 _ (by first | exact Below.refl _ _ | exact below_drewN (Below.refl _ _) _)).mono ?_; rintro e wS ⟨rfl, hBS, _⟩; obtain ⟨x0, x1, x2, y0, y1, y2⟩ := hcl wS hBS) | (go_at_call_of 25 a2; refine (g2 _ (by first | exact hBS | exact below_drewN hBS _)).mono ?_; rintro e wT ⟨rfl, hBT, _⟩; obtain ⟨x0, x1, x2, y0, y1, y2⟩ := hcl wT hBT))
    go_wp2
    go_region_held3 (fun w' => w'.cell? ⟨g, 0, none⟩ = some (.bool s1) ∧ w'.cell? ⟨g, 1, none⟩ = some (.slice a1 n1 c1) ∧ w'.cell? ⟨g, 2, none⟩ = some (.slice b1 m1 d1) ∧ w'.cell? ⟨g + 1, 0, none⟩ = some (.bool s2) ∧ w'.cell? ⟨g + 1, 1, none⟩ = some (.slice a2 n2 c2) ∧ w'.cell? ⟨g + 1, 2, none⟩ = some (.slice b2 m2 d2)) (go_keep) (first | (go_at_call_of 25 a1; refine (g1 _ (by first | exact hBT | exact below_drewN hBT _)).mono ?_; rintro e wX ⟨rfl, hBX, _⟩; obtain ⟨x0, x1, x2, y0, y1, y2⟩ := hcl wX hBX) | (go_at_call_of 25 a2; refine (g2 _ (by first | exact hBX | exact below_drewN hBX _)).mono ?_; rintro e wZ0 ⟨rfl, HBZ, _⟩; obtain ⟨x0, x1, x2, y0, y1, y2⟩ := hcl wZ0 HBZ; have t3Z := t3A.later HBZ; have o0 := t3Z.cell; have o1 := t3Z.frozen) | (go_at_call 42; refine (g3 _).mono ?_; rintro e wZ ⟨rfl, rfl⟩))
    clear g1 g2 g3
    go_wp2
    have t4C := t3Z.set (.int .i64 0)
    have HC := below_in (HA.trans (HBZ.mono (by omega))) (in1 _ (g + 1 + 1) (.int .i64 0)) (by omega) (by rw [HG.out]; exact Nat.le_refl _)
    clear o0 o1 t3Z
    generalize (wZ.setCell ⟨g + 1 + 1, 0, none⟩ (.int .i64 0)) = wC at *
    refine leaves_cons (f := 61) (args := #[.pointer (some ⟨g + 1 + 1, 0, none⟩)]) (by simp) (by simp [go_sem]) ?_
    refine (idleCmp (g + 1 + 1) 0 _ t4C.cell t4C.frozen).mono ?_
    rintro e u' w'' ⟨rfl, rfl, rfl⟩
    have t4D := (t4C.set (.int .i64 0)).drew
    have HD := below_in (below_in HC (in1 _ (g + 1 + 1) (.int .i64 0)) (by omega) (by rw [HG.out]; exact Nat.le_refl _)) (in_drew (g + 1 + 1) _) (by omega) (by rw [HG.out]; exact Nat.le_refl _)
    clear t4C HC
    generalize ((wC.setCell ⟨g + 1 + 1, 0, none⟩ (.int .i64 0)).drew) = wD at *
    have o0 := t4D.cell
    refine ⟨.tuple #[.int .i64 K, .int .i64 0], by simp [results, Tryz.results27, go_sem, o0], ?_⟩
    rw [HG.out]
    exact ⟨rfl, HD⟩

end
end Go.Proofs.YtceecgklgkiffaaGreatDoor
