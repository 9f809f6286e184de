/- plumblaw05: raw, one of the same, told. -/
import Derived.Test.YtopcdpeepchgfacGreatDoorRatKi
namespace Go.Proofs.YtopcdpeepchgfacGreatDoor
open Go.ChangeShapes Go.WideShapes Go.ChangeAt Go.RowKit
open Na Ar
set_option linter.unusedVariables false
section
variable {w w' : World} {s s1 s2 : Bool} {a b a1 b1 a2 b2 : Option Addr} {n c m d n1 c1 m1 d1 n2 c2 m2 d2 : Nat} {xs ys x1 y1 x2 y2 : List Int} {R : Except Int Rat}
set_option maxHeartbeats 6400000 in
set_option maxRecDepth 100000 in
theorem raw_any (ha : RowAt .u64 w a n xs) (hb : RowAt .u64 w b m ys) (hx : Ws xs) (hy : Ws ys) (hn : n ≤ maxLen) (hm : m ≤ maxLen) :
    Calls Tryz.prog 19 #[.agg #[.bool s, .slice a n c, .slice b m d]] w fun e w' => ∃ a2 n2 c2 b2 m2 d2, e = .returned (.agg #[.bool s, .slice a2 n2 c2, .slice b2 m2 d2]) ∧ An5 w' s a2 n2 c2 b2 m2 d2 (xs.take 12) (ys.take 12) 12 ∧ Below w.heap.size w w' := by
  obtain ⟨t1, t2, hb0, e0⟩ := st_two' w (.bool s) (.slice a n c) (.slice b m d)
  obtain ⟨w0, hw0⟩ : ∃ w0, w0 = (w.alloc (.cells #[.bool s, .slice a n c, .slice b m d] 25)).alloc (.cells #[.bool false, .slice none 0 0, .slice none 0 0] 25) := ⟨_, rfl⟩
  rw [← hw0] at t1 t2 hb0 e0
  have f1 := fun w1 (h : Below w0.heap.size w0 w1) => (cut_any (cap := c) ((ha.later hb0).later h) hn).mono (R' := fun e w' => ∃ a2 n2 c2, e = .returned (.slice a2 n2 c2) ∧ Own .u64 w' w0.heap.size 46 (.slice a2 n2 c2) (xs.take 12) ∧ Below w0.heap.size w0 w' ∧ Below w1.heap.size w1 w') (by
    rintro e w' ⟨v, rfl, ho, hb'⟩
    obtain ⟨a', c', rfl, r⟩ := ho.readsC
    exact ⟨_, _, _, rfl, own_lower ho h.size, h.trans (hb'.mono h.size), hb'⟩)
  have f2 := fun w1 (h : Below w0.heap.size w0 w1) => (cut_any (cap := d) ((hb.later hb0).later h) hm).mono (R' := fun e w' => ∃ a2 n2 c2, e = .returned (.slice a2 n2 c2) ∧ Own .u64 w' w0.heap.size 46 (.slice a2 n2 c2) (ys.take 12) ∧ Below w0.heap.size w0 w' ∧ Below w1.heap.size w1 w') (by
    rintro e w' ⟨v, rfl, ho, hb'⟩
    obtain ⟨a', c', rfl, r⟩ := ho.readsC
    exact ⟨_, _, _, rfl, own_lower ho h.size, h.trans (hb'.mono h.size), hb'⟩)
  have hxt := hx.take 12
  have hyt := hy.take 12
  have lx : (xs.take 12).length ≤ 12 := by rw [List.length_take]; omega
  have ly : (ys.take 12).length ≤ 12 := by rw [List.length_take]; omega
  clear ha hb hx hy hn hm
  generalize xs.take 12 = us at *
  generalize ys.take 12 = vs at *
  obtain ⟨g, hg⟩ : ∃ g, g = w.heap.size := ⟨_, rfl⟩
  have HG : Hid (w.heap.size = g) := hg.symm
  rw [← hg] at t1 t2 hb0 e0
  have HS : g ≤ w0.heap.size := by rw [hg]; exact hb0.size
  have hcl : ∀ w1, Below w0.heap.size w0 w1 → w1.cell? ⟨g, 0, none⟩ = some (.bool s) ∧ w1.cell? ⟨g, 1, none⟩ = some (.slice a n c) ∧ w1.cell? ⟨g, 2, none⟩ = some (.slice b m d) := fun w1 h => (t1.later h).cells
  obtain ⟨x0, x1, x2⟩ := hcl w0 (Below.refl _ _)
  have ne1 : ¬ g = g + 1 := by omega
  have ne2 : ¬ g + 1 = g := by omega
  go_enter Tryz.func19, Tryz.ntmps19
  go_wp2
  rw [← hw0, ← hg]
  clear hw0 hg
  go_region_held3 (fun w' => w'.cell? ⟨g, 0, none⟩ = some (.bool s) ∧ w'.cell? ⟨g, 1, none⟩ = some (.slice a n c) ∧ w'.cell? ⟨g, 2, none⟩ = some (.slice b m d)) (go_keep) (first | (go_at_call_of 18 a; refine (f1 _ (by first | exact Below.refl _ _ | exact below_drewN (Below.refl _ _) _)).mono ?_; rintro e wX ⟨xa, xn, xc, rfl, rx, hBX, hbX⟩; obtain ⟨x0, x1, x2⟩ := hcl wX hBX) | (go_at_call 18; refine (f2 _ (by first | exact hBX | exact below_drewN hBX _)).mono ?_; rintro e wY ⟨ya, yn, yc, rfl, ry, hBY, hbY⟩; obtain ⟨x0, x1, x2⟩ := hcl wY hBY; have rxY := own_same rx fun g hg => hbY.block g (own_blk rx hg).2; have t2Y := t2.later hBY; obtain ⟨u0, u1, u2⟩ := t2Y.cells; obtain ⟨v0, v1, v2⟩ := t2Y.frozen))
  go_wp2
  have st9 := (t2Y.set (.bool s) (.slice xa xn xc) (.slice ya yn yc)).cells
  refine bodyPost_ret (v := .agg #[.bool s, .slice xa xn xc, .slice ya yn yc]) (by simp [results, Tryz.results19, go_sem, st9]) rfl ?_
  rw [HG.out]
  have HI := in3 wY (g + 1) (.bool s) (.slice xa xn xc) (.slice ya yn yc)
  have HBE := below_in (hb0.trans (hBY.mono HS)) HI (by omega) (by rw [HG.out]; exact Nat.le_refl _)
  obtain ⟨_, _, e1, q1⟩ := (own_inn rxY HI (by omega)).readsC
  obtain ⟨_, _, e2, q2⟩ := (own_inn ry HI (by omega)).readsC
  simp only [Value.slice.injEq] at e1 e2
  obtain ⟨rfl, rfl, rfl⟩ := e1
  obtain ⟨rfl, rfl, rfl⟩ := e2
  exact ⟨_, _, _, _, _, _, rfl, ⟨q1, q2, hxt, hyt, lx, ly⟩, HBE⟩
set_option maxHeartbeats 6400000 in
set_option maxRecDepth 100000 in
theorem one_yes (h1 : Od w s1 a1 n1 c1 b1 m1 d1 R) (h2 : Od w s2 a2 n2 c2 b2 m2 d2 R) :
    Calls Tryz.prog 10 #[.agg #[.bool s1, .slice a1 n1 c1, .slice b1 m1 d1], .agg #[.bool s2, .slice a2 n2 c2, .slice b2 m2 d2]] w fun e w' => e = .returned (.bool true) ∧ Below w.heap.size w w' := by
  obtain ⟨t1, t2, hb0⟩ := st_two w (.bool s1) (.slice a1 n1 c1) (.slice b1 m1 d1) (.bool s2) (.slice a2 n2 c2) (.slice b2 m2 d2) 25 25
  have ts : s1 = s2 := h1.sgn.trans h2.sgn.symm
  have r1 := h1.later hb0
  have r2 := h2.later hb0
  have l1 := h1.ln
  have l2 := h1.lm
  have l3 := h2.ln
  have l4 := h2.lm
  obtain ⟨w0, hw0⟩ : ∃ w0, w0 = (w.alloc (.cells #[.bool s1, .slice a1 n1 c1, .slice b1 m1 d1] 25)).alloc (.cells #[.bool s2, .slice a2 n2 c2, .slice b2 m2 d2] 25) := ⟨_, rfl⟩
  rw [← hw0] at t1 t2 hb0 r1 r2
  obtain ⟨g, hg⟩ : ∃ g, g = w.heap.size := ⟨_, rfl⟩
  have HG : Hid (w.heap.size = g) := hg.symm
  rw [← hg] at t1 t2 hb0
  clear h1 h2
  have sm := same_any (c1 := c1) (c2 := c2) r1.nu.1 r2.nu.1 (by omega) (by omega)
  have sd := fun w1 (h : Below w0.heap.size w0 w1) => same_any (c1 := d1) (c2 := d2) (r1.de.later h).1 (r2.de.later h).1 (by omega) (by omega)
  rw [decide_eq_true rfl] at sm
  simp only at sd
  clear r1 r2
  subst ts
  go_enter Tryz.func10, Tryz.ntmps10
  go_wp2_with fail
  rw [← hw0, ← hg]
  refine sm.mono ?_
  rintro e wA ⟨rfl, hbA⟩
  have t1A := t1.later hbA
  have t2A := t2.later hbA
  obtain ⟨x0, x1, x2⟩ := t1A.cells
  obtain ⟨y0, y1, y2⟩ := t2A.cells
  have HS : g ≤ w0.heap.size := by rw [hg]; exact hb0.size
  clear sm hw0 hg
  go_wp2_with fail
  refine (sd _ hbA).mono ?_
  rintro e wB ⟨rfl, hbB⟩
  clear sd
  go_wp2
  go_ret
  rw [HG.out]
  exact ⟨rfl, hb0.trans ((hbA.trans (hbB.mono hbA.size)).mono HS)⟩
set_option maxHeartbeats 6400000 in
set_option maxRecDepth 100000 in
theorem told_yes {E : Int} (h1 : Od w s1 a1 n1 c1 b1 m1 d1 R) (h2 : Od w s2 a2 n2 c2 b2 m2 d2 R) :
    Calls Tryz.prog 22 #[.agg #[.bool s1, .slice a1 n1 c1, .slice b1 m1 d1], .int .i64 E, .agg #[.bool s2, .slice a2 n2 c2, .slice b2 m2 d2], .int .i64 E] w fun e w' => e = .returned (.bool true) ∧ Below w.heap.size w w' := by
  obtain ⟨t1, t2, hb0⟩ := st_two w (.bool s1) (.slice a1 n1 c1) (.slice b1 m1 d1) (.bool s2) (.slice a2 n2 c2) (.slice b2 m2 d2) 25 25
  have o := one_yes (h1.later hb0) (h2.later hb0)
  have te : (E == E) = true := beq_of rfl
  clear h1 h2
  go_enter Tryz.func22, Tryz.ntmps22
  go_wp2_with fail
  refine o.mono ?_
  rintro e wA ⟨rfl, hbA⟩
  clear o
  go_wp2
  go_ret
  exact ⟨rfl, hb0.trans (hbA.mono hb0.size)⟩
end
end Go.Proofs.YtopcdpeepchgfacGreatDoor
