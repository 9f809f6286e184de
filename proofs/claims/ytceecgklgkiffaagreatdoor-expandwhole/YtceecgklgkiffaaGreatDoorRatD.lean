/- package rat: Add, Sub, Mul, Div, where nothing is too long. -/
import Derived.Test.YtceecgklgkiffaaGreatDoorRatC
namespace Go.Proofs.YtceecgklgkiffaaGreatDoor
open Go.ChangeShapes Go.WideShapes Go.ChangeAt Go.RowKit
open Na Ar
set_option linter.unusedVariables false
/-- one cell in its block -/
def E1 (w : World) (g : Nat) (t : TypeId) (x : Value) : Prop := w.heap[g]? = some (.cells #[x] t (0, 0))
section
variable {w w' : World} {g : Nat} {t : TypeId} {x : Value}
theorem E1.lt (h : E1 w g t x) : g < w.heap.size := by
  by_cases hlt : g < w.heap.size
  · exact hlt
  · unfold E1 at h; simp [Array.getElem?_eq_none (Nat.le_of_not_lt hlt)] at h
theorem E1.later (h : E1 w g t x) (hb : Below w.heap.size w w') : E1 w' g t x := by
  have := h.lt
  unfold E1
  rw [hb.block g this]; exact h
theorem E1.cell (h : E1 w g t x) : w.cell? ⟨g, 0, none⟩ = some x := by
  unfold E1 at h
  simp [World.cell?, h]
theorem E1.frozen (h : E1 w g t x) : w.frozen? ⟨g, 0, none⟩ = false := by
  unfold E1 at h
  simp [World.frozen?, h]
theorem E1.set (h : E1 w g t x) (y : Value) : E1 (w.setCell ⟨g, 0, none⟩ y) g t y := set_block h
theorem E1.inn {g' : Nat} (h : E1 w g t x) (hi : In g' (g' + 1) w w') (hne : g ≠ g') : E1 w' g t x := by
  have := h.lt
  unfold E1
  rw [hi.block g this (by omega)]; exact h
theorem in1 (w : World) (g : Nat) (y : Value) : In g (g + 1) w (w.setCell ⟨g, 0, none⟩ y) := (In.refl g (g + 1) w).set1 0 _
theorem E1.drew (h : E1 w g t x) : E1 w.drew g t x := h
theorem St.drew {y z : Value} (h : St w g t x y z) : St w.drew g t x y z := h
theorem in_drew (g : Nat) (w : World) : In g (g + 1) w w.drew := ⟨rfl, rfl, rfl, Nat.le_refl _, fun _ _ _ => rfl⟩
end
theorem st_four (w : World) (x y z x' y' z' : Value) : St ((((w.alloc (.cells #[x, y, z] 50)).alloc (.cells #[x', y', z'] 50)).alloc (.cells #[.bool false, .slice none 0 0, .slice none 0 0] 50)).alloc (.cells #[.int .i64 0] 27)) w.heap.size 50 x y z ∧ St ((((w.alloc (.cells #[x, y, z] 50)).alloc (.cells #[x', y', z'] 50)).alloc (.cells #[.bool false, .slice none 0 0, .slice none 0 0] 50)).alloc (.cells #[.int .i64 0] 27)) (w.heap.size + 1) 50 x' y' z' ∧ St ((((w.alloc (.cells #[x, y, z] 50)).alloc (.cells #[x', y', z'] 50)).alloc (.cells #[.bool false, .slice none 0 0, .slice none 0 0] 50)).alloc (.cells #[.int .i64 0] 27)) (w.heap.size + 1 + 1) 50 (.bool false) (.slice none 0 0) (.slice none 0 0) ∧ E1 ((((w.alloc (.cells #[x, y, z] 50)).alloc (.cells #[x', y', z'] 50)).alloc (.cells #[.bool false, .slice none 0 0, .slice none 0 0] 50)).alloc (.cells #[.int .i64 0] 27)) (w.heap.size + 1 + 1 + 1) 27 (.int .i64 0) ∧ Below w.heap.size w ((((w.alloc (.cells #[x, y, z] 50)).alloc (.cells #[x', y', z'] 50)).alloc (.cells #[.bool false, .slice none 0 0, .slice none 0 0] 50)).alloc (.cells #[.int .i64 0] 27)) ∧ ((((w.alloc (.cells #[x, y, z] 50)).alloc (.cells #[x', y', z'] 50)).alloc (.cells #[.bool false, .slice none 0 0, .slice none 0 0] 50)).alloc (.cells #[.int .i64 0] 27)).heap.size = w.heap.size + 4 := by
  obtain ⟨s1, s2, s3, b⟩ := st_three w x y z x' y' z' (.bool false) (.slice none 0 0) (.slice none 0 0) 50 50 50
  have e1 : (((w.alloc (.cells #[x, y, z] 50)).alloc (.cells #[x', y', z'] 50)).alloc (.cells #[.bool false, .slice none 0 0, .slice none 0 0] 50)).heap.size = w.heap.size + 1 + 1 + 1 := by simp
  generalize ((w.alloc (.cells #[x, y, z] 50)).alloc (.cells #[x', y', z'] 50)).alloc (.cells #[.bool false, .slice none 0 0, .slice none 0 0] 50) = w1 at *
  have b2 := alloc_below (w := w1) (.cells #[.int .i64 0] 27)
  have s4 : E1 (w1.alloc (.cells #[.int .i64 0] 27)) w1.heap.size 27 (.int .i64 0) := heap_alloc_new _ _
  rw [e1] at s4
  exact ⟨s1.later b2, s2.later b2, s3.later b2, s4, b.trans (b2.mono b.size), by simp [e1]⟩
section
variable {w : World} {s1 s2 : Bool} {a1 b1 a2 b2 : Option Addr} {n1 c1 m1 d1 n2 c2 m2 d2 : Nat} {p q : Rat} {k l : Nat}
set_option maxHeartbeats 6400000 in
set_option maxRecDepth 100000 in
theorem rAdd_ok (h1 : Rt w s1 a1 n1 c1 b1 m1 d1 p) (h2 : Rt w s2 a2 n2 c2 b2 m2 d2 q) (z1 : Sz p k) (z2 : Sz q l) (hk : k + l + 1 ≤ 4096) :
    Calls Tryz.prog 135 #[.agg #[.bool s1, .slice a1 n1 c1, .slice b1 m1 d1], .agg #[.bool s2, .slice a2 n2 c2, .slice b2 m2 d2]] w fun e w' => ∃ s v1 v2, e = .returned (.tuple #[.agg #[.bool s, v1, v2], .int .i64 0]) ∧ RtO w' w.heap.size s v1 v2 (p + q) ∧ Sz (p + q) (k + l + 1) ∧ Below w.heap.size w w' := by
  have HC : Hid ((if s2 = decide (q.num < 0) then p + q else p - q) = p + q) := by
    show _ = _
    rw [h2.sgn]
    first | exact if_pos rfl | exact if_neg (by cases decide (q.num < 0) <;> simp)
  have hmf : ∀ (fn : Fn) (first cap : Array Value) (w : World), (Instr.makeFunc fn first cap).run Tryz.prog w = .ok (.func fn first cap) w := fun _ _ _ _ => rfl
  obtain ⟨t1, t2, t3, t4, hb0, e0⟩ := st_four w (.bool s1) (.slice a1 n1 c1) (.slice b1 m1 d1) (.bool s2) (.slice a2 n2 c2) (.slice b2 m2 d2)
  obtain ⟨w0, hw0⟩ : ∃ w0, w0 = (((w.alloc (.cells #[.bool s1, .slice a1 n1 c1, .slice b1 m1 d1] 50)).alloc (.cells #[.bool s2, .slice a2 n2 c2, .slice b2 m2 d2] 50)).alloc (.cells #[.bool false, .slice none 0 0, .slice none 0 0] 50)).alloc (.cells #[.int .i64 0] 27) := ⟨_, rfl⟩
  rw [← hw0] at t1 t2 t3 t4 hb0 e0
  have r1 := h1.later hb0
  have r2 := h2.later hb0
  obtain ⟨g, hg⟩ : ∃ g, g = w.heap.size := ⟨_, rfl⟩
  have HG : Hid (w.heap.size = g) := hg.symm
  rw [← hg] at t1 t2 t3 t4 hb0 e0
  have HS : g ≤ w0.heap.size := by rw [hg]; exact hb0.size
  go_enter_defers Tryz.func135, Tryz.ntmps135
  go_wp2_with fail
  rw [← hw0, ← hg]
  refine (areRats_ok r1 r2 z1 z2 (by omega) (by omega)).mono ?_
  rintro e wA ⟨rfl, hbA⟩
  have r1A := r1.later hbA
  have r2A := r2.later hbA
  have t1A := t1.later hbA
  have t2A := t2.later hbA
  have t3A := t3.later hbA
  have t4A := t4.later hbA
  have HA := hb0.trans (hbA.mono HS)
  have HAs : w0.heap.size ≤ wA.heap.size := hbA.size
  clear hw0 hg t1 t2 t3 t4 r1 r2 hbA hb0 h1 h2
  obtain ⟨x0, x1, x2⟩ := t1A.cells
  obtain ⟨y0, y1, y2⟩ := t2A.cells
  have f1 := sum_ok r1A r2A z1 z2 hk s2
  rw [HC.out] at f1
  clear r1A r2A HC
  go_wp2_with fail
  refine f1.mono ?_
  rintro e wB ⟨s9, v1, v2, rfl, hR, hsz, hbB⟩
  clear f1
  obtain ⟨a9, n9, c9, b9, m9, d9, rfl, rfl, _⟩ := hR.opens
  have t3B := t3A.later hbB
  have t4B := t4A.later hbB
  obtain ⟨u0, u1, u2⟩ := t3B.cells
  obtain ⟨v0, v1, v2⟩ := t3B.frozen
  have o0 := t4B.cell
  have o1 := t4B.frozen
  have sA := t3A.lt
  have sB := t4A.lt
  go_wp2
  have t3C := (t3B.set (.bool s9) (.slice a9 n9 c9) (.slice b9 m9 d9)).inn (in1 _ (g + 1 + 1 + 1) (.int .i64 0)) (by omega)
  have t4C := (t4B.inn (in3 _ (g + 1 + 1) (.bool s9) (.slice a9 n9 c9) (.slice b9 m9 d9)) (by omega)).set (.int .i64 0)
  have hRC := (hR.inn (in3 _ (g + 1 + 1) (.bool s9) (.slice a9 n9 c9) (.slice b9 m9 d9)) (by omega)).inn (in1 _ (g + 1 + 1 + 1) (.int .i64 0)) (by omega)
  have HC := below_in (below_in (HA.trans (hbB.mono (by omega))) (in3 _ (g + 1 + 1) (.bool s9) (.slice a9 n9 c9) (.slice b9 m9 d9)) (by omega) (by rw [HG.out]; exact Nat.le_refl _)) (in1 _ (g + 1 + 1 + 1) (.int .i64 0)) (by omega) (by rw [HG.out]; exact Nat.le_refl _)
  clear u0 u1 u2 v0 v1 v2 o0 o1 t3B t4B hR x0 x1 x2 y0 y1 y2
  generalize (((wB.setCell ⟨g + 1 + 1, 0, none⟩ (.bool s9)).setCell ⟨g + 1 + 1, 1, none⟩ (.slice a9 n9 c9)).setCell ⟨g + 1 + 1, 2, none⟩ (.slice b9 m9 d9)).setCell ⟨g + 1 + 1 + 1, 0, none⟩ (.int .i64 0) = wC at *
  refine leaves_cons (f := 168) (args := #[.pointer (some ⟨g + 1 + 1 + 1, 0, none⟩)]) (by simp) (by simp [go_sem]) ?_
  refine (idleAdd (g + 1 + 1 + 1) 0 _ t4C.cell t4C.frozen).mono ?_
  rintro e u' w'' ⟨rfl, rfl, rfl⟩
  have t3D := (t3C.inn (in1 _ (g + 1 + 1 + 1) (.int .i64 0)) (by omega)).drew
  have t4D := (t4C.set (.int .i64 0)).drew
  have hRD := (hRC.inn (in1 _ (g + 1 + 1 + 1) (.int .i64 0)) (by omega)).inn (in_drew (g + 1 + 1 + 1) _) (by omega)
  have HD := below_in (below_in HC (in1 _ (g + 1 + 1 + 1) (.int .i64 0)) (by omega) (by rw [HG.out]; exact Nat.le_refl _)) (in_drew (g + 1 + 1 + 1) _) (by omega) (by rw [HG.out]; exact Nat.le_refl _)
  clear t3C t4C hRC HC
  generalize ((wC.setCell ⟨g + 1 + 1 + 1, 0, none⟩ (.int .i64 0)).drew) = wD at *
  obtain ⟨u0, u1, u2⟩ := t3D.cells
  have o0 := t4D.cell
  refine ⟨.tuple #[.agg #[.bool s9, .slice a9 n9 c9, .slice b9 m9 d9], .int .i64 0], by simp [results, Tryz.results135, go_sem, u0, u1, u2, o0], ?_⟩
  rw [HG.out]
  exact ⟨_, _, _, rfl, hRD.lower (by omega), hsz, HD⟩
set_option maxHeartbeats 6400000 in
set_option maxRecDepth 100000 in
theorem rSub_ok (h1 : Rt w s1 a1 n1 c1 b1 m1 d1 p) (h2 : Rt w s2 a2 n2 c2 b2 m2 d2 q) (z1 : Sz p k) (z2 : Sz q l) (hk : k + l + 1 ≤ 4096) :
    Calls Tryz.prog 28 #[.agg #[.bool s1, .slice a1 n1 c1, .slice b1 m1 d1], .agg #[.bool s2, .slice a2 n2 c2, .slice b2 m2 d2]] w fun e w' => ∃ s v1 v2, e = .returned (.tuple #[.agg #[.bool s, v1, v2], .int .i64 0]) ∧ RtO w' w.heap.size s v1 v2 (p - q) ∧ Sz (p - q) (k + l + 1) ∧ Below w.heap.size w w' := by
  have HC : Hid ((if (!s2) = decide (q.num < 0) then p + q else p - q) = p - q) := by
    show _ = _
    rw [h2.sgn]
    first | exact if_pos rfl | exact if_neg (by cases decide (q.num < 0) <;> simp)
  have hmf : ∀ (fn : Fn) (first cap : Array Value) (w : World), (Instr.makeFunc fn first cap).run Tryz.prog w = .ok (.func fn first cap) w := fun _ _ _ _ => rfl
  obtain ⟨t1, t2, t3, t4, hb0, e0⟩ := st_four w (.bool s1) (.slice a1 n1 c1) (.slice b1 m1 d1) (.bool s2) (.slice a2 n2 c2) (.slice b2 m2 d2)
  obtain ⟨w0, hw0⟩ : ∃ w0, w0 = (((w.alloc (.cells #[.bool s1, .slice a1 n1 c1, .slice b1 m1 d1] 50)).alloc (.cells #[.bool s2, .slice a2 n2 c2, .slice b2 m2 d2] 50)).alloc (.cells #[.bool false, .slice none 0 0, .slice none 0 0] 50)).alloc (.cells #[.int .i64 0] 27) := ⟨_, rfl⟩
  rw [← hw0] at t1 t2 t3 t4 hb0 e0
  have r1 := h1.later hb0
  have r2 := h2.later hb0
  obtain ⟨g, hg⟩ : ∃ g, g = w.heap.size := ⟨_, rfl⟩
  have HG : Hid (w.heap.size = g) := hg.symm
  rw [← hg] at t1 t2 t3 t4 hb0 e0
  have HS : g ≤ w0.heap.size := by rw [hg]; exact hb0.size
  go_enter_defers Tryz.func28, Tryz.ntmps28
  go_wp2_with fail
  rw [← hw0, ← hg]
  refine (areRats_ok r1 r2 z1 z2 (by omega) (by omega)).mono ?_
  rintro e wA ⟨rfl, hbA⟩
  have r1A := r1.later hbA
  have r2A := r2.later hbA
  have t1A := t1.later hbA
  have t2A := t2.later hbA
  have t3A := t3.later hbA
  have t4A := t4.later hbA
  have HA := hb0.trans (hbA.mono HS)
  have HAs : w0.heap.size ≤ wA.heap.size := hbA.size
  clear hw0 hg t1 t2 t3 t4 r1 r2 hbA hb0 h1 h2
  obtain ⟨x0, x1, x2⟩ := t1A.cells
  obtain ⟨y0, y1, y2⟩ := t2A.cells
  have f1 := sum_ok r1A r2A z1 z2 hk (!s2)
  rw [HC.out] at f1
  clear r1A r2A HC
  go_wp2_with fail
  refine f1.mono ?_
  rintro e wB ⟨s9, v1, v2, rfl, hR, hsz, hbB⟩
  clear f1
  obtain ⟨a9, n9, c9, b9, m9, d9, rfl, rfl, _⟩ := hR.opens
  have t3B := t3A.later hbB
  have t4B := t4A.later hbB
  obtain ⟨u0, u1, u2⟩ := t3B.cells
  obtain ⟨v0, v1, v2⟩ := t3B.frozen
  have o0 := t4B.cell
  have o1 := t4B.frozen
  have sA := t3A.lt
  have sB := t4A.lt
  go_wp2
  have t3C := (t3B.set (.bool s9) (.slice a9 n9 c9) (.slice b9 m9 d9)).inn (in1 _ (g + 1 + 1 + 1) (.int .i64 0)) (by omega)
  have t4C := (t4B.inn (in3 _ (g + 1 + 1) (.bool s9) (.slice a9 n9 c9) (.slice b9 m9 d9)) (by omega)).set (.int .i64 0)
  have hRC := (hR.inn (in3 _ (g + 1 + 1) (.bool s9) (.slice a9 n9 c9) (.slice b9 m9 d9)) (by omega)).inn (in1 _ (g + 1 + 1 + 1) (.int .i64 0)) (by omega)
  have HC := below_in (below_in (HA.trans (hbB.mono (by omega))) (in3 _ (g + 1 + 1) (.bool s9) (.slice a9 n9 c9) (.slice b9 m9 d9)) (by omega) (by rw [HG.out]; exact Nat.le_refl _)) (in1 _ (g + 1 + 1 + 1) (.int .i64 0)) (by omega) (by rw [HG.out]; exact Nat.le_refl _)
  clear u0 u1 u2 v0 v1 v2 o0 o1 t3B t4B hR x0 x1 x2 y0 y1 y2
  generalize (((wB.setCell ⟨g + 1 + 1, 0, none⟩ (.bool s9)).setCell ⟨g + 1 + 1, 1, none⟩ (.slice a9 n9 c9)).setCell ⟨g + 1 + 1, 2, none⟩ (.slice b9 m9 d9)).setCell ⟨g + 1 + 1 + 1, 0, none⟩ (.int .i64 0) = wC at *
  refine leaves_cons (f := 65) (args := #[.pointer (some ⟨g + 1 + 1 + 1, 0, none⟩)]) (by simp) (by simp [go_sem]) ?_
  refine (idleSub (g + 1 + 1 + 1) 0 _ t4C.cell t4C.frozen).mono ?_
  rintro e u' w'' ⟨rfl, rfl, rfl⟩
  have t3D := (t3C.inn (in1 _ (g + 1 + 1 + 1) (.int .i64 0)) (by omega)).drew
  have t4D := (t4C.set (.int .i64 0)).drew
  have hRD := (hRC.inn (in1 _ (g + 1 + 1 + 1) (.int .i64 0)) (by omega)).inn (in_drew (g + 1 + 1 + 1) _) (by omega)
  have HD := below_in (below_in HC (in1 _ (g + 1 + 1 + 1) (.int .i64 0)) (by omega) (by rw [HG.out]; exact Nat.le_refl _)) (in_drew (g + 1 + 1 + 1) _) (by omega) (by rw [HG.out]; exact Nat.le_refl _)
  clear t3C t4C hRC HC
  generalize ((wC.setCell ⟨g + 1 + 1 + 1, 0, none⟩ (.int .i64 0)).drew) = wD at *
  obtain ⟨u0, u1, u2⟩ := t3D.cells
  have o0 := t4D.cell
  refine ⟨.tuple #[.agg #[.bool s9, .slice a9 n9 c9, .slice b9 m9 d9], .int .i64 0], by simp [results, Tryz.results28, go_sem, u0, u1, u2, o0], ?_⟩
  rw [HG.out]
  exact ⟨_, _, _, rfl, hRD.lower (by omega), hsz, HD⟩
end
end Go.Proofs.YtceecgklgkiffaaGreatDoor
