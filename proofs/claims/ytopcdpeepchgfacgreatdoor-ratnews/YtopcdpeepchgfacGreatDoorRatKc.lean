/- package rat: whatever comes in: Check, areRats; Add, Sub, Mul, Div, Cmp, Floor of what is no Rat. -/
import Derived.Test.YtopcdpeepchgfacGreatDoorRatK
namespace Go.Proofs.YtopcdpeepchgfacGreatDoor
open Go.ChangeShapes Go.WideShapes Go.ChangeAt Go.RowKit
open Na Ar
set_option linter.unusedVariables false
theorem rt_of_isR {w : World} {s : Bool} {a b : Option Addr} {n c m d : Nat} {xs ys : List Int} (h1 : RowC w a n c xs) (h2 : RowC w b m d ys) (hx : Ws xs) (hy : Ws ys) (h : isR s xs ys = true) :
    Rt w s a n c b m d (mkR s (num xs) (num ys)) := by
  unfold isR at h
  simp only [Bool.and_eq_true, decide_eq_true_eq] at h
  obtain ⟨⟨⟨⟨hN, hM⟩, hm0⟩, hs⟩, hg⟩ := h
  have eN := nrmB_words hx hN
  have eM := nrmB_words hy hM
  have x0 := num_nonneg hx
  have y0 := num_nonneg hy
  have yp : 0 < num ys := by
    have : num ys ≠ 0 := fun e => by
      have := (words_nil y0).mpr e
      rw [eM] at this
      exact hm0 this
    omega
  have e1 := rat_abs (s := s) x0 yp
  have e2 := rat_den (s := s) x0 yp
  have e3 := rat_neg (s := s) x0 yp
  rw [hg] at e1 e2 e3
  simp only [Int.natCast_one, Int.ediv_one] at e1 e2 e3
  refine ⟨?_, by rw [e1, eN]; exact h1, by rw [e2, eM]; exact h2⟩
  rw [e3]
  cases s
  · rfl
  · have : num xs ≠ 0 := fun e => by
      have := (words_nil x0).mpr e
      rw [eN] at this
      simp [this] at hs
    simp [this]
theorem sz_of {s : Bool} {xs ys : List Int} {k : Nat} (hx : Ws xs) (hy : Ws ys) (lx : xs.length ≤ k) (ly : ys.length ≤ k) (yp : 0 < num ys) : Sz (mkR s (num xs) (num ys)) k := by
  have a : Lt (num xs) k := ⟨num_nonneg hx, Int.lt_of_lt_of_le (num_bd hx) (wpow_mono lx)⟩
  have b : Lt (num ys) k := ⟨num_nonneg hy, Int.lt_of_lt_of_le (num_bd hy) (wpow_mono ly)⟩
  exact Sz.mkR a b yp
theorem den_of_isR {s : Bool} {xs ys : List Int} (hy : Ws ys) (h : isR s xs ys = true) : 0 < num ys := by
  unfold isR at h
  simp only [Bool.and_eq_true, decide_eq_true_eq] at h
  obtain ⟨⟨⟨⟨hN, hM⟩, hm0⟩, hs⟩, hg⟩ := h
  have eM := nrmB_words hy hM
  have y0 := num_nonneg hy
  have : num ys ≠ 0 := fun e => by
    have := (words_nil y0).mpr e
    rw [eM] at this
    exact hm0 this
  omega
/-- any api.Rat in memory, of at most k words -/
structure An5 (w : World) (s : Bool) (a : Option Addr) (n c : Nat) (b : Option Addr) (m d : Nat) (xs ys : List Int) (k : Nat) : Prop where
  nu : RowC w a n c xs
  de : RowC w b m d ys
  wx : Ws xs
  wy : Ws ys
  lx : xs.length ≤ k
  ly : ys.length ≤ k
theorem An5.later {w w' : World} {s : Bool} {a : Option Addr} {n c : Nat} {b : Option Addr} {m d : Nat} {xs ys : List Int} {k : Nat} (h : An5 w s a n c b m d xs ys k) (hb : Below w.heap.size w w') : An5 w' s a n c b m d xs ys k :=
  ⟨h.nu.later hb, h.de.later hb, h.wx, h.wy, h.lx, h.ly⟩
theorem An5.rt {w : World} {s : Bool} {a : Option Addr} {n c : Nat} {b : Option Addr} {m d : Nat} {xs ys : List Int} {k : Nat} (h : An5 w s a n c b m d xs ys k) (hR : isR s xs ys = true) : Rt w s a n c b m d (mkR s (num xs) (num ys)) ∧ Sz (mkR s (num xs) (num ys)) k :=
  ⟨rt_of_isR h.nu h.de h.wx h.wy hR, sz_of h.wx h.wy h.lx h.ly (den_of_isR h.wy hR)⟩
section
variable {w : World} {s s1 s2 : Bool} {a b a1 b1 a2 b2 : Option Addr} {n c m d n1 c1 m1 d1 n2 c2 m2 d2 : Nat} {xs ys x1 y1 x2 y2 : List Int} {k l : Nat}
theorem check_gen {K : Int} (h : An5 w s a n c b m d xs ys k) (hk : k ≤ 4096) (hK : (if isR s xs ys then (0 : Int) else 51) = K) :
    Calls Tryz.prog 23 #[.agg #[.bool s, .slice a n c, .slice b m d]] w fun e w' => e = .returned (.int .i64 K) ∧ Below w.heap.size w w' := by
  cases hR : isR s xs ys
  · rw [hR] at hK
    subst hK
    have l1 := h.nu.1.1
    have l2 := h.de.1.1
    have l3 := h.lx
    have l4 := h.ly
    exact check_no h.nu h.de h.wx h.wy (by omega) (by omega) hR
  · rw [hR] at hK
    subst hK
    obtain ⟨r, z⟩ := h.rt hR
    exact check_ok r z hk
set_option maxHeartbeats 6400000 in
theorem areRats_gen {B : Bool} (h1 : An5 w s1 a1 n1 c1 b1 m1 d1 x1 y1 k) (h2 : An5 w s2 a2 n2 c2 b2 m2 d2 x2 y2 l) (hk : k ≤ 4096) (hl : l ≤ 4096) (hB : (isR s1 x1 y1 && isR s2 x2 y2) = B) :
    Calls Tryz.prog 56 #[.agg #[.bool s1, .slice a1 n1 c1, .slice b1 m1 d1], .agg #[.bool s2, .slice a2 n2 c2, .slice b2 m2 d2]] w fun e w' => e = .returned (.bool B) ∧ Below w.heap.size w w' := by
  obtain ⟨t1, t2, hb0⟩ := st_two w (.bool s1) (.slice a1 n1 c1) (.slice b1 m1 d1) (.bool s2) (.slice a2 n2 c2) (.slice b2 m2 d2) 25 25
  have r1 := h1.later hb0
  have r2 := h2.later hb0
  clear h1 h2
  cases hR1 : isR s1 x1 y1
  · have HB : Hid (false = B) := by show _ = _; rw [← hB, hR1]; rfl
    have k1 := check_gen (K := 51) r1 hk (by rw [hR1]; rfl)
    clear hR1 hB r1 r2
    go_enter Tryz.func56, Tryz.ntmps56
    go_wp2_with fail
    refine k1.mono ?_
    rintro e wA ⟨rfl, hbA⟩
    clear k1
    go_wp2
    go_ret
    exact ⟨ret_bool' HB.out, hb0.trans (hbA.mono hb0.size)⟩
  · have k1 := check_gen (K := 0) r1 hk (by rw [hR1]; rfl)
    cases hR2 : isR s2 x2 y2
    · have HB : Hid (false = B) := by show _ = _; rw [← hB, hR1, hR2]; rfl
      have k2 := fun w1 (h : Below _ _ w1) => check_gen (K := 51) (r2.later h) hl (by rw [hR2]; rfl)
      clear hR1 hR2 hB r1 r2
      go_enter Tryz.func56, Tryz.ntmps56
      go_wp2_with fail
      refine k1.mono ?_
      rintro e wA ⟨rfl, hbA⟩
      obtain ⟨x0, x1, x2⟩ := (t2.later hbA).cells
      clear k1 t1 t2
      go_wp2_with fail
      refine (k2 _ hbA).mono ?_
      rintro e wB ⟨rfl, hbB⟩
      go_wp2
      go_ret
      exact ⟨ret_bool' HB.out, hb0.trans ((hbA.trans (hbB.mono hbA.size)).mono hb0.size)⟩
    · have HB : Hid (true = B) := by show _ = _; rw [← hB, hR1, hR2]; rfl
      have k2 := fun w1 (h : Below _ _ w1) => check_gen (K := 0) (r2.later h) hl (by rw [hR2]; rfl)
      clear hR1 hR2 hB r1 r2
      go_enter Tryz.func56, Tryz.ntmps56
      go_wp2_with fail
      refine k1.mono ?_
      rintro e wA ⟨rfl, hbA⟩
      obtain ⟨x0, x1, x2⟩ := (t2.later hbA).cells
      clear k1 t1 t2
      go_wp2_with fail
      refine (k2 _ hbA).mono ?_
      rintro e wB ⟨rfl, hbB⟩
      go_wp2
      go_ret
      exact ⟨ret_bool' HB.out, hb0.trans ((hbA.trans (hbB.mono hbA.size)).mono hb0.size)⟩
set_option maxHeartbeats 6400000 in
set_option maxRecDepth 100000 in
theorem rAdd_no (h1 : An5 w s1 a1 n1 c1 b1 m1 d1 x1 y1 k) (h2 : An5 w s2 a2 n2 c2 b2 m2 d2 x2 y2 l) (hk : k ≤ 4096) (hl : l ≤ 4096) (hno : (isR s1 x1 y1 && isR s2 x2 y2) = false) :
    Calls Tryz.prog 31 #[.agg #[.bool s1, .slice a1 n1 c1, .slice b1 m1 d1], .agg #[.bool s2, .slice a2 n2 c2, .slice b2 m2 d2]] w fun e w' => e = .returned (.tuple #[.agg #[.bool false, .slice none 0 0, .slice none 0 0], .int .i64 51]) ∧ Below w.heap.size w w' := by
  have hmf : ∀ (fn : Fn) (first cap : Array Value) (w : World), (Instr.makeFunc fn first cap).run Tryz.prog w = .ok (.func fn first cap) w := fun _ _ _ _ => rfl
  obtain ⟨t1, t2, t3, t4, hb0, e0⟩ := st_four w (.bool s1) (.slice a1 n1 c1) (.slice b1 m1 d1) (.bool s2) (.slice a2 n2 c2) (.slice b2 m2 d2)
  obtain ⟨w0, hw0⟩ : ∃ w0, w0 = (((w.alloc (.cells #[.bool s1, .slice a1 n1 c1, .slice b1 m1 d1] 25)).alloc (.cells #[.bool s2, .slice a2 n2 c2, .slice b2 m2 d2] 25)).alloc (.cells #[.bool false, .slice none 0 0, .slice none 0 0] 25)).alloc (.cells #[.int .i64 0] 29) := ⟨_, rfl⟩
  rw [← hw0] at t1 t2 t3 t4 hb0 e0
  have r1 := h1.later hb0
  have r2 := h2.later hb0
  obtain ⟨g, hg⟩ : ∃ g, g = w.heap.size := ⟨_, rfl⟩
  have HG : Hid (w.heap.size = g) := hg.symm
  rw [← hg] at t1 t2 t3 t4 hb0 e0
  have HS : g ≤ w0.heap.size := by rw [hg]; exact hb0.size
  go_enter_defers Tryz.func31, Tryz.ntmps31
  go_wp2_with fail
  rw [← hw0, ← hg]
  refine (areRats_gen (B := false) r1 r2 hk hl hno).mono ?_
  rintro e wA ⟨rfl, hbA⟩
  have r1A := r1.later hbA
  have r2A := r2.later hbA
  have t1A := t1.later hbA
  have t2A := t2.later hbA
  have t3A := t3.later hbA
  have t4A := t4.later hbA
  have HA := hb0.trans (hbA.mono HS)
  have HAs : w0.heap.size ≤ wA.heap.size := hbA.size
  clear hw0 hg t1 t2 t3 t4 r1 r2 hbA hb0 h1 h2
  obtain ⟨x0, x1, x2⟩ := t1A.cells
  obtain ⟨y0, y1, y2⟩ := t2A.cells
  obtain ⟨u0, u1, u2⟩ := t3A.cells
  obtain ⟨v0, v1, v2⟩ := t3A.frozen
  have o0 := t4A.cell
  have o1 := t4A.frozen
  have sA := t3A.lt
  have sB := t4A.lt
  go_wp2
  have t3C := (t3A.set (.bool false) (.slice none 0 0) (.slice none 0 0)).inn (in1 _ (g + 1 + 1 + 1) (.int .i64 51)) (by omega)
  have t4C := (t4A.inn (in3 _ (g + 1 + 1) (.bool false) (.slice none 0 0) (.slice none 0 0)) (by omega)).set (.int .i64 51)
  have HC := below_in (below_in HA (in3 _ (g + 1 + 1) (.bool false) (.slice none 0 0) (.slice none 0 0)) (by omega) (by rw [HG.out]; exact Nat.le_refl _)) (in1 _ (g + 1 + 1 + 1) (.int .i64 51)) (by omega) (by rw [HG.out]; exact Nat.le_refl _)
  clear u0 u1 u2 v0 v1 v2 o0 o1 t3A t4A x0 x1 x2 y0 y1 y2
  generalize (((wA.setCell ⟨g + 1 + 1, 0, none⟩ (.bool false)).setCell ⟨g + 1 + 1, 1, none⟩ (.slice none 0 0)).setCell ⟨g + 1 + 1, 2, none⟩ (.slice none 0 0)).setCell ⟨g + 1 + 1 + 1, 0, none⟩ (.int .i64 51) = wC at *
  refine leaves_cons (f := 54) (args := #[.pointer (some ⟨g + 1 + 1 + 1, 0, none⟩)]) (by simp) (by simp [go_sem]) ?_
  refine (idleAdd (g + 1 + 1 + 1) 51 _ t4C.cell t4C.frozen).mono ?_
  rintro e u' w'' ⟨rfl, rfl, rfl⟩
  have t3D := (t3C.inn (in1 _ (g + 1 + 1 + 1) (.int .i64 51)) (by omega)).drew
  have t4D := (t4C.set (.int .i64 51)).drew
  have HD := below_in (below_in HC (in1 _ (g + 1 + 1 + 1) (.int .i64 51)) (by omega) (by rw [HG.out]; exact Nat.le_refl _)) (in_drew (g + 1 + 1 + 1) _) (by omega) (by rw [HG.out]; exact Nat.le_refl _)
  clear t3C t4C HC
  generalize ((wC.setCell ⟨g + 1 + 1 + 1, 0, none⟩ (.int .i64 51)).drew) = wD at *
  obtain ⟨u0, u1, u2⟩ := t3D.cells
  have o0 := t4D.cell
  refine ⟨.tuple #[.agg #[.bool false, .slice none 0 0, .slice none 0 0], .int .i64 51], by simp [results, Tryz.results31, go_sem, u0, u1, u2, o0], ?_⟩
  rw [HG.out]
  exact ⟨rfl, HD⟩
set_option maxHeartbeats 6400000 in
set_option maxRecDepth 100000 in
theorem rSub_no (h1 : An5 w s1 a1 n1 c1 b1 m1 d1 x1 y1 k) (h2 : An5 w s2 a2 n2 c2 b2 m2 d2 x2 y2 l) (hk : k ≤ 4096) (hl : l ≤ 4096) (hno : (isR s1 x1 y1 && isR s2 x2 y2) = false) :
    Calls Tryz.prog 73 #[.agg #[.bool s1, .slice a1 n1 c1, .slice b1 m1 d1], .agg #[.bool s2, .slice a2 n2 c2, .slice b2 m2 d2]] w fun e w' => e = .returned (.tuple #[.agg #[.bool false, .slice none 0 0, .slice none 0 0], .int .i64 51]) ∧ Below w.heap.size w w' := by
  have hmf : ∀ (fn : Fn) (first cap : Array Value) (w : World), (Instr.makeFunc fn first cap).run Tryz.prog w = .ok (.func fn first cap) w := fun _ _ _ _ => rfl
  obtain ⟨t1, t2, t3, t4, hb0, e0⟩ := st_four w (.bool s1) (.slice a1 n1 c1) (.slice b1 m1 d1) (.bool s2) (.slice a2 n2 c2) (.slice b2 m2 d2)
  obtain ⟨w0, hw0⟩ : ∃ w0, w0 = (((w.alloc (.cells #[.bool s1, .slice a1 n1 c1, .slice b1 m1 d1] 25)).alloc (.cells #[.bool s2, .slice a2 n2 c2, .slice b2 m2 d2] 25)).alloc (.cells #[.bool false, .slice none 0 0, .slice none 0 0] 25)).alloc (.cells #[.int .i64 0] 29) := ⟨_, rfl⟩
  rw [← hw0] at t1 t2 t3 t4 hb0 e0
  have r1 := h1.later hb0
  have r2 := h2.later hb0
  obtain ⟨g, hg⟩ : ∃ g, g = w.heap.size := ⟨_, rfl⟩
  have HG : Hid (w.heap.size = g) := hg.symm
  rw [← hg] at t1 t2 t3 t4 hb0 e0
  have HS : g ≤ w0.heap.size := by rw [hg]; exact hb0.size
  go_enter_defers Tryz.func73, Tryz.ntmps73
  go_wp2_with fail
  rw [← hw0, ← hg]
  refine (areRats_gen (B := false) r1 r2 hk hl hno).mono ?_
  rintro e wA ⟨rfl, hbA⟩
  have r1A := r1.later hbA
  have r2A := r2.later hbA
  have t1A := t1.later hbA
  have t2A := t2.later hbA
  have t3A := t3.later hbA
  have t4A := t4.later hbA
  have HA := hb0.trans (hbA.mono HS)
  have HAs : w0.heap.size ≤ wA.heap.size := hbA.size
  clear hw0 hg t1 t2 t3 t4 r1 r2 hbA hb0 h1 h2
  obtain ⟨x0, x1, x2⟩ := t1A.cells
  obtain ⟨y0, y1, y2⟩ := t2A.cells
  obtain ⟨u0, u1, u2⟩ := t3A.cells
  obtain ⟨v0, v1, v2⟩ := t3A.frozen
  have o0 := t4A.cell
  have o1 := t4A.frozen
  have sA := t3A.lt
  have sB := t4A.lt
  go_wp2
  have t3C := (t3A.set (.bool false) (.slice none 0 0) (.slice none 0 0)).inn (in1 _ (g + 1 + 1 + 1) (.int .i64 51)) (by omega)
  have t4C := (t4A.inn (in3 _ (g + 1 + 1) (.bool false) (.slice none 0 0) (.slice none 0 0)) (by omega)).set (.int .i64 51)
  have HC := below_in (below_in HA (in3 _ (g + 1 + 1) (.bool false) (.slice none 0 0) (.slice none 0 0)) (by omega) (by rw [HG.out]; exact Nat.le_refl _)) (in1 _ (g + 1 + 1 + 1) (.int .i64 51)) (by omega) (by rw [HG.out]; exact Nat.le_refl _)
  clear u0 u1 u2 v0 v1 v2 o0 o1 t3A t4A x0 x1 x2 y0 y1 y2
  generalize (((wA.setCell ⟨g + 1 + 1, 0, none⟩ (.bool false)).setCell ⟨g + 1 + 1, 1, none⟩ (.slice none 0 0)).setCell ⟨g + 1 + 1, 2, none⟩ (.slice none 0 0)).setCell ⟨g + 1 + 1 + 1, 0, none⟩ (.int .i64 51) = wC at *
  refine leaves_cons (f := 108) (args := #[.pointer (some ⟨g + 1 + 1 + 1, 0, none⟩)]) (by simp) (by simp [go_sem]) ?_
  refine (idleSub (g + 1 + 1 + 1) 51 _ t4C.cell t4C.frozen).mono ?_
  rintro e u' w'' ⟨rfl, rfl, rfl⟩
  have t3D := (t3C.inn (in1 _ (g + 1 + 1 + 1) (.int .i64 51)) (by omega)).drew
  have t4D := (t4C.set (.int .i64 51)).drew
  have HD := below_in (below_in HC (in1 _ (g + 1 + 1 + 1) (.int .i64 51)) (by omega) (by rw [HG.out]; exact Nat.le_refl _)) (in_drew (g + 1 + 1 + 1) _) (by omega) (by rw [HG.out]; exact Nat.le_refl _)
  clear t3C t4C HC
  generalize ((wC.setCell ⟨g + 1 + 1 + 1, 0, none⟩ (.int .i64 51)).drew) = wD at *
  obtain ⟨u0, u1, u2⟩ := t3D.cells
  have o0 := t4D.cell
  refine ⟨.tuple #[.agg #[.bool false, .slice none 0 0, .slice none 0 0], .int .i64 51], by simp [results, Tryz.results73, go_sem, u0, u1, u2, o0], ?_⟩
  rw [HG.out]
  exact ⟨rfl, HD⟩
set_option maxHeartbeats 6400000 in
set_option maxRecDepth 100000 in
theorem rMul_no (h1 : An5 w s1 a1 n1 c1 b1 m1 d1 x1 y1 k) (h2 : An5 w s2 a2 n2 c2 b2 m2 d2 x2 y2 l) (hk : k ≤ 4096) (hl : l ≤ 4096) (hno : (isR s1 x1 y1 && isR s2 x2 y2) = false) :
    Calls Tryz.prog 74 #[.agg #[.bool s1, .slice a1 n1 c1, .slice b1 m1 d1], .agg #[.bool s2, .slice a2 n2 c2, .slice b2 m2 d2]] w fun e w' => e = .returned (.tuple #[.agg #[.bool false, .slice none 0 0, .slice none 0 0], .int .i64 51]) ∧ Below w.heap.size w w' := by
  have hmf : ∀ (fn : Fn) (first cap : Array Value) (w : World), (Instr.makeFunc fn first cap).run Tryz.prog w = .ok (.func fn first cap) w := fun _ _ _ _ => rfl
  obtain ⟨t1, t2, t3, t4, hb0, e0⟩ := st_four w (.bool s1) (.slice a1 n1 c1) (.slice b1 m1 d1) (.bool s2) (.slice a2 n2 c2) (.slice b2 m2 d2)
  obtain ⟨w0, hw0⟩ : ∃ w0, w0 = (((w.alloc (.cells #[.bool s1, .slice a1 n1 c1, .slice b1 m1 d1] 25)).alloc (.cells #[.bool s2, .slice a2 n2 c2, .slice b2 m2 d2] 25)).alloc (.cells #[.bool false, .slice none 0 0, .slice none 0 0] 25)).alloc (.cells #[.int .i64 0] 29) := ⟨_, rfl⟩
  rw [← hw0] at t1 t2 t3 t4 hb0 e0
  have r1 := h1.later hb0
  have r2 := h2.later hb0
  obtain ⟨g, hg⟩ : ∃ g, g = w.heap.size := ⟨_, rfl⟩
  have HG : Hid (w.heap.size = g) := hg.symm
  rw [← hg] at t1 t2 t3 t4 hb0 e0
  have HS : g ≤ w0.heap.size := by rw [hg]; exact hb0.size
  go_enter_defers Tryz.func74, Tryz.ntmps74
  go_wp2_with fail
  rw [← hw0, ← hg]
  refine (areRats_gen (B := false) r1 r2 hk hl hno).mono ?_
  rintro e wA ⟨rfl, hbA⟩
  have r1A := r1.later hbA
  have r2A := r2.later hbA
  have t1A := t1.later hbA
  have t2A := t2.later hbA
  have t3A := t3.later hbA
  have t4A := t4.later hbA
  have HA := hb0.trans (hbA.mono HS)
  have HAs : w0.heap.size ≤ wA.heap.size := hbA.size
  clear hw0 hg t1 t2 t3 t4 r1 r2 hbA hb0 h1 h2
  obtain ⟨x0, x1, x2⟩ := t1A.cells
  obtain ⟨y0, y1, y2⟩ := t2A.cells
  obtain ⟨u0, u1, u2⟩ := t3A.cells
  obtain ⟨v0, v1, v2⟩ := t3A.frozen
  have o0 := t4A.cell
  have o1 := t4A.frozen
  have sA := t3A.lt
  have sB := t4A.lt
  go_wp2
  have t3C := (t3A.set (.bool false) (.slice none 0 0) (.slice none 0 0)).inn (in1 _ (g + 1 + 1 + 1) (.int .i64 51)) (by omega)
  have t4C := (t4A.inn (in3 _ (g + 1 + 1) (.bool false) (.slice none 0 0) (.slice none 0 0)) (by omega)).set (.int .i64 51)
  have HC := below_in (below_in HA (in3 _ (g + 1 + 1) (.bool false) (.slice none 0 0) (.slice none 0 0)) (by omega) (by rw [HG.out]; exact Nat.le_refl _)) (in1 _ (g + 1 + 1 + 1) (.int .i64 51)) (by omega) (by rw [HG.out]; exact Nat.le_refl _)
  clear u0 u1 u2 v0 v1 v2 o0 o1 t3A t4A x0 x1 x2 y0 y1 y2
  generalize (((wA.setCell ⟨g + 1 + 1, 0, none⟩ (.bool false)).setCell ⟨g + 1 + 1, 1, none⟩ (.slice none 0 0)).setCell ⟨g + 1 + 1, 2, none⟩ (.slice none 0 0)).setCell ⟨g + 1 + 1 + 1, 0, none⟩ (.int .i64 51) = wC at *
  refine leaves_cons (f := 109) (args := #[.pointer (some ⟨g + 1 + 1 + 1, 0, none⟩)]) (by simp) (by simp [go_sem]) ?_
  refine (idleMul (g + 1 + 1 + 1) 51 _ t4C.cell t4C.frozen).mono ?_
  rintro e u' w'' ⟨rfl, rfl, rfl⟩
  have t3D := (t3C.inn (in1 _ (g + 1 + 1 + 1) (.int .i64 51)) (by omega)).drew
  have t4D := (t4C.set (.int .i64 51)).drew
  have HD := below_in (below_in HC (in1 _ (g + 1 + 1 + 1) (.int .i64 51)) (by omega) (by rw [HG.out]; exact Nat.le_refl _)) (in_drew (g + 1 + 1 + 1) _) (by omega) (by rw [HG.out]; exact Nat.le_refl _)
  clear t3C t4C HC
  generalize ((wC.setCell ⟨g + 1 + 1 + 1, 0, none⟩ (.int .i64 51)).drew) = wD at *
  obtain ⟨u0, u1, u2⟩ := t3D.cells
  have o0 := t4D.cell
  refine ⟨.tuple #[.agg #[.bool false, .slice none 0 0, .slice none 0 0], .int .i64 51], by simp [results, Tryz.results74, go_sem, u0, u1, u2, o0], ?_⟩
  rw [HG.out]
  exact ⟨rfl, HD⟩
set_option maxHeartbeats 6400000 in
set_option maxRecDepth 100000 in
theorem rFloor_no (h : An5 w s a n c b m d xs ys k) (hk : k ≤ 4096) (hno : isR s xs ys = false) :
    Calls Tryz.prog 43 #[.agg #[.bool s, .slice a n c, .slice b m d]] w fun e w' => e = .returned (.tuple #[.agg #[.bool false, .slice none 0 0, .slice none 0 0], .int .i64 51]) ∧ Below w.heap.size w w' := by
  obtain ⟨t1, t2, hb0, e0⟩ := st_two' w (.bool s) (.slice a n c) (.slice b m d)
  have k1 := check_gen (K := 51) (h.later hb0) hk (by rw [hno]; rfl)
  clear h hno
  go_enter Tryz.func43, Tryz.ntmps43
  go_wp2_with fail
  refine k1.mono ?_
  rintro e w1 ⟨rfl, hb1⟩
  have t2E := t2.later hb1
  obtain ⟨x0, x1, x2⟩ := t2E.cells
  obtain ⟨y0, y1, y2⟩ := t2E.frozen
  clear k1
  go_wp2
  have st9 := (t2E.set (.bool false) (.slice none 0 0) (.slice none 0 0)).cells
  refine bodyPost_ret (v := .tuple #[.agg #[.bool false, .slice none 0 0, .slice none 0 0], .int .i64 51]) (by simp [results, Tryz.results43, go_sem, st9]) rfl ?_
  exact ⟨rfl, below_in (hb0.trans (hb1.mono hb0.size)) (in3 _ (w.heap.size + 1) _ _ _) (by omega) (Nat.le_refl _)⟩
end
end Go.Proofs.YtopcdpeepchgfacGreatDoor
