/- package pred: a Rat's value in memory of its own; opposite, from. -/
import Derived.Test.YtbonkgmcpjaepaaGreatRatE
import Derived.Test.YtbonkgmcpjaepaaGreatNearH
namespace Go.Proofs.YtbonkgmcpjaepaaGreat
open Go.ChangeShapes Go.WideShapes Go.ChangeAt Go.RowKit
open Na Ar
set_option linter.unusedVariables false
/-- a block of cells -/
def Pb (w : World) (g : Nat) (t : TypeId) (vs : Array Value) : Prop := w.heap[g]? = some (.cells vs t (0, 0))
theorem Pb.lt {w : World} {g : Nat} {t : TypeId} {vs : Array Value} (h : Pb w g t vs) : g < w.heap.size := by
  by_cases hlt : g < w.heap.size
  · exact hlt
  · unfold Pb at h; simp [Array.getElem?_eq_none (Nat.le_of_not_lt hlt)] at h
theorem Pb.later {w w' : World} {g : Nat} {t : TypeId} {vs : Array Value} (h : Pb w g t vs) (hb : Below w.heap.size w w') : Pb w' g t vs := by
  have := h.lt
  unfold Pb
  rw [hb.block g this]; exact h
theorem Pb.new (w : World) (t : TypeId) (vs : Array Value) : Pb (w.alloc (.cells vs t)) w.heap.size t vs := heap_alloc_new _ _
theorem Pb.cell {w : World} {g : Nat} {t : TypeId} {vs : Array Value} (h : Pb w g t vs) (i : Nat) {v : Value} (hv : vs[i]? = some v) : w.cell? ⟨g, i, none⟩ = some v := by
  unfold Pb at h
  simp [World.cell?, h, hv]
theorem Pb.frozen {w : World} {g : Nat} {t : TypeId} {vs : Array Value} (h : Pb w g t vs) (i : Nat) : w.frozen? ⟨g, i, none⟩ = false := by
  unfold Pb at h
  simp [World.frozen?, h]
theorem Pb.set {w : World} {g : Nat} {t : TypeId} {vs : Array Value} (h : Pb w g t vs) (i : Nat) (v : Value) : Pb (w.setCell ⟨g, i, none⟩ v) g t (vs.setIfInBounds i v) := set_block h
theorem Pb.inn {w w' : World} {g g' : Nat} {t : TypeId} {vs : Array Value} (h : Pb w g t vs) (hi : In g' (g' + 1) w w') (hne : g ≠ g') : Pb w' g t vs := by
  have := h.lt
  unfold Pb
  rw [hi.block g this (by omega)]; exact h
theorem Pb.six {w : World} {g : Nat} {t : TypeId} {x0 x1 x2 x3 x4 x5 : Value} (h : Pb w g t #[x0, x1, x2, x3, x4, x5]) :
    (w.cell? ⟨g, 0, none⟩ = some x0 ∧ w.cell? ⟨g, 1, none⟩ = some x1 ∧ w.cell? ⟨g, 2, none⟩ = some x2 ∧ w.cell? ⟨g, 3, none⟩ = some x3 ∧ w.cell? ⟨g, 4, none⟩ = some x4 ∧ w.cell? ⟨g, 5, none⟩ = some x5) ∧
    (w.frozen? ⟨g, 0, none⟩ = false ∧ w.frozen? ⟨g, 1, none⟩ = false ∧ w.frozen? ⟨g, 2, none⟩ = false ∧ w.frozen? ⟨g, 3, none⟩ = false ∧ w.frozen? ⟨g, 4, none⟩ = false ∧ w.frozen? ⟨g, 5, none⟩ = false) :=
  ⟨⟨h.cell 0 rfl, h.cell 1 rfl, h.cell 2 rfl, h.cell 3 rfl, h.cell 4 rfl, h.cell 5 rfl⟩, h.frozen 0, h.frozen 1, h.frozen 2, h.frozen 3, h.frozen 4, h.frozen 5⟩
theorem pb_tri {w : World} {g : Nat} {t : TypeId} {x0 x1 x2 : Value} (h : Pb w g t #[x0, x1, x2]) : w.cell? ⟨g, 0, none⟩ = some x0 ∧ w.cell? ⟨g, 1, none⟩ = some x1 ∧ w.cell? ⟨g, 2, none⟩ = some x2 :=
  ⟨h.cell 0 rfl, h.cell 1 rfl, h.cell 2 rfl⟩
theorem Pb.set6 {w : World} {g : Nat} {t : TypeId} {x0 x1 x2 x3 x4 x5 : Value} (h : Pb w g t #[x0, x1, x2, x3, x4, x5]) (a b c d e f : Value) :
    Pb ((((((w.setCell ⟨g, 0, none⟩ a).setCell ⟨g, 1, none⟩ b).setCell ⟨g, 2, none⟩ c).setCell ⟨g, 3, none⟩ d).setCell ⟨g, 4, none⟩ e).setCell ⟨g, 5, none⟩ f) g t #[a, b, c, d, e, f] :=
  (((((h.set 0 a).set 1 b).set 2 c).set 3 d).set 4 e).set 5 f
theorem in6p (w : World) (g : Nat) (a b c d e f : Value) : In g (g + 1) w ((((((w.setCell ⟨g, 0, none⟩ a).setCell ⟨g, 1, none⟩ b).setCell ⟨g, 2, none⟩ c).setCell ⟨g, 3, none⟩ d).setCell ⟨g, 4, none⟩ e).setCell ⟨g, 5, none⟩ f) :=
  ((((((In.refl g (g + 1) w).set1 0 _).set1 1 _).set1 2 _).set1 3 _).set1 4 _).set1 5 _
theorem RtO.rt22 {w : World} {base : Nat} {s : Bool} {a b : Option Addr} {n c m d : Nat} {q : Rat} (h : RtO w base s (.slice a n c) (.slice b m d) q) : Rt w s a n c b m d q := by
  obtain ⟨a', n', c', b', m', d', e1, e2, r⟩ := h.opens
  simp only [Value.slice.injEq] at e1 e2
  obtain ⟨rfl, rfl, rfl⟩ := e1
  obtain ⟨rfl, rfl, rfl⟩ := e2
  exact r
theorem neg_sgn {q : Rat} {s : Bool} (h : s = decide (q.num < 0)) : (!s && decide (q.num ≠ 0)) = decide ((-q).num < 0) := by
  subst h
  rw [Rat.neg_num]
  by_cases h : q.num < 0
  · rw [decide_eq_true h, decide_eq_false (show ¬ -q.num < 0 by omega)]; rfl
  · by_cases h0 : q.num = 0
    · rw [h0]; rfl
    · rw [decide_eq_false h, decide_eq_true (show -q.num < 0 by omega), decide_eq_true h0]; rfl
theorem Sz.neg {q : Rat} {k : Nat} (h : Sz q k) : Sz (-q) k := by
  obtain ⟨a, b⟩ := h
  exact ⟨by rw [Rat.neg_num, Int.natAbs_neg]; exact a, by rw [Rat.neg_den]; exact b⟩
theorem Rt.neg {w : World} {s : Bool} {a b : Option Addr} {n c m d : Nat} {q : Rat} (h : Rt w s a n c b m d q) : Rt w (!s && decide (q.num ≠ 0)) a n c b m d (-q) :=
  ⟨neg_sgn h.sgn, by rw [Rat.neg_num, Int.natAbs_neg]; exact h.nu, by rw [Rat.neg_den]; exact h.de⟩
theorem pb_three (w : World) (A B C : Array Value) (t : TypeId) {t2 t3 : TypeId} : Pb (((w.alloc (.cells A t)).alloc (.cells B t2)).alloc (.cells C t3)) w.heap.size t A ∧ Pb (((w.alloc (.cells A t)).alloc (.cells B t2)).alloc (.cells C t3)) (w.heap.size + 1) t2 B ∧ Pb (((w.alloc (.cells A t)).alloc (.cells B t2)).alloc (.cells C t3)) (w.heap.size + 1 + 1) t3 C ∧ Below w.heap.size w (((w.alloc (.cells A t)).alloc (.cells B t2)).alloc (.cells C t3)) ∧ (((w.alloc (.cells A t)).alloc (.cells B t2)).alloc (.cells C t3)).heap.size = w.heap.size + 1 + 1 + 1 := by
  have b1 := alloc_below (w := w) (.cells A t)
  have b2 := alloc_below (w := w.alloc (.cells A t)) (.cells B t2)
  have b3 := alloc_below (w := (w.alloc (.cells A t)).alloc (.cells B t2)) (.cells C t3)
  have e1 : (w.alloc (.cells A t)).heap.size = w.heap.size + 1 := by simp
  have e2 : ((w.alloc (.cells A t)).alloc (.cells B t2)).heap.size = w.heap.size + 1 + 1 := by simp
  have p1 := Pb.new w t A
  have p2 := Pb.new (w.alloc (.cells A t)) t2 B
  have p3 := Pb.new ((w.alloc (.cells A t)).alloc (.cells B t2)) t3 C
  rw [e1] at p2
  rw [e2] at p3
  exact ⟨(p1.later b2).later b3, p2.later b3, p3, b1.trans ((b2.trans (b3.mono b2.size)).mono b1.size), by simp⟩
theorem pb_two (w : World) (A : Array Value) (x y z : Value) (t : TypeId) {t' : TypeId} : Pb ((w.alloc (.cells A t')).alloc (.cells #[x, y, z] t)) w.heap.size t' A ∧ St ((w.alloc (.cells A t')).alloc (.cells #[x, y, z] t)) (w.heap.size + 1) t x y z ∧ Below w.heap.size w ((w.alloc (.cells A t')).alloc (.cells #[x, y, z] t)) ∧ ((w.alloc (.cells A t')).alloc (.cells #[x, y, z] t)).heap.size = w.heap.size + 1 + 1 := by
  have b1 := alloc_below (w := w) (.cells A t')
  have b2 := alloc_below (w := w.alloc (.cells A t')) (.cells #[x, y, z] t)
  have e1 : (w.alloc (.cells A t')).heap.size = w.heap.size + 1 := by simp
  have p1 := Pb.new w t' A
  have p2 := st_new (w.alloc (.cells A t')) x y z t
  rw [e1] at p2
  exact ⟨p1.later b2, p2, b1.trans (b2.mono b1.size), by simp⟩
theorem pb_two' (w : World) (A B : Array Value) (t : TypeId) (t' : TypeId) : Pb ((w.alloc (.cells A t)).alloc (.cells B t')) w.heap.size t A ∧ Pb ((w.alloc (.cells A t)).alloc (.cells B t')) (w.heap.size + 1) t' B ∧ Below w.heap.size w ((w.alloc (.cells A t)).alloc (.cells B t')) := by
  have b1 := alloc_below (w := w) (.cells A t)
  have b2 := alloc_below (w := w.alloc (.cells A t)) (.cells B t')
  have e1 : (w.alloc (.cells A t)).heap.size = w.heap.size + 1 := by simp
  have p1 := Pb.new w t A
  have p2 := Pb.new (w.alloc (.cells A t)) t' B
  rw [e1] at p2
  exact ⟨p1.later b2, p2, b1.trans (b2.mono b1.size)⟩
section
variable {w : World} {s1 s2 s3 s4 : Bool} {a1 b1 a2 b2 a3 b3 a4 b4 : Option Addr} {n1 c1 m1 d1 n2 c2 m2 d2 n3 c3 m3 d3 n4 c4 m4 d4 : Nat} {p q r t : Rat} {k l : Nat}
set_option maxHeartbeats 3200000 in
set_option maxRecDepth 100000 in
theorem opp22_any (h1 : Rt w s1 a1 n1 c1 b1 m1 d1 p) (hn : n1 ≤ 4000000) :
    Calls Tryz.prog 43 #[.agg #[.bool s1, .slice a1 n1 c1, .slice b1 m1 d1]] w fun e w' => e = .returned (.agg #[.bool (!s1 && decide (p.num ≠ 0)), .slice a1 n1 c1, .slice b1 m1 d1]) ∧ Below w.heap.size w w' := by
  obtain ⟨t1, t2, hb0⟩ := st_two w (.bool s1) (.slice a1 n1 c1) (.slice b1 m1 d1) (.bool false) (.slice none 0 0) (.slice none 0 0) 57 57
  obtain ⟨w0, hw0⟩ : ∃ w0, w0 = (w.alloc (.cells #[.bool s1, .slice a1 n1 c1, .slice b1 m1 d1] 57)).alloc (.cells #[.bool false, .slice none 0 0, .slice none 0 0] 57) := ⟨_, rfl⟩
  rw [← hw0] at t1 t2 hb0
  have e0 : w.heap.size + 2 ≤ w0.heap.size := by rw [hw0]; simp
  obtain ⟨g, hg⟩ : ∃ g, g = w.heap.size := ⟨_, rfl⟩
  have HG : Hid (w.heap.size = g) := hg.symm
  rw [← hg] at t1 t2 hb0 e0
  have hsg := fun w1 (h : Below w0.heap.size w0 w1) => rSign_any (K := sgnR p) ((h1.later (by rw [hg] at hb0; exact hb0)).later h) hn rfl
  have ht : (sgnR p != 0) = decide (p.num ≠ 0) := by
    unfold sgnR
    by_cases h : p.num = 0
    · rw [if_pos h]; simp [h]
    · rw [if_neg h]; split <;> simp [h]
  generalize sgnR p = K at *
  generalize decide (p.num ≠ 0) = B at *
  clear h1 hn
  cases s1
  · go_enter Tryz.func43, Tryz.ntmps43
    go_wp2_with fail
    rw [← hw0, ← hg]
    refine (hsg _ (Below.refl _ _)).mono ?_
    rintro e wA ⟨rfl, hbA⟩
    have HA := hb0.trans (hbA.mono (by omega))
    have T1 := t1.later hbA
    have T2 := t2.later hbA
    obtain ⟨x0, x1, x2⟩ := T1.cells
    obtain ⟨z0, z1, z2⟩ := T1.frozen
    obtain ⟨y0, y1, y2⟩ := T2.cells
    obtain ⟨u0, u1, u2⟩ := T2.frozen
    have ne1 : ¬ g = g + 1 := by omega
    clear hsg hw0 hg t1 t2 hbA hb0
    cases B
    · go_wp2
      have i1 : In g (g + 1) wA (wA.setCell ⟨g, 0, none⟩ (.bool false)) := in1 _ g _
      have j1 := in3 (wA.setCell ⟨g, 0, none⟩ (.bool false)) (g + 1) (.bool false) (.slice a1 n1 c1) (.slice b1 m1 d1)
      have T9 := ((T2.inn i1 (by omega)).set (.bool false) (.slice a1 n1 c1) (.slice b1 m1 d1)).cells
      refine bodyPost_ret (v := .agg #[.bool false, .slice a1 n1 c1, .slice b1 m1 d1]) (by simp [results, Tryz.results43, go_sem, T9]) rfl ?_
      refine ⟨rfl, ?_⟩
      rw [HG.out]
      exact below_in (below_in HA i1 (by omega) (by rw [HG.out]; exact Nat.le_refl _)) j1 (by omega) (by rw [HG.out]; exact Nat.le_refl _)
    · go_wp2
      have i1 : In g (g + 1) wA (wA.setCell ⟨g, 0, none⟩ (.bool true)) := in1 _ g _
      have j1 := in3 (wA.setCell ⟨g, 0, none⟩ (.bool true)) (g + 1) (.bool true) (.slice a1 n1 c1) (.slice b1 m1 d1)
      have T9 := ((T2.inn i1 (by omega)).set (.bool true) (.slice a1 n1 c1) (.slice b1 m1 d1)).cells
      refine bodyPost_ret (v := .agg #[.bool true, .slice a1 n1 c1, .slice b1 m1 d1]) (by simp [results, Tryz.results43, go_sem, T9]) rfl ?_
      refine ⟨rfl, ?_⟩
      rw [HG.out]
      exact below_in (below_in HA i1 (by omega) (by rw [HG.out]; exact Nat.le_refl _)) j1 (by omega) (by rw [HG.out]; exact Nat.le_refl _)
  · have hb1 := (alloc_below (w := w) (.cells #[.bool false, .slice a1 n1 c1, .slice b1 m1 d1] 57))
    have hb2 := hb1.trans ((alloc_below (w := w.alloc (.cells #[.bool false, .slice a1 n1 c1, .slice b1 m1 d1] 57)) (.cells #[.bool false, .slice a1 n1 c1, .slice b1 m1 d1] 57)).mono hb1.size)
    obtain ⟨_, T2, _⟩ := st_two w (.bool false) (.slice a1 n1 c1) (.slice b1 m1 d1) (.bool false) (.slice a1 n1 c1) (.slice b1 m1 d1) 57 57
    have T9 := T2.cells
    clear hw0 hg t1 t2 hb0 hsg
    go_enter Tryz.func43, Tryz.ntmps43
    go_wp2
    refine bodyPost_ret (v := .agg #[.bool false, .slice a1 n1 c1, .slice b1 m1 d1]) (by simp [results, Tryz.results43, go_sem, T9]) rfl ?_
    exact ⟨by simp, hb2⟩
theorem opp22_at {w0 : World} (h1 : Rt w0 s1 a1 n1 c1 b1 m1 d1 p) (hn : n1 ≤ 4000000) (h : Below w0.heap.size w0 w) :
    Calls Tryz.prog 43 #[.agg #[.bool s1, .slice a1 n1 c1, .slice b1 m1 d1]] w fun e w' => ∃ s, e = .returned (.agg #[.bool s, .slice a1 n1 c1, .slice b1 m1 d1]) ∧ Rt w' s a1 n1 c1 b1 m1 d1 (-p) ∧ Below w0.heap.size w0 w' := by
  refine (opp22_any (h1.later h) hn).mono ?_
  rintro e w' ⟨rfl, hb⟩
  exact ⟨_, rfl, ((h1.later h).later hb).neg, h.trans (hb.mono h.size)⟩
set_option maxHeartbeats 3200000 in
set_option maxRecDepth 100000 in
theorem from22_any (h1 : Rt w s1 a1 n1 c1 b1 m1 d1 p) (h2 : Rt w s2 a2 n2 c2 b2 m2 d2 q) (h3 : Rt w s3 a3 n3 c3 b3 m3 d3 r) (h4 : Rt w s4 a4 n4 c4 b4 m4 d4 t) (z1 : Sz p k) (z2 : Sz q k) (z3 : Sz r k) (z4 : Sz t k) (hk : k + k + 1 ≤ 4096) :
    Calls Tryz.prog 28 #[.agg #[.bool s1, .slice a1 n1 c1, .slice b1 m1 d1, .bool s2, .slice a2 n2 c2, .slice b2 m2 d2], .agg #[.bool s3, .slice a3 n3 c3, .slice b3 m3 d3, .bool s4, .slice a4 n4 c4, .slice b4 m4 d4]] w fun e w' => ∃ s a n c b m d s' a' n' c' b' m' d', e = .returned (.agg #[.bool s, .slice a n c, .slice b m d, .bool s', .slice a' n' c', .slice b' m' d']) ∧ RtO w' w.heap.size s (.slice a n c) (.slice b m d) (r - p) ∧ RtO w' w.heap.size s' (.slice a' n' c') (.slice b' m' d') (t - q) ∧ Sz (r - p) (k + k + 1) ∧ Sz (t - q) (k + k + 1) ∧ Below w.heap.size w w' := by
  obtain ⟨w0, hw0⟩ : ∃ w0, w0 = ((w.alloc (.cells #[.bool s1, .slice a1 n1 c1, .slice b1 m1 d1, .bool s2, .slice a2 n2 c2, .slice b2 m2 d2] 68)).alloc (.cells #[.bool s3, .slice a3 n3 c3, .slice b3 m3 d3, .bool s4, .slice a4 n4 c4, .slice b4 m4 d4] 68)).alloc (.cells #[.bool false, .slice none 0 0, .slice none 0 0, .bool false, .slice none 0 0, .slice none 0 0] 68) := ⟨_, rfl⟩
  obtain ⟨u1, u2, u3, hb0, e0⟩ : Pb w0 w.heap.size 68 #[.bool s1, .slice a1 n1 c1, .slice b1 m1 d1, .bool s2, .slice a2 n2 c2, .slice b2 m2 d2] ∧ Pb w0 (w.heap.size + 1) 68 #[.bool s3, .slice a3 n3 c3, .slice b3 m3 d3, .bool s4, .slice a4 n4 c4, .slice b4 m4 d4] ∧ Pb w0 (w.heap.size + 1 + 1) 68 #[.bool false, .slice none 0 0, .slice none 0 0, .bool false, .slice none 0 0, .slice none 0 0] ∧ Below w.heap.size w w0 ∧ w0.heap.size = w.heap.size + 1 + 1 + 1 := by
    subst hw0
    exact pb_three _ _ _ _ _
  obtain ⟨g, hg⟩ : ∃ g, g = w.heap.size := ⟨_, rfl⟩
  have HG : Hid (w.heap.size = g) := hg.symm
  have r1 := h1.later hb0
  have r2 := h2.later hb0
  have r3 := h3.later hb0
  have r4 := h4.later hb0
  rw [← hg] at u1 u2 u3 hb0 e0
  have HE0 : Hid (w0.heap.size = g + 1 + 1 + 1) := e0
  have hE0 : g + 3 ≤ w0.heap.size := by omega
  clear e0
  go_enter Tryz.func28, Tryz.ntmps28
  go_wp2_with fail
  rw [← hw0, ← hg]
  refine (rSub_ok r3 r1 z3 z1 hk).mono ?_
  rintro e wA ⟨sA, vA1, vA2, rfl, hRA, hzA, hbA⟩
  obtain ⟨aA, nA, cA, bA, mA, dA, rfl, rfl, _⟩ := hRA.opens
  have HA := hb0.trans (hbA.mono (by omega))
  have sA' := hbA.size
  have alA := alloc_below (w := wA) (.cells #[.bool sA, .slice aA nA cA, .slice bA mA dA] 57)
  have pA := Pb.new wA 57 #[.bool sA, .slice aA nA cA, .slice bA mA dA]
  have szA : (wA.alloc (.cells #[.bool sA, .slice aA nA cA, .slice bA mA dA] 57)).heap.size = wA.heap.size + 1 := by simp
  have x2 := ((u1.later hbA).later alA).six.1
  have x4 := ((u2.later hbA).later alA).six.1
  have u3' := (u3.later hbA).later alA
  have r2' := (r2.later hbA).later alA
  have r4' := (r4.later hbA).later alA
  have hRA' := hRA.later alA
  obtain ⟨i0, i1, i2, i3, i4, i5⟩ := x2
  obtain ⟨j0, j1, j2, j3, j4, j5⟩ := x4
  clear hw0 hg u1 u2 u3 r1 r2 r3 r4 h1 h2 h3 h4 hRA
  go_wp2_with fail
  generalize wA.alloc (.cells #[.bool sA, .slice aA nA cA, .slice bA mA dA] 57) = wA1 at *
  refine (rSub_ok r4' r2' z4 z2 hk).mono ?_
  rintro e wB ⟨sB, vB1, vB2, rfl, hRB, hzB, hbB⟩
  obtain ⟨aB, nB, cB, bB, mB, dB, rfl, rfl, _⟩ := hRB.opens
  have sB' := hbB.size
  have alB := alloc_below (w := wB) (.cells #[.bool sB, .slice aB nB cB, .slice bB mB dB] 57)
  have pB := Pb.new wB 57 #[.bool sB, .slice aB nB cB, .slice bB mB dB]
  have szB : (wB.alloc (.cells #[.bool sB, .slice aB nB cB, .slice bB mB dB] 57)).heap.size = wB.heap.size + 1 := by simp
  have pA' := (pA.later hbB).later alB
  obtain ⟨q0, q1, q2⟩ := pb_tri pA'
  have u3'' := (u3'.later hbB).later alB
  have hRA'' := (hRA'.later hbB).later alB
  have hRB'' := hRB.later alB
  obtain ⟨⟨k0, k1, k2, k3, k4, k5⟩, ⟨f0, f1, f2, f3, f4, f5⟩⟩ := u3''.six
  have HB := HA.trans ((alA.trans ((hbB.trans (alB.mono sB')).mono (by omega))).mono (by omega))
  have ne1 : ¬ wA.heap.size = wB.heap.size := by omega
  clear i0 i1 i2 i3 i4 i5 j0 j1 j2 j3 j4 j5 r2' r4' pA u3' hRA' hRB alA alB hbA hbB hb0 HA
  go_wp2
  have i9 := in6p (wB.alloc (.cells #[.bool sB, .slice aB nB cB, .slice bB mB dB] 57)) (g + 1 + 1) (.bool sA) (.slice aA nA cA) (.slice bA mA dA) (.bool sB) (.slice aB nB cB) (.slice bB mB dB)
  have T9 := (u3''.set6 (.bool sA) (.slice aA nA cA) (.slice bA mA dA) (.bool sB) (.slice aB nB cB) (.slice bB mB dB)).six.1
  have RA := (hRA''.inn i9 (by omega)).lower (base' := g) (by omega)
  have RB := (hRB''.inn i9 (by omega)).lower (base' := g) (by omega)
  have B9 := below_in HB i9 (by omega) (by rw [HG.out]; exact Nat.le_refl _)
  refine bodyPost_ret (v := .agg #[.bool sA, .slice aA nA cA, .slice bA mA dA, .bool sB, .slice aB nB cB, .slice bB mB dB]) (by simp [results, Tryz.results28, go_sem, T9]) rfl ?_
  rw [HG.out]
  exact ⟨_, _, _, _, _, _, _, _, _, _, _, _, _, _, rfl, RA, RB, hzA, hzB, B9⟩
theorem from22_at {w0 : World} (h1 : Rt w0 s1 a1 n1 c1 b1 m1 d1 p) (h2 : Rt w0 s2 a2 n2 c2 b2 m2 d2 q) (h3 : Rt w0 s3 a3 n3 c3 b3 m3 d3 r) (h4 : Rt w0 s4 a4 n4 c4 b4 m4 d4 t) (z1 : Sz p k) (z2 : Sz q k) (z3 : Sz r k) (z4 : Sz t k) (hk : k + k + 1 ≤ 4096) (h : Below w0.heap.size w0 w) :
    Calls Tryz.prog 28 #[.agg #[.bool s1, .slice a1 n1 c1, .slice b1 m1 d1, .bool s2, .slice a2 n2 c2, .slice b2 m2 d2], .agg #[.bool s3, .slice a3 n3 c3, .slice b3 m3 d3, .bool s4, .slice a4 n4 c4, .slice b4 m4 d4]] w fun e w' => ∃ s a n c b m d s' a' n' c' b' m' d', e = .returned (.agg #[.bool s, .slice a n c, .slice b m d, .bool s', .slice a' n' c', .slice b' m' d']) ∧ RtO w' w0.heap.size s (.slice a n c) (.slice b m d) (r - p) ∧ RtO w' w0.heap.size s' (.slice a' n' c') (.slice b' m' d') (t - q) ∧ Sz (r - p) (k + k + 1) ∧ Sz (t - q) (k + k + 1) ∧ Below w.heap.size w w' ∧ Below w0.heap.size w0 w' := by
  refine (from22_any (h1.later h) (h2.later h) (h3.later h) (h4.later h) z1 z2 z3 z4 hk).mono ?_
  rintro e w' ⟨s, a, n, c, b, m, d, s', a', n', c', b', m', d', rfl, hR, hR', hz, hz', hb⟩
  exact ⟨s, a, n, c, b, m, d, s', a', n', c', b', m', d', rfl, hR.lower h.size, hR'.lower h.size, hz, hz', hb, h.trans (hb.mono h.size)⟩
end
end Go.Proofs.YtbonkgmcpjaepaaGreat
