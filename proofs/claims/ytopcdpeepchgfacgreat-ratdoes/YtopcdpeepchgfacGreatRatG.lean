/- package rat: Div by zero. -/
import Derived.Test.YtopcdpeepchgfacGreatRatF
namespace Go.Proofs.YtopcdpeepchgfacGreat
open Go.ChangeShapes Go.WideShapes Go.ChangeAt Go.RowKit
open Na Ar
set_option linter.unusedVariables false
section
variable {w : World} {s1 s2 : Bool} {a1 b1 a2 b2 : Option Addr} {n1 c1 m1 d1 n2 c2 m2 d2 : Nat} {p q : Rat} {k l : Nat}
set_option maxHeartbeats 6400000 in
set_option maxRecDepth 100000 in
theorem rDiv_zero (h1 : Rt w s1 a1 n1 c1 b1 m1 d1 p) (h2 : Rt w s2 a2 n2 c2 b2 m2 d2 q) (z1 : Sz p k) (z2 : Sz q l) (hk : k ≤ 4096) (hl : l ≤ 4096) (hq : q = 0) :
    Calls Tryz.prog 12 #[.agg #[.bool s1, .slice a1 n1 c1, .slice b1 m1 d1], .agg #[.bool s2, .slice a2 n2 c2, .slice b2 m2 d2]] w fun e w' => e = .returned (.tuple #[.agg #[.bool false, .slice none 0 0, .slice none 0 0], .int .i64 50]) ∧ Below w.heap.size w w' := by
  have hn0 : n2 = 0 := by
    have e := h2.len
    rw [hq] at e
    rw [e]
    exact (words_nil (N := ((0 : Rat).num.natAbs : Int)) (by omega)).mpr rfl
  have tq : ((n2 : Int) == 0) = true := beq_of (by omega)
  clear hn0
  have hmf : ∀ (fn : Fn) (first cap : Array Value) (w : World), (Instr.makeFunc fn first cap).run Tryz.prog w = .ok (.func fn first cap) w := fun _ _ _ _ => rfl
  obtain ⟨t1, t2, t3, t4, hb0, e0⟩ := st_four w (.bool s1) (.slice a1 n1 c1) (.slice b1 m1 d1) (.bool s2) (.slice a2 n2 c2) (.slice b2 m2 d2)
  obtain ⟨w0, hw0⟩ : ∃ w0, w0 = (((w.alloc (.cells #[.bool s1, .slice a1 n1 c1, .slice b1 m1 d1] 24)).alloc (.cells #[.bool s2, .slice a2 n2 c2, .slice b2 m2 d2] 24)).alloc (.cells #[.bool false, .slice none 0 0, .slice none 0 0] 24)).alloc (.cells #[.int .i64 0] 26) := ⟨_, rfl⟩
  rw [← hw0] at t1 t2 t3 t4 hb0 e0
  have r1 := h1.later hb0
  have r2 := h2.later hb0
  obtain ⟨g, hg⟩ : ∃ g, g = w.heap.size := ⟨_, rfl⟩
  have HG : Hid (w.heap.size = g) := hg.symm
  rw [← hg] at t1 t2 t3 t4 hb0 e0
  have HS : g ≤ w0.heap.size := by rw [hg]; exact hb0.size
  go_enter_defers Tryz.func12, Tryz.ntmps12
  go_wp2_with fail
  rw [← hw0, ← hg]
  refine (areRats_ok r1 r2 z1 z2 (by omega) (by omega)).mono ?_
  rintro e wA ⟨rfl, hbA⟩
  have r1A := r1.later hbA
  have r2A := r2.later hbA
  have t1A := t1.later hbA
  have t2A := t2.later hbA
  have t3A := t3.later hbA
  have t4A := t4.later hbA
  have HA := hb0.trans (hbA.mono HS)
  have HAs : w0.heap.size ≤ wA.heap.size := hbA.size
  clear hw0 hg t1 t2 t3 t4 r1 r2 hbA hb0 h1 h2
  obtain ⟨x0, x1, x2⟩ := t1A.cells
  obtain ⟨y0, y1, y2⟩ := t2A.cells
  obtain ⟨u0, u1, u2⟩ := t3A.cells
  obtain ⟨v0, v1, v2⟩ := t3A.frozen
  have o0 := t4A.cell
  have o1 := t4A.frozen
  have sA := t3A.lt
  have sB := t4A.lt
  go_wp2
  have t3C := (t3A.set (.bool false) (.slice none 0 0) (.slice none 0 0)).inn (in1 _ (g + 1 + 1 + 1) (.int .i64 50)) (by omega)
  have t4C := (t4A.inn (in3 _ (g + 1 + 1) (.bool false) (.slice none 0 0) (.slice none 0 0)) (by omega)).set (.int .i64 50)
  have HC := below_in (below_in HA (in3 _ (g + 1 + 1) (.bool false) (.slice none 0 0) (.slice none 0 0)) (by omega) (by rw [HG.out]; exact Nat.le_refl _)) (in1 _ (g + 1 + 1 + 1) (.int .i64 50)) (by omega) (by rw [HG.out]; exact Nat.le_refl _)
  clear u0 u1 u2 v0 v1 v2 o0 o1 t3A t4A x0 x1 x2 y0 y1 y2
  generalize (((wA.setCell ⟨g + 1 + 1, 0, none⟩ (.bool false)).setCell ⟨g + 1 + 1, 1, none⟩ (.slice none 0 0)).setCell ⟨g + 1 + 1, 2, none⟩ (.slice none 0 0)).setCell ⟨g + 1 + 1 + 1, 0, none⟩ (.int .i64 50) = wC at *
  refine leaves_cons (f := 35) (args := #[.pointer (some ⟨g + 1 + 1 + 1, 0, none⟩)]) (by simp) (by simp [go_sem]) ?_
  refine (idleDiv (g + 1 + 1 + 1) 50 _ t4C.cell t4C.frozen).mono ?_
  rintro e u' w'' ⟨rfl, rfl, rfl⟩
  have t3D := (t3C.inn (in1 _ (g + 1 + 1 + 1) (.int .i64 50)) (by omega)).drew
  have t4D := (t4C.set (.int .i64 50)).drew
  have HD := below_in (below_in HC (in1 _ (g + 1 + 1 + 1) (.int .i64 50)) (by omega) (by rw [HG.out]; exact Nat.le_refl _)) (in_drew (g + 1 + 1 + 1) _) (by omega) (by rw [HG.out]; exact Nat.le_refl _)
  clear t3C t4C HC
  generalize ((wC.setCell ⟨g + 1 + 1 + 1, 0, none⟩ (.int .i64 50)).drew) = wD at *
  obtain ⟨u0, u1, u2⟩ := t3D.cells
  have o0 := t4D.cell
  refine ⟨.tuple #[.agg #[.bool false, .slice none 0 0, .slice none 0 0], .int .i64 50], by simp [results, Tryz.results12, go_sem, u0, u1, u2, o0], ?_⟩
  rw [HG.out]
  exact ⟨rfl, HD⟩
end
end Go.Proofs.YtopcdpeepchgfacGreat
