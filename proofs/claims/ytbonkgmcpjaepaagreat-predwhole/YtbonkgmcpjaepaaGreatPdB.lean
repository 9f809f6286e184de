/- package pred: sum. -/
import Derived.Test.YtbonkgmcpjaepaaGreatPdA
namespace Go.Proofs.YtbonkgmcpjaepaaGreat
open Go.ChangeShapes Go.WideShapes Go.ChangeAt Go.RowKit
open Na Ar
set_option linter.unusedVariables false
/-- the product number i of a row in memory -/
def PrAt (w : World) (g i : Nat) (p q : Rat) (K : Nat) : Prop := ∃ s1 a1 n1 c1 b1 m1 d1 s2 a2 n2 c2 b2 m2 d2,
  (w.cell? ⟨g, i * 6, none⟩ = some (.bool s1) ∧ w.cell? ⟨g, i * 6 + 1, none⟩ = some (.slice a1 n1 c1) ∧ w.cell? ⟨g, i * 6 + 2, none⟩ = some (.slice b1 m1 d1) ∧ w.cell? ⟨g, i * 6 + 3, none⟩ = some (.bool s2) ∧ w.cell? ⟨g, i * 6 + 4, none⟩ = some (.slice a2 n2 c2) ∧ w.cell? ⟨g, i * 6 + 5, none⟩ = some (.slice b2 m2 d2)) ∧
  Rt w s1 a1 n1 c1 b1 m1 d1 p ∧ Rt w s2 a2 n2 c2 b2 m2 d2 q ∧ Sz p K ∧ Sz q K ∧ g < w.heap.size
theorem PrAt.later {w w' : World} {g i : Nat} {p q : Rat} {K : Nat} (h : PrAt w g i p q K) (hb : Below w.heap.size w w') : PrAt w' g i p q K := by
  obtain ⟨s1, a1, n1, c1, b1, m1, d1, s2, a2, n2, c2, b2, m2, d2, ⟨x0, x1, x2, x3, x4, x5⟩, r1, r2, z1, z2, hg⟩ := h
  exact ⟨s1, a1, n1, c1, b1, m1, d1, s2, a2, n2, c2, b2, m2, d2, ⟨(hb.cell (p := ⟨g, _, none⟩) hg).trans x0, (hb.cell (p := ⟨g, _, none⟩) hg).trans x1, (hb.cell (p := ⟨g, _, none⟩) hg).trans x2, (hb.cell (p := ⟨g, _, none⟩) hg).trans x3, (hb.cell (p := ⟨g, _, none⟩) hg).trans x4, (hb.cell (p := ⟨g, _, none⟩) hg).trans x5⟩, r1.later hb, r2.later hb, z1, z2, Nat.lt_of_lt_of_le hg hb.size⟩
/-- a Rat is answered, in memory of its own -/
def RvQ (w : World) (q : Rat) (K : Nat) (e : Ending) (w' : World) : Prop := ∃ s a n c b m d, e = .returned (.agg #[.bool s, .slice a n c, .slice b m d]) ∧ RtO w' w.heap.size s (.slice a n c) (.slice b m d) q ∧ Sz q K ∧ Below w.heap.size w w'
def psum (p q : Rat) (L : List (Rat × Rat)) : Nat → Rat
  | 0 => p * q
  | k + 1 => psum p q L k + (L.getD k (0, 0)).1 * (L.getD k (0, 0)).2
section
variable {w : World} {s1 s2 : Bool} {a1 b1 a2 b2 : Option Addr} {n1 c1 m1 d1 n2 c2 m2 d2 : Nat} {p q : Rat} {k K : Nat}
set_option maxHeartbeats 6400000 in
set_option maxRecDepth 100000 in
theorem sum22_any {L : List (Rat × Rat)} {gm cm N : Nat} (h1 : Rt w s1 a1 n1 c1 b1 m1 d1 p) (h2 : Rt w s2 a2 n2 c2 b2 m2 d2 q) (z1 : Sz p K) (z2 : Sz q K) (hL : ∀ i, i < L.length → PrAt w gm i (L.getD i (0, 0)).1 (L.getD i (0, 0)).2 K) (hN : L.length = N) (hN0 : N ≤ 2) (hK : K ≤ 600) :
    Calls Tryz.prog 29 #[.agg #[.bool s1, .slice a1 n1 c1, .slice b1 m1 d1, .bool s2, .slice a2 n2 c2, .slice b2 m2 d2], .slice (some ⟨gm, 0, none⟩) N cm] w fun e w' => RvQ w (psum p q L N) (K + K + N * (K + K + 1)) e w' := by
  obtain ⟨w0, hw0⟩ : ∃ w0, w0 = (w.alloc (.cells #[.bool s1, .slice a1 n1 c1, .slice b1 m1 d1, .bool s2, .slice a2 n2 c2, .slice b2 m2 d2] 73)).alloc (.cells #[.bool false, .slice none 0 0, .slice none 0 0] 57) := ⟨_, rfl⟩
  obtain ⟨u1, u2, hb0, e0⟩ : Pb w0 w.heap.size 73 #[.bool s1, .slice a1 n1 c1, .slice b1 m1 d1, .bool s2, .slice a2 n2 c2, .slice b2 m2 d2] ∧ St w0 (w.heap.size + 1) 57 (.bool false) (.slice none 0 0) (.slice none 0 0) ∧ Below w.heap.size w w0 ∧ w0.heap.size = w.heap.size + 1 + 1 := by
    subst hw0
    exact pb_two _ _ _ _ _ _
  obtain ⟨g, hg⟩ : ∃ g, g = w.heap.size := ⟨_, rfl⟩
  have HG : Hid (w.heap.size = g) := hg.symm
  have r1 := h1.later hb0
  have r2 := h2.later hb0
  have hLw := fun (w' : World) (hw : Below g w w') i hi => (hL i hi).later (w' := w') (by rw [hg] at hw; exact hw)
  rw [← hg] at u1 u2 hb0 e0
  have HE0 : Hid (w0.heap.size = g + 1 + 1) := e0
  have hE0 : g + 2 ≤ w0.heap.size := by omega
  clear e0
  go_enter Tryz.func29, Tryz.ntmps29
  go_wp2_with fail
  rw [← hw0, ← hg]
  refine (rMul_ok r1 r2 z1 z2 (by omega)).mono ?_
  rintro e wA ⟨sA, vA1, vA2, rfl, hRA, hzA, hbA⟩
  obtain ⟨aA, nA, cA, bA, mA, dA, rfl, rfl, _⟩ := hRA.opens
  have HA := hb0.trans (hbA.mono (by omega))
  have sA' := hbA.size
  have alA := alloc_below (w := wA) (.cells #[.bool sA, .slice aA nA cA, .slice bA mA dA] 57)
  have pA := st_new wA (.bool sA) (.slice aA nA cA) (.slice bA mA dA) 57
  have szA : (wA.alloc (.cells #[.bool sA, .slice aA nA cA, .slice bA mA dA] 57)).heap.size = wA.heap.size + 1 := by simp
  have u2A := (u2.later hbA).later alA
  have hRA' := (hRA.later alA).lower (base' := g + 1 + 1) (by omega)
  have HB1 := HA.trans (alA.mono (by omega))
  clear hw0 hg u1 u2 r1 r2 h1 h2 hRA hL hb0 hbA HA
  go_wp2
  generalize wA.alloc (.cells #[.bool sA, .slice aA nA cA, .slice bA mA dA] 57) = wA1 at *
  obtain ⟨g5, hg5⟩ : ∃ g5, g5 = wA.heap.size := ⟨_, rfl⟩
  rw [← hg5] at pA szA ⊢
  have h5 : g + 1 < g5 := by omega
  clear hg5 alA sA'
  go_loopw [21] (fun i wr => ∃ (j : Nat) (s : Bool) (a b : Option Addr) (n c m d : Nat), j ≤ N ∧ i = .int .i64 j ∧ St wr g5 57 (.bool s) (.slice a n c) (.slice b m d) ∧ RtO wr (g + 1 + 1) s (.slice a n c) (.slice b m d) (psum p q L j) ∧ Sz (psum p q L j) (K + K + j * (K + K + 1)) ∧ St wr (g + 1) 57 (.bool false) (.slice none 0 0) (.slice none 0 0) ∧ Below g w wr) (fun i _ => N - (intOf i).toNat)
  case atStart => exact ⟨0, sA, aA, bA, nA, cA, mA, dA, Nat.zero_le _, rfl, pA, hRA', by simpa [psum] using hzA, u2A, HB1⟩
  case round =>
    obtain ⟨j, s, a, b, n, c, m, d, hj, rfl, hSt, hR, hz, hU, hB⟩ := hrel
    clear hRA' HB1 pA u2A hzA szA
    by_cases hlt : j < N
    · have i1 : (j : Int) < (N : Int) := by omega
      obtain ⟨t1, e1, y1, f1, g1, v1, k1, t2, e2, y2, f2, g2, v2, k2, ⟨x0, x1, x2, x3, x4, x5⟩, q1, q2, zz1, zz2, hgm⟩ := hLw wr hB j (by omega)
      have hi0 : (0 : Int) ≤ (j : Int) := by omega
      have al1 := alloc_below (w := wr) (.cells #[.bool t1, .slice e1 y1 f1, .slice g1 v1 k1, .bool t2, .slice e2 y2 f2, .slice g2 v2 k2] 73)
      have Q1 := q1.later al1
      have Q2 := q2.later al1
      have S1 := hSt.later al1
      have U1 := hU.later al1
      have lt5 := hSt.lt
      have hBs := hB.size
      have sz1 : wr.heap.size + 1 = (wr.alloc (.cells #[.bool t1, .slice e1 y1 f1, .slice g1 v1 k1, .bool t2, .slice e2 y2 f2, .slice g2 v2 k2] 73)).heap.size := by simp
      have R1 := hR.later al1
      have B1 := hB.trans (al1.mono (by rw [HG.out] at hBs; exact hBs))
      have hps : Hid (psum p q L (j + 1) = psum p q L j + (L.getD j (0, 0)).1 * (L.getD j (0, 0)).2) := rfl
      have hj4 : j + 1 ≤ 2 := by omega
      have hjK : j * (K + K + 1) ≤ 1 * (K + K + 1) := Nat.mul_le_mul_right _ (by omega)
      have hjs : (j + 1) * (K + K + 1) = j * (K + K + 1) + (K + K + 1) := Nat.succ_mul _ _
      clear hSt hR hU hB q1 q2
      go_wp2_with fail
      generalize wr.alloc (.cells #[.bool t1, .slice e1 y1 f1, .slice g1 v1 k1, .bool t2, .slice e2 y2 f2, .slice g2 v2 k2] 73) = w1 at *
      refine (rMul_ok Q1 Q2 zz1 zz2 (by omega)).mono ?_
      rintro e wX ⟨sX, vX1, vX2, rfl, hX, hzX, hbX⟩
      obtain ⟨aX, nX, cX, bX, mX, dX, rfl, rfl, _⟩ := hX.opens
      have al2 := alloc_below (w := wX) (.cells #[.bool sX, .slice aX nX cX, .slice bX mX dX] 57)
      have sX1 := hbX.size
      have sz2 : wX.heap.size + 1 = (wX.alloc (.cells #[.bool sX, .slice aX nX cX, .slice bX mX dX] 57)).heap.size := by simp
      have S2 := (S1.later hbX).later al2
      have U2 := (U1.later hbX).later al2
      have R2 := (R1.later hbX).later al2
      have X2 := hX.later al2
      have hb12 := hbX.trans (al2.mono sX1)
      have B2 := B1.trans (hb12.mono (by omega))
      obtain ⟨⟨m0, m1', m2'⟩, ⟨z0, z1', z2'⟩⟩ := And.intro S2.cells S2.frozen
      have ne5 : ¬ g5 = wX.heap.size := by omega
      clear S1 U1 R1 B1 hb12 x0 x1 x2 x3 x4 x5 Q1 Q2 hbX al1 al2
      go_wp2_with fail
      generalize wX.alloc (.cells #[.bool sX, .slice aX nX cX, .slice bX mX dX] 57) = w2 at *
      refine (rAdd_ok R2.rt22 X2.rt22 hz hzX (by omega)).mono ?_
      rintro e wC ⟨sC, vC1, vC2, rfl, hC, hzC, hbC⟩
      obtain ⟨aC, nC, cC, bC, mC, dC, rfl, rfl, _⟩ := hC.opens
      have sC1 := hbC.size
      have S3 := S2.later hbC
      have U3 := U2.later hbC
      have B3 := B2.trans (hbC.mono (by omega))
      obtain ⟨m0, m1', m2'⟩ := S3.cells
      obtain ⟨z0, z1', z2'⟩ := S3.frozen
      rw [← hps.out] at hC hzC
      have i9 := in3 wC g5 (.bool sC) (.slice aC nC cC) (.slice bC mC dC)
      have S9 := S3.set (.bool sC) (.slice aC nC cC) (.slice bC mC dC)
      have U9 := U3.inn i9 (by omega)
      have C9 := (hC.inn i9 (by omega)).lower (base' := g + 1 + 1) (by omega)
      have B9 := below_in B3 i9 (by omega) (by rw [HG.out]; exact Nat.le_refl _)
      clear S2 U2 R2 X2 B2 S3 U3 B3 hC hbC
      go_wp2
      go_roundw
      case rel => exact ⟨j + 1, sC, aC, bC, nC, cC, mC, dC, hlt, by go_num, S9, C9, hzC.mono (by omega), U9, B9⟩
      case measure => simp [intOf]; omega
    · have i1 : ¬ (j : Int) < (N : Int) := by omega
      have hjN : j = N := by omega
      subst hjN
      obtain ⟨m0, m1', m2'⟩ := hSt.cells
      obtain ⟨z0, z1', z2'⟩ := hU.frozen
      obtain ⟨y0, y1', y2'⟩ := hU.cells
      have hBs := hB.size
      go_wp2
      have i9 := in3 wr (g + 1) (.bool s) (.slice a n c) (.slice b m d)
      have T9 := (hU.set (.bool s) (.slice a n c) (.slice b m d)).cells
      refine bodyPost_ret (v := .agg #[.bool s, .slice a n c, .slice b m d]) (by simp [results, Tryz.results29, go_sem, T9]) rfl ?_
      refine ⟨s, a, n, c, b, m, d, rfl, ?_, hz, ?_⟩
      · rw [HG.out]
        exact (hR.inn i9 (by omega)).lower (by omega)
      · rw [HG.out]
        exact below_in hB i9 (by omega) (by rw [HG.out]; exact Nat.le_refl _)
end
end Go.Proofs.YtbonkgmcpjaepaaGreat
