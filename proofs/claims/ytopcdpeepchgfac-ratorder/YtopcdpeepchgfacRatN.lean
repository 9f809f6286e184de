/- plumblaw05: alive, three. -/
import Derived.Test.YtopcdpeepchgfacRatM
namespace Go.Proofs.Ytopcdpeepchgfac
open Go.ChangeShapes Go.WideShapes Go.ChangeAt Go.RowKit
open Na Ar
set_option linter.unusedVariables false
theorem lits (w : World) (N : Nat) (hN : w.heap.size = N) (x y : Int) : RowC ((w.alloc (.cells #[.int .u64 x] 48)).alloc (.cells #[.int .u64 y] 48)) (some ⟨N, 0, none⟩) 1 1 [x] ∧ RowC ((w.alloc (.cells #[.int .u64 x] 48)).alloc (.cells #[.int .u64 y] 48)) (some ⟨N + 1, 0, none⟩) 1 1 [y] ∧ Below w.heap.size w ((w.alloc (.cells #[.int .u64 x] 48)).alloc (.cells #[.int .u64 y] 48)) := by
  have r1 := rowC_one w x 48
  have b1 := alloc_below (w := w) (.cells #[.int .u64 x] 48)
  have r2 := rowC_one (w.alloc (.cells #[.int .u64 x] 48)) y 48
  have b2 := alloc_below (w := w.alloc (.cells #[.int .u64 x] 48)) (.cells #[.int .u64 y] 48)
  have es : (w.alloc (.cells #[.int .u64 x] 48)).heap.size = N + 1 := by simp [hN]
  rw [es] at r2
  rw [hN] at r1
  exact ⟨r1.later b2, r2, b1.trans (b2.mono b1.size)⟩
theorem RtO.rt {w : World} {base : Nat} {s : Bool} {a b : Option Addr} {n c m d : Nat} {q : Rat} (h : RtO w base s (.slice a n c) (.slice b m d) q) : Rt w s a n c b m d q := by
  obtain ⟨a', n', c', b', m', d', e1, e2, r⟩ := h.opens
  simp only [Value.slice.injEq] at e1 e2
  obtain ⟨rfl, rfl, rfl⟩ := e1
  obtain ⟨rfl, rfl, rfl⟩ := e2
  exact r
theorem words_word {x : Int} (h0 : 0 < x) (h1 : x < 18446744073709551616) : words x = [x] := by
  rcases words_cases (N := x) (by omega) with ⟨e, _⟩ | ⟨_, _, e⟩ | ⟨e, _⟩
  · omega
  · exact e
  · omega
theorem half_third : (mkR false 1 2 + mkR false 2 6).num = 5 ∧ (mkR false 1 2 + mkR false 2 6).den = 6 := by decide +kernel
set_option maxHeartbeats 6400000 in
set_option maxRecDepth 100000 in
theorem alive5_any (w : World) : Calls Try.prog 16 #[] w fun e w' => e = .returned (.bool true) ∧ Below w.heap.size w w' := by
  have hnot : ∀ (x : Bool) (w : World), (Op.unary .not (.bool x)).run Try.prog w = .ok (.bool (!x)) w := fun _ _ => rfl
  obtain ⟨r1, r2, hb0⟩ := lits w w.heap.size rfl 1 2
  have f1 := rNew_ok (neg := false) r1 r2 (Nm.one (x := 1) (by omega)) (Nm.one (x := 2) (by omega)) (by omega) ((Lt.word (x := 1) (by omega)).mono (by omega)) ((Lt.word (x := 2) (by omega)).mono (by omega)) (by omega) (by omega)
  have z1 := Sz.mkR (s := false) (Lt.word (x := 1) (by omega)) (Lt.word (x := 2) (by omega)) (by omega)
  have z2 := Sz.mkR (s := false) (Lt.word (x := 2) (by omega)) (Lt.word (x := 6) (by omega)) (by omega)
  go_enter Try.func16, Try.ntmps16
  go_wp2_with fail
  refine f1.mono ?_
  rintro e wA ⟨s5, v1, v2, rfl, hRA, hbA⟩
  obtain ⟨a5, n5, c5, b5, m5, d5, rfl, rfl, hA⟩ := hRA.opens
  clear f1 r1 r2 hRA
  have hal := alloc_below (w := wA) (.cells #[.bool s5, .slice a5 n5 c5, .slice b5 m5 d5] 25)
  have ta := st_new wA (.bool s5) (.slice a5 n5 c5) (.slice b5 m5 d5) 25
  obtain ⟨r3, r4, hb1⟩ := lits (wA.alloc (.cells #[.bool s5, .slice a5 n5 c5, .slice b5 m5 d5] 25)) (wA.heap.size + 1) (by simp) 2 6
  have f2 := rNew_ok (neg := false) r3 r4 (Nm.one (x := 2) (by omega)) (Nm.one (x := 6) (by omega)) (by omega) ((Lt.word (x := 2) (by omega)).mono (by omega)) ((Lt.word (x := 6) (by omega)).mono (by omega)) (by omega) (by omega)
  have hB1 := hb0.trans (hbA.mono hb0.size)
  have hB2 := (hB1.trans (hal.mono hB1.size))
  have hB3 := hB2.trans (hb1.mono hB2.size)
  have tA2 := ta.later hb1
  have hA2 := (hA.later hal).later hb1
  clear hal ta hb1 hB2 hA hb0 hbA r3 r4 hB1
  go_wp2_with fail
  refine f2.mono ?_
  rintro e wB ⟨s6, v3, v4, rfl, hRB, hbB⟩
  obtain ⟨a6, n6, c6, b6, m6, d6, rfl, rfl, hB⟩ := hRB.opens
  have hB4 := hB3.trans (hbB.mono hB3.size)
  have tA4 := tA2.later hbB
  have hA4 := hA2.later hbB
  clear f2 hRB hbB hB3 hA2 tA2
  have hal := alloc_below (w := wB) (.cells #[.bool s6, .slice a6 n6 c6, .slice b6 m6 d6] 25)
  have tb := st_new wB (.bool s6) (.slice a6 n6 c6) (.slice b6 m6 d6) 25
  have tA5 := tA4.later hal
  have f3 := rAdd_ok (hA4.later hal) (hB.later hal) z1 z2 (by omega)
  have hB5 := hB4.trans (hal.mono hB4.size)
  obtain ⟨x0, x1, x2⟩ := tA5.cells
  obtain ⟨y0, y1, y2⟩ := tb.cells
  clear hal tA4 hA4 hB hB4
  go_wp2_with fail
  refine f3.mono ?_
  rintro e wC ⟨s7, v5, v6, rfl, hRC, hsz, hbC⟩
  have sg7 := hRC.sgn
  obtain ⟨a7, n7, c7, b7, m7, d7, rfl, rfl, hC⟩ := hRC.opens
  have rN := hC.nu
  have rD := hC.de
  rw [half_third.1] at sg7 rN
  rw [half_third.2] at rD
  rw [show ((5 : Int).natAbs : Int) = 5 from rfl, words_word (by omega) (by omega)] at rN
  rw [show ((6 : Nat) : Int) = 6 from rfl, words_word (by omega) (by omega)] at rD
  have hs7 : s7 = false := sg7
  subst hs7
  have hB6 := hB5.trans (hbC.mono hB5.size)
  clear f3 hRC hbC hB5 sg7 hC hsz tA5 tb x0 x1 x2 y0 y1 y2 z1 z2
  have hal := alloc_below (w := wC) (.cells #[.bool false, .slice a7 n7 c7, .slice b7 m7 d7] 25)
  have tc := st_new wC (.bool false) (.slice a7 n7 c7) (.slice b7 m7 d7) 25
  have hB7 := hB6.trans (hal.mono hB6.size)
  have hal2 := alloc_below (w := wC.alloc (.cells #[.bool false, .slice a7 n7 c7, .slice b7 m7 d7] 25)) (.cells #[.int .u64 5] 48)
  have r5 := rowC_one (wC.alloc (.cells #[.bool false, .slice a7 n7 c7, .slice b7 m7 d7] 25)) 5 48
  have e7 : (wC.alloc (.cells #[.bool false, .slice a7 n7 c7, .slice b7 m7 d7] 25)).heap.size = wC.heap.size + 1 := by simp
  rw [e7] at r5
  have sm := sameN ((rN.later hal).later hal2) r5 (by simp) (by simp) rfl
  have tc2 := tc.later hal2
  have rD2 := (rD.later hal).later hal2
  have hB8 := hB7.trans (hal2.mono hB7.size)
  clear hal hal2 r5 e7 tc rN rD hB7 hB6
  go_wp2_with fail
  refine sm.mono ?_
  rintro e wD ⟨rfl, hbD⟩
  have tc3 := tc2.later hbD
  obtain ⟨x0, x1, x2⟩ := tc3.cells
  have hal := alloc_below (w := wD) (.cells #[.int .u64 6] 48)
  have r6 := rowC_one wD 6 48
  have sm2 := sameN ((rD2.later hbD).later hal) r6 (by simp) (by simp) rfl
  have hB9 := hB8.trans (hbD.mono hB8.size)
  have hB10 := hB9.trans (hal.mono hB9.size)
  clear sm tc2 rD2 hbD hB8 hal r6 hB9
  go_wp2_with fail
  refine sm2.mono ?_
  rintro e wE ⟨rfl, hbE⟩
  go_wp2
  go_ret
  exact ⟨rfl, hB10.trans (hbE.mono hB10.size)⟩
section
variable {w : World} {s1 s2 s3 : Bool} {a1 b1 a2 b2 a3 b3 : Option Addr} {n1 c1 m1 d1 n2 c2 m2 d2 n3 c3 m3 d3 : Nat} {x1 y1 x2 y2 x3 y3 : List Int}
theorem st_six : St (((((((((((w.alloc (.cells #[.bool s1, .slice a1 n1 c1, .slice b1 m1 d1] 24))).alloc (.cells #[.bool s2, .slice a2 n2 c2, .slice b2 m2 d2] 24))).alloc (.cells #[.bool s3, .slice a3 n3 c3, .slice b3 m3 d3] 24))).alloc (.cells #[.bool false, .slice none 0 0, .slice none 0 0] 25))).alloc (.cells #[.bool false, .slice none 0 0, .slice none 0 0] 25))).alloc (.cells #[.bool false, .slice none 0 0, .slice none 0 0] 25)) (w.heap.size) 24 (.bool s1) (.slice a1 n1 c1) (.slice b1 m1 d1) ∧ St (((((((((((w.alloc (.cells #[.bool s1, .slice a1 n1 c1, .slice b1 m1 d1] 24))).alloc (.cells #[.bool s2, .slice a2 n2 c2, .slice b2 m2 d2] 24))).alloc (.cells #[.bool s3, .slice a3 n3 c3, .slice b3 m3 d3] 24))).alloc (.cells #[.bool false, .slice none 0 0, .slice none 0 0] 25))).alloc (.cells #[.bool false, .slice none 0 0, .slice none 0 0] 25))).alloc (.cells #[.bool false, .slice none 0 0, .slice none 0 0] 25)) (w.heap.size + 1) 24 (.bool s2) (.slice a2 n2 c2) (.slice b2 m2 d2) ∧ St (((((((((((w.alloc (.cells #[.bool s1, .slice a1 n1 c1, .slice b1 m1 d1] 24))).alloc (.cells #[.bool s2, .slice a2 n2 c2, .slice b2 m2 d2] 24))).alloc (.cells #[.bool s3, .slice a3 n3 c3, .slice b3 m3 d3] 24))).alloc (.cells #[.bool false, .slice none 0 0, .slice none 0 0] 25))).alloc (.cells #[.bool false, .slice none 0 0, .slice none 0 0] 25))).alloc (.cells #[.bool false, .slice none 0 0, .slice none 0 0] 25)) (w.heap.size + 1 + 1) 24 (.bool s3) (.slice a3 n3 c3) (.slice b3 m3 d3) ∧ St (((((((((((w.alloc (.cells #[.bool s1, .slice a1 n1 c1, .slice b1 m1 d1] 24))).alloc (.cells #[.bool s2, .slice a2 n2 c2, .slice b2 m2 d2] 24))).alloc (.cells #[.bool s3, .slice a3 n3 c3, .slice b3 m3 d3] 24))).alloc (.cells #[.bool false, .slice none 0 0, .slice none 0 0] 25))).alloc (.cells #[.bool false, .slice none 0 0, .slice none 0 0] 25))).alloc (.cells #[.bool false, .slice none 0 0, .slice none 0 0] 25)) (w.heap.size + 1 + 1 + 1) 25 (.bool false) (.slice none 0 0) (.slice none 0 0) ∧ St (((((((((((w.alloc (.cells #[.bool s1, .slice a1 n1 c1, .slice b1 m1 d1] 24))).alloc (.cells #[.bool s2, .slice a2 n2 c2, .slice b2 m2 d2] 24))).alloc (.cells #[.bool s3, .slice a3 n3 c3, .slice b3 m3 d3] 24))).alloc (.cells #[.bool false, .slice none 0 0, .slice none 0 0] 25))).alloc (.cells #[.bool false, .slice none 0 0, .slice none 0 0] 25))).alloc (.cells #[.bool false, .slice none 0 0, .slice none 0 0] 25)) (w.heap.size + 1 + 1 + 1 + 1) 25 (.bool false) (.slice none 0 0) (.slice none 0 0) ∧ St (((((((((((w.alloc (.cells #[.bool s1, .slice a1 n1 c1, .slice b1 m1 d1] 24))).alloc (.cells #[.bool s2, .slice a2 n2 c2, .slice b2 m2 d2] 24))).alloc (.cells #[.bool s3, .slice a3 n3 c3, .slice b3 m3 d3] 24))).alloc (.cells #[.bool false, .slice none 0 0, .slice none 0 0] 25))).alloc (.cells #[.bool false, .slice none 0 0, .slice none 0 0] 25))).alloc (.cells #[.bool false, .slice none 0 0, .slice none 0 0] 25)) (w.heap.size + 1 + 1 + 1 + 1 + 1) 25 (.bool false) (.slice none 0 0) (.slice none 0 0) ∧ Below w.heap.size w (((((((((((w.alloc (.cells #[.bool s1, .slice a1 n1 c1, .slice b1 m1 d1] 24))).alloc (.cells #[.bool s2, .slice a2 n2 c2, .slice b2 m2 d2] 24))).alloc (.cells #[.bool s3, .slice a3 n3 c3, .slice b3 m3 d3] 24))).alloc (.cells #[.bool false, .slice none 0 0, .slice none 0 0] 25))).alloc (.cells #[.bool false, .slice none 0 0, .slice none 0 0] 25))).alloc (.cells #[.bool false, .slice none 0 0, .slice none 0 0] 25)) ∧ (((((((((((w.alloc (.cells #[.bool s1, .slice a1 n1 c1, .slice b1 m1 d1] 24))).alloc (.cells #[.bool s2, .slice a2 n2 c2, .slice b2 m2 d2] 24))).alloc (.cells #[.bool s3, .slice a3 n3 c3, .slice b3 m3 d3] 24))).alloc (.cells #[.bool false, .slice none 0 0, .slice none 0 0] 25))).alloc (.cells #[.bool false, .slice none 0 0, .slice none 0 0] 25))).alloc (.cells #[.bool false, .slice none 0 0, .slice none 0 0] 25)).heap.size = w.heap.size + 6 := by
  have e3 : (((((w.alloc (.cells #[.bool s1, .slice a1 n1 c1, .slice b1 m1 d1] 24))).alloc (.cells #[.bool s2, .slice a2 n2 c2, .slice b2 m2 d2] 24))).alloc (.cells #[.bool s3, .slice a3 n3 c3, .slice b3 m3 d3] 24)).heap.size = w.heap.size + 1 + 1 + 1 := by simp
  obtain ⟨p1, p2, p3, hb⟩ := st_three w (.bool s1) (.slice a1 n1 c1) (.slice b1 m1 d1) (.bool s2) (.slice a2 n2 c2) (.slice b2 m2 d2) (.bool s3) (.slice a3 n3 c3) (.slice b3 m3 d3) 24 24 24
  generalize (((((w.alloc (.cells #[.bool s1, .slice a1 n1 c1, .slice b1 m1 d1] 24))).alloc (.cells #[.bool s2, .slice a2 n2 c2, .slice b2 m2 d2] 24))).alloc (.cells #[.bool s3, .slice a3 n3 c3, .slice b3 m3 d3] 24)) = w3 at *
  obtain ⟨q1, q2, q3, hb2⟩ := st_three w3 (.bool false) (.slice none 0 0) (.slice none 0 0) (.bool false) (.slice none 0 0) (.slice none 0 0) (.bool false) (.slice none 0 0) (.slice none 0 0) 25 25 25
  rw [e3] at q1 q2 q3
  exact ⟨p1.later hb2, p2.later hb2, p3.later hb2, q1, q2, q3, hb.trans (hb2.mono hb.size), by simp [e3]⟩
/-- what three answers -/
def ThreeP (p q r : Rat) (w : World) (e : Ending) (w' : World) : Prop := ∃ s a n c b m d s' a' n' c' b' m' d' s2 a2 n2 c2 b2 m2 d2, e = .returned (.tuple #[.agg #[.bool s, .slice a n c, .slice b m d], .agg #[.bool s', .slice a' n' c', .slice b' m' d'], .agg #[.bool s2, .slice a2 n2 c2, .slice b2 m2 d2], .bool true]) ∧ Rt w' s a n c b m d p ∧ Rt w' s' a' n' c' b' m' d' q ∧ Rt w' s2 a2 n2 c2 b2 m2 d2 r ∧ Below w.heap.size w w'
theorem made_at {w0 w1 : World} (h : Below w0.heap.size w0 w1) (ha1 : RowAt .u64 w0 a1 n1 x1) (hb1 : RowAt .u64 w0 b1 m1 y1) (hx1 : Ws x1) (hy1 : Ws y1) (hn1 : n1 ≤ maxLen) (hm1 : m1 ≤ maxLen) :
    Calls Try.prog 15 #[.agg #[.bool s1, .slice a1 n1 c1, .slice b1 m1 d1]] w1 fun e w' => ∃ s a n c b m d, e = .returned (.tuple #[.agg #[.bool s, .slice a n c, .slice b m d], .bool true]) ∧ RtO w' w1.heap.size s (.slice a n c) (.slice b m d) (mkR s1 (pNum x1) (pDen y1)) ∧ Below w0.heap.size w0 w' ∧ Below w1.heap.size w1 w' := by
  refine (made_any (s1 := s1) (c1 := c1) (d1 := d1) (ha1.later h) (hb1.later h) hx1 hy1 hn1 hm1).mono ?_
  rintro e w' ⟨s, v1, v2, rfl, hR, _, hb⟩
  obtain ⟨a9, n9, c9, b9, m9, d9, rfl, rfl, _⟩ := hR.opens
  exact ⟨_, _, _, _, _, _, _, rfl, hR, h.trans (hb.mono h.size), hb⟩
set_option maxHeartbeats 12800000 in
set_option maxRecDepth 100000 in
theorem three_any (ha1 : RowAt .u64 w a1 n1 x1) (hb1 : RowAt .u64 w b1 m1 y1) (hx1 : Ws x1) (hy1 : Ws y1) (hn1 : n1 ≤ maxLen) (hm1 : m1 ≤ maxLen) (ha2 : RowAt .u64 w a2 n2 x2) (hb2 : RowAt .u64 w b2 m2 y2) (hx2 : Ws x2) (hy2 : Ws y2) (hn2 : n2 ≤ maxLen) (hm2 : m2 ≤ maxLen) (ha3 : RowAt .u64 w a3 n3 x3) (hb3 : RowAt .u64 w b3 m3 y3) (hx3 : Ws x3) (hy3 : Ws y3) (hn3 : n3 ≤ maxLen) (hm3 : m3 ≤ maxLen) :
    Calls Try.prog 5 #[.agg #[.bool s1, .slice a1 n1 c1, .slice b1 m1 d1], .agg #[.bool s2, .slice a2 n2 c2, .slice b2 m2 d2], .agg #[.bool s3, .slice a3 n3 c3, .slice b3 m3 d3]] w fun e w' => ThreeP (mkR s1 (pNum x1) (pDen y1)) (mkR s2 (pNum x2) (pDen y2)) (mkR s3 (pNum x3) (pDen y3)) w e w' := by
  obtain ⟨t1, t2, t3, t4, t5, t6, hb0, e0⟩ := st_six (w := w) (s1 := s1) (s2 := s2) (s3 := s3) (a1 := a1) (b1 := b1) (a2 := a2) (b2 := b2) (a3 := a3) (b3 := b3) (n1 := n1) (c1 := c1) (m1 := m1) (d1 := d1) (n2 := n2) (c2 := c2) (m2 := m2) (d2 := d2) (n3 := n3) (c3 := c3) (m3 := m3) (d3 := d3)
  obtain ⟨w0, hw0⟩ : ∃ w0, w0 = (((((((((((w.alloc (.cells #[.bool s1, .slice a1 n1 c1, .slice b1 m1 d1] 24))).alloc (.cells #[.bool s2, .slice a2 n2 c2, .slice b2 m2 d2] 24))).alloc (.cells #[.bool s3, .slice a3 n3 c3, .slice b3 m3 d3] 24))).alloc (.cells #[.bool false, .slice none 0 0, .slice none 0 0] 25))).alloc (.cells #[.bool false, .slice none 0 0, .slice none 0 0] 25))).alloc (.cells #[.bool false, .slice none 0 0, .slice none 0 0] 25)) := ⟨_, rfl⟩
  rw [← hw0] at t1 t2 t3 t4 t5 t6 hb0 e0
  have f1 := fun w1 h => made_at (s1 := s1) (c1 := c1) (d1 := d1) (w0 := w0) (w1 := w1) h (ha1.later hb0) (hb1.later hb0) hx1 hy1 hn1 hm1
  have f2 := fun w1 h => made_at (s1 := s2) (c1 := c2) (d1 := d2) (w0 := w0) (w1 := w1) h (ha2.later hb0) (hb2.later hb0) hx2 hy2 hn2 hm2
  have f3 := fun w1 h => made_at (s1 := s3) (c1 := c3) (d1 := d3) (w0 := w0) (w1 := w1) h (ha3.later hb0) (hb3.later hb0) hx3 hy3 hn3 hm3
  clear ha1 hb1 hx1 hy1 hn1 hm1 ha2 hb2 hx2 hy2 hn2 hm2 ha3 hb3 hx3 hy3 hn3 hm3
  obtain ⟨g, hg⟩ : ∃ g, g = w.heap.size := ⟨_, rfl⟩
  have HG : Hid (w.heap.size = g) := hg.symm
  rw [← hg] at t1 t2 t3 t4 t5 t6 hb0 e0
  have HS : g ≤ w0.heap.size := by rw [hg]; exact hb0.size
  go_enter Try.func5, Try.ntmps5
  go_wp2_with fail
  rw [← hw0, ← hg]
  refine (f1 _ (Below.refl _ _)).mono ?_
  clear hw0 hg
  rintro e wA ⟨u1, p1, k1, l1, o1, i1, j1, rfl, hR1, hBx1, hbx1⟩
  have hal1 := alloc_below (w := wA) (.cells #[.bool u1, .slice p1 k1 l1, .slice o1 i1 j1] 25)
  have tv1 := st_new wA (.bool u1) (.slice p1 k1 l1) (.slice o1 i1 j1) 25
  obtain ⟨z1, hw1⟩ : ∃ z, z = wA.alloc (.cells #[.bool u1, .slice p1 k1 l1, .slice o1 i1 j1] 25) := ⟨_, rfl⟩
  rw [← hw1] at hal1 tv1
  have hB1 := hBx1.trans (hal1.mono hBx1.size)
  have sX1 := hBx1.size
  have hRR1 := hR1.later hal1
  clear hR1
  obtain ⟨y0, y1, y2⟩ := (t2.later hB1).cells
  rw [hw1] at y0 y1 y2
  go_wp2_with fail
  rw [← hw1]
  refine (f2 _ hB1).mono ?_
  rintro e wB ⟨u2, p2, k2, l2, o2, i2, j2, rfl, hR2, hBx2, hbx2⟩
  have hal2 := alloc_below (w := wB) (.cells #[.bool u2, .slice p2 k2 l2, .slice o2 i2 j2] 25)
  have tv2 := st_new wB (.bool u2) (.slice p2 k2 l2) (.slice o2 i2 j2) 25
  obtain ⟨z2, hw2⟩ : ∃ z, z = wB.alloc (.cells #[.bool u2, .slice p2 k2 l2, .slice o2 i2 j2] 25) := ⟨_, rfl⟩
  rw [← hw2] at hal2 tv2
  have hB2 := hBx2.trans (hal2.mono hBx2.size)
  have sX2 := hBx2.size
  have hRR2 := hR2.later hal2
  replace hRR1 := (hRR1.later hbx2).later hal2
  replace tv1 := (tv1.later hbx2).later hal2
  clear hR2
  obtain ⟨y0, y1, y2⟩ := (t3.later hB2).cells
  rw [hw2] at y0 y1 y2
  go_wp2_with fail
  rw [← hw2]
  refine (f3 _ hB2).mono ?_
  rintro e wC ⟨u3, p3, k3, l3, o3, i3, j3, rfl, hR3, hBx3, hbx3⟩
  have hal3 := alloc_below (w := wC) (.cells #[.bool u3, .slice p3 k3 l3, .slice o3 i3 j3] 25)
  have tv3 := st_new wC (.bool u3) (.slice p3 k3 l3) (.slice o3 i3 j3) 25
  obtain ⟨z3, hw3⟩ : ∃ z, z = wC.alloc (.cells #[.bool u3, .slice p3 k3 l3, .slice o3 i3 j3] 25) := ⟨_, rfl⟩
  rw [← hw3] at hal3 tv3
  have hB3 := hBx3.trans (hal3.mono hBx3.size)
  have sX3 := hBx3.size
  have hRR3 := hR3.later hal3
  replace hRR1 := (hRR1.later hbx3).later hal3
  replace tv1 := (tv1.later hbx3).later hal3
  replace hRR2 := (hRR2.later hbx3).later hal3
  replace tv2 := (tv2.later hbx3).later hal3
  clear hR3
  go_wp2
  rw [← hw3]
  obtain ⟨r1, hr1⟩ : ∃ r, r = wA.heap.size := ⟨_, rfl⟩
  rw [← hr1] at tv1 ⊢
  have sr1 : wA.heap.size = r1 := hr1.symm
  have sl1 := tv1.lt
  obtain ⟨r2, hr2⟩ : ∃ r, r = wB.heap.size := ⟨_, rfl⟩
  rw [← hr2] at tv2 ⊢
  have sr2 : wB.heap.size = r2 := hr2.symm
  have sl2 := tv2.lt
  obtain ⟨r3, hr3⟩ : ∃ r, r = wC.heap.size := ⟨_, rfl⟩
  rw [← hr3] at tv3 ⊢
  have sr3 : wC.heap.size = r3 := hr3.symm
  have sl3 := tv3.lt
  have b1 := hal1.size
  have b2 := hal2.size
  have b3 := hbx2.size
  have b4 := hbx3.size
  have c1 : wA.heap.size < z1.heap.size := by rw [hw1]; simp
  have c2 : wB.heap.size < z2.heap.size := by rw [hw2]; simp
  have c3 : wC.heap.size < z3.heap.size := by rw [hw3]; simp
  have hcl : ∀ w1, Below z3.heap.size z3 w1 → w1.cell? ⟨r1, 0, none⟩ = some (.bool u1) ∧ w1.cell? ⟨r1, 1, none⟩ = some (.slice p1 k1 l1) ∧ w1.cell? ⟨r1, 2, none⟩ = some (.slice o1 i1 j1) ∧ w1.cell? ⟨r2, 0, none⟩ = some (.bool u2) ∧ w1.cell? ⟨r2, 1, none⟩ = some (.slice p2 k2 l2) ∧ w1.cell? ⟨r2, 2, none⟩ = some (.slice o2 i2 j2) ∧ w1.cell? ⟨r3, 0, none⟩ = some (.bool u3) ∧ w1.cell? ⟨r3, 1, none⟩ = some (.slice p3 k3 l3) ∧ w1.cell? ⟨r3, 2, none⟩ = some (.slice o3 i3 j3) := fun w1 h => by
    obtain ⟨a0, a1, a2⟩ := (tv1.later h).cells
    obtain ⟨b0, b1, b2⟩ := (tv2.later h).cells
    obtain ⟨c0, c1, c2⟩ := (tv3.later h).cells
    exact ⟨a0, a1, a2, b0, b1, b2, c0, c1, c2⟩
  obtain ⟨x10, x11, x12, x20, x21, x22, x30, x31, x32⟩ := hcl z3 (Below.refl _ _)
  have s4 := t4.lt
  have s5 := t5.lt
  have s6 := t6.lt
  have q4 := t4.later hB3
  have q5 := t5.later hB3
  have q6 := t6.later hB3
  have n13 : ¬ r1 = g + 1 + 1 + 1 := by omega
  have m13 : ¬ g + 1 + 1 + 1 = r1 := by omega
  have n14 : ¬ r1 = g + 1 + 1 + 1 + 1 := by omega
  have m14 : ¬ g + 1 + 1 + 1 + 1 = r1 := by omega
  have n15 : ¬ r1 = g + 1 + 1 + 1 + 1 + 1 := by omega
  have m15 : ¬ g + 1 + 1 + 1 + 1 + 1 = r1 := by omega
  have n23 : ¬ r2 = g + 1 + 1 + 1 := by omega
  have m23 : ¬ g + 1 + 1 + 1 = r2 := by omega
  have n24 : ¬ r2 = g + 1 + 1 + 1 + 1 := by omega
  have m24 : ¬ g + 1 + 1 + 1 + 1 = r2 := by omega
  have n25 : ¬ r2 = g + 1 + 1 + 1 + 1 + 1 := by omega
  have m25 : ¬ g + 1 + 1 + 1 + 1 + 1 = r2 := by omega
  have n33 : ¬ r3 = g + 1 + 1 + 1 := by omega
  have m33 : ¬ g + 1 + 1 + 1 = r3 := by omega
  have n34 : ¬ r3 = g + 1 + 1 + 1 + 1 := by omega
  have m34 : ¬ g + 1 + 1 + 1 + 1 = r3 := by omega
  have n35 : ¬ r3 = g + 1 + 1 + 1 + 1 + 1 := by omega
  have m35 : ¬ g + 1 + 1 + 1 + 1 + 1 = r3 := by omega
  have HB3 := hb0.trans (hB3.mono HS)
  clear f1 f2 f3 hw1 hw2 hw3 hr1 hr2 hr3 hal1 hal2 hal3 hBx1 hBx2 hBx3 hbx1 hbx2 hbx3 hB1 hB2 t1 t2 t3 t4 t5 t6 y0 y1 y2 tv1 tv2 tv3
  have hR1 := hRR1
  have hR2 := hRR2
  have hR3 := hRR3
  clear hRR1 hRR2 hRR3 sr1 sr2 sr3
  go_region_held3 (fun w' => w'.cell? ⟨r1, 0, none⟩ = some (.bool u1) ∧ w'.cell? ⟨r1, 1, none⟩ = some (.slice p1 k1 l1) ∧ w'.cell? ⟨r1, 2, none⟩ = some (.slice o1 i1 j1) ∧ w'.cell? ⟨r2, 0, none⟩ = some (.bool u2) ∧ w'.cell? ⟨r2, 1, none⟩ = some (.slice p2 k2 l2) ∧ w'.cell? ⟨r2, 2, none⟩ = some (.slice o2 i2 j2) ∧ w'.cell? ⟨r3, 0, none⟩ = some (.bool u3) ∧ w'.cell? ⟨r3, 1, none⟩ = some (.slice p3 k3 l3) ∧ w'.cell? ⟨r3, 2, none⟩ = some (.slice o3 i3 j3)) (go_keep) ((go_at_call 16; refine (alive5_any _).mono ?_; rintro e wD ⟨rfl, hbD⟩; have hBD : Below z3.heap.size z3 wD := (by first | exact hbD | exact (below_drewN (Below.refl _ _) 1).trans hbD); obtain ⟨x10, x11, x12, x20, x21, x22, x30, x31, x32⟩ := hcl wD hBD; have q4D := q4.later hBD; have q5D := q5.later hBD; have q6D := q6.later hBD; obtain ⟨u40, u41, u42⟩ := q4D.cells; obtain ⟨v40, v41, v42⟩ := q4D.frozen; obtain ⟨u50, u51, u52⟩ := q5D.cells; obtain ⟨v50, v51, v52⟩ := q5D.frozen; obtain ⟨u60, u61, u62⟩ := q6D.cells; obtain ⟨v60, v61, v62⟩ := q6D.frozen))
  go_wp2
  have hR1D := hR1.later hBD
  have hR2D := hR2.later hBD
  have hR3D := hR3.later hBD
  have HBD := HB3.trans (hBD.mono (by omega))
  clear hR1 hR2 hR3 u40 u41 u42 v40 v41 v42 u50 u51 u52 v50 v51 v52 u60 u61 u62 v60 v61 v62 q4 q5 q6
  have i4 := in3 wD (g + 1 + 1 + 1) (.bool u1) (.slice p1 k1 l1) (.slice o1 i1 j1)
  have e4 := q4D.set (.bool u1) (.slice p1 k1 l1) (.slice o1 i1 j1)
  replace q5D := q5D.inn i4 (by omega)
  replace q6D := q6D.inn i4 (by omega)
  replace hR1D := hR1D.inn i4 (by omega)
  replace hR2D := hR2D.inn i4 (by omega)
  replace hR3D := hR3D.inn i4 (by omega)
  replace HBD := below_in HBD i4 (by omega) (by rw [HG.out]; exact Nat.le_refl _)
  generalize ((wD.setCell ⟨g + 1 + 1 + 1, 0, none⟩ (.bool u1)).setCell ⟨g + 1 + 1 + 1, 1, none⟩ (.slice p1 k1 l1)).setCell ⟨g + 1 + 1 + 1, 2, none⟩ (.slice o1 i1 j1) = wE at *
  have i5 := in3 wE (g + 1 + 1 + 1 + 1) (.bool u2) (.slice p2 k2 l2) (.slice o2 i2 j2)
  have e5 := q5D.set (.bool u2) (.slice p2 k2 l2) (.slice o2 i2 j2)
  replace e4 := e4.inn i5 (by omega)
  replace q6D := q6D.inn i5 (by omega)
  replace hR1D := hR1D.inn i5 (by omega)
  replace hR2D := hR2D.inn i5 (by omega)
  replace hR3D := hR3D.inn i5 (by omega)
  replace HBD := below_in HBD i5 (by omega) (by rw [HG.out]; exact Nat.le_refl _)
  generalize ((wE.setCell ⟨g + 1 + 1 + 1 + 1, 0, none⟩ (.bool u2)).setCell ⟨g + 1 + 1 + 1 + 1, 1, none⟩ (.slice p2 k2 l2)).setCell ⟨g + 1 + 1 + 1 + 1, 2, none⟩ (.slice o2 i2 j2) = wF at *
  have i6 := in3 wF (g + 1 + 1 + 1 + 1 + 1) (.bool u3) (.slice p3 k3 l3) (.slice o3 i3 j3)
  have e6 := q6D.set (.bool u3) (.slice p3 k3 l3) (.slice o3 i3 j3)
  replace e4 := e4.inn i6 (by omega)
  replace e5 := e5.inn i6 (by omega)
  replace hR1D := hR1D.inn i6 (by omega)
  replace hR2D := hR2D.inn i6 (by omega)
  replace hR3D := hR3D.inn i6 (by omega)
  replace HBD := below_in HBD i6 (by omega) (by rw [HG.out]; exact Nat.le_refl _)
  generalize ((wF.setCell ⟨g + 1 + 1 + 1 + 1 + 1, 0, none⟩ (.bool u3)).setCell ⟨g + 1 + 1 + 1 + 1 + 1, 1, none⟩ (.slice p3 k3 l3)).setCell ⟨g + 1 + 1 + 1 + 1 + 1, 2, none⟩ (.slice o3 i3 j3) = wG at *
  obtain ⟨k40, k41, k42⟩ := e4.cells
  obtain ⟨k50, k51, k52⟩ := e5.cells
  obtain ⟨k60, k61, k62⟩ := e6.cells
  refine bodyPost_ret (v := .tuple #[.agg #[.bool u1, .slice p1 k1 l1, .slice o1 i1 j1], .agg #[.bool u2, .slice p2 k2 l2, .slice o2 i2 j2], .agg #[.bool u3, .slice p3 k3 l3, .slice o3 i3 j3], .bool true]) (by simp [results, Try.results5, go_sem, k40, k41, k42, k50, k51, k52, k60, k61, k62]) rfl ?_
  unfold ThreeP
  rw [HG.out]
  exact ⟨_, _, _, _, _, _, _, _, _, _, _, _, _, _, _, _, _, _, _, _, _, rfl, hR1D.rt, hR2D.rt, hR3D.rt, HBD⟩
end
end Go.Proofs.Ytopcdpeepchgfac
