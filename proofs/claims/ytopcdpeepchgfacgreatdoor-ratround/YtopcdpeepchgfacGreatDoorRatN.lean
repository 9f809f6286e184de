/- plumblaw05: alive, three. -/
import Derived.Test.YtopcdpeepchgfacGreatDoorRatM
namespace Go.Proofs.YtopcdpeepchgfacGreatDoor
open Go.ChangeShapes Go.WideShapes Go.ChangeAt Go.RowKit
open Na Ar
set_option linter.unusedVariables false
theorem lits (w : World) (N : Nat) (hN : w.heap.size = N) (x y : Int) : RowC ((w.alloc (.cells #[.int .u64 x] 46)).alloc (.cells #[.int .u64 y] 46)) (some ⟨N, 0, none⟩) 1 1 [x] ∧ RowC ((w.alloc (.cells #[.int .u64 x] 46)).alloc (.cells #[.int .u64 y] 46)) (some ⟨N + 1, 0, none⟩) 1 1 [y] ∧ Below w.heap.size w ((w.alloc (.cells #[.int .u64 x] 46)).alloc (.cells #[.int .u64 y] 46)) := by
  have r1 := rowC_one w x 46
  have b1 := alloc_below (w := w) (.cells #[.int .u64 x] 46)
  have r2 := rowC_one (w.alloc (.cells #[.int .u64 x] 46)) y 46
  have b2 := alloc_below (w := w.alloc (.cells #[.int .u64 x] 46)) (.cells #[.int .u64 y] 46)
  have es : (w.alloc (.cells #[.int .u64 x] 46)).heap.size = N + 1 := by simp [hN]
  rw [es] at r2
  rw [hN] at r1
  exact ⟨r1.later b2, r2, b1.trans (b2.mono b1.size)⟩
theorem RtO.rt {w : World} {base : Nat} {s : Bool} {a b : Option Addr} {n c m d : Nat} {q : Rat} (h : RtO w base s (.slice a n c) (.slice b m d) q) : Rt w s a n c b m d q := by
  obtain ⟨a', n', c', b', m', d', e1, e2, r⟩ := h.opens
  simp only [Value.slice.injEq] at e1 e2
  obtain ⟨rfl, rfl, rfl⟩ := e1
  obtain ⟨rfl, rfl, rfl⟩ := e2
  exact r
theorem words_word {x : Int} (h0 : 0 < x) (h1 : x < 18446744073709551616) : words x = [x] := by
  rcases words_cases (N := x) (by omega) with ⟨e, _⟩ | ⟨_, _, e⟩ | ⟨e, _⟩
  · omega
  · exact e
  · omega
theorem half_third : (mkR false 1 2 + mkR false 2 6).num = 5 ∧ (mkR false 1 2 + mkR false 2 6).den = 6 := by decide +kernel
set_option maxHeartbeats 6400000 in
set_option maxRecDepth 100000 in
theorem alive5_any (w : World) : Calls Tryz.prog 7 #[] w fun e w' => e = .returned (.bool true) ∧ Below w.heap.size w w' := by
  have hnot : ∀ (x : Bool) (w : World), (Op.unary .not (.bool x)).run Tryz.prog w = .ok (.bool (!x)) w := fun _ _ => rfl
  obtain ⟨r1, r2, hb0⟩ := lits w w.heap.size rfl 1 2
  have f1 := rNew_ok (neg := false) r1 r2 (Nm.one (x := 1) (by omega)) (Nm.one (x := 2) (by omega)) (by omega) ((Lt.word (x := 1) (by omega)).mono (by omega)) ((Lt.word (x := 2) (by omega)).mono (by omega)) (by omega) (by omega)
  have z1 := Sz.mkR (s := false) (Lt.word (x := 1) (by omega)) (Lt.word (x := 2) (by omega)) (by omega)
  have z2 := Sz.mkR (s := false) (Lt.word (x := 2) (by omega)) (Lt.word (x := 6) (by omega)) (by omega)
  go_enter Tryz.func7, Tryz.ntmps7
  go_wp2_with fail
  refine f1.mono ?_
  rintro e wA ⟨s5, v1, v2, rfl, hRA, hbA⟩
  obtain ⟨a5, n5, c5, b5, m5, d5, rfl, rfl, hA⟩ := hRA.opens
  clear f1 r1 r2 hRA
  have hal := alloc_below (w := wA) (.cells #[.bool s5, .slice a5 n5 c5, .slice b5 m5 d5] 25)
  have ta := st_new wA (.bool s5) (.slice a5 n5 c5) (.slice b5 m5 d5) 25
  obtain ⟨r3, r4, hb1⟩ := lits (wA.alloc (.cells #[.bool s5, .slice a5 n5 c5, .slice b5 m5 d5] 25)) (wA.heap.size + 1) (by simp) 2 6
  have f2 := rNew_ok (neg := false) r3 r4 (Nm.one (x := 2) (by omega)) (Nm.one (x := 6) (by omega)) (by omega) ((Lt.word (x := 2) (by omega)).mono (by omega)) ((Lt.word (x := 6) (by omega)).mono (by omega)) (by omega) (by omega)
  have hB1 := hb0.trans (hbA.mono hb0.size)
  have hB2 := (hB1.trans (hal.mono hB1.size))
  have hB3 := hB2.trans (hb1.mono hB2.size)
  have tA2 := ta.later hb1
  have hA2 := (hA.later hal).later hb1
  clear hal ta hb1 hB2 hA hb0 hbA r3 r4 hB1
  go_wp2_with fail
  refine f2.mono ?_
  rintro e wB ⟨s6, v3, v4, rfl, hRB, hbB⟩
  obtain ⟨a6, n6, c6, b6, m6, d6, rfl, rfl, hB⟩ := hRB.opens
  have hB4 := hB3.trans (hbB.mono hB3.size)
  have tA4 := tA2.later hbB
  have hA4 := hA2.later hbB
  clear f2 hRB hbB hB3 hA2 tA2
  have hal := alloc_below (w := wB) (.cells #[.bool s6, .slice a6 n6 c6, .slice b6 m6 d6] 25)
  have tb := st_new wB (.bool s6) (.slice a6 n6 c6) (.slice b6 m6 d6) 25
  have tA5 := tA4.later hal
  have f3 := rAdd_ok (hA4.later hal) (hB.later hal) z1 z2 (by omega)
  have hB5 := hB4.trans (hal.mono hB4.size)
  obtain ⟨x0, x1, x2⟩ := tA5.cells
  obtain ⟨y0, y1, y2⟩ := tb.cells
  clear hal tA4 hA4 hB hB4
  go_wp2_with fail
  refine f3.mono ?_
  rintro e wC ⟨s7, v5, v6, rfl, hRC, hsz, hbC⟩
  have sg7 := hRC.sgn
  obtain ⟨a7, n7, c7, b7, m7, d7, rfl, rfl, hC⟩ := hRC.opens
  have rN := hC.nu
  have rD := hC.de
  rw [half_third.1] at sg7 rN
  rw [half_third.2] at rD
  rw [show ((5 : Int).natAbs : Int) = 5 from rfl, words_word (by omega) (by omega)] at rN
  rw [show ((6 : Nat) : Int) = 6 from rfl, words_word (by omega) (by omega)] at rD
  have hs7 : s7 = false := sg7
  subst hs7
  have hB6 := hB5.trans (hbC.mono hB5.size)
  clear f3 hRC hbC hB5 sg7 hC hsz tA5 tb x0 x1 x2 y0 y1 y2 z1 z2
  have hal := alloc_below (w := wC) (.cells #[.bool false, .slice a7 n7 c7, .slice b7 m7 d7] 25)
  have tc := st_new wC (.bool false) (.slice a7 n7 c7) (.slice b7 m7 d7) 25
  have hB7 := hB6.trans (hal.mono hB6.size)
  have hal2 := alloc_below (w := wC.alloc (.cells #[.bool false, .slice a7 n7 c7, .slice b7 m7 d7] 25)) (.cells #[.int .u64 5] 46)
  have r5 := rowC_one (wC.alloc (.cells #[.bool false, .slice a7 n7 c7, .slice b7 m7 d7] 25)) 5 46
  have e7 : (wC.alloc (.cells #[.bool false, .slice a7 n7 c7, .slice b7 m7 d7] 25)).heap.size = wC.heap.size + 1 := by simp
  rw [e7] at r5
  have sm := sameN ((rN.later hal).later hal2) r5 (by simp) (by simp) rfl
  have tc2 := tc.later hal2
  have rD2 := (rD.later hal).later hal2
  have hB8 := hB7.trans (hal2.mono hB7.size)
  clear hal hal2 r5 e7 tc rN rD hB7 hB6
  go_wp2_with fail
  refine sm.mono ?_
  rintro e wD ⟨rfl, hbD⟩
  have tc3 := tc2.later hbD
  obtain ⟨x0, x1, x2⟩ := tc3.cells
  have hal := alloc_below (w := wD) (.cells #[.int .u64 6] 46)
  have r6 := rowC_one wD 6 46
  have sm2 := sameN ((rD2.later hbD).later hal) r6 (by simp) (by simp) rfl
  have hB9 := hB8.trans (hbD.mono hB8.size)
  have hB10 := hB9.trans (hal.mono hB9.size)
  clear sm tc2 rD2 hbD hB8 hal r6 hB9
  go_wp2_with fail
  refine sm2.mono ?_
  rintro e wE ⟨rfl, hbE⟩
  go_wp2
  go_ret
  exact ⟨rfl, hB10.trans (hbE.mono hB10.size)⟩
section
variable {w : World} {s1 s2 s3 : Bool} {a1 b1 a2 b2 a3 b3 : Option Addr} {n1 c1 m1 d1 n2 c2 m2 d2 n3 c3 m3 d3 : Nat} {x1 y1 x2 y2 x3 y3 : List Int}
theorem st_six : St (((((((((((w.alloc (.cells #[.bool s1, .slice a1 n1 c1, .slice b1 m1 d1] 24))).alloc (.cells #[.bool s2, .slice a2 n2 c2, .slice b2 m2 d2] 24))).alloc (.cells #[.bool s3, .slice a3 n3 c3, .slice b3 m3 d3] 24))).alloc (.cells #[.bool false, .slice none 0 0, .slice none 0 0] 25))).alloc (.cells #[.bool false, .slice none 0 0, .slice none 0 0] 25))).alloc (.cells #[.bool false, .slice none 0 0, .slice none 0 0] 25)) (w.heap.size) 24 (.bool s1) (.slice a1 n1 c1) (.slice b1 m1 d1) ∧ St (((((((((((w.alloc (.cells #[.bool s1, .slice a1 n1 c1, .slice b1 m1 d1] 24))).alloc (.cells #[.bool s2, .slice a2 n2 c2, .slice b2 m2 d2] 24))).alloc (.cells #[.bool s3, .slice a3 n3 c3, .slice b3 m3 d3] 24))).alloc (.cells #[.bool false, .slice none 0 0, .slice none 0 0] 25))).alloc (.cells #[.bool false, .slice none 0 0, .slice none 0 0] 25))).alloc (.cells #[.bool false, .slice none 0 0, .slice none 0 0] 25)) (w.heap.size + 1) 24 (.bool s2) (.slice a2 n2 c2) (.slice b2 m2 d2) ∧ St (((((((((((w.alloc (.cells #[.bool s1, .slice a1 n1 c1, .slice b1 m1 d1] 24))).alloc (.cells #[.bool s2, .slice a2 n2 c2, .slice b2 m2 d2] 24))).alloc (.cells #[.bool s3, .slice a3 n3 c3, .slice b3 m3 d3] 24))).alloc (.cells #[.bool false, .slice none 0 0, .slice none 0 0] 25))).alloc (.cells #[.bool false, .slice none 0 0, .slice none 0 0] 25))).alloc (.cells #[.bool false, .slice none 0 0, .slice none 0 0] 25)) (w.heap.size + 1 + 1) 24 (.bool s3) (.slice a3 n3 c3) (.slice b3 m3 d3) ∧ St (((((((((((w.alloc (.cells #[.bool s1, .slice a1 n1 c1, .slice b1 m1 d1] 24))).alloc (.cells #[.bool s2, .slice a2 n2 c2, .slice b2 m2 d2] 24))).alloc (.cells #[.bool s3, .slice a3 n3 c3, .slice b3 m3 d3] 24))).alloc (.cells #[.bool false, .slice none 0 0, .slice none 0 0] 25))).alloc (.cells #[.bool false, .slice none 0 0, .slice none 0 0] 25))).alloc (.cells #[.bool false, .slice none 0 0, .slice none 0 0] 25)) (w.heap.size + 1 + 1 + 1) 25 (.bool false) (.slice none 0 0) (.slice none 0 0) ∧ St (((((((((((w.alloc (.cells #[.bool s1, .slice a1 n1 c1, .slice b1 m1 d1] 24))).alloc (.cells #[.bool s2, .slice a2 n2 c2, .slice b2 m2 d2] 24))).alloc (.cells #[.bool s3, .slice a3 n3 c3, .slice b3 m3 d3] 24))).alloc (.cells #[.bool false, .slice none 0 0, .slice none 0 0] 25))).alloc (.cells #[.bool false, .slice none 0 0, .slice none 0 0] 25))).alloc (.cells #[.bool false, .slice none 0 0, .slice none 0 0] 25)) (w.heap.size + 1 + 1 + 1 + 1) 25 (.bool false) (.slice none 0 0) (.slice none 0 0) ∧ St (((((((((((w.alloc (.cells #[.bool s1, .slice a1 n1 c1, .slice b1 m1 d1] 24))).alloc (.cells #[.bool s2, .slice a2 n2 c2, .slice b2 m2 d2] 24))).alloc (.cells #[.bool s3, .slice a3 n3 c3, .slice b3 m3 d3] 24))).alloc (.cells #[.bool false, .slice none 0 0, .slice none 0 0] 25))).alloc (.cells #[.bool false, .slice none 0 0, .slice none 0 0] 25))).alloc (.cells #[.bool false, .slice none 0 0, .slice none 0 0] 25)) (w.heap.size + 1 + 1 + 1 + 1 + 1) 25 (.bool false) (.slice none 0 0) (.slice none 0 0) ∧ Below w.heap.size w (((((((((((w.alloc (.cells #[.bool s1, .slice a1 n1 c1, .slice b1 m1 d1] 24))).alloc (.cells #[.bool s2, .slice a2 n2 c2, .slice b2 m2 d2] 24))).alloc (.cells #[.bool s3, .slice a3 n3 c3, .slice b3 m3 d3] 24))).alloc (.cells #[.bool false, .slice none 0 0, .slice none 0 0] 25))).alloc (.cells #[.bool false, .slice none 0 0, .slice none 0 0] 25))).alloc (.cells #[.bool false, .slice none 0 0, .slice none 0 0] 25)) ∧ (((((((((((w.alloc (.cells #[.bool s1, .slice a1 n1 c1, .slice b1 m1 d1] 24))).alloc (.cells #[.bool s2, .slice a2 n2 c2, .slice b2 m2 d2] 24))).alloc (.cells #[.bool s3, .slice a3 n3 c3, .slice b3 m3 d3] 24))).alloc (.cells #[.bool false, .slice none 0 0, .slice none 0 0] 25))).alloc (.cells #[.bool false, .slice none 0 0, .slice none 0 0] 25))).alloc (.cells #[.bool false, .slice none 0 0, .slice none 0 0] 25)).heap.size = w.heap.size + 6 := by
  have e3 : (((((w.alloc (.cells #[.bool s1, .slice a1 n1 c1, .slice b1 m1 d1] 24))).alloc (.cells #[.bool s2, .slice a2 n2 c2, .slice b2 m2 d2] 24))).alloc (.cells #[.bool s3, .slice a3 n3 c3, .slice b3 m3 d3] 24)).heap.size = w.heap.size + 1 + 1 + 1 := by simp
  obtain ⟨p1, p2, p3, hb⟩ := st_three w (.bool s1) (.slice a1 n1 c1) (.slice b1 m1 d1) (.bool s2) (.slice a2 n2 c2) (.slice b2 m2 d2) (.bool s3) (.slice a3 n3 c3) (.slice b3 m3 d3) 24 24 24
  generalize (((((w.alloc (.cells #[.bool s1, .slice a1 n1 c1, .slice b1 m1 d1] 24))).alloc (.cells #[.bool s2, .slice a2 n2 c2, .slice b2 m2 d2] 24))).alloc (.cells #[.bool s3, .slice a3 n3 c3, .slice b3 m3 d3] 24)) = w3 at *
  obtain ⟨q1, q2, q3, hb2⟩ := st_three w3 (.bool false) (.slice none 0 0) (.slice none 0 0) (.bool false) (.slice none 0 0) (.slice none 0 0) (.bool false) (.slice none 0 0) (.slice none 0 0) 25 25 25
  rw [e3] at q1 q2 q3
  exact ⟨p1.later hb2, p2.later hb2, p3.later hb2, q1, q2, q3, hb.trans (hb2.mono hb.size), by simp [e3]⟩
/-- what three answers -/
def ThreeP (p q r : Rat) (w : World) (e : Ending) (w' : World) : Prop := ∃ s a n c b m d s' a' n' c' b' m' d' s2 a2 n2 c2 b2 m2 d2, e = .returned (.tuple #[.agg #[.bool s, .slice a n c, .slice b m d], .agg #[.bool s', .slice a' n' c', .slice b' m' d'], .agg #[.bool s2, .slice a2 n2 c2, .slice b2 m2 d2], .bool true]) ∧ Rt w' s a n c b m d p ∧ Rt w' s' a' n' c' b' m' d' q ∧ Rt w' s2 a2 n2 c2 b2 m2 d2 r ∧ Below w.heap.size w w'
theorem made_at {w0 w1 : World} (h : Below w0.heap.size w0 w1) (ha1 : RowAt .u64 w0 a1 n1 x1) (hb1 : RowAt .u64 w0 b1 m1 y1) (hx1 : Ws x1) (hy1 : Ws y1) (hn1 : n1 ≤ maxLen) (hm1 : m1 ≤ maxLen) :
    Calls Tryz.prog 6 #[.agg #[.bool s1, .slice a1 n1 c1, .slice b1 m1 d1]] w1 fun e w' => ∃ s a n c b m d, e = .returned (.tuple #[.agg #[.bool s, .slice a n c, .slice b m d], .bool true]) ∧ RtO w' w1.heap.size s (.slice a n c) (.slice b m d) (mkR s1 (pNum x1) (pDen y1)) ∧ Below w0.heap.size w0 w' ∧ Below w1.heap.size w1 w' := by
  refine (made_any (s1 := s1) (c1 := c1) (d1 := d1) (ha1.later h) (hb1.later h) hx1 hy1 hn1 hm1).mono ?_
  rintro e w' ⟨s, v1, v2, rfl, hR, _, hb⟩
  obtain ⟨a9, n9, c9, b9, m9, d9, rfl, rfl, _⟩ := hR.opens
  exact ⟨_, _, _, _, _, _, _, rfl, hR, h.trans (hb.mono h.size), hb⟩
end
end Go.Proofs.YtopcdpeepchgfacGreatDoor
