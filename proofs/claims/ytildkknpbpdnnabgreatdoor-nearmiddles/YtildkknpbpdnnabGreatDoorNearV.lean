/- plumblaw07: whole, cmp, twice, size. -/
import Derived.Test.YtildkknpbpdnnabGreatDoorNearG
import Derived.Test.YtildkknpbpdnnabGreatDoorRatE
import Derived.Test.YtildkknpbpdnnabGreatDoorRatD
namespace Go.Proofs.YtildkknpbpdnnabGreatDoor
open Go.ChangeShapes Go.WideShapes Go.ChangeAt Go.RowKit
open Na Ar
set_option linter.unusedVariables false
section
variable {w : World} {s1 s2 s3 : Bool} {a1 a2 a3 b1 b2 b3 : Option Addr} {n1 n2 n3 c1 c2 c3 m1 m2 m3 d1 d2 d3 : Nat} {p q r : Rat} {k l j : Nat}
set_option maxHeartbeats 6400000 in
set_option maxRecDepth 100000 in
theorem whole7_any {neg : Bool} {m : Int} (hm : U m) (t : Nat) (ht : t ≤ 1100) (w : World) :
    Calls Tryz.prog 30 #[.bool neg, .int .u64 m, .int .i64 (t : Int)] w fun e w' => ∃ s v1 v2, e = .returned (.agg #[.bool s, v1, v2]) ∧ RtO w' w.heap.size s v1 v2 (mkR neg (m * 2 ^ t) 1) ∧ Sz (mkR neg (m * 2 ^ t) 1) 20 ∧ Below w.heap.size w w' := by
  have t0 := st_new w (.bool false) (.slice none 0 0) (.slice none 0 0) 25
  have hb0 := alloc_below (w := w) (.cells #[.bool false, .slice none 0 0, .slice none 0 0] 25)
  have lM : Lt (m * 2 ^ t) 20 := ((Lt.word (x := m) hm).pow2 (t := t)).mono (by omega)
  have l1 : Lt (1 : Int) 20 := (Lt.word (x := 1) (by omega)).mono (by omega)
  have hsz := Sz.mkR (s := neg) lM l1 (by omega)
  obtain ⟨w0, hw0⟩ : ∃ w0, w0 = w.alloc (.cells #[.bool false, .slice none 0 0, .slice none 0 0] 25) := ⟨_, rfl⟩
  rw [← hw0] at t0 hb0
  have e0 : w.heap.size + 1 ≤ w0.heap.size := by rw [hw0]; simp
  obtain ⟨g, hg⟩ : ∃ g, g = w.heap.size := ⟨_, rfl⟩
  have HG : Hid (w.heap.size = g) := hg.symm
  have HB0 : Below w.heap.size w w0 := hb0
  rw [← hg] at t0 e0
  have hal := alloc_below (w := w0) (.cells #[.int .u64 m] 22)
  have one := rowC_one w0 m 22
  have e0q : w0.heap.size = g + 1 := by rw [hw0, hg]; simp
  rw [e0q] at one
  clear e0q
  have hS := shlQ one (Nm.one hm) t (by omega) lM (by omega)
  generalize m * 2 ^ t = MT at *
  clear one
  go_enter Tryz.func30, Tryz.ntmps30
  go_wp2_with fail
  rw [← hw0, ← hg]
  refine hS.mono ?_
  rintro e w1 ⟨xa, xn, xc, xl, rfl, rx, nmx, EX, hb1⟩
  have hxn := lM.len
  rw [← EX.out, rx.1.1] at hxn
  have b01 := hal.trans (hb1.mono hal.size)
  have t1 := t0.later b01
  have HB1 := HB0.trans (b01.mono HB0.size)
  have s1' := b01.size
  have hal1 := alloc_below (w := w1) (.cells #[.int .u64 1] 22)
  have one1 := rowC_one w1 1 22
  have hN := rNew_ok (neg := neg) (rx.later hal1) one1 nmx (Nm.one (by omega)) (by omega) (lM.mono (by omega)) (l1.mono (by omega)) (by omega) (by omega)
  have t2 := t1.later hal1
  have HB2 := HB1.trans (hal1.mono HB1.size)
  have s2' := hal1.size
  clear hS hal hb1 b01 t0 t1 HB0 HB1 hw0 hg one1 rx nmx EX hal1
  go_wp2_with fail
  generalize w1.alloc (.cells #[.int .u64 1] 22) = w2 at *
  refine hN.mono ?_
  rintro e w3 ⟨s9, v1, v2, rfl, hR, hb3⟩
  obtain ⟨a9, n9, c9, b9, m9, d9, rfl, rfl, _⟩ := hR.opens
  have t3 := t2.later hb3
  have HB3 := HB2.trans (hb3.mono HB2.size)
  have s3' := hb3.size
  have hR4 := hR.lower (base' := g + 1) (by omega)
  have lt3 := t3.lt
  obtain ⟨x0, x1, x2⟩ := t3.cells
  obtain ⟨z0, z1, z2⟩ := t3.frozen
  have ng1 : ¬ g = w3.heap.size := by omega
  have ng2 : ¬ w3.heap.size = g := by omega
  clear hN t2 HB2 hb3 hR
  go_wp2
  have i9 := in3 w3 g (.bool s9) (.slice a9 n9 c9) (.slice b9 m9 d9)
  have ab := alloc_below (w := ((w3.setCell ⟨g, 0, none⟩ (.bool s9)).setCell ⟨g, 1, none⟩ (.slice a9 n9 c9)).setCell ⟨g, 2, none⟩ (.slice b9 m9 d9)) (.cells #[.bool s9, .slice a9 n9 c9, .slice b9 m9 d9] 25)
  have T9 := (t3.set (.bool s9) (.slice a9 n9 c9) (.slice b9 m9 d9)).later ab
  have R9 := ((hR4.inn i9 (by omega)).later ab).lower (base' := w.heap.size) (by rw [HG.out]; omega)
  have B8 := below_in HB3 i9 (by rw [HG.out]; omega) (Nat.le_refl _)
  have B9 := B8.trans (ab.mono B8.size)
  obtain ⟨j0, j1, j2⟩ := T9.cells
  refine bodyPost_ret (v := .agg #[.bool s9, .slice a9 n9 c9, .slice b9 m9 d9]) (by simp [results, Tryz.results30, go_sem, j0, j1, j2]) rfl ?_
  exact ⟨_, _, _, rfl, R9, hsz, B9⟩
theorem st_two7 (w : World) (x y z x' y' z' : Value) (t t' : TypeId) : St ((w.alloc (.cells #[x, y, z] t)).alloc (.cells #[x', y', z'] t')) w.heap.size t x y z ∧ St ((w.alloc (.cells #[x, y, z] t)).alloc (.cells #[x', y', z'] t')) (w.heap.size + 1) t' x' y' z' ∧ Below w.heap.size w ((w.alloc (.cells #[x, y, z] t)).alloc (.cells #[x', y', z'] t')) := by
  have b1 := alloc_below (w := w) (.cells #[x, y, z] t)
  have b2 := alloc_below (w := w.alloc (.cells #[x, y, z] t)) (.cells #[x', y', z'] t')
  have s1 := (st_new w x y z t).later b2
  have s2 := st_new (w.alloc (.cells #[x, y, z] t)) x' y' z' t'
  have e1 : (w.alloc (.cells #[x, y, z] t)).heap.size = w.heap.size + 1 := by simp
  rw [e1] at s2
  exact ⟨s1, s2, b1.trans (b2.mono b1.size)⟩
set_option maxHeartbeats 3200000 in
set_option maxRecDepth 100000 in
theorem cmp7_any {K : Int} (h1 : Rt w s1 a1 n1 c1 b1 m1 d1 p) (h2 : Rt w s2 a2 n2 c2 b2 m2 d2 q) (z1 : Sz p k) (z2 : Sz q l) (hk : k + l ≤ 4096) (hK : ordR p q = K) :
    Calls Tryz.prog 11 #[.agg #[.bool s1, .slice a1 n1 c1, .slice b1 m1 d1], .agg #[.bool s2, .slice a2 n2 c2, .slice b2 m2 d2]] w fun e w' => e = .returned (.int .i64 K) ∧ Below w.heap.size w w' := by
  obtain ⟨t1, t2, hb0⟩ := st_two7 w (.bool s1) (.slice a1 n1 c1) (.slice b1 m1 d1) (.bool s2) (.slice a2 n2 c2) (.slice b2 m2 d2) 25 25
  have hC := rCmp_ok (h1.later hb0) (h2.later hb0) z1 z2 hk hK
  obtain ⟨x0, x1, x2⟩ := t1.cells
  obtain ⟨y0, y1, y2⟩ := t2.cells
  clear h1 h2 t1 t2
  go_enter Tryz.func11, Tryz.ntmps11
  go_wp2_with fail
  refine hC.mono ?_
  rintro e w1 ⟨rfl, hb1⟩
  have hb := hb0.trans (hb1.mono hb0.size)
  clear hC x0 x1 x2 y0 y1 y2
  go_wp2_with fail
  refine (num7_same 0 w1).mono ?_
  rintro e w2 ⟨rfl, rfl⟩
  go_wp2
  go_ret
  exact ⟨rfl, hb⟩
set_option maxHeartbeats 3200000 in
set_option maxRecDepth 100000 in
theorem twice7_any {K : Int} (h1 : Rt w s1 a1 n1 c1 b1 m1 d1 p) (h2 : Rt w s2 a2 n2 c2 b2 m2 d2 q) (h3 : Rt w s3 a3 n3 c3 b3 m3 d3 r) (z1 : Sz p k) (z2 : Sz q l) (z3 : Sz r j) (hk : k + l + 1 ≤ 1000) (hj : j ≤ 1000) (hK : ordR (r + r) (p + q) = K) :
    Calls Tryz.prog 17 #[.agg #[.bool s1, .slice a1 n1 c1, .slice b1 m1 d1], .agg #[.bool s2, .slice a2 n2 c2, .slice b2 m2 d2], .agg #[.bool s3, .slice a3 n3 c3, .slice b3 m3 d3]] w fun e w' => e = .returned (.int .i64 K) ∧ Below w.heap.size w w' := by
  obtain ⟨t1, t2, t3, hb0⟩ := st_three7 w (.bool s1) (.slice a1 n1 c1) (.slice b1 m1 d1) (.bool s2) (.slice a2 n2 c2) (.slice b2 m2 d2) (.bool s3) (.slice a3 n3 c3) (.slice b3 m3 d3) 25 25 25
  obtain ⟨w0, hw0⟩ : ∃ w0, w0 = ((w.alloc (.cells #[.bool s1, .slice a1 n1 c1, .slice b1 m1 d1] 25)).alloc (.cells #[.bool s2, .slice a2 n2 c2, .slice b2 m2 d2] 25)).alloc (.cells #[.bool s3, .slice a3 n3 c3, .slice b3 m3 d3] 25) := ⟨_, rfl⟩
  rw [← hw0] at t1 t2 t3 hb0
  have hA := rAdd_ok (h1.later hb0) (h2.later hb0) z1 z2 (by omega)
  have h30 := h3.later hb0
  obtain ⟨x0, x1, x2⟩ := t1.cells
  obtain ⟨y0, y1, y2⟩ := t2.cells
  clear h1 h2 h3 t1 t2
  obtain ⟨g, hg⟩ : ∃ g, g = w.heap.size := ⟨_, rfl⟩
  rw [← hg] at t3 x0 x1 x2 y0 y1 y2
  have t3' : St w0 (g + 1 + 1) 25 (.bool s3) (.slice a3 n3 c3) (.slice b3 m3 d3) := t3
  clear t3
  generalize p + q = pq at *
  go_enter Tryz.func17, Tryz.ntmps17
  go_wp2_with fail
  rw [← hw0]
  refine hA.mono ?_
  rintro e w1 ⟨s8, v1, v2, rfl, hR1, zq, hb1⟩
  obtain ⟨a8, n8, c8, b8, m8, d8, rfl, rfl, hr1⟩ := hR1.opens
  have hal1 := alloc_below (w := w1) (.cells #[.bool s8, .slice a8 n8 c8, .slice b8 m8 d8] 25)
  have T1 := st_new w1 (.bool s8) (.slice a8 n8 c8) (.slice b8 m8 d8) 25
  have b1 := hb1.trans (hal1.mono hb1.size)
  have h31 := h30.later b1
  have t31 := t3'.later b1
  have r11 := hr1.later hal1
  have HB1 := hb0.trans (b1.mono hb0.size)
  have hA2 := rAdd_ok h31 h31 z3 z3 (by omega)
  rw [← hg]
  clear hA x0 x1 x2 y0 y1 y2 hw0 hR1 hr1 h30 t3' hb0 hb1 hal1 b1 hg
  obtain ⟨o1, ho1⟩ : ∃ o1, o1 = w1.heap.size := ⟨_, rfl⟩
  rw [← ho1] at T1
  generalize hw2 : w1.alloc (.cells #[.bool s8, .slice a8 n8 c8, .slice b8 m8 d8] 25) = w2 at *
  obtain ⟨y0, y1, y2⟩ := t31.cells
  have ho1' : w1.heap.size = o1 := ho1.symm
  clear ho1
  generalize r + r = rr at *
  go_wp2_with fail
  clear hw2 ho1'
  refine hA2.mono ?_
  rintro e w3 ⟨s9, v1, v2, rfl, hR2, zr, hb3⟩
  obtain ⟨a9, n9, c9, b9, m9, d9, rfl, rfl, hr2⟩ := hR2.opens
  have hal3 := alloc_below (w := w3) (.cells #[.bool s9, .slice a9 n9 c9, .slice b9 m9 d9] 25)
  have T2 := st_new w3 (.bool s9) (.slice a9 n9 c9) (.slice b9 m9 d9) 25
  have b3' := hb3.trans (hal3.mono hb3.size)
  have T1' := T1.later b3'
  have r12 := r11.later b3'
  have r22 := hr2.later hal3
  have HB3 := HB1.trans (b3'.mono HB1.size)
  obtain ⟨o2, ho2⟩ : ∃ o2, o2 = w3.heap.size := ⟨_, rfl⟩
  rw [← ho2] at T2
  clear hA2 T1 r11 hr2 hR2 hb3 hal3 b3' y0 y1 y2 t31 h31 HB1
  generalize hw4 : w3.alloc (.cells #[.bool s9, .slice a9 n9 c9, .slice b9 m9 d9] 25) = w4 at *
  obtain ⟨x0, x1, x2⟩ := T1'.cells
  obtain ⟨y0, y1, y2⟩ := T2.cells
  have ho2' : w3.heap.size = o2 := ho2.symm
  clear ho2
  have hC := cmp7_any r22 r12 zr zq (by omega) hK
  go_wp2_with fail
  refine (num7_same 0 w4).mono ?_
  rintro e w5 ⟨rfl, rfl⟩
  clear hw4 ho2'
  go_wp2_with fail
  refine (num7_same 0 w4).mono ?_
  rintro e w5 ⟨rfl, rfl⟩
  go_wp2_with fail
  refine hC.mono ?_
  rintro e w5 ⟨rfl, hb5⟩
  have hb9 := HB3.trans (hb5.mono HB3.size)
  clear hC x0 x1 x2 y0 y1 y2 T1' T2
  go_wp2
  go_ret
  exact ⟨rfl, hb9⟩
end
end Go.Proofs.YtildkknpbpdnnabGreatDoor
