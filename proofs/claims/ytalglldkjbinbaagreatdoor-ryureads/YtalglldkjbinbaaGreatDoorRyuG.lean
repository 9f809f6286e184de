/- plumblaw12: decimal: digits and an exponent as a Rat. -/
import Derived.Test.YtalglldkjbinbaaGreatDoorRyuF
import Derived.Test.YtalglldkjbinbaaGreatDoorRatF
import Derived.Test.YtalglldkjbinbaaGreatDoorNearRat
namespace Go.Proofs.YtalglldkjbinbaaGreatDoor
open Go.ChangeShapes Go.WideShapes Go.ChangeAt Go.RowKit
open Na Ar Ry
set_option linter.unusedVariables false
/-- digits and an exponent, as a number -/
def decR (d e : Int) : Rat := mkR false (exN d e) (exD e)
theorem dec_size {d e : Int} (hd : U d) (he0 : -370 ≤ e) (he1 : e ≤ 370) : Lt (exN d e) 21 ∧ Lt (exD e) 21 ∧ Sz (decR d e) 21 := by
  have h1 : Lt (exN d e) 21 := by
    unfold exN
    split
    · have := (Lt.word (x := d) hd).mul (ten_lt8 (n := e.toNat) (by omega))
      exact this.mono (by omega)
    · exact (Lt.word (x := d) hd).mono (by omega)
  have h2 : Lt (exD e) 21 := by
    unfold exD
    split
    · exact (Lt.word (x := 1) (by omega)).mono (by omega)
    · exact (ten_lt8 (n := (-e).toNat) (by omega)).mono (by omega)
  exact ⟨h1, h2, Sz.mkR h1 h2 (exD_pos e)⟩
theorem ten12_any {k : Nat} {K : Int} (hK : K = k) (h : k ≤ 370) (w : World) :
    Calls Tryz.prog 24 #[.int .i64 K] w fun e w' => ∃ a l c ls, e = .returned (.tuple #[.slice a l c, .int .i64 0]) ∧ RowC w' a l c ls ∧ Nm ls (10 ^ k) ∧ l ≤ 100 ∧ Below w.heap.size w w' := by
  subst hK
  have f := ten_any (k : Int) (by omega) (by omega) w
  have E1 : pwE 78913 (k : Int) = 0 := by unfold pwE; rw [if_neg (by omega), if_neg (by omega)]
  have E2 : pwL 10 78913 (k : Int) = words (10 ^ k) := by unfold pwL; rw [if_neg (by omega), if_neg (by omega), Int.toNat_natCast]
  rw [E1, E2] at f
  refine f.mono ?_
  rintro e w' ⟨v, rfl, ho, hb⟩
  obtain ⟨a, l, c, ls, rfl, hr, hn, hq⟩ := ho.opens (ten_lt8 h) (by omega)
  have e1 := hr.1.1
  have e2 : ls = words (10 ^ k) := hq.out
  have e3 := (ten_lt8 h).len
  rw [← e2] at e3
  exact ⟨a, l, c, ls, rfl, hr, hn, by omega, hb⟩
theorem from12_any {v : Int} (hv : U v) (w : World) :
    Calls Tryz.prog 26 #[.int .u64 v] w fun e w' => ∃ a l c ls, e = .returned (.slice a l c) ∧ RowC w' a l c ls ∧ Nm ls v ∧ l ≤ 100 ∧ Below w.heap.size w w' := by
  refine (natFrom_any hv w).mono ?_
  rintro e w' ⟨r, rfl, ho, hb⟩
  obtain ⟨a, l, c, ls, rfl, hr, hn, hq⟩ := ho.opens (Lt.word hv) (by omega)
  have e1 := hr.1.1
  have e2 : ls = words v := hq.out
  have e3 := (Lt.word hv).len
  rw [← e2] at e3
  exact ⟨a, l, c, ls, rfl, hr, hn, by omega, hb⟩
set_option maxHeartbeats 3200000 in
set_option maxRecDepth 100000 in
theorem dec12_neg {d e : Int} (hd : U d) (he0 : -370 ≤ e) (he1 : e < 0) (w : World) :
    Calls Tryz.prog 7 #[.int .u64 d, .int .i64 e] w fun r w' => ∃ s v1 v2, r = .returned (.tuple #[.agg #[.bool s, v1, v2], .bool true]) ∧ RtO w' w.heap.size s v1 v2 (decR d e) ∧ Below w.heap.size w w' := by
  have sz := dec_size hd he0 (by omega)
  obtain ⟨l1, l2, -⟩ := sz
  have n1 : decide (e < 0) = true := by simp; omega
  have hT := fun w => ten12_any (k := (-e).toNat) (K := -e) (by omega) (by omega) w
  have hFr := fun w => from12_any (v := d) hd w
  have ex : exN d e = d ∧ exD e = 10 ^ (-e).toNat := by
    unfold exN exD; rw [if_neg (by omega), if_neg (by omega)]; exact ⟨rfl, rfl⟩
  have pD := exD_pos e
  unfold decR
  rw [ex.1] at l1 ⊢
  rw [← ex.2] at hT
  clear ex
  generalize exD e = D at *
  have t0 := st_new w (.bool false) (.slice none 0 0) (.slice none 0 0) 26
  have hb0 := alloc_below (w := w) (.cells #[.bool false, .slice none 0 0, .slice none 0 0] 26)
  have H0 : Hid (St (w.alloc (.cells #[.bool false, .slice none 0 0, .slice none 0 0] 26)) w.heap.size 26 (.bool false) (.slice none 0 0) (.slice none 0 0)) := t0
  have HB : Hid (Below w.heap.size w (w.alloc (.cells #[.bool false, .slice none 0 0, .slice none 0 0] 26))) := hb0
  clear t0 hb0
  go_enter Tryz.func7, Tryz.ntmps7
  go_wp2_with fail
  refine (hT _).mono ?_
  rintro r w1 ⟨a1, n1', c1, ls, rfl, r1, m1, q1, hb1⟩
  have t1 : Hid (St w1 w.heap.size 26 (.bool false) (.slice none 0 0) (.slice none 0 0)) := H0.out.later hb1
  have B1 := HB.out.trans (hb1.mono HB.out.size)
  clear hT H0 HB
  go_wp2_with fail
  refine (num12_same 0 _).mono ?_
  rintro r wz ⟨rfl, hwz⟩
  rw [hwz]
  clear hwz
  go_wp2_with fail
  refine (hFr _).mono ?_
  rintro r w2 ⟨a2, n2, c2, l2', rfl, rr2, m2, q2, hb2⟩
  have B2 := B1.trans (hb2.mono B1.size)
  have r1' := r1.later hb2
  have t2 : Hid (St w2 w.heap.size 26 (.bool false) (.slice none 0 0) (.slice none 0 0)) := t1.out.later hb2
  have hN := rNew_ok (neg := false) rr2 r1' m2 m1 pD (l1.mono (by omega)) (l2.mono (by omega)) (by omega) (by omega)
  clear hFr hb1 hb2 B1 t1
  go_wp2_with fail
  refine hN.mono ?_
  rintro r w3 ⟨s3, v1, v2, rfl, R3, hb3⟩
  obtain ⟨a3, n3, c3, b3, m3, d3, rfl, rfl, -⟩ := R3.opens
  have B3 := B2.trans (hb3.mono B2.size)
  have hlt3 : w2.heap.size ≤ w3.heap.size := hb3.size
  have t3 := (t2.out.later hb3).later (alloc_below (w := w3) (.cells #[.bool s3, .slice a3 n3 c3, .slice b3 m3 d3] 26))
  have hlt2 := t2.out.lt
  have R4 := R3.later (alloc_below (w := w3) (.cells #[.bool s3, .slice a3 n3 c3, .slice b3 m3 d3] 26))
  have u3 := st_new w3 (.bool s3) (.slice a3 n3 c3) (.slice b3 m3 d3) 26
  have B4 : Below w.heap.size w (w3.alloc (.cells #[.bool s3, .slice a3 n3 c3, .slice b3 m3 d3] 26)) := B3.alloc B3.size _
  obtain ⟨w4, hw4⟩ : ∃ w4, w4 = w3.alloc (.cells #[.bool s3, .slice a3 n3 c3, .slice b3 m3 d3] 26) := ⟨_, rfl⟩
  obtain ⟨g1, hg1⟩ : ∃ g1, g1 = w3.heap.size := ⟨_, rfl⟩
  obtain ⟨g0, hg0⟩ : ∃ g0, g0 = w.heap.size := ⟨_, rfl⟩
  rw [← hw4] at R4 B4
  rw [← hw4, ← hg0] at t3
  rw [← hw4, ← hg1] at u3
  have ng : ¬ g0 = g1 := by omega
  have ng' : ¬ g1 = g0 := by omega
  have hle : g0 < w2.heap.size := by omega
  clear hN hb3 R3 t2 B2 B3 r1 r1' rr2 m1 m2 l1 l2 q1 q2
  go_wp2_with fail
  rw [← hw4, ← hg1, ← hg0]
  have HG0 : Hid (g0 = w.heap.size) := hg0
  clear hw4 hg1 hg0
  obtain ⟨x0, x1, x2⟩ := u3.cells
  obtain ⟨y0, y1, y2⟩ := t3.cells
  obtain ⟨f0, f1, f2⟩ := t3.frozen
  go_region_held3 (fun w' => w'.cell? ⟨g1, 0, none⟩ = some (.bool s3) ∧ w'.cell? ⟨g1, 1, none⟩ = some (.slice a3 n3 c3) ∧ w'.cell? ⟨g1, 2, none⟩ = some (.slice b3 m3 d3)) (go_keep) (first | (go_at_call 9; refine (num12_same 0 _).mono ?_; rintro e wR ⟨rfl, hwR⟩; rw [hwR]))
  go_wp2
  have st9 := (t3.set (.bool s3) (.slice a3 n3 c3) (.slice b3 m3 d3)).cells
  refine bodyPost_ret (v := .tuple #[.agg #[.bool s3, .slice a3 n3 c3, .slice b3 m3 d3], .bool true]) (by simp [results, Tryz.results7, go_sem, st9]) rfl ?_
  have hg0 := HG0.out
  refine ⟨_, _, _, rfl, ?_, ?_⟩
  · exact ((R4.inn (in3 _ _ _ _ _) hle).lower (by omega)).later (below_drewN (Below.refl _ _) 1)
  · exact below_drewN (below_in B4 (in3 _ _ _ _ _) (by omega) (Nat.le_refl _)) 1
set_option maxHeartbeats 3200000 in
set_option maxRecDepth 100000 in
theorem dec12_pos {d e : Int} (hd : U d) (he0 : 0 ≤ e) (he1 : e ≤ 370) (w : World) :
    Calls Tryz.prog 7 #[.int .u64 d, .int .i64 e] w fun r w' => ∃ s v1 v2, r = .returned (.tuple #[.agg #[.bool s, v1, v2], .bool true]) ∧ RtO w' w.heap.size s v1 v2 (decR d e) ∧ Below w.heap.size w w' := by
  have sz := dec_size hd (by omega) he1
  obtain ⟨l1, -, -⟩ := sz
  have n1 : decide (e < 0) = false := by simp; omega
  have hT := fun w => ten12_any (k := e.toNat) (K := e) (by omega) (by omega) w
  have hFr := fun w => from12_any (v := d) hd w
  have lT := (ten_lt8 (n := e.toNat) (by omega))
  have ex : exN d e = d * 10 ^ e.toNat ∧ exD e = 1 := by
    unfold exN exD; rw [if_pos (by omega), if_pos (by omega)]; exact ⟨rfl, rfl⟩
  unfold decR
  rw [ex.1, ex.2]
  rw [ex.1] at l1
  clear ex
  generalize (10 : Int) ^ e.toNat = D at *
  have t0 := st_new w (.bool false) (.slice none 0 0) (.slice none 0 0) 26
  have hb0 := alloc_below (w := w) (.cells #[.bool false, .slice none 0 0, .slice none 0 0] 26)
  have H0 : Hid (St (w.alloc (.cells #[.bool false, .slice none 0 0, .slice none 0 0] 26)) w.heap.size 26 (.bool false) (.slice none 0 0) (.slice none 0 0)) := t0
  have HB : Hid (Below w.heap.size w (w.alloc (.cells #[.bool false, .slice none 0 0, .slice none 0 0] 26))) := hb0
  clear t0 hb0
  go_enter Tryz.func7, Tryz.ntmps7
  go_wp2_with fail
  refine (hT _).mono ?_
  rintro r w1 ⟨a1, n1', c1, ls, rfl, r1, m1, q1, hb1⟩
  have t1 : Hid (St w1 w.heap.size 26 (.bool false) (.slice none 0 0) (.slice none 0 0)) := H0.out.later hb1
  have B1 := HB.out.trans (hb1.mono HB.out.size)
  clear hT H0 HB
  go_wp2_with fail
  refine (num12_same 0 _).mono ?_
  rintro r wz ⟨rfl, hwz⟩
  rw [hwz]
  clear hwz
  go_wp2_with fail
  refine (hFr _).mono ?_
  rintro r w2 ⟨a2, n2, c2, l2', rfl, rr2, m2, q2, hb2⟩
  have B2 := B1.trans (hb2.mono B1.size)
  have r1' := r1.later hb2
  have t2 : Hid (St w2 w.heap.size 26 (.bool false) (.slice none 0 0) (.slice none 0 0)) := t1.out.later hb2
  have hM := mulQ rr2 r1' m2 m1 l1 (by omega)
  clear hFr hb1 hb2 B1 t1 r1
  go_wp2_with fail
  refine hM.mono ?_
  rintro r w3 ⟨a4, n4, c4, l4, rfl, r4, m4, h4, hb3⟩
  have e4 := r4.1.1
  have e5 := l1.len
  rw [← show l4 = words (d * D) from h4.out] at e5
  have B3 := B2.trans (hb3.mono B2.size)
  have t3 : Hid (St w3 w.heap.size 26 (.bool false) (.slice none 0 0) (.slice none 0 0)) := t2.out.later hb3
  clear hM hb3 B2 t2 rr2 r1' m1 m2 h4
  go_wp2_with fail
  have r5 := rowC_one w3 1 22
  have b5 := alloc_below (w := w3) (.cells #[.int .u64 1] 22)
  have nm1 : Nm [1] 1 := ⟨Dg.one ⟨by omega, by omega⟩, by simp [num, val], by simp⟩
  have hN := rNew_ok (neg := false) (r4.later b5) r5 m4 nm1 (by omega) (l1.mono (by omega)) ((Lt.word (x := 1) (by omega)).mono (by omega)) (by omega) (by omega)
  have t5 : Hid (St (w3.alloc (.cells #[.int .u64 1] 22)) w.heap.size 26 (.bool false) (.slice none 0 0) (.slice none 0 0)) := t3.out.later b5
  have B5 := B3.trans (b5.mono B3.size)
  have hlt5 := t5.out.lt
  clear r4 r5 t3 B3 b5 m4 nm1
  refine hN.mono ?_
  rintro r w6 ⟨s3, v1, v2, rfl, R3, hb3⟩
  generalize w3.alloc (.cells #[.int .u64 1] 22) = w5 at *
  obtain ⟨a3, n3, c3, b3, m3, d3, rfl, rfl, -⟩ := R3.opens
  have B6 := B5.trans (hb3.mono B5.size)
  have hlt3 : w5.heap.size ≤ w6.heap.size := hb3.size
  have t6 := (t5.out.later hb3).later (alloc_below (w := w6) (.cells #[.bool s3, .slice a3 n3 c3, .slice b3 m3 d3] 26))
  have R4 := R3.later (alloc_below (w := w6) (.cells #[.bool s3, .slice a3 n3 c3, .slice b3 m3 d3] 26))
  have u3 := st_new w6 (.bool s3) (.slice a3 n3 c3) (.slice b3 m3 d3) 26
  have B4 : Below w.heap.size w (w6.alloc (.cells #[.bool s3, .slice a3 n3 c3, .slice b3 m3 d3] 26)) := B6.alloc B6.size _
  obtain ⟨w4, hw4⟩ : ∃ w4, w4 = w6.alloc (.cells #[.bool s3, .slice a3 n3 c3, .slice b3 m3 d3] 26) := ⟨_, rfl⟩
  obtain ⟨g1, hg1⟩ : ∃ g1, g1 = w6.heap.size := ⟨_, rfl⟩
  obtain ⟨g0, hg0⟩ : ∃ g0, g0 = w.heap.size := ⟨_, rfl⟩
  rw [← hw4] at R4 B4
  rw [← hw4, ← hg0] at t6
  rw [← hw4, ← hg1] at u3
  have ng : ¬ g0 = g1 := by omega
  have ng' : ¬ g1 = g0 := by omega
  have hle : g0 < w5.heap.size := by omega
  clear hN hb3 R3 t5 B5 B6 l1 lT q1 q2 e4 e5
  go_wp2_with fail
  rw [← hw4, ← hg1, ← hg0]
  have HG0 : Hid (g0 = w.heap.size) := hg0
  clear hw4 hg1 hg0
  obtain ⟨x0, x1, x2⟩ := u3.cells
  obtain ⟨y0, y1, y2⟩ := t6.cells
  obtain ⟨f0, f1, f2⟩ := t6.frozen
  go_region_held3 (fun w' => w'.cell? ⟨g1, 0, none⟩ = some (.bool s3) ∧ w'.cell? ⟨g1, 1, none⟩ = some (.slice a3 n3 c3) ∧ w'.cell? ⟨g1, 2, none⟩ = some (.slice b3 m3 d3)) (go_keep) (first | (go_at_call 9; refine (num12_same 0 _).mono ?_; rintro e wR ⟨rfl, hwR⟩; rw [hwR]))
  go_wp2
  have st9 := (t6.set (.bool s3) (.slice a3 n3 c3) (.slice b3 m3 d3)).cells
  refine bodyPost_ret (v := .tuple #[.agg #[.bool s3, .slice a3 n3 c3, .slice b3 m3 d3], .bool true]) (by simp [results, Tryz.results7, go_sem, st9]) rfl ?_
  have hg0 := HG0.out
  refine ⟨_, _, _, rfl, ?_, ?_⟩
  · exact ((R4.inn (in3 _ _ _ _ _) hle).lower (by omega)).later (below_drewN (Below.refl _ _) 1)
  · exact below_drewN (below_in B4 (in3 _ _ _ _ _) (by omega) (Nat.le_refl _)) 1
theorem dec12_any {d e : Int} (hd : U d) (he0 : -370 ≤ e) (he1 : e ≤ 370) (w : World) :
    Calls Tryz.prog 7 #[.int .u64 d, .int .i64 e] w fun r w' => ∃ s a n c b m f, r = .returned (.tuple #[.agg #[.bool s, .slice a n c, .slice b m f], .bool true]) ∧ Rt w' s a n c b m f (decR d e) ∧ Below w.heap.size w w' := by
  have key : Calls Tryz.prog 7 #[.int .u64 d, .int .i64 e] w fun r w' => ∃ s v1 v2, r = .returned (.tuple #[.agg #[.bool s, v1, v2], .bool true]) ∧ RtO w' w.heap.size s v1 v2 (decR d e) ∧ Below w.heap.size w w' := by
    by_cases h : e < 0
    · exact dec12_neg hd he0 h w
    · exact dec12_pos hd (by omega) he1 w
  refine key.mono ?_
  rintro r w' ⟨s, v1, v2, rfl, R, hb⟩
  obtain ⟨a, n, c, b, m, f, rfl, rfl, q⟩ := R.opens
  exact ⟨s, a, n, c, b, m, f, rfl, q, hb⟩
end Go.Proofs.YtalglldkjbinbaaGreatDoor
