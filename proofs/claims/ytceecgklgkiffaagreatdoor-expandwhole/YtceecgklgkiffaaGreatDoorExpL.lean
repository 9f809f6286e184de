/- Layer 13: the statements' decimal: digits and an exponent as a Rat. -/
import Derived.Test.YtceecgklgkiffaaGreatDoorExpJ
import Derived.Test.YtceecgklgkiffaaGreatDoorRatF
import Derived.Test.YtceecgklgkiffaaGreatDoorNearRat
namespace Go.Proofs.YtceecgklgkiffaaGreatDoor
open Go.ChangeShapes Go.WideShapes Go.ChangeAt Go.RowKit
open Na Ar Ep
set_option linter.unusedVariables false
namespace Ep
def dcN (X : Nat) (e : Int) : Int := (X : Int) * 10 ^ e.toNat
def dcD (e : Int) : Int := 10 ^ (-e).toNat
/-- digits and an exponent, as a number -/
def dcR (X : Nat) (e : Int) : Rat := mkR false (dcN X e) (dcD e)
theorem ten13_big : Nat.blt ((10 : Nat) ^ (4000 : Nat)) ((18446744073709551616 : Nat) ^ (210 : Nat)) = true := by kernel_rfl
theorem ten13_lt {n : Nat} (h : n ≤ 4000) : Lt ((10 : Int) ^ n) 210 := pow_lt (b := 10) (m := 4000) (by omega) ten13_big h
theorem X13_lt {m X : Nat} (hm : m ≤ 4000) (hX : X < 10 ^ m) : Lt (X : Int) 210 := (ten13_lt hm).le (by omega) (by
  have : ((X : Nat) : Int) < ((10 ^ m : Nat) : Int) := by exact_mod_cast hX
  rw [Int.natCast_pow] at this
  exact Int.le_of_lt this)
theorem dcD_pos (e : Int) : 0 < dcD e := Int.pow_pos (by omega)
theorem dc_size {m X : Nat} {e : Int} (hm : m ≤ 4000) (hX : X < 10 ^ m) (h0 : -4000 ≤ e) (h1 : e ≤ 4000) : Lt (dcN X e) (210 + 210) ∧ Lt (dcD e) (210 + 210) ∧ Sz (dcR X e) (210 + 210) := by
  have a : Lt ((X : Int) * 10 ^ e.toNat) (210 + 210) := (X13_lt hm hX).mul (ten13_lt (by omega))
  have b : Lt ((10 : Int) ^ (-e).toNat) (210 + 210) := (ten13_lt (n := (-e).toNat) (by omega)).mono (by omega)
  exact ⟨a, b, Sz.mkR a b (dcD_pos e)⟩
end Ep
theorem ten13_any {k : Nat} {K : Int} (hK : K = k) (h : k ≤ 4000) (w : World) :
    Calls Tryz.prog 58 #[.int .i64 K] w fun e w' => ∃ a l c ls, e = .returned (.tuple #[.slice a l c, .int .i64 0]) ∧ RowC w' a l c ls ∧ Nm ls (10 ^ k) ∧ l ≤ 500 ∧ Below w.heap.size w w' := by
  subst hK
  have f := ten_any (k : Int) (by omega) (by omega) w
  have E1 : pwE 78913 (k : Int) = 0 := by unfold pwE; rw [if_neg (by omega), if_neg (by omega)]
  have E2 : pwL 10 78913 (k : Int) = words (10 ^ k) := by unfold pwL; rw [if_neg (by omega), if_neg (by omega), Int.toNat_natCast]
  rw [E1, E2] at f
  refine f.mono ?_
  rintro e w' ⟨v, rfl, ho, hb⟩
  obtain ⟨a, l, c, ls, rfl, hr, hn, hq⟩ := ho.opens (ten13_lt h) (by omega)
  have e1 := hr.1.1
  have e2 : ls = words (10 ^ k) := hq.out
  have e3 := (ten13_lt h).len
  rw [← e2] at e3
  exact ⟨a, l, c, ls, rfl, hr, hn, by omega, hb⟩
set_option maxHeartbeats 3200000 in
set_option maxRecDepth 100000 in
theorem dec13_neg {m X : Nat} {e : Int} (hm : 1 ≤ m) (hm9 : m ≤ 4000) (hX : X < 10 ^ m) (he0 : -2000 ≤ e) (he1 : e < 0) (w : World) :
    Calls Tryz.prog 26 #[.string ⟨(dg m X).toArray⟩, .int .i64 e] w fun r w' => ∃ s v1 v2, r = .returned (.tuple #[.agg #[.bool s, v1, v2], .bool true]) ∧ RtO w' w.heap.size s v1 v2 (dcR X e) ∧ Below w.heap.size w w' := by
  obtain ⟨l1, l2, -⟩ := dc_size hm9 hX (e := e) (by omega) (by omega)
  have hT := fun w => ten13_any (k := (-e).toNat) (K := -e) (by omega) (by omega) w
  have hP := fun w => parse13_any hm hm9 hX w
  have hXl := (X13_lt hm9 hX).len
  have pD := dcD_pos e
  have eD : (10 : Int) ^ (-e).toNat = dcD e := rfl
  have eN : dcN X e = (X : Int) := by unfold dcN; rw [show e.toNat = 0 by omega]; simp
  unfold dcR
  rw [eN] at l1 ⊢
  rw [eD] at hT
  generalize dcD e = D at *
  generalize dg m X = DL at *
  clear eD eN hX hm
  have t0 := st_new w (.bool false) (.slice none 0 0) (.slice none 0 0) 50
  have hb0 := alloc_below (w := w) (.cells #[.bool false, .slice none 0 0, .slice none 0 0] 50)
  obtain ⟨g, hg⟩ : ∃ g, g = w.heap.size := ⟨_, rfl⟩
  have HG : Hid (w.heap.size = g) := hg.symm
  obtain ⟨w0, hw0⟩ : ∃ w0, w0 = w.alloc (.cells #[.bool false, .slice none 0 0, .slice none 0 0] 50) := ⟨_, rfl⟩
  rw [← hw0] at t0 hb0
  rw [← hg] at t0
  go_enter Tryz.func26, Tryz.ntmps26
  go_wp2_with fail
  rw [← hw0, ← hg]
  refine (hP w0).mono ?_
  rintro r w1 ⟨a1, n1, c1, ls1, rfl, r1, ⟨m1, ln1⟩, hb1⟩
  have B1 := hb0.trans (hb1.mono hb0.size)
  have t1 := t0.later hb1
  clear hP hw0 hg hb0 hb1 t0
  have b2 := alloc_below (w := w1) (.cells #[.int .u64 1] 22)
  have B2 := B1.trans (b2.mono B1.size)
  have t2 := t1.later b2
  have r2 := r1.later b2
  go_wp2_with fail
  refine (hT _).mono ?_
  rintro r w3 ⟨a3, n3, c3, ls3, rfl, r3, m3, q3, hb3⟩
  have B3 := B2.trans (hb3.mono B2.size)
  have t3 := t2.later hb3
  have r4 := r2.later hb3
  have hN := rNew_ok (neg := false) r4 r3 m1 m3 pD (l1.mono (by omega)) (l2.mono (by omega)) (by omega) (by omega)
  clear hT b2 B1 B2 t1 t2 r1 r2 hb3
  go_wp2_with fail
  refine hN.mono ?_
  rintro r w5 ⟨s5, v1, v2, rfl, R5, hb5⟩
  obtain ⟨a5, n5, c5, b5, m5, d5, rfl, rfl, -⟩ := R5.opens
  have B5 := B3.trans (hb5.mono B3.size)
  have t5 := t3.later hb5
  have hg5 : g < w3.heap.size := t3.lt
  obtain ⟨y0, y1, y2⟩ := t5.cells
  obtain ⟨f0, f1, f2⟩ := t5.frozen
  have hg6 : g < w5.heap.size := t5.lt
  have t6 := t5.set (.bool s5) (.slice a5 n5 c5) (.slice b5 m5 d5)
  have hin := in3 w5 g (.bool s5) (.slice a5 n5 c5) (.slice b5 m5 d5)
  have R6 := R5.inn hin hg5
  have B6 := below_in B5 hin (by rw [HG.out]; omega) (Nat.le_refl _)
  have ba := alloc_below (w := (((w5.setCell ⟨g, 0, none⟩ (.bool s5)).setCell ⟨g, 1, none⟩ (.slice a5 n5 c5)).setCell ⟨g, 2, none⟩ (.slice b5 m5 d5))) (.cells #[.bool s5, .slice a5 n5 c5, .slice b5 m5 d5] 50)
  have st9 := (t6.later ba).cells
  have R7 := R6.later ba
  have B7 := B6.trans (ba.mono B6.size)
  have hlow : w.heap.size ≤ w3.heap.size := B3.size
  clear hN hb5 B3 t3 r3 r4 m1 m3 R5 B5 t5 t6 hin R6 B6 ba
  go_wp2
  refine bodyPost_ret (v := .tuple #[.agg #[.bool s5, .slice a5 n5 c5, .slice b5 m5 d5], .bool true]) (by simp [results, Tryz.results26, go_sem, st9]) rfl ?_
  exact ⟨_, _, _, rfl, R7.lower hlow, B7⟩
set_option maxHeartbeats 3200000 in
set_option maxRecDepth 100000 in
theorem dec13_pos {m X : Nat} {e : Int} (hm : 1 ≤ m) (hm9 : m ≤ 4000) (hX : X < 10 ^ m) (he0 : 0 ≤ e) (he1 : e ≤ 2000) (w : World) :
    Calls Tryz.prog 26 #[.string ⟨(dg m X).toArray⟩, .int .i64 e] w fun r w' => ∃ s v1 v2, r = .returned (.tuple #[.agg #[.bool s, v1, v2], .bool true]) ∧ RtO w' w.heap.size s v1 v2 (dcR X e) ∧ Below w.heap.size w w' := by
  obtain ⟨l1, l2, -⟩ := dc_size hm9 hX (e := e) (by omega) (by omega)
  have hT := fun w => ten13_any (k := e.toNat) (K := e) (by omega) (by omega) w
  have lX := X13_lt hm9 hX
  have hP := fun w => parse13_any hm hm9 hX w
  have hXl := (X13_lt hm9 hX).len
  have eD : dcD e = 1 := by unfold dcD; rw [show (-e).toNat = 0 by omega]; rfl
  have eN : dcN X e = (X : Int) * 10 ^ e.toNat := rfl
  unfold dcR
  rw [eD]
  rw [eN] at l1 ⊢
  generalize (10 : Int) ^ e.toNat = D at *
  generalize dg m X = DL at *
  clear eD eN hX hm
  have t0 := st_new w (.bool false) (.slice none 0 0) (.slice none 0 0) 50
  have hb0 := alloc_below (w := w) (.cells #[.bool false, .slice none 0 0, .slice none 0 0] 50)
  obtain ⟨g, hg⟩ : ∃ g, g = w.heap.size := ⟨_, rfl⟩
  have HG : Hid (w.heap.size = g) := hg.symm
  obtain ⟨w0, hw0⟩ : ∃ w0, w0 = w.alloc (.cells #[.bool false, .slice none 0 0, .slice none 0 0] 50) := ⟨_, rfl⟩
  rw [← hw0] at t0 hb0
  rw [← hg] at t0
  go_enter Tryz.func26, Tryz.ntmps26
  go_wp2_with fail
  rw [← hw0, ← hg]
  refine (hP w0).mono ?_
  rintro r w1 ⟨a1, n1, c1, ls1, rfl, r1, ⟨m1, ln1⟩, hb1⟩
  have B1 := hb0.trans (hb1.mono hb0.size)
  have t1 := t0.later hb1
  clear hP hw0 hg hb0 hb1 t0
  have b2 := alloc_below (w := w1) (.cells #[.int .u64 1] 22)
  have B2 := B1.trans (b2.mono B1.size)
  have t2 := t1.later b2
  have r2 := r1.later b2
  go_wp2_with fail
  refine (hT _).mono ?_
  rintro r w3 ⟨a3, n3, c3, ls3, rfl, r3, m3, q3, hb3⟩
  have B3 := B2.trans (hb3.mono B2.size)
  have t3 := t2.later hb3
  have r4 := r2.later hb3
  have hM := mulQ r4 r3 m1 m3 l1 (by omega)
  have one1 := (rowC_one w1 1 22).later hb3
  clear hT b2 B1 B2 t1 t2 r1 r2 hb3
  go_wp2_with fail
  refine hM.mono ?_
  rintro r w4 ⟨a4, n4, c4, l4, rfl, r5, m5', h4, hb4⟩
  have e4 := r5.1.1
  have e5 := l1.len
  rw [← show l4 = words (X * D) from h4.out] at e5
  have B4 := B3.trans (hb4.mono B3.size)
  have t4 := t3.later hb4
  have one2 := one1.later hb4
  have nm1 : Nm [1] 1 := ⟨Dg.one ⟨by omega, by omega⟩, by simp [num, val], by simp⟩
  have hN := rNew_ok (neg := false) r5 one2 m5' nm1 (by omega) (l1.mono (by omega)) ((Lt.word (x := 1) (by omega)).mono (by omega)) (by omega) (by omega)
  clear hM hb4 t3 one1 r3 r4 m1 m3
  go_wp2_with fail
  refine hN.mono ?_
  rintro r w5 ⟨s5, v1, v2, rfl, R5, hb5⟩
  obtain ⟨a5, n5, c5, b5, m5, d5, rfl, rfl, -⟩ := R5.opens
  have B5 := B4.trans (hb5.mono B4.size)
  have t5 := t4.later hb5
  have hg5 : g < w4.heap.size := t4.lt
  obtain ⟨y0, y1, y2⟩ := t5.cells
  obtain ⟨f0, f1, f2⟩ := t5.frozen
  have hg6 : g < w5.heap.size := t5.lt
  have t6 := t5.set (.bool s5) (.slice a5 n5 c5) (.slice b5 m5 d5)
  have hin := in3 w5 g (.bool s5) (.slice a5 n5 c5) (.slice b5 m5 d5)
  have R6 := R5.inn hin hg5
  have B6 := below_in B5 hin (by rw [HG.out]; omega) (Nat.le_refl _)
  have ba := alloc_below (w := (((w5.setCell ⟨g, 0, none⟩ (.bool s5)).setCell ⟨g, 1, none⟩ (.slice a5 n5 c5)).setCell ⟨g, 2, none⟩ (.slice b5 m5 d5))) (.cells #[.bool s5, .slice a5 n5 c5, .slice b5 m5 d5] 50)
  have st9 := (t6.later ba).cells
  have R7 := R6.later ba
  have B7 := B6.trans (ba.mono B6.size)
  have hlow : w.heap.size ≤ w4.heap.size := B4.size
  clear hN hb5 B3 B4 t4 r5 one2 m5' nm1 R5 B5 t5 t6 hin R6 B6 ba
  go_wp2
  refine bodyPost_ret (v := .tuple #[.agg #[.bool s5, .slice a5 n5 c5, .slice b5 m5 d5], .bool true]) (by simp [results, Tryz.results26, go_sem, st9]) rfl ?_
  exact ⟨_, _, _, rfl, R7.lower hlow, B7⟩
theorem dec13_any {m X : Nat} {e : Int} (hm : 1 ≤ m) (hm9 : m ≤ 4000) (hX : X < 10 ^ m) (he0 : -2000 ≤ e) (he1 : e ≤ 2000) (w : World) :
    Calls Tryz.prog 26 #[.string ⟨(dg m X).toArray⟩, .int .i64 e] w fun r w' => ∃ s a n c b m f, r = .returned (.tuple #[.agg #[.bool s, .slice a n c, .slice b m f], .bool true]) ∧ Rt w' s a n c b m f (dcR X e) ∧ Below w.heap.size w w' := by
  have key : Calls Tryz.prog 26 #[.string ⟨(dg m X).toArray⟩, .int .i64 e] w fun r w' => ∃ s v1 v2, r = .returned (.tuple #[.agg #[.bool s, v1, v2], .bool true]) ∧ RtO w' w.heap.size s v1 v2 (dcR X e) ∧ Below w.heap.size w w' := by
    by_cases h : e < 0
    · exact dec13_neg hm hm9 hX he0 h w
    · exact dec13_pos hm hm9 hX (by omega) he1 w
  refine key.mono ?_
  rintro r w' ⟨s, v1, v2, rfl, R, hb⟩
  obtain ⟨a, n, c, b, m, f, rfl, rfl, q⟩ := R.opens
  exact ⟨s, a, n, c, b, m, f, rfl, q, hb⟩
end Go.Proofs.YtceecgklgkiffaaGreatDoor
