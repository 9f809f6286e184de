/- plumblaw03.live. -/
import Derived.Test.YtopcdpeepchgfabBaseD
namespace Go.Proofs.Ytopcdpeepchgfab
open Go.ChangeShapes Go.WideShapes Go.ChangeAt Go.RowKit
open Na Ar
set_option linter.unusedVariables false
theorem two_lits (w : World) (x y : Int) : RowC ((w.alloc (.cells #[.int .u64 x] 31)).alloc (.cells #[.int .u64 y] 31)) (some ⟨w.heap.size, 0, none⟩) 1 1 [x] ∧ RowC ((w.alloc (.cells #[.int .u64 x] 31)).alloc (.cells #[.int .u64 y] 31)) (some ⟨w.heap.size + 1, 0, none⟩) 1 1 [y] ∧ Below w.heap.size w ((w.alloc (.cells #[.int .u64 x] 31)).alloc (.cells #[.int .u64 y] 31)) := by
  have r1 := rowC_one w x 31
  have b1 := alloc_below (w := w) (.cells #[.int .u64 x] 31)
  have r2 := rowC_one (w.alloc (.cells #[.int .u64 x] 31)) y 31
  have b2 := alloc_below (w := w.alloc (.cells #[.int .u64 x] 31)) (.cells #[.int .u64 y] 31)
  have es : (w.alloc (.cells #[.int .u64 x] 31)).heap.size = w.heap.size + 1 := by simp
  rw [es] at r2
  exact ⟨r1.later b2, r2, b1.trans (b2.mono b1.size)⟩
theorem w1_ (x : Int) (h0 : 0 < x) (h1 : x < 18446744073709551616) : Hid ([x] = words x) := by
  rcases words_cases (N := x) (by omega) with ⟨e, _⟩ | ⟨_, _, e⟩ | ⟨e, _⟩
  · omega
  · exact e.symm
  · omega
theorem lt81 : Lt ((3 : Int) ^ 4) 1 := by
  have : (3 : Int) ^ 4 = 81 := by decide
  rw [this]; exact Lt.word (by omega)
theorem lt6 : Lt (Int.gcd 12 18 : Int) 1 := by
  have : (Int.gcd 12 18 : Int) = 6 := by decide
  rw [this]; exact Lt.word (by omega)
set_option maxHeartbeats 6400000 in
set_option maxRecDepth 100000 in
theorem live_any (w : World) : Calls Try.prog 9 #[] w fun e w' => e = .returned (.bool true) ∧ Below w.heap.size w w' := by
  have hB0 := Below.refl w.heap.size w
  go_enter Try.func9, Try.ntmps9
  obtain ⟨rL1a, rL1b, alL1⟩ := two_lits w 7 2
  have hB_L1 := hB0.trans (alL1.mono hB0.size)
  go_wp2_with fail
  refine (divModQ rL1a rL1b (Nm.one (x := 7) (by omega)) (Nm.one (x := 2) (by omega)) (by omega) (by omega) (by omega)).mono ?_
  rintro e w1 ⟨qa, qn, qc, ql, ra, rn, rc, rl, rfl, rq, mq, eq, rr, mr, er, hb1⟩
  have rL1a_1 := rL1a.later hb1
  clear rL1a
  have rL1b_1 := rL1b.later hb1
  clear rL1b
  have hB_1 := hB_L1.trans (hb1.mono hB_L1.size)
  clear rL1a_1
  clear rL1b_1
  have alL2 := alloc_below (w := w1) (.cells #[.int .u64 49] 31)
  have rL2 := rowC_one w1 49 31
  have rq_L2 := rq.later alL2
  clear rq
  have rr_L2 := rr.later alL2
  clear rr
  have hB_L2 := hB_1.trans (alL2.mono hB_1.size)
  go_wp2_with fail
  refine (rootQ rL2 (Nm.one (x := 49) (by omega)) (by omega)).mono ?_
  rintro e w2 ⟨sa, sn, sc, sl, s, rfl, rs, ms, es, is, hb2⟩
  have rq_2 := rq_L2.later hb2
  clear rq_L2
  have rr_2 := rr_L2.later hb2
  clear rr_L2
  have rL2_2 := rL2.later hb2
  clear rL2
  have hB_2 := hB_L2.trans (hb2.mono hB_L2.size)
  clear rL2_2
  have hs7 : s = 7 := is.unique ⟨by omega, by omega, by omega⟩
  subst hs7
  clear is
  have alL3 := alloc_below (w := w2) (.cells #[.int .u64 3] 31)
  have rL3 := rowC_one w2 3 31
  have rq_L3 := rq_2.later alL3
  clear rq_2
  have rr_L3 := rr_2.later alL3
  clear rr_2
  have rs_L3 := rs.later alL3
  clear rs
  have hB_L3 := hB_2.trans (alL3.mono hB_2.size)
  go_wp2_with fail
  refine (powQ 4 (by omega) rL3 (Nm.one (x := 3) (by omega)) lt81 (by omega)).mono ?_
  rintro e w3 ⟨pa, pn, pc, pl, rfl, rp, mp, ep, hb3⟩
  have rq_3 := rq_L3.later hb3
  clear rq_L3
  have rr_3 := rr_L3.later hb3
  clear rr_L3
  have rs_3 := rs_L3.later hb3
  clear rs_L3
  have rL3_3 := rL3.later hb3
  clear rL3
  have hB_3 := hB_L3.trans (hb3.mono hB_L3.size)
  clear rL3_3
  go_wp2_with fail
  refine (num3_any 0 _).mono ?_
  rintro e w4 ⟨rfl, hb4⟩
  have rq_4 := rq_3.later hb4
  clear rq_3
  have rr_4 := rr_3.later hb4
  clear rr_3
  have rs_4 := rs_3.later hb4
  clear rs_3
  have rp_4 := rp.later hb4
  clear rp
  have hB_4 := hB_3.trans (hb4.mono hB_3.size)
  go_wp2_with fail
  refine (num3_any 0 _).mono ?_
  rintro e w5 ⟨rfl, hb5⟩
  have rq_5 := rq_4.later hb5
  clear rq_4
  have rr_5 := rr_4.later hb5
  clear rr_4
  have rs_5 := rs_4.later hb5
  clear rs_4
  have rp_5 := rp_4.later hb5
  clear rp_4
  have hB_5 := hB_4.trans (hb5.mono hB_4.size)
  have alL4 := alloc_below (w := w5) (.cells #[.int .u64 3] 31)
  have rL4 := rowC_one w5 3 31
  have rq_L4 := rq_5.later alL4
  clear rq_5
  have rr_L4 := rr_5.later alL4
  clear rr_5
  have rs_L4 := rs_5.later alL4
  clear rs_5
  have rp_L4 := rp_5.later alL4
  clear rp_5
  have hB_L4 := hB_5.trans (alL4.mono hB_5.size)
  go_wp2_with fail
  refine (sameQ rq_L4 rL4 mq (Nm.one (x := 3) (by omega)) eq (w1_ 3 (by omega) (by omega)) (by decide)).mono ?_
  rintro e w6 ⟨rfl, hb6⟩
  have rq_6 := rq_L4.later hb6
  clear rq_L4
  have rr_6 := rr_L4.later hb6
  clear rr_L4
  have rs_6 := rs_L4.later hb6
  clear rs_L4
  have rp_6 := rp_L4.later hb6
  clear rp_L4
  have rL4_6 := rL4.later hb6
  clear rL4
  have hB_6 := hB_L4.trans (hb6.mono hB_L4.size)
  clear rL4_6
  clear rq_6
  have alL5 := alloc_below (w := w6) (.cells #[.int .u64 1] 31)
  have rL5 := rowC_one w6 1 31
  have rr_L5 := rr_6.later alL5
  clear rr_6
  have rs_L5 := rs_6.later alL5
  clear rs_6
  have rp_L5 := rp_6.later alL5
  clear rp_6
  have hB_L5 := hB_6.trans (alL5.mono hB_6.size)
  go_wp2_with fail
  refine (sameQ rr_L5 rL5 mr (Nm.one (x := 1) (by omega)) er (w1_ 1 (by omega) (by omega)) (by decide)).mono ?_
  rintro e w7 ⟨rfl, hb7⟩
  have rr_7 := rr_L5.later hb7
  clear rr_L5
  have rs_7 := rs_L5.later hb7
  clear rs_L5
  have rp_7 := rp_L5.later hb7
  clear rp_L5
  have rL5_7 := rL5.later hb7
  clear rL5
  have hB_7 := hB_L5.trans (hb7.mono hB_L5.size)
  clear rL5_7
  clear rr_7
  have alL6 := alloc_below (w := w7) (.cells #[.int .u64 81] 31)
  have rL6 := rowC_one w7 81 31
  have rs_L6 := rs_7.later alL6
  clear rs_7
  have rp_L6 := rp_7.later alL6
  clear rp_7
  have hB_L6 := hB_7.trans (alL6.mono hB_7.size)
  go_wp2_with fail
  refine (sameQ rp_L6 rL6 mp (Nm.one (x := 81) (by omega)) ep (w1_ 81 (by omega) (by omega)) (by decide)).mono ?_
  rintro e w8 ⟨rfl, hb8⟩
  have rs_8 := rs_L6.later hb8
  clear rs_L6
  have rp_8 := rp_L6.later hb8
  clear rp_L6
  have rL6_8 := rL6.later hb8
  clear rL6
  have hB_8 := hB_L6.trans (hb8.mono hB_L6.size)
  clear rL6_8
  clear rp_8
  have alL7 := alloc_below (w := w8) (.cells #[.int .u64 7] 31)
  have rL7 := rowC_one w8 7 31
  have rs_L7 := rs_8.later alL7
  clear rs_8
  have hB_L7 := hB_8.trans (alL7.mono hB_8.size)
  go_wp2_with fail
  refine (sameQ rs_L7 rL7 ms (Nm.one (x := 7) (by omega)) es (w1_ 7 (by omega) (by omega)) (rfl)).mono ?_
  rintro e w9 ⟨rfl, hb9⟩
  have rs_9 := rs_L7.later hb9
  clear rs_L7
  have rL7_9 := rL7.later hb9
  clear rL7
  have hB_9 := hB_L7.trans (hb9.mono hB_L7.size)
  clear rL7_9
  clear rs_9
  obtain ⟨rL8a, rL8b, alL8⟩ := two_lits w9 12 18
  have hB_L8 := hB_9.trans (alL8.mono hB_9.size)
  go_wp2_with fail
  refine (gcdQ rL8a rL8b (Nm.one (x := 12) (by omega)) (Nm.one (x := 18) (by omega)) lt6 (by omega) (by omega) (by omega)).mono ?_
  rintro e w10 ⟨ga, gn, gc, gl, rfl, rg, mg, eg, hb10⟩
  have rL8a_10 := rL8a.later hb10
  clear rL8a
  have rL8b_10 := rL8b.later hb10
  clear rL8b
  have hB_10 := hB_L8.trans (hb10.mono hB_L8.size)
  clear rL8a_10
  clear rL8b_10
  have alL9 := alloc_below (w := w10) (.cells #[.int .u64 6] 31)
  have rL9 := rowC_one w10 6 31
  have rg_L9 := rg.later alL9
  clear rg
  have hB_L9 := hB_10.trans (alL9.mono hB_10.size)
  go_wp2_with fail
  refine (sameQ rg_L9 rL9 mg (Nm.one (x := 6) (by omega)) eg (w1_ 6 (by omega) (by omega)) (by decide)).mono ?_
  rintro e w11 ⟨rfl, hb11⟩
  have rg_11 := rg_L9.later hb11
  clear rg_L9
  have rL9_11 := rL9.later hb11
  clear rL9
  have hB_11 := hB_L9.trans (hb11.mono hB_L9.size)
  clear rL9_11
  clear rg_11
  obtain ⟨rL10a, rL10b, alL10⟩ := two_lits w11 2 1
  have hB_L10 := hB_11.trans (alL10.mono hB_11.size)
  go_wp2_with fail
  refine (cmpK rL10a rL10b (Nm.one (x := 2) (by omega)) (Nm.one (x := 1) (by omega)) (ordN_gt (by omega))).mono ?_
  rintro e w12 ⟨rfl, hb12⟩
  have rL10a_12 := rL10a.later hb12
  clear rL10a
  have rL10b_12 := rL10b.later hb12
  clear rL10b
  have hB_12 := hB_L10.trans (hb12.mono hB_L10.size)
  clear rL10a_12
  clear rL10b_12
  go_wp2
  go_ret
  exact ⟨rfl, hB_12⟩
end Go.Proofs.Ytopcdpeepchgfab
