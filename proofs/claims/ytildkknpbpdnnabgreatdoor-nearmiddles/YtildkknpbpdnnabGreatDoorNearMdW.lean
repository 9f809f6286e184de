/- NearMiddles. -/
import Derived.Test.YtildkknpbpdnnabGreatDoorNearMn
namespace Go.Proofs.YtildkknpbpdnnabGreatDoor
open Go.ChangeShapes Go.WideShapes Go.ChangeAt Go.RowKit
open Na Ar
set_option linter.unusedVariables false
theorem alike7_same (x : Int) (w : World) : Calls Tryz.prog 20 #[.int .u64 x, .int .u64 x] w fun e w' => e = .returned (.bool true) ∧ w = w' := by
  have d1 : (x == x) = true := beq_self_eq_true _
  go_enter Tryz.func20, Tryz.ntmps20
  go_wp2
  go_ret
  exact ⟨rfl, rfl⟩
theorem sz_eighth : Sz (mkR false 1 8) 1 := Sz.mkR lt_one (Lt.word (by omega)) (by omega)
theorem eighth_words : words (((mkR false 1 8).num.natAbs : Nat) : Int) = [1] ∧ words (((mkR false 1 8).den : Nat) : Int) = [8] ∧ false = decide ((mkR false 1 8).num < 0) := by
  have a : (((mkR false 1 8).num.natAbs : Nat) : Int) = 1 := by decide
  have b : (((mkR false 1 8).den : Nat) : Int) = 8 := by decide
  have one : ∀ x : Int, 0 < x → x < 18446744073709551616 → words x = [x] := by
    intro x h h'
    have w : Ws [x] := Dg.one ⟨by omega, h'⟩
    have s := words_strip w
    have n : num [x] = x := by simp [num, val]
    rw [n] at s
    rw [← s]
    exact strip_end [] x (by omega)
  rw [a, b]
  exact ⟨one 1 (by omega) (by omega), one 8 (by omega) (by omega), by decide⟩
theorem eighth_rt (w : World) : Rt ((w.alloc (.cells #[.int .u64 1] 22)).alloc (.cells #[.int .u64 8] 22)) false (some ⟨w.heap.size, 0, none⟩) 1 1 (some ⟨w.heap.size + 1, 0, none⟩) 1 1 (mkR false 1 8) ∧ Below w.heap.size w ((w.alloc (.cells #[.int .u64 1] 22)).alloc (.cells #[.int .u64 8] 22)) := by
  obtain ⟨e1, e2, e3⟩ := eighth_words
  have r1 := rowC_one w 1 22
  have b1 := alloc_below (w := w) (.cells #[.int .u64 1] 22)
  have s1 : (w.alloc (.cells #[.int .u64 1] 22)).heap.size = w.heap.size + 1 := by simp
  generalize w.alloc (.cells #[.int .u64 1] 22) = w1 at *
  have r2 := rowC_one w1 8 22
  have b2 := alloc_below (w := w1) (.cells #[.int .u64 8] 22)
  generalize w1.alloc (.cells #[.int .u64 8] 22) = w2 at *
  rw [s1] at r2
  exact ⟨⟨e3, by rw [e1]; exact r1.later b2, by rw [e2]; exact r2⟩, b1.trans (b2.mono b1.size)⟩
set_option maxHeartbeats 12800000 in
set_option maxRecDepth 100000 in
theorem middles_fin {b : Int} (hu : U b) (hf : ef b ≠ 2047) (hm : b ≠ mostP) {w : World} (G : GrVar w) :
    Calls Tryz.prog 4 #[.int .u64 b] w fun e w' => e = .returned (.bool true) ∧ Below w.heap.size w w' := by
  have hc := fun w => f6Class_any hu w
  have fM := fun w => nearMid_fin hu hf hm w
  have zM := mid_size hu hf
  obtain ⟨C, hC⟩ : ∃ C, C = clsW b := ⟨_, rfl⟩
  have hC2 : decide (C > 2) = false := by rw [hC]; rcases cls_of b with ⟨h, _⟩ | ⟨_, h, _⟩ | ⟨_, h, _⟩ <;> first | exact absurd h hf | (rcases h with h | h <;> rw [h] <;> decide) | (rw [h]; decide)
  have hC3 : decide (2 < C) = false := hC2
  rw [← hC] at hc
  have hmx : (b == 9218868437227405311) = false := beq_no hm
  obtain ⟨LO, HI, X, ⟨ul, fl⟩, ⟨uh, fh⟩, tw, rM, rL, rR, cs, pr⟩ := mid_data hu hf hm
  have fLo := fun w => value7_any ul fl w
  have fHi := fun w => value7_any uh fh w
  have zL := value_size ul fl
  have zH := value_size uh fh
  have tw2 : ordR (midR b + midR b) (valR LO + valR HI) = 0 := by rw [tw]; exact ordR_self _
  have hu' := hu
  unfold U at hu'
  have hb9 : b + 1 < 18446744073709551616 := by unfold ef at hf; omega
  obtain ⟨SN, hSN⟩ : ∃ SN, (bits .and .u64 b 9223372036854775808 != 0) = SN := ⟨_, rfl⟩
  obtain ⟨BZ, hBZ⟩ : ∃ BZ, (b == 9223372036854775808) = BZ := ⟨_, rfl⟩
  obtain ⟨PB, hPB⟩ : ∃ PB, (bits .and .u64 LO 1 == 1) = PB := ⟨_, rfl⟩
  have cs' : (SN = false ∧ BZ = false ∧ b = LO ∧ b + 1 = HI) ∨ (SN = true ∧ BZ = true ∧ 0 = LO ∧ 1 = HI) ∨ (SN = true ∧ BZ = false ∧ b = LO ∧ b - 1 = HI ∧ 1 ≤ b) := by
    rw [← hSN, ← hBZ, sign_ne hu]
    rcases cs with ⟨c0, c1, c2⟩ | ⟨c0, c1, c2⟩ | ⟨c0, c1, c2⟩
    · exact Or.inl ⟨by simp; omega, by simp; omega, c1.symm, c2.symm⟩
    · exact Or.inr (Or.inl ⟨by simp; omega, by simp; omega, c1.symm, c2.symm⟩)
    · exact Or.inr (Or.inr ⟨by simp; omega, by simp; omega, c1.symm, c2.symm, by omega⟩)
  have pr' : (PB = true ∧ HI = X) ∨ (PB = false ∧ LO = X) := by
    rw [← hPB, and_one ul]
    rcases pr with ⟨c0, c1⟩ | ⟨c0, c1⟩
    · exact Or.inl ⟨by simp; omega, c1.symm⟩
    · exact Or.inr ⟨by simp; omega, c1.symm⟩
  generalize midR b = R0 at *
  generalize valR LO = VL at *
  generalize valR HI = VH at *
  clear hC hf hm ul fl uh fh tw cs pr
  rcases cs' with ⟨rfl, rfl, rfl, rfl⟩ | ⟨rfl, rfl, rfl, rfl⟩ | ⟨rfl, rfl, rfl, rfl, hb1⟩ <;> rcases pr' with ⟨rfl, rfl⟩ | ⟨rfl, rfl⟩
  all_goals try (exact absurd hPB (by decide))
  all_goals
    have hB := Below.refl w.heap.size w
    go_enter Tryz.func4, Tryz.ntmps4
    go_wp2_with fail
    refine (hc _).mono ?_
    rintro e w0 ⟨rfl, rfl⟩
    have hfx := fixed_any G
    go_wp2_with (go_at_call 10; refine (num7_same _ _).mono ?_; rintro e wz ⟨rfl, rfl⟩)
    refine (hfx).mono ?_
    rintro e w1 ⟨rfl, hb⟩
    have G := G.later hb
    have hB := hB.trans (hb.mono hB.size)
    clear hb
    clear hfx hc
    go_wp2_with (go_at_call 10; refine (num7_same _ _).mono ?_; rintro e wz ⟨rfl, rfl⟩)
    refine (fM _).mono ?_
    rintro e w2 ⟨sr, u1, u2, rfl, R, hb⟩
    obtain ⟨ar, nr, cr, br, mr, dr, rfl, rfl, Qr⟩ := R.opens
    have G := G.later hb
    have hB := hB.trans (hb.mono hB.size)
    have hal := alloc_below (w := w2) (.cells #[.bool sr, .slice ar nr cr, .slice br mr dr] 25)
    have tr := st_new w2 (.bool sr) (.slice ar nr cr) (.slice br mr dr) 25
    have G := G.later hal
    have Qr := Qr.later hal
    have hB := hB.trans (hal.mono hB.size)
    clear hal hb R
    go_wp2_with (go_at_call 10; refine (num7_same _ _).mono ?_; rintro e wz ⟨rfl, rfl⟩)
    obtain ⟨gr, hgr⟩ : ∃ gr, gr = w2.heap.size := ⟨_, rfl⟩
    rw [← hgr] at tr
    rw [← hgr]
    generalize w2.alloc (.cells #[.bool sr, .slice ar nr cr, .slice br mr dr] 25) = w3 at *
    clear hgr
    refine (fLo _).mono ?_
    rintro e w4 ⟨sv, u1, u2, rfl, R, _, hb⟩
    obtain ⟨av, nv, cv, bv, mv, dv, rfl, rfl, Qv⟩ := R.opens
    have G := G.later hb
    have Qr := Qr.later hb
    have tr := tr.later hb
    have hB := hB.trans (hb.mono hB.size)
    have hal := alloc_below (w := w4) (.cells #[.bool sv, .slice av nv cv, .slice bv mv dv] 25)
    have tv := st_new w4 (.bool sv) (.slice av nv cv) (.slice bv mv dv) 25
    have lttr := tr.lt
    have G := G.later hal
    have Qr := Qr.later hal
    have tr := tr.later hal
    have Qv := Qv.later hal
    have hB := hB.trans (hal.mono hB.size)
    clear hal hb R
    go_wp2_with (go_at_call 10; refine (num7_same _ _).mono ?_; rintro e wz ⟨rfl, rfl⟩)
    obtain ⟨gv, hgv⟩ : ∃ gv, gv = w4.heap.size := ⟨_, rfl⟩
    rw [← hgv] at tv
    rw [← hgv]
    generalize w4.alloc (.cells #[.bool sv, .slice av nv cv, .slice bv mv dv] 25) = w5 at *
    clear hgv
    refine (fHi _).mono ?_
    rintro e w6 ⟨sw, u1, u2, rfl, R, _, hb⟩
    obtain ⟨aw, nw, cw, bw, mw, dw, rfl, rfl, Qw⟩ := R.opens
    have G := G.later hb
    have Qr := Qr.later hb
    have tr := tr.later hb
    have Qv := Qv.later hb
    have tv := tv.later hb
    have hB := hB.trans (hb.mono hB.size)
    have hal := alloc_below (w := w6) (.cells #[.bool sw, .slice aw nw cw, .slice bw mw dw] 25)
    have tw := st_new w6 (.bool sw) (.slice aw nw cw) (.slice bw mw dw) 25
    have lttr := tr.lt
    have lttv := tv.lt
    have G := G.later hal
    have Qr := Qr.later hal
    have tr := tr.later hal
    have Qv := Qv.later hal
    have tv := tv.later hal
    have Qw := Qw.later hal
    have hB := hB.trans (hal.mono hB.size)
    clear hal hb R
    obtain ⟨x00, x01, x02⟩ := tv.cells
    obtain ⟨x10, x11, x12⟩ := tw.cells
    obtain ⟨x20, x21, x22⟩ := tr.cells
    go_wp2_with (go_at_call 10; refine (num7_same _ _).mono ?_; rintro e wz ⟨rfl, rfl⟩)
    obtain ⟨gw, hgw⟩ : ∃ gw, gw = w6.heap.size := ⟨_, rfl⟩
    rw [← hgw] at tw
    rw [← hgw]
    generalize w6.alloc (.cells #[.bool sw, .slice aw nw cw, .slice bw mw dw] 25) = w7 at *
    clear hgw
    refine (twice7_any Qv Qw Qr zL zH zM (by omega) (by omega) tw2).mono ?_
    rintro e w8 ⟨rfl, hb⟩
    have G := G.later hb
    have Qr := Qr.later hb
    have tr := tr.later hb
    have Qv := Qv.later hb
    have tv := tv.later hb
    have Qw := Qw.later hb
    have tw := tw.later hb
    have hB := hB.trans (hb.mono hB.size)
    clear hb
    clear x00 x01 x02 x10 x11 x12 x20 x21 x22
    clear tv Qv fM fLo fHi tw2
    obtain ⟨x00, x01, x02⟩ := tr.cells
    have hs0 : Hid (sr = decide (R0.num < 0)) := Qr.sgn
    go_wp2_with (go_at_call 10; refine (num7_same _ _).mono ?_; rintro e wz ⟨rfl, rfl⟩)
    refine (nearRat_ok (mode := 0) Qr zM (by omega) (by omega) (by omega) G).mono ?_
    rintro e w9 ⟨vx, Ex, rfl, hx, ux, hb⟩
    obtain ⟨rfl, rfl⟩ := rM _ _ _ hs0.out hx
    have G := G.later hb
    have Qr := Qr.later hb
    have tr := tr.later hb
    have Qw := Qw.later hb
    have tw := tw.later hb
    have hB := hB.trans (hb.mono hB.size)
    clear hb hx ux hs0
    clear x00 x01 x02
    obtain ⟨x00, x01, x02⟩ := tw.cells
    obtain ⟨x10, x11, x12⟩ := tr.cells
    go_wp2_with (go_at_call 10; refine (num7_same _ _).mono ?_; rintro e wz ⟨rfl, rfl⟩)
    refine (rSub_ok Qw Qr zH zM (by omega)).mono ?_
    rintro e w10 ⟨sd, u1, u2, rfl, R, zD, hb⟩
    obtain ⟨ad, nd, cd, bd, md, dd, rfl, rfl, Qd⟩ := R.opens
    have G := G.later hb
    have Qr := Qr.later hb
    have tr := tr.later hb
    have Qw := Qw.later hb
    have tw := tw.later hb
    have hB := hB.trans (hb.mono hB.size)
    have hal := alloc_below (w := w10) (.cells #[.bool sd, .slice ad nd cd, .slice bd md dd] 25)
    have td := st_new w10 (.bool sd) (.slice ad nd cd) (.slice bd md dd) 25
    have lttr := tr.lt
    have lttw := tw.lt
    have G := G.later hal
    have Qr := Qr.later hal
    have tr := tr.later hal
    have Qw := Qw.later hal
    have tw := tw.later hal
    have Qd := Qd.later hal
    have hB := hB.trans (hal.mono hB.size)
    clear hal hb R
    clear tw Qw
    clear x00 x01 x02 x10 x11 x12
    obtain ⟨Q8, hal⟩ := eighth_rt (w10.alloc (.cells #[.bool sd, .slice ad nd cd, .slice bd md dd] 25))
    have sz8 : (w10.alloc (.cells #[.bool sd, .slice ad nd cd, .slice bd md dd] 25)).heap.size = w10.heap.size + 1 := by simp
    rw [sz8] at Q8
    have G := G.later hal
    have Qr := Qr.later hal
    have tr := tr.later hal
    have Qd := Qd.later hal
    have td := td.later hal
    have hB := hB.trans (hal.mono hB.size)
    obtain ⟨x00, x01, x02⟩ := td.cells
    have ltd := td.lt
    have hMu := rMul_ok Qd Q8 zD sz_eighth (by omega)
    clear hal
    go_wp2_with (go_at_call 10; refine (num7_same _ _).mono ?_; rintro e wz ⟨rfl, rfl⟩)
    obtain ⟨gd, hgd⟩ : ∃ gd, gd = w10.heap.size := ⟨_, rfl⟩
    rw [← hgd] at td hMu
    rw [← hgd]
    generalize ((w10.alloc (.cells #[.bool sd, .slice ad nd cd, .slice bd md dd] 25)).alloc (.cells #[.int .u64 1] 22)).alloc (.cells #[.int .u64 8] 22) = w11 at *
    clear hgd Q8 sz8
    refine hMu.mono ?_
    rintro e w12 ⟨sh, u1, u2, rfl, R, zE, hb⟩
    obtain ⟨ah, nh, ch, bh, mh, dh, rfl, rfl, Qh⟩ := R.opens
    have G := G.later hb
    have Qr := Qr.later hb
    have tr := tr.later hb
    have Qd := Qd.later hb
    have td := td.later hb
    have hB := hB.trans (hb.mono hB.size)
    have hal := alloc_below (w := w12) (.cells #[.bool sh, .slice ah nh ch, .slice bh mh dh] 25)
    have th := st_new w12 (.bool sh) (.slice ah nh ch) (.slice bh mh dh) 25
    have lttr := tr.lt
    have lttd := td.lt
    have G := G.later hal
    have Qr := Qr.later hal
    have tr := tr.later hal
    have Qd := Qd.later hal
    have td := td.later hal
    have Qh := Qh.later hal
    have hB := hB.trans (hal.mono hB.size)
    clear hal hb R hMu
    clear x00 x01 x02
    clear td Qd
    obtain ⟨x00, x01, x02⟩ := tr.cells
    obtain ⟨x10, x11, x12⟩ := th.cells
    go_wp2_with (go_at_call 10; refine (num7_same _ _).mono ?_; rintro e wz ⟨rfl, rfl⟩)
    obtain ⟨gh, hgh⟩ : ∃ gh, gh = w12.heap.size := ⟨_, rfl⟩
    rw [← hgh] at th
    rw [← hgh]
    generalize w12.alloc (.cells #[.bool sh, .slice ah nh ch, .slice bh mh dh] 25) = w13 at *
    clear hgh
    refine (rSub_ok Qr Qh zM zE (by omega)).mono ?_
    rintro e w14 ⟨sl, u1, u2, rfl, R, zl, hb⟩
    obtain ⟨al, nl, cl, bl, ml, dl, rfl, rfl, Ql⟩ := R.opens
    have G := G.later hb
    have Qr := Qr.later hb
    have tr := tr.later hb
    have Qh := Qh.later hb
    have th := th.later hb
    have hB := hB.trans (hb.mono hB.size)
    have hal := alloc_below (w := w14) (.cells #[.bool sl, .slice al nl cl, .slice bl ml dl] 25)
    have tl := st_new w14 (.bool sl) (.slice al nl cl) (.slice bl ml dl) 25
    have lttr := tr.lt
    have ltth := th.lt
    have G := G.later hal
    have Qr := Qr.later hal
    have tr := tr.later hal
    have Qh := Qh.later hal
    have th := th.later hal
    have Ql := Ql.later hal
    have hB := hB.trans (hal.mono hB.size)
    clear hal hb R
    clear x00 x01 x02 x10 x11 x12
    obtain ⟨x00, x01, x02⟩ := tr.cells
    obtain ⟨x10, x11, x12⟩ := th.cells
    go_wp2_with (go_at_call 10; refine (num7_same _ _).mono ?_; rintro e wz ⟨rfl, rfl⟩)
    obtain ⟨gl, hgl⟩ : ∃ gl, gl = w14.heap.size := ⟨_, rfl⟩
    rw [← hgl] at tl
    rw [← hgl]
    generalize w14.alloc (.cells #[.bool sl, .slice al nl cl, .slice bl ml dl] 25) = w15 at *
    clear hgl
    refine (rAdd_ok Qr Qh zM zE (by omega)).mono ?_
    rintro e w16 ⟨sk, u1, u2, rfl, R, zk, hb⟩
    obtain ⟨ak, nk, ck, bk, mk, dk, rfl, rfl, Qk⟩ := R.opens
    have G := G.later hb
    have Qr := Qr.later hb
    have tr := tr.later hb
    have Qh := Qh.later hb
    have th := th.later hb
    have Ql := Ql.later hb
    have tl := tl.later hb
    have hB := hB.trans (hb.mono hB.size)
    have hal := alloc_below (w := w16) (.cells #[.bool sk, .slice ak nk ck, .slice bk mk dk] 25)
    have tk := st_new w16 (.bool sk) (.slice ak nk ck) (.slice bk mk dk) 25
    have lttr := tr.lt
    have ltth := th.lt
    have lttl := tl.lt
    have G := G.later hal
    have Qr := Qr.later hal
    have tr := tr.later hal
    have Qh := Qh.later hal
    have th := th.later hal
    have Ql := Ql.later hal
    have tl := tl.later hal
    have Qk := Qk.later hal
    have hB := hB.trans (hal.mono hB.size)
    clear hal hb R
    clear x00 x01 x02 x10 x11 x12
    clear tr Qr th Qh
    obtain ⟨x00, x01, x02⟩ := tl.cells
    have hsl : Hid (sl = _) := Ql.sgn
    go_wp2_with (go_at_call 10; refine (num7_same _ _).mono ?_; rintro e wz ⟨rfl, rfl⟩)
    obtain ⟨gk, hgk⟩ : ∃ gk, gk = w16.heap.size := ⟨_, rfl⟩
    rw [← hgk] at tk
    rw [← hgk]
    generalize w16.alloc (.cells #[.bool sk, .slice ak nk ck, .slice bk mk dk] 25) = w17 at *
    clear hgk
    refine (nearRat_ok (mode := 0) Ql zl (by omega) (by omega) (by omega) G).mono ?_
    rintro e w18 ⟨vy, Ex, rfl, hx, ux, hb⟩
    obtain ⟨rfl, rfl⟩ := rL _ _ _ hsl.out hx
    have G := G.later hb
    have Ql := Ql.later hb
    have tl := tl.later hb
    have Qk := Qk.later hb
    have tk := tk.later hb
    have hB := hB.trans (hb.mono hB.size)
    clear hb hx ux hsl
    clear x00 x01 x02
    obtain ⟨x00, x01, x02⟩ := tk.cells
    have hsk : Hid (sk = _) := Qk.sgn
    go_wp2_with (go_at_call 10; refine (num7_same _ _).mono ?_; rintro e wz ⟨rfl, rfl⟩)
    refine (nearRat_ok (mode := 0) Qk zk (by omega) (by omega) (by omega) G).mono ?_
    rintro e w19 ⟨vz, Ex, rfl, hx, ux, hb⟩
    obtain ⟨rfl, rfl⟩ := rR _ _ _ hsk.out hx
    have G := G.later hb
    have Ql := Ql.later hb
    have tl := tl.later hb
    have Qk := Qk.later hb
    have tk := tk.later hb
    have hB := hB.trans (hb.mono hB.size)
    clear hb hx ux hsk
    clear x00 x01 x02
    go_wp2_with (first | (go_at_call 10; refine (num7_same _ _).mono ?_; rintro e wz ⟨rfl, rfl⟩) | (go_at_call 20; refine (alike7_same _ _).mono ?_; rintro e wz ⟨rfl, rfl⟩))
    go_ret
    exact ⟨rfl, hB⟩
set_option maxHeartbeats 3200000 in
set_option maxRecDepth 100000 in
theorem middles_inf {b : Int} (hu : U b) (hf : ef b = 2047) (w : World) :
    Calls Tryz.prog 4 #[.int .u64 b] w fun e w' => e = .returned (.bool true) ∧ Below w.heap.size w w' := by
  have f3 := fun w => nearMid_inf hu hf w
  have hc := fun w => f6Class_any hu w
  obtain ⟨C, hC⟩ : ∃ C, C = clsW b := ⟨_, rfl⟩
  have hC2 : decide (C > 2) = true := by rw [hC]; rcases cls_of b with ⟨_, h, _⟩ | ⟨h, _⟩ | ⟨h, _⟩ <;> first | exact absurd hf h | (rcases h with h | h <;> rw [h] <;> decide)
  have hC3 : decide (2 < C) = true := hC2
  rw [← hC] at hc
  clear hC hf
  go_enter Tryz.func4, Tryz.ntmps4
  go_wp2_with fail
  refine (hc _).mono ?_
  rintro e w5 ⟨rfl, rfl⟩
  go_wp2_with fail
  refine (f3 _).mono ?_
  rintro e w5 ⟨rfl, hB⟩
  have hal := alloc_below (w := w5) (.cells #[.bool false, .slice none 0 0, .slice none 0 0] 25)
  have hB := hB.trans (hal.mono hB.size)
  clear hal f3 hc
  go_wp2_with (go_at_call 10; refine (num7_same _ _).mono ?_; rintro e wz ⟨rfl, rfl⟩)
  go_ret
  exact ⟨rfl, hB⟩
set_option maxHeartbeats 3200000 in
set_option maxRecDepth 100000 in
theorem middles_most {w : World} (G : GrVar w) :
    Calls Tryz.prog 4 #[.int .u64 9218868437227405311] w fun e w' => e = .returned (.bool true) ∧ Below w.heap.size w w' := by
  have f3 := fun w => nearMid_most w
  have hc := fun w => f6Class_any (b := 9218868437227405311) (by unfold U; omega) w
  have hC : clsW 9218868437227405311 = 2 := by decide
  rw [hC] at hc
  have hfx := fixed_any G
  clear hC
  go_enter Tryz.func4, Tryz.ntmps4
  go_wp2_with fail
  refine (hc _).mono ?_
  rintro e w5 ⟨rfl, rfl⟩
  go_wp2_with fail
  refine hfx.mono ?_
  rintro e w6 ⟨rfl, hB⟩
  go_wp2_with fail
  refine (f3 _).mono ?_
  rintro e w5 ⟨rfl, hb⟩
  have hB := hB.trans (hb.mono hB.size)
  have hal := alloc_below (w := w5) (.cells #[.bool false, .slice none 0 0, .slice none 0 0] 25)
  have hB := hB.trans (hal.mono hB.size)
  clear hal hb f3 hc hfx
  go_wp2_with (go_at_call 10; refine (num7_same _ _).mono ?_; rintro e wz ⟨rfl, rfl⟩)
  go_ret
  exact ⟨rfl, hB⟩
theorem middles_walk {b : Int} {w : World} (hb : 0 ≤ b ∧ b < 18446744073709551616) (hG : GrVar w) :
    Calls Tryz.prog 4 #[.int .u64 b] w fun e w' => e = .returned (.bool true) ∧ Below w.heap.size w w' := by
  have hu : U b := hb
  by_cases hf : ef b = 2047
  · exact middles_inf hu hf w
  · by_cases hm : b = mostP
    · rw [hm]; exact middles_most hG
    · exact middles_fin hu hf hm hG
end Go.Proofs.YtildkknpbpdnnabGreatDoor
