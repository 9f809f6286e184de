/- RatHuge: the walk. -/
import Derived.Test.YtopcdpeepchgfabRatJ
import Derived.Test.YtopcdpeepchgfabRatN
import Derived.Test.YtopcdpeepchgfabRatFloW
namespace Go.Proofs.Ytopcdpeepchgfab
open Go.ChangeShapes Go.WideShapes Go.ChangeAt Go.RowKit
open Na Ar
set_option linter.unusedVariables false
section
variable {w : World} {k : Int} {b1 : Bool}
set_option maxHeartbeats 102400000 in
set_option maxRecDepth 100000 in
theorem huge_walk (hk : -9223372036854775808 ≤ k ∧ k ≤ 9223372036854775807) :
    Calls Try.prog 7 #[.int .i64 k, .bool b1] w fun e w' => e = .returned (.bool true) ∧ Below w.heap.size w w' := by
  have hnot : ∀ (x : Bool) (w : World), (Op.unary .not (.bool x)).run Try.prog w = .ok (.bool (!x)) w := fun _ _ => rfl
  obtain ⟨i_u64, hi_u64, hz0_u64, hz1_u64, hz2_u64⟩ := info_parts info_u64
  have HB := Below.refl w.heap.size w
  go_enter Try.func7, Try.ntmps7
  go_wp2_with fail
  refine (into5_any k 60 hk.1 hk.2 (by omega) (by omega) _).mono ?_
  rintro e v0 ⟨r, rfl, hr, rfl⟩
  obtain ⟨T, P, M, HF⟩ := huge_facts hr
  have HH : Hid _ := HF
  clear hk HF
  have hl0 := alloc_below (w := w) (.cells #[.int .u64 1] 31)
  have ro0 := rowC_one (w) 1 31
  have hl := hl0
  go_wp2_with fail
  refine (shlT ro0 (Nm.one (x := 1) (by omega)) (t := 262143 - r) (T := 262143 - (r : Int)) (by omega) (by omega) (one_pow_lt (by omega)) (by omega)).mono ?_
  rintro e v1 ⟨aT, nT, cT, lt, rfl, rT, nmT, eT, hbM⟩
  rw [← HH.out.1] at nmT
  have kT : nT ≤ 4096 := by rw [← rT.1.1, eT.out, ← HH.out.1]; exact HH.out.2.2.2.2.2.1.len
  clear eT hl0 ro0
  have hbN := hl.trans (hbM.mono hl.size)
  clear hbM hl
  replace HB := HB.trans (hbN.mono HB.size)
  clear hbN
  have zH := Sz.mkR (s := b1) HH.out.2.2.2.2.2.1 (lt_one.mono (show 1 ≤ 4096 by omega)) (by omega)
  have zG := Sz.mkR (s := !b1) HH.out.2.2.2.2.2.1 (lt_one.mono (show 1 ≤ 4096 by omega)) (by omega)
  have hl0 := alloc_below (w := v1) (.cells #[.int .u64 1] 31)
  have ro0 := rowC_one (v1) 1 31
  have hl := hl0
  go_wp2_with fail
  refine (rNew_ok (neg := b1) (rT.later hl) ro0 nmT (Nm.one (x := 1) (by omega)) (by omega) HH.out.2.2.2.2.2.1 (lt_one.mono (by omega)) (by omega) (by omega)).mono ?_
  rintro e v2 ⟨sH, q1, q2, rfl, hRH, hbM⟩
  clear ro0 hl0
  have hbN := hl.trans (hbM.mono hl.size)
  clear hbM hl
  obtain ⟨aH, nH, cH, bH, mH, dH, rfl, rfl, hH⟩ := hRH.opens
  have hal := alloc_below (w := v2) (.cells #[.bool sH, .slice aH nH cH, .slice bH mH dH] 47)
  have tH := st_new v2 (.bool sH) (.slice aH nH cH) (.slice bH mH dH) 47
  replace rT := (rT.later hbN).later hal
  replace HB := HB.trans (hbN.mono HB.size)
  replace HB := HB.trans (hal.mono HB.size)
  replace hH := hH.later hal
  clear hbN hal hRH
  have hl0 := alloc_below (w := v2.alloc (.cells #[.bool sH, .slice aH nH cH, .slice bH mH dH] 47)) (.cells #[.int .u64 1] 31)
  have ro0 := rowC_one (v2.alloc (.cells #[.bool sH, .slice aH nH cH, .slice bH mH dH] 47)) 1 31
  rw [show (v2.alloc (.cells #[.bool sH, .slice aH nH cH, .slice bH mH dH] 47)).heap.size = v2.heap.size + 1 by simp] at ro0
  have hl := hl0
  go_wp2_with fail
  refine (rNew_ok (neg := (!b1)) (rT.later hl) ro0 nmT (Nm.one (x := 1) (by omega)) (by omega) HH.out.2.2.2.2.2.1 (lt_one.mono (by omega)) (by omega) (by omega)).mono ?_
  rintro e v3 ⟨sG, q1, q2, rfl, hRG, hbM⟩
  clear ro0 hl0
  have hbN := hl.trans (hbM.mono hl.size)
  clear hbM hl
  obtain ⟨aG, nG, cG, bG, mG, dG, rfl, rfl, hG⟩ := hRG.opens
  have hal := alloc_below (w := v3) (.cells #[.bool sG, .slice aG nG cG, .slice bG mG dG] 47)
  have tG := st_new v3 (.bool sG) (.slice aG nG cG) (.slice bG mG dG) 47
  replace hH := (hH.later hbN).later hal
  replace tH := (tH.later hbN).later hal
  replace rT := (rT.later hbN).later hal
  replace HB := HB.trans (hbN.mono HB.size)
  replace HB := HB.trans (hal.mono HB.size)
  replace hG := hG.later hal
  clear hbN hal hRG
  go_wp2_with fail
  refine (alive5_any _).mono ?_
  rintro e v4 ⟨rfl, hbN⟩
  replace hH := hH.later hbN
  replace tH := tH.later hbN
  replace hG := hG.later hbN
  replace tG := tG.later hbN
  replace rT := rT.later hbN
  replace HB := HB.trans (hbN.mono HB.size)
  clear hbN
  obtain ⟨eH0, eH1, eH2⟩ := tH.cells
  go_wp2_with fail
  refine (check_ok hH zH (by omega)).mono ?_
  rintro e v5 ⟨rfl, hbN⟩
  clear eH0 eH1 eH2
  replace hH := hH.later hbN
  replace tH := tH.later hbN
  replace hG := hG.later hbN
  replace tG := tG.later hbN
  replace rT := rT.later hbN
  replace HB := HB.trans (hbN.mono HB.size)
  clear hbN
  have hl0 := alloc_below (w := v5) (.cells #[.int .u64 1] 31)
  have ro0 := rowC_one (v5) 1 31
  have hl := hl0
  have lP1 : Lt (1 * 2 ^ (r + 1)) 1 := by rw [← HH.out.2.1]; exact Lt.word ⟨Int.le_of_lt HH.out.2.2.2.1, HH.out.2.2.2.2.1⟩
  go_wp2_with fail
  refine (shlT ro0 (Nm.one (x := 1) (by omega)) (t := r + 1) (T := (r : Int) + 1) (by omega) (by omega) lP1 (by omega)).mono ?_
  rintro e v6 ⟨aP, nP, cP, lp, rfl, rP, nmP, eP, hbM⟩
  rw [← HH.out.2.1] at nmP eP lP1
  have kP : nP ≤ 1 := by rw [← rP.1.1, eP.out]; exact lP1.len
  clear eP hl0 ro0 rT nmT kT
  have hbN := hl.trans (hbM.mono hl.size)
  clear hbM hl
  replace hH := hH.later hbN
  replace tH := tH.later hbN
  replace hG := hG.later hbN
  replace tG := tG.later hbN
  replace HB := HB.trans (hbN.mono HB.size)
  clear hbN
  have zD := Sz.mkR (s := false) lP1 lt_one (by omega)
  have zF := Sz.mkR (s := false) lt_one lP1 HH.out.2.2.2.1
  have hl0 := alloc_below (w := v6) (.cells #[.int .u64 1] 31)
  have ro0 := rowC_one (v6) 1 31
  have hl := hl0
  go_wp2_with fail
  refine (rNew_ok (neg := false) (rP.later hl) ro0 nmP (Nm.one (x := 1) (by omega)) (by omega) (lP1.mono (by omega)) (lt_one.mono (by omega)) (by omega) (by omega)).mono ?_
  rintro e v7 ⟨sD, q1, q2, rfl, hRD, hbM⟩
  clear ro0 hl0
  have hbN := hl.trans (hbM.mono hl.size)
  clear hbM hl
  obtain ⟨aD, nD, cD, bD, mD, dD, rfl, rfl, hD⟩ := hRD.opens
  have hal := alloc_below (w := v7) (.cells #[.bool sD, .slice aD nD cD, .slice bD mD dD] 47)
  have tD := st_new v7 (.bool sD) (.slice aD nD cD) (.slice bD mD dD) 47
  replace hH := (hH.later hbN).later hal
  replace tH := (tH.later hbN).later hal
  replace hG := (hG.later hbN).later hal
  replace tG := (tG.later hbN).later hal
  replace rP := (rP.later hbN).later hal
  replace HB := HB.trans (hbN.mono HB.size)
  replace HB := HB.trans (hal.mono HB.size)
  replace hD := hD.later hal
  clear hbN hal hRD
  have hl0 := alloc_below (w := v7.alloc (.cells #[.bool sD, .slice aD nD cD, .slice bD mD dD] 47)) (.cells #[.int .u64 1] 31)
  have ro0 := rowC_one (v7.alloc (.cells #[.bool sD, .slice aD nD cD, .slice bD mD dD] 47)) 1 31
  rw [show (v7.alloc (.cells #[.bool sD, .slice aD nD cD, .slice bD mD dD] 47)).heap.size = v7.heap.size + 1 by simp] at ro0
  have hl := hl0
  go_wp2_with fail
  refine (rNew_ok (neg := false) ro0 (rP.later hl) (Nm.one (x := 1) (by omega)) nmP HH.out.2.2.2.1 (lt_one.mono (by omega)) (lP1.mono (by omega)) (by omega) (by omega)).mono ?_
  rintro e v8 ⟨sF, q1, q2, rfl, hRF, hbM⟩
  clear ro0 hl0
  have hbN := hl.trans (hbM.mono hl.size)
  clear hbM hl
  obtain ⟨aF, nF, cF, bF, mF, dF, rfl, rfl, hF⟩ := hRF.opens
  have hal := alloc_below (w := v8) (.cells #[.bool sF, .slice aF nF cF, .slice bF mF dF] 47)
  have tF := st_new v8 (.bool sF) (.slice aF nF cF) (.slice bF mF dF) 47
  replace hH := (hH.later hbN).later hal
  replace tH := (tH.later hbN).later hal
  replace hG := (hG.later hbN).later hal
  replace tG := (tG.later hbN).later hal
  replace hD := (hD.later hbN).later hal
  replace tD := (tD.later hbN).later hal
  replace rP := (rP.later hbN).later hal
  replace HB := HB.trans (hbN.mono HB.size)
  replace HB := HB.trans (hal.mono HB.size)
  replace hF := hF.later hal
  clear hbN hal hRF
  clear rP nmP kP
  obtain ⟨hTe, hPe, hT0, hP0, hPw, lT, hTP, hT3, hTM, hM0, hMb⟩ := HH.out
  clear hTe hPe HH
  have aH := one_abs (s := b1) (Int.le_of_lt hT0)
  have aG := one_abs (s := !b1) (Int.le_of_lt hT0)
  have aD := one_abs (s := false) (Int.le_of_lt hP0)
  have aF := part_abs (s := false) hP0
  have gH := one_sgn (s := b1) (D := 1) hT0 (by omega)
  have gG := one_sgn (s := !b1) (D := 1) hT0 (by omega)
  have nD0 : mkR false P 1 ≠ 0 := fun h => by rw [h] at aD; have := aD.1; simp at this; omega
  have nF0 : mkR false 1 P ≠ 0 := fun h => by rw [h] at aF; have := aF.1; simp at this
  have eAB : mkR b1 T 1 * mkR false 1 P = mkR b1 T 1 / mkR false P 1 := by rw [Rat.div_def, half_inv hP0]
  have eA : mkR b1 T 1 * mkR false 1 P = mkR b1 M 1 := by
    rw [mul_half hP0, hTM]
    have := mkR_scale (s := b1) (A := M) (D := 1) (v := P) (by omega) hP0
    rw [Int.one_mul] at this
    exact this
  have eC : mkR b1 T 1 + mkR (!b1) T 1 = 0 := back_sum
  have sHG : sH ≠ sG := by
    rw [hH.sgn, hG.sgn, rat_neg (by omega) (by omega), rat_neg (by omega) (by omega), Int.gcd_one]
    have : T ≠ 0 := by omega
    cases b1 <;> simp [this]
  have cHG : sgnR (mkR b1 T 1) ≠ sgnR (mkR (!b1) T 1) := by rw [gH, gG]; cases b1 <;> simp
  obtain ⟨V, hV⟩ : ∃ V, ordR (mkR b1 T 1) (mkR (!b1) T 1) = V := ⟨_, rfl⟩
  have hVs : V = if b1 then -1 else 1 := by rw [← hV, sgn_cmp _ _ cHG, gH, gG]; cases b1 <;> simp
  have HVs : Hid (V = if b1 then -1 else 1) := hVs
  have z0 : sgnR (mkR b1 T 1) ≠ sgnR (((0 : Int)) : Rat) := by rw [gH]; cases b1 <;> simp [sgnR]
  have L1 : 4096 < (words (((mkR b1 T 1).num.natAbs : Int) * ((mkR false P 1).num.natAbs : Int))).length := by rw [aH.1, aD.1]; exact dig_len_ge hTP
  have L2 : 4096 < (words (((mkR b1 T 1).num.natAbs : Int) * ((mkR false 1 P).den : Int))).length := by rw [aH.1, aF.2]; exact dig_len_ge hTP
  have N1 : Lt (((mkR b1 T 1).num.natAbs : Int) * ((mkR false 1 P).num.natAbs : Int)) 4096 := by rw [aH.1, aF.1, Int.mul_one]; exact lT
  have N2 : Lt (((mkR b1 T 1).den : Int) * ((mkR false 1 P).den : Int)) 4096 := by rw [aH.2, aF.2, Int.one_mul]; exact lP1.mono (by omega)
  have N3 : Lt (((mkR b1 T 1).num.natAbs : Int) * ((mkR false P 1).den : Int)) 4096 := by rw [aH.1, aD.2, Int.mul_one]; exact lT
  have N4 : Lt (((mkR b1 T 1).den : Int) * ((mkR false P 1).num.natAbs : Int)) 4096 := by rw [aH.2, aD.1, Int.one_mul]; exact lP1.mono (by omega)
  have N5 : Lt (((mkR b1 T 1).num.natAbs : Int) * ((mkR (!b1) T 1).den : Int)) 4096 := by rw [aH.1, aG.2, Int.mul_one]; exact lT
  have N6 : Lt (((mkR (!b1) T 1).num.natAbs : Int) * ((mkR b1 T 1).den : Int)) 4096 := by rw [aH.2, aG.1, Int.mul_one]; exact lT
  have N7 : Lt (((mkR b1 T 1).den : Int) * ((mkR (!b1) T 1).den : Int)) 4096 := by rw [aH.2, aG.2, Int.mul_one]; exact lt_one.mono (by omega)
  have zJ := Sz.mkR (s := b1) lt_one (Lt.word (x := 9223372036854775809) (by omega)) (by omega)
  have aJ := part_abs (s := b1) (N := 9223372036854775809) (by omega)
  have gJ := one_sgn (s := b1) (N := 1) (D := 9223372036854775809) (by omega) (by omega)
  have L3 : 4096 < (words (((mkR b1 T 1).num.natAbs : Int) * ((mkR b1 1 9223372036854775809).den : Int))).length := by rw [aH.1, aJ.2]; exact dig_len_ge hT3
  have cHJ : sgnR (mkR b1 T 1) = sgnR (mkR b1 1 9223372036854775809) := by rw [gH, gJ]
  have aM := one_abs (s := b1) (Int.le_of_lt hM0)
  have lM := (one_abs (s := b1) (Int.le_of_lt hM0)).1
  rw [← eA] at lM
  have HMb : Hid (bitsN M = 262143 - 2 * (r : Int)) := hMb
  clear aH aG aD aF gH gG gJ aJ aM hVs lT lP1 hTP hT3 hTM hMb
  obtain ⟨eH0, eH1, eH2⟩ := tH.cells
  obtain ⟨eD0, eD1, eD2⟩ := tD.cells
  go_wp2_with fail
  refine (rMul_long hH hD zH zD (by omega) (by omega) L1).mono ?_
  rintro e v9 ⟨rfl, hbN⟩
  clear eH0 eH1 eH2
  clear eD0 eD1 eD2
  have hal := alloc_below (w := v9) (.cells #[.bool false, .slice none 0 0, .slice none 0 0] 47)
  replace hH := (hH.later hbN).later hal
  replace tH := (tH.later hbN).later hal
  replace hG := (hG.later hbN).later hal
  replace tG := (tG.later hbN).later hal
  replace hD := (hD.later hbN).later hal
  replace tD := (tD.later hbN).later hal
  replace hF := (hF.later hbN).later hal
  replace tF := (tF.later hbN).later hal
  replace HB := HB.trans (hbN.mono HB.size)
  replace HB := HB.trans (hal.mono HB.size)
  clear hbN hal
  obtain ⟨eH0, eH1, eH2⟩ := tH.cells
  obtain ⟨eF0, eF1, eF2⟩ := tF.cells
  go_wp2_with fail
  refine (rDiv_long hH hF zH zF (by omega) (by omega) L2 nF0).mono ?_
  rintro e v10 ⟨rfl, hbN⟩
  clear eH0 eH1 eH2
  clear eF0 eF1 eF2
  have hal := alloc_below (w := v10) (.cells #[.bool false, .slice none 0 0, .slice none 0 0] 47)
  replace hH := (hH.later hbN).later hal
  replace tH := (tH.later hbN).later hal
  replace hG := (hG.later hbN).later hal
  replace tG := (tG.later hbN).later hal
  replace hD := (hD.later hbN).later hal
  replace tD := (tD.later hbN).later hal
  replace hF := (hF.later hbN).later hal
  replace tF := (tF.later hbN).later hal
  replace HB := HB.trans (hbN.mono HB.size)
  replace HB := HB.trans (hal.mono HB.size)
  clear hbN hal
  obtain ⟨eH0, eH1, eH2⟩ := tH.cells
  obtain ⟨eF0, eF1, eF2⟩ := tF.cells
  go_wp2_with fail
  refine (rAdd_long hH hF zH zF (by omega) (by omega) L2).mono ?_
  rintro e v11 ⟨rfl, hbN⟩
  clear eH0 eH1 eH2
  clear eF0 eF1 eF2
  have hal := alloc_below (w := v11) (.cells #[.bool false, .slice none 0 0, .slice none 0 0] 47)
  replace hH := (hH.later hbN).later hal
  replace tH := (tH.later hbN).later hal
  replace hG := (hG.later hbN).later hal
  replace tG := (tG.later hbN).later hal
  replace hD := (hD.later hbN).later hal
  replace tD := (tD.later hbN).later hal
  replace hF := (hF.later hbN).later hal
  replace tF := (tF.later hbN).later hal
  replace HB := HB.trans (hbN.mono HB.size)
  replace HB := HB.trans (hal.mono HB.size)
  clear hbN hal
  go_upto_region 15 with (fail)
  obtain ⟨z12, hz⟩ : ∃ z, z = v11.alloc (.cells #[.bool false, .slice none 0 0, .slice none 0 0] 47) := ⟨_, rfl⟩
  rw [← hz] at hH tH hG tG hD tD hF tF HB ⊢
  clear hz
  obtain ⟨rH, hrH⟩ : ∃ r, r = v2.heap.size := ⟨_, rfl⟩
  rw [← hrH] at tH ⊢
  have HrH : Hid (rH = v2.heap.size) := hrH
  clear hrH
  have hcl : ∀ w1, Below z12.heap.size z12 w1 → w1.cell? ⟨rH, 0, none⟩ = some (.bool sH) ∧ w1.cell? ⟨rH, 1, none⟩ = some (.slice aH nH cH) ∧ w1.cell? ⟨rH, 2, none⟩ = some (.slice bH mH dH) := fun w1 h => (tH.later h).cells
  obtain ⟨x0, x1, x2⟩ := hcl z12 (Below.refl _ _)
  have fI := fun w1 h => int_at (v := 0) (w0 := z12) (w1 := w1) h (by omega) (by omega)
  have zI := sz_int (v := 0) (by decide)
  go_region_held3 (fun w' => w'.cell? ⟨rH, 0, none⟩ = some (.bool sH) ∧ w'.cell? ⟨rH, 1, none⟩ = some (.slice aH nH cH) ∧ w'.cell? ⟨rH, 2, none⟩ = some (.slice bH mH dH)) (go_keep) (first | (go_at_call 36; refine (fI _ (by first | exact Below.refl _ _ | exact below_drewN (Below.refl _ _) _)).mono ?_; rintro e yI ⟨sI, aI, nI, cI, bI, mI, dI, rfl, hI, hBI, hbI⟩; obtain ⟨x0, x1, x2⟩ := hcl yI hBI) | (go_at_call 43; refine (rCmp_d (hH.later hBI) hI zH zI (by omega) (by omega) z0 rfl).mono ?_; rintro e yC ⟨rfl, hbC⟩; have hBC := hBI.trans (hbC.mono hBI.size); obtain ⟨x0, x1, x2⟩ := hcl yC hBC))
  have hbN := hBC
  rw [HrH.out] at tH ⊢
  clear hcl HrH x0 x1 x2 fI zI z0
  generalize ordR (mkR b1 T 1) (((0 : Int)) : Rat) = V0 at *
  replace hH := hH.later hbN
  replace tH := tH.later hbN
  replace hG := hG.later hbN
  replace tG := tG.later hbN
  replace hD := hD.later hbN
  replace tD := tD.later hbN
  replace hF := hF.later hbN
  replace tF := tF.later hbN
  replace HB := HB.trans (hbN.mono HB.size)
  clear hbN
  obtain ⟨eH0, eH1, eH2⟩ := tH.cells
  obtain ⟨eF0, eF1, eF2⟩ := tF.cells
  go_wp2_with fail
  refine (rMul_w hH hF zH zF (by omega) (by omega) N1 N2 (by omega)).mono ?_
  rintro e v13 ⟨sA, q1, q2, rfl, hRA, zA, hbN⟩
  clear eH0 eH1 eH2
  clear eF0 eF1 eF2
  obtain ⟨aA, nA, cA, bA, mA, dA, rfl, rfl, hA⟩ := hRA.opens
  have hal := alloc_below (w := v13) (.cells #[.bool sA, .slice aA nA cA, .slice bA mA dA] 47)
  have tA := st_new v13 (.bool sA) (.slice aA nA cA) (.slice bA mA dA) 47
  replace hH := (hH.later hbN).later hal
  replace tH := (tH.later hbN).later hal
  replace hG := (hG.later hbN).later hal
  replace tG := (tG.later hbN).later hal
  replace hD := (hD.later hbN).later hal
  replace tD := (tD.later hbN).later hal
  replace hF := (hF.later hbN).later hal
  replace tF := (tF.later hbN).later hal
  replace HB := HB.trans (hbN.mono HB.size)
  replace HB := HB.trans (hal.mono HB.size)
  replace hA := hA.later hal
  clear hbN hal hRA
  obtain ⟨eH0, eH1, eH2⟩ := tH.cells
  obtain ⟨eD0, eD1, eD2⟩ := tD.cells
  go_wp2_with fail
  refine (rDiv_w hH hD zH zD (by omega) (by omega) N3 N4 (by omega) nD0).mono ?_
  rintro e v14 ⟨sB, q1, q2, rfl, hRB, zB, hbN⟩
  clear eH0 eH1 eH2
  clear eD0 eD1 eD2
  obtain ⟨aB, nB, cB, bB, mB, dB, rfl, rfl, hB⟩ := hRB.opens
  have hal := alloc_below (w := v14) (.cells #[.bool sB, .slice aB nB cB, .slice bB mB dB] 47)
  have tB := st_new v14 (.bool sB) (.slice aB nB cB) (.slice bB mB dB) 47
  replace hH := (hH.later hbN).later hal
  replace tH := (tH.later hbN).later hal
  replace hG := (hG.later hbN).later hal
  replace tG := (tG.later hbN).later hal
  replace hD := (hD.later hbN).later hal
  replace tD := (tD.later hbN).later hal
  replace hF := (hF.later hbN).later hal
  replace tF := (tF.later hbN).later hal
  replace hA := (hA.later hbN).later hal
  replace tA := (tA.later hbN).later hal
  replace HB := HB.trans (hbN.mono HB.size)
  replace HB := HB.trans (hal.mono HB.size)
  replace hB := hB.later hal
  clear hbN hal hRB
  obtain ⟨eH0, eH1, eH2⟩ := tH.cells
  obtain ⟨eG0, eG1, eG2⟩ := tG.cells
  go_wp2_with fail
  refine (rAdd_w hH hG zH zG (by omega) (by omega) N5 N6 N7 (by omega) sHG).mono ?_
  rintro e v15 ⟨sC, q1, q2, rfl, hRC, zC, hbN⟩
  clear eH0 eH1 eH2
  clear eG0 eG1 eG2
  obtain ⟨aC, nC, cC, bC, mC, dC, rfl, rfl, hC⟩ := hRC.opens
  have hal := alloc_below (w := v15) (.cells #[.bool sC, .slice aC nC cC, .slice bC mC dC] 47)
  have tC := st_new v15 (.bool sC) (.slice aC nC cC) (.slice bC mC dC) 47
  replace hH := (hH.later hbN).later hal
  replace tH := (tH.later hbN).later hal
  replace hG := (hG.later hbN).later hal
  replace tG := (tG.later hbN).later hal
  replace hD := (hD.later hbN).later hal
  replace tD := (tD.later hbN).later hal
  replace hF := (hF.later hbN).later hal
  replace tF := (tF.later hbN).later hal
  replace hA := (hA.later hbN).later hal
  replace tA := (tA.later hbN).later hal
  replace hB := (hB.later hbN).later hal
  replace tB := (tB.later hbN).later hal
  replace HB := HB.trans (hbN.mono HB.size)
  replace HB := HB.trans (hal.mono HB.size)
  replace hC := hC.later hal
  clear hbN hal hRC
  obtain ⟨eH0, eH1, eH2⟩ := tH.cells
  obtain ⟨eG0, eG1, eG2⟩ := tG.cells
  go_wp2_with fail
  refine (rCmp_d hH hG zH zG (by omega) (by omega) cHG hV).mono ?_
  rintro e v16 ⟨rfl, hbN⟩
  clear eH0 eH1 eH2
  clear eG0 eG1 eG2
  replace hH := hH.later hbN
  replace tH := tH.later hbN
  replace hG := hG.later hbN
  replace tG := tG.later hbN
  replace hD := hD.later hbN
  replace tD := tD.later hbN
  replace hF := hF.later hbN
  replace tF := tF.later hbN
  replace hA := hA.later hbN
  replace tA := tA.later hbN
  replace hB := hB.later hbN
  replace tB := tB.later hbN
  replace hC := hC.later hbN
  replace tC := tC.later hbN
  replace HB := HB.trans (hbN.mono HB.size)
  clear hbN
  have hl0 := alloc_below (w := v16) (.cells #[.int .u64 1] 31)
  have ro0 := rowC_one (v16) 1 31
  have hl1 := alloc_below (w := (v16).alloc (.cells #[.int .u64 1] 31)) (.cells #[.int .u64 9223372036854775809] 31)
  have ro1 := rowC_one ((v16).alloc (.cells #[.int .u64 1] 31)) 9223372036854775809 31
  rw [show ((v16).alloc (.cells #[.int .u64 1] 31)).heap.size = v16.heap.size + 1 by simp] at ro1
  have hl := hl0.trans (hl1.mono hl0.size)
  replace ro0 := ro0.later hl1
  go_wp2_with fail
  refine (rNew_ok (neg := b1) ro0 ro1 (Nm.one (x := 1) (by omega)) (Nm.one (x := 9223372036854775809) (by omega)) (by omega) (lt_one.mono (by omega)) ((Lt.word (x := 9223372036854775809) (by omega)).mono (by omega)) (by omega) (by omega)).mono ?_
  rintro e v17 ⟨sJ, q1, q2, rfl, hRJ, hbM⟩
  clear ro0 ro1 hl0 hl1
  have hbN := hl.trans (hbM.mono hl.size)
  clear hbM hl
  obtain ⟨aJ, nJ, cJ, bJ, mJ, dJ, rfl, rfl, hJ⟩ := hRJ.opens
  have hal := alloc_below (w := v17) (.cells #[.bool sJ, .slice aJ nJ cJ, .slice bJ mJ dJ] 47)
  have tJ := st_new v17 (.bool sJ) (.slice aJ nJ cJ) (.slice bJ mJ dJ) 47
  replace hH := (hH.later hbN).later hal
  replace tH := (tH.later hbN).later hal
  replace hG := (hG.later hbN).later hal
  replace tG := (tG.later hbN).later hal
  replace hD := (hD.later hbN).later hal
  replace tD := (tD.later hbN).later hal
  replace hF := (hF.later hbN).later hal
  replace tF := (tF.later hbN).later hal
  replace hA := (hA.later hbN).later hal
  replace tA := (tA.later hbN).later hal
  replace hB := (hB.later hbN).later hal
  replace tB := (tB.later hbN).later hal
  replace hC := (hC.later hbN).later hal
  replace tC := (tC.later hbN).later hal
  replace HB := HB.trans (hbN.mono HB.size)
  replace HB := HB.trans (hal.mono HB.size)
  replace hJ := hJ.later hal
  clear hbN hal hRJ
  obtain ⟨eH0, eH1, eH2⟩ := tH.cells
  obtain ⟨eJ0, eJ1, eJ2⟩ := tJ.cells
  go_wp2_with fail
  refine (rCmp_long hH hJ zH zJ (by omega) (by omega) L3 cHJ).mono ?_
  rintro e v18 ⟨rfl, hbN⟩
  clear eH0 eH1 eH2
  clear eJ0 eJ1 eJ2
  replace hH := hH.later hbN
  replace tH := tH.later hbN
  replace hG := hG.later hbN
  replace tG := tG.later hbN
  replace hD := hD.later hbN
  replace tD := tD.later hbN
  replace hF := hF.later hbN
  replace tF := tF.later hbN
  replace hA := hA.later hbN
  replace tA := tA.later hbN
  replace hB := hB.later hbN
  replace tB := tB.later hbN
  replace hC := hC.later hbN
  replace tC := tC.later hbN
  replace hJ := hJ.later hbN
  replace tJ := tJ.later hbN
  replace HB := HB.trans (hbN.mono HB.size)
  clear hbN
  clear hH tH zH
  clear hG tG zG
  clear hD tD zD
  clear hF tF zF
  clear hJ tJ zJ
  go_wp2_with (at_make; refine wpList_make_full _ rfl _ _ 22 rfl v18.heap.size 31 i_u64 (.int .u64 0) 1 Try.underlying22 hi_u64 hz0_u64 hz1_u64 .i64 .i64 _ _ 4097 rfl rfl (by omega) (by omega) (by rw [hz2_u64]; omega) (by unfold maxLen; omega) (Nat.le_refl _) ?_)
  intro w5 hmade hgr
  have hown := own_zeros hmade
  have hb5 : Below v18.heap.size v18 w5 := (Below.refl _ _).grown hgr (Nat.le_refl _) (fun k hk => by cases hk)
  obtain ⟨g2, hg2⟩ : ∃ g2, g2 = v18.heap.size := ⟨_, rfl⟩
  obtain ⟨os0, hos0⟩ : ∃ os0, os0 = List.replicate 4097 (0 : Int) := ⟨_, rfl⟩
  have hown2 : Own .u64 w5 v18.heap.size 31 (.slice (some ⟨g2, 0, none⟩) 4097 4097) os0 := by rw [hg2, hos0]; exact hown
  have hlo : 4097 = os0.length := by rw [hos0, List.length_replicate]
  have nO : Nm (os0.set 4096 1) (1 * lim) := by rw [hos0]; exact nm_over ⟨by omega, by omega⟩
  rw [← hg2]
  have hce := hown2.cellAt hlo (j := 4096) (by omega)
  have hfz := hown2.frozenAt hlo 4096
  have hgb := hown2.base_le
  have rO := (hown2.set hlo 4096 1).rowA (by rw [List.length_set]; exact hlo)
  have hbN : Below v18.heap.size v18 (w5.setCell ⟨g2, 4096, none⟩ (.int .u64 1)) := hb5.setCell hgb _
  generalize hol : os0.set 4096 1 = ol at *
  generalize os0.getD 4096 0 = zz0 at *
  have bO := over_bits (w := 1) (by omega)
  have pO : 0 < 1 * lim := by rw [Int.one_mul]; exact lim_pos
  generalize 1 * lim = LO at *
  replace hA := hA.later hbN
  replace tA := tA.later hbN
  replace hB := hB.later hbN
  replace tB := tB.later hbN
  replace hC := hC.later hbN
  replace tC := tC.later hbN
  replace HB := HB.trans (hbN.mono HB.size)
  clear hmade hgr hown hos0 hown2 hlo hb5 hg2 hbN hol hgb
  obtain ⟨w6, hw6⟩ : ∃ z, z = w5.setCell ⟨g2, 4096, none⟩ (.int .u64 1) := ⟨_, rfl⟩
  go_upto_region 26 with (fail)
  rw [← hw6] at rO hA tA hB tB hC tC HB ⊢
  clear hw6 hce hfz
  have hl0 := alloc_below (w := w6) (.cells #[.int .u64 1] 31)
  have ro0 := rowC_one (w6) 1 31
  have hl := hl0
  go_wp2_with fail
  refine (rNew_top (neg := b1) (rO.later hl) ro0 nO (Nm.one (x := 1) (by omega)) (by omega) bO (by omega) (by omega)).mono ?_
  rintro e v19 ⟨rfl, hbM⟩
  clear ro0 hl0
  have hbN := hl.trans (hbM.mono hl.size)
  clear hbM hl
  have hal := alloc_below (w := v19) (.cells #[.bool false, .slice none 0 0, .slice none 0 0] 47)
  replace hA := (hA.later hbN).later hal
  replace tA := (tA.later hbN).later hal
  replace hB := (hB.later hbN).later hal
  replace tB := (tB.later hbN).later hal
  replace hC := (hC.later hbN).later hal
  replace tC := (tC.later hbN).later hal
  replace rO := (rO.later hbN).later hal
  replace HB := HB.trans (hbN.mono HB.size)
  replace HB := HB.trans (hal.mono HB.size)
  clear hbN hal
  have hl0 := alloc_below (w := v19.alloc (.cells #[.bool false, .slice none 0 0, .slice none 0 0] 47)) (.cells #[.int .u64 1] 31)
  have ro0 := rowC_one (v19.alloc (.cells #[.bool false, .slice none 0 0, .slice none 0 0] 47)) 1 31
  rw [show (v19.alloc (.cells #[.bool false, .slice none 0 0, .slice none 0 0] 47)).heap.size = v19.heap.size + 1 by simp] at ro0
  have hl := hl0
  go_wp2_with fail
  refine (rNew_low (neg := b1) ro0 (rO.later hl) (Nm.one (x := 1) (by omega)) nO pO (lt_one.mono (by omega)) bO (by omega) (by omega)).mono ?_
  rintro e v20 ⟨rfl, hbM⟩
  clear ro0 hl0
  have hbN := hl.trans (hbM.mono hl.size)
  clear hbM hl
  have hal := alloc_below (w := v20) (.cells #[.bool false, .slice none 0 0, .slice none 0 0] 47)
  replace hA := (hA.later hbN).later hal
  replace tA := (tA.later hbN).later hal
  replace hB := (hB.later hbN).later hal
  replace tB := (tB.later hbN).later hal
  replace hC := (hC.later hbN).later hal
  replace tC := (tC.later hbN).later hal
  replace rO := (rO.later hbN).later hal
  replace HB := HB.trans (hbN.mono HB.size)
  replace HB := HB.trans (hal.mono HB.size)
  clear hbN hal
  have hl0 := alloc_below (w := v20.alloc (.cells #[.bool false, .slice none 0 0, .slice none 0 0] 47)) (.cells #[.int .u64 1] 31)
  have ro0 := rowC_one (v20.alloc (.cells #[.bool false, .slice none 0 0, .slice none 0 0] 47)) 1 31
  rw [show (v20.alloc (.cells #[.bool false, .slice none 0 0, .slice none 0 0] 47)).heap.size = v20.heap.size + 1 by simp] at ro0
  have hl := hl0
  have hm2 := alloc_below (w := (v20.alloc (.cells #[.bool false, .slice none 0 0, .slice none 0 0] 47)).alloc (.cells #[.int .u64 1] 31)) (.cells #[.bool false, .slice (some ⟨g2, 0, none⟩) 4097 4097, (.slice (some ⟨v20.heap.size + 1, 0, none⟩) 1 1)] 47)
  have tL := st_new ((v20.alloc (.cells #[.bool false, .slice none 0 0, .slice none 0 0] 47)).alloc (.cells #[.int .u64 1] 31)) (.bool false) (.slice (some ⟨g2, 0, none⟩) 4097 4097) (.slice (some ⟨v20.heap.size + 1, 0, none⟩) 1 1) 47
  rw [show ((v20.alloc (.cells #[.bool false, .slice none 0 0, .slice none 0 0] 47)).alloc (.cells #[.int .u64 1] 31)).heap.size = v20.heap.size + 1 + 1 by simp] at tL
  have hbN := hl.trans (hm2.mono hl.size)
  clear ro0 hl0 hl hm2 rO nO bO pO
  replace hA := hA.later hbN
  replace tA := tA.later hbN
  replace hB := hB.later hbN
  replace tB := tB.later hbN
  replace hC := hC.later hbN
  replace tC := tC.later hbN
  replace HB := HB.trans (hbN.mono HB.size)
  clear hbN
  go_upto_if 220 with (fail)
  obtain ⟨zz, hz⟩ : ∃ z, z = ((v20.alloc (.cells #[.bool false, .slice none 0 0, .slice none 0 0] 47)).alloc (.cells #[.int .u64 1] 31)).alloc (.cells #[.bool false, .slice (some ⟨g2, 0, none⟩) 4097 4097, (.slice (some ⟨v20.heap.size + 1, 0, none⟩) 1 1)] 47) := ⟨_, rfl⟩
  rw [← hz] at hA tA hB tB hC tC tL HB ⊢
  clear hz
  obtain ⟨rA, hrA⟩ : ∃ r, r = v13.heap.size := ⟨_, rfl⟩
  rw [← hrA] at tA ⊢
  clear hrA
  obtain ⟨rB, hrB⟩ : ∃ r, r = v14.heap.size := ⟨_, rfl⟩
  rw [← hrB] at tB ⊢
  clear hrB
  obtain ⟨rC, hrC⟩ : ∃ r, r = v15.heap.size := ⟨_, rfl⟩
  rw [← hrC] at tC ⊢
  clear hrC
  have fB := fun w1 (h : Below zz.heap.size zz w1) => bitsQ (hA.nu.later h) (nm_abs zA (by omega)) (b := 262143 - 2 * (r : Int)) (by rw [lM]; exact HMb.out)
  have o0 := fun w1 (h : Below zz.heap.size zz w1) => one_any (hA.later h) (hB.later h) zA zB (by omega) (by omega) (decide_eq_true eAB)
  have fI := fun w1 h => int_at (v := 0) (w0 := zz) (w1 := w1) h (by omega) (by omega)
  have zI := sz_int (v := 0) (by decide)
  have eC2 : mkR b1 T 1 + mkR (!b1) T 1 = (((0 : Int)) : Rat) := eC
  have oC := fun w1 (h : Below zz.heap.size zz w1) sI aI nI cI bI mI dI (hI : Rt w1 sI aI nI cI bI mI dI (((0 : Int)) : Rat)) => one_any (hC.later h) hI zC zI (by omega) (by omega) (decide_eq_true eC2)
  have hcl : ∀ w1, Below zz.heap.size zz w1 → w1.cell? ⟨rA, 0, none⟩ = some (.bool sA) ∧ w1.cell? ⟨rA, 1, none⟩ = some (.slice aA nA cA) ∧ w1.cell? ⟨rA, 2, none⟩ = some (.slice bA mA dA) ∧ w1.cell? ⟨rB, 0, none⟩ = some (.bool sB) ∧ w1.cell? ⟨rB, 1, none⟩ = some (.slice aB nB cB) ∧ w1.cell? ⟨rB, 2, none⟩ = some (.slice bB mB dB) ∧ w1.cell? ⟨rC, 0, none⟩ = some (.bool sC) ∧ w1.cell? ⟨rC, 1, none⟩ = some (.slice aC nC cC) ∧ w1.cell? ⟨rC, 2, none⟩ = some (.slice bC mC dC) := fun w1 h => by
    obtain ⟨kA0, kA1, kA2⟩ := (tA.later h).cells
    obtain ⟨kB0, kB1, kB2⟩ := (tB.later h).cells
    obtain ⟨kC0, kC1, kC2⟩ := (tC.later h).cells
    exact ⟨kA0, kA1, kA2, kB0, kB1, kB2, kC0, kC1, kC2⟩
  have eBt : ((262143 - 2 * (r : Int)) == (262144 - 2 * (r : Int) - 1)) = true := beq_of (by omega)
  have wr1 : IntKind.i64.wrap (2 * (r : Int)) = 2 * (r : Int) := by rw [IntKind.wrap_i64]; omega
  have wr2 : IntKind.i64.wrap (262144 - 2 * (r : Int)) = 262144 - 2 * (r : Int) := by rw [IntKind.wrap_i64]; omega
  have wr3 : IntKind.i64.wrap (262144 - 2 * (r : Int) - 1) = 262143 - 2 * (r : Int) := by rw [IntKind.wrap_i64]; omega
  have tLz := tL.cells
  clear hA hB hC tA tB tC lM HMb eAB eA eC eC2 zA zB zC
  cases b1
  · have hV1 : V = 1 := HVs.out
    subst hV1
    clear HVs
    obtain ⟨eL0, eL1, eL2⟩ := tLz
    go_wp2_with fail
    refine (check_long (by omega)).mono ?_
    rintro e y0 ⟨rfl, hb0⟩
    obtain ⟨xA0, xA1, xA2, xB0, xB1, xB2, xC0, xC1, xC2⟩ := hcl y0 hb0
    clear eL0 eL1 eL2
    go_upto_region 34 with (fail)
    go_region_held3 (fun w' => w'.cell? ⟨rA, 0, none⟩ = some (.bool sA) ∧ w'.cell? ⟨rA, 1, none⟩ = some (.slice aA nA cA) ∧ w'.cell? ⟨rA, 2, none⟩ = some (.slice bA mA dA) ∧ w'.cell? ⟨rB, 0, none⟩ = some (.bool sB) ∧ w'.cell? ⟨rB, 1, none⟩ = some (.slice aB nB cB) ∧ w'.cell? ⟨rB, 2, none⟩ = some (.slice bB mB dB) ∧ w'.cell? ⟨rC, 0, none⟩ = some (.bool sC) ∧ w'.cell? ⟨rC, 1, none⟩ = some (.slice aC nC cC) ∧ w'.cell? ⟨rC, 2, none⟩ = some (.slice bC mC dC)) (go_keep) (first | (go_at_call_of 35 aA; refine (o0 _ (by first | exact hb0 | exact below_drewN hb0 _)).mono ?_; rintro e y1 ⟨rfl, hb1⟩; have hB1 : Below zz.heap.size zz y1 := (by first | exact hb0.trans (hb1.mono hb0.size) | exact (below_drewN hb0 1).trans (hb1.mono hb0.size)); obtain ⟨xA0, xA1, xA2, xB0, xB1, xB2, xC0, xC1, xC2⟩ := hcl y1 hB1) | (go_at_call 44; refine (fB _ hB1).mono ?_; rintro e y2 ⟨rfl, hb2⟩; have hB2 := hB1.trans (hb2.mono hB1.size); obtain ⟨xA0, xA1, xA2, xB0, xB1, xB2, xC0, xC1, xC2⟩ := hcl y2 hB2) | (go_at_call 36; refine (fI _ hB2).mono ?_; rintro e y3 ⟨sI, aI, nI, cI, bI, mI, dI, rfl, hI, hB3, hb3⟩; obtain ⟨xA0, xA1, xA2, xB0, xB1, xB2, xC0, xC1, xC2⟩ := hcl y3 hB3) | (go_at_call_of 35 aC; refine (oC _ hB3 _ _ _ _ _ _ _ hI).mono ?_; rintro e y4 ⟨rfl, hb4⟩; have hB4 := hB3.trans (hb4.mono hB3.size); obtain ⟨xA0, xA1, xA2, xB0, xB1, xB2, xC0, xC1, xC2⟩ := hcl y4 hB4))
    go_wp2
    go_ret
    exact ⟨rfl, HB.trans (hB4.mono HB.size)⟩
  · have hV1 : V = -1 := HVs.out
    subst hV1
    clear HVs
    obtain ⟨eL0, eL1, eL2⟩ := tLz
    go_wp2_with fail
    refine (check_long (by omega)).mono ?_
    rintro e y0 ⟨rfl, hb0⟩
    obtain ⟨xA0, xA1, xA2, xB0, xB1, xB2, xC0, xC1, xC2⟩ := hcl y0 hb0
    clear eL0 eL1 eL2
    go_upto_region 34 with (fail)
    go_region_held3 (fun w' => w'.cell? ⟨rA, 0, none⟩ = some (.bool sA) ∧ w'.cell? ⟨rA, 1, none⟩ = some (.slice aA nA cA) ∧ w'.cell? ⟨rA, 2, none⟩ = some (.slice bA mA dA) ∧ w'.cell? ⟨rB, 0, none⟩ = some (.bool sB) ∧ w'.cell? ⟨rB, 1, none⟩ = some (.slice aB nB cB) ∧ w'.cell? ⟨rB, 2, none⟩ = some (.slice bB mB dB) ∧ w'.cell? ⟨rC, 0, none⟩ = some (.bool sC) ∧ w'.cell? ⟨rC, 1, none⟩ = some (.slice aC nC cC) ∧ w'.cell? ⟨rC, 2, none⟩ = some (.slice bC mC dC)) (go_keep) (first | (go_at_call_of 35 aA; refine (o0 _ (by first | exact hb0 | exact below_drewN hb0 _)).mono ?_; rintro e y1 ⟨rfl, hb1⟩; have hB1 : Below zz.heap.size zz y1 := (by first | exact hb0.trans (hb1.mono hb0.size) | exact (below_drewN hb0 1).trans (hb1.mono hb0.size)); obtain ⟨xA0, xA1, xA2, xB0, xB1, xB2, xC0, xC1, xC2⟩ := hcl y1 hB1) | (go_at_call 44; refine (fB _ hB1).mono ?_; rintro e y2 ⟨rfl, hb2⟩; have hB2 := hB1.trans (hb2.mono hB1.size); obtain ⟨xA0, xA1, xA2, xB0, xB1, xB2, xC0, xC1, xC2⟩ := hcl y2 hB2) | (go_at_call 36; refine (fI _ hB2).mono ?_; rintro e y3 ⟨sI, aI, nI, cI, bI, mI, dI, rfl, hI, hB3, hb3⟩; obtain ⟨xA0, xA1, xA2, xB0, xB1, xB2, xC0, xC1, xC2⟩ := hcl y3 hB3) | (go_at_call_of 35 aC; refine (oC _ hB3 _ _ _ _ _ _ _ hI).mono ?_; rintro e y4 ⟨rfl, hb4⟩; have hB4 := hB3.trans (hb4.mono hB3.size); obtain ⟨xA0, xA1, xA2, xB0, xB1, xB2, xC0, xC1, xC2⟩ := hcl y4 hB4))
    go_wp2
    go_ret
    exact ⟨rfl, HB.trans (hB4.mono HB.size)⟩
end
end Go.Proofs.Ytopcdpeepchgfab
