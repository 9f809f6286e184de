/- RatFloor: the walk. -/
import Derived.Test.YtopcdpeepchgfabRatN
namespace Go.Proofs.Ytopcdpeepchgfab
open Go.ChangeShapes Go.WideShapes Go.ChangeAt Go.RowKit
open Na Ar
set_option linter.unusedVariables false
theorem int_at {v : Int} {w0 w1 : World} (h : Below w0.heap.size w0 w1) (h0 : -9223372036854775808 ≤ v) (h1 : v ≤ 9223372036854775807) :
    Calls Try.prog 36 #[.int .i64 v] w1 fun e w' => ∃ s a n c b m d, e = .returned (.agg #[.bool s, .slice a n c, .slice b m d]) ∧ Rt w' s a n c b m d ((v : Int) : Rat) ∧ Below w0.heap.size w0 w' ∧ Below w1.heap.size w1 w' := by
  refine (rInt_any h0 h1 w1).mono ?_
  rintro e w' ⟨s, v1, v2, rfl, hR, hb⟩
  obtain ⟨a, n, c, b, m, d, rfl, rfl, hRt⟩ := hR.opens
  exact ⟨_, _, _, _, _, _, _, rfl, hRt, h.trans (hb.mono h.size), hb⟩
theorem sz_int {v : Int} (h : v.natAbs < 18446744073709551616) : Sz ((v : Int) : Rat) 1 := by
  refine ⟨?_, ?_⟩
  · rw [Rat.num_intCast]; exact Lt.word ⟨by omega, by omega⟩
  · rw [Rat.den_intCast]; exact lt_one
section
variable {w : World} {s1 : Bool} {a1 b1 : Option Addr} {n1 c1 m1 d1 : Nat} {x1 y1 : List Int}
set_option maxHeartbeats 25600000 in
set_option maxRecDepth 100000 in
theorem floor_walk (ha1 : RowAt .u64 w a1 n1 x1) (hb1 : RowAt .u64 w b1 m1 y1) (hx1 : Ws x1) (hy1 : Ws y1) (hn1 : n1 ≤ maxLen) (hm1 : m1 ≤ maxLen) :
    Calls Try.prog 8 #[.agg #[.bool s1, .slice a1 n1 c1, .slice b1 m1 d1]] w fun e w' => e = .returned (.bool true) ∧ Below w.heap.size w w' := by
  have hnot : ∀ (x : Bool) (w : World), (Op.unary .not (.bool x)).run Try.prog w = .ok (.bool (!x)) w := fun _ _ => rfl
  have hb0 := alloc_below (w := w) (.cells #[.bool s1, .slice a1 n1 c1, .slice b1 m1 d1] 45)
  have f0 := made_any (s1 := s1) (c1 := c1) (d1 := d1) (ha1.later hb0) (hb1.later hb0) hx1 hy1 hn1 hm1
  have HB := hb0
  clear ha1 hb1 hx1 hy1 hn1 hm1 hb0
  generalize mkR s1 (pNum x1) (pDen y1) = p at *
  go_enter Try.func8, Try.ntmps8
  go_wp2_with fail
  refine f0.mono ?_
  rintro e v0 ⟨sA, u1, u2, rfl, hRA, zA, hbN⟩
  clear f0
  obtain ⟨aA, nA, cA, bA, mA, dA, rfl, rfl, hA⟩ := hRA.opens
  have hal := alloc_below (w := v0) (.cells #[.bool sA, .slice aA nA cA, .slice bA mA dA] 47)
  have tA := st_new v0 (.bool sA) (.slice aA nA cA) (.slice bA mA dA) 47
  replace HB := HB.trans (hbN.mono HB.size)
  replace HB := HB.trans (hal.mono HB.size)
  replace hA := hA.later hal
  clear hbN hal hRA
  go_wp2_with fail
  refine (alive5_any _).mono ?_
  rintro e v1 ⟨rfl, hbN⟩
  replace hA := hA.later hbN
  replace tA := tA.later hbN
  replace HB := HB.trans (hbN.mono HB.size)
  clear hbN
  obtain ⟨eA0, eA1, eA2⟩ := tA.cells
  go_wp2_with fail
  refine (rFloor_ok hA zA (by omega)).mono ?_
  rintro e v9 ⟨sF, u1, u2, rfl, hRF, lF, hbN⟩
  clear eA0 eA1 eA2
  have zF : Sz ((p.floor : Int) : Rat) 12 := ⟨by rw [Rat.num_intCast]; exact lF, by rw [Rat.den_intCast]; exact lt_one.mono (by omega)⟩
  obtain ⟨aF, nF, cF, bF, mF, dF, rfl, rfl, hF⟩ := hRF.opens
  have hal := alloc_below (w := v9) (.cells #[.bool sF, .slice aF nF cF, .slice bF mF dF] 47)
  have tF := st_new v9 (.bool sF) (.slice aF nF cF) (.slice bF mF dF) 47
  replace hA := (hA.later hbN).later hal
  replace tA := (tA.later hbN).later hal
  replace HB := HB.trans (hbN.mono HB.size)
  replace HB := HB.trans (hal.mono HB.size)
  replace hF := hF.later hal
  clear hbN hal hRF
  clear lF
  go_upto_region 5 with (fail)
  obtain ⟨z2, hz⟩ : ∃ z, z = v9.alloc (.cells #[.bool sF, .slice aF nF cF, .slice bF mF dF] 47) := ⟨_, rfl⟩
  rw [← hz] at hA tA hF tF HB ⊢
  clear hz
  obtain ⟨rF, hrF⟩ : ∃ r, r = v9.heap.size := ⟨_, rfl⟩
  rw [← hrF] at tF ⊢
  have Hr : Hid (rF = v9.heap.size) := hrF
  clear hrF
  have hcl : ∀ w1, Below z2.heap.size z2 w1 → w1.cell? ⟨rF, 0, none⟩ = some (.bool sF) ∧ w1.cell? ⟨rF, 1, none⟩ = some (.slice aF nF cF) ∧ w1.cell? ⟨rF, 2, none⟩ = some (.slice bF mF dF) := fun w1 h => (tF.later h).cells
  obtain ⟨x0, x1, x2⟩ := hcl z2 (Below.refl _ _)
  have sA := tF.lt
  have k1 : ¬ rF = z2.heap.size := by omega
  have k2 : ¬ z2.heap.size = rF := by omega
  have fI := fun w1 h => int_at (v := 1) (w0 := z2) (w1 := w1) h (by omega) (by omega)
  have zI := sz_int (v := 1) (by decide)
  go_cut [7, 4] from 30 to 36 (fun pv okv wx => ∃ rG sG aG nG cG bG mG dG, pv = .pointer (some ⟨rG, 0, none⟩) ∧ okv = .bool true ∧ Rt wx sG aG nG cG bG mG dG (((p.floor : Int) : Rat) + (((1 : Int)) : Rat)) ∧ Sz (((p.floor : Int) : Rat) + (((1 : Int)) : Rat)) (12 + 1 + 1) ∧ St wx rG 47 (.bool sG) (.slice aG nG cG) (.slice bG mG dG) ∧ Below z2.heap.size z2 wx)
  case first =>
    go_region_held3 (fun w' => w'.cell? ⟨rF, 0, none⟩ = some (.bool sF) ∧ w'.cell? ⟨rF, 1, none⟩ = some (.slice aF nF cF) ∧ w'.cell? ⟨rF, 2, none⟩ = some (.slice bF mF dF)) (go_keep) (first | (go_at_call 36; refine (fI _ (by first | exact Below.refl _ _ | exact below_drewN (Below.refl _ _) _ | exact (below_drewN (Below.refl _ _) 1).alloc (by simp) _ | exact below_drewN ((Below.refl _ _).alloc (Nat.le_refl _) _) _)).mono ?_; rintro e wI ⟨sI, aI, nI, cI, bI, mI, dI, rfl, hI, hBI, hbI⟩; obtain ⟨x0, x1, x2⟩ := hcl wI hBI; have sI1 := hBI.size; have k3 : ¬ rF = wI.heap.size := (by omega); have k4 : ¬ wI.heap.size = rF := (by omega)) | (go_at_call 46; refine (lawAdd_ok (hF.later (by first | exact hBI | exact hBI.alloc hBI.size _)) (by first | exact hI | exact hI.later (alloc_below _)) zF zI (by omega)).mono ?_; rintro e wM ⟨sG, u1, u2, rfl, hRG, zG, hbM⟩; obtain ⟨aG, nG, cG, bG, mG, dG, rfl, rfl, hG⟩ := hRG.opens; have hBM : Below z2.heap.size z2 wM := (by first | exact hBI.trans (hbM.mono hBI.size) | exact (hBI.alloc hBI.size _).trans (hbM.mono (by simp; omega))); obtain ⟨x0, x1, x2⟩ := hcl wM hBM; have sI2 := hBM.size; have k5 : ¬ rF = wM.heap.size := (by omega); have k6 : ¬ wM.heap.size = rF := (by omega); first | (have tvM := (St.later (w' := wM) (st_new wI (.bool false) (.slice none 0 0) (.slice none 0 0) 47) hbM); obtain ⟨q0, q1, q2⟩ := tvM.cells; obtain ⟨q3, q4, q5⟩ := tvM.frozen) | (have tvM := ((St.drew (st_new z2 (.bool false) (.slice none 0 0) (.slice none 0 0) 47)).later hbI).later hbM; obtain ⟨q0, q1, q2⟩ := tvM.cells; obtain ⟨q3, q4, q5⟩ := tvM.frozen) | (have tvM := ((st_new (z2.drew) (.bool false) (.slice none 0 0) (.slice none 0 0) 47).later hbI).later hbM; obtain ⟨q0, q1, q2⟩ := tvM.cells; obtain ⟨q3, q4, q5⟩ := tvM.frozen) | skip))
    all_goals (go_wp2_with fail)
    all_goals (go_meet)
    all_goals first | exact ⟨wM.heap.size, sG, aG, nG, cG, bG, mG, dG, rfl, rfl, hG.later (alloc_below _), zG, st_new wM _ _ _ _, hBM.alloc hBM.size _⟩ | exact ⟨_, sG, aG, nG, cG, bG, mG, dG, rfl, rfl, (hRG.inn (in3 _ _ _ _ _) (by first | (simp; done) | (have := hbI.size; simp at this ⊢; omega))).rt, zG, tvM.set _ _ _, below_in hBM (in3 _ _ _ _ _) (by first | exact Nat.le_refl _ | exact hBI.size | omega) (Nat.le_refl _)⟩
  obtain ⟨rG, sG, aG, nG, cG, bG, mG, dG, rfl, rfl, hG, zG, tG, hbN⟩ := hcut
  clear hcl x0 x1 x2 sA k1 k2 fI zI
  rw [Hr.out] at tF ⊢
  clear Hr
  replace hA := hA.later hbN
  replace tA := tA.later hbN
  replace hF := hF.later hbN
  replace tF := tF.later hbN
  replace HB := HB.trans (hbN.mono HB.size)
  clear hbN
  obtain ⟨K, hK⟩ : ∃ K, ordR ((p.floor : Int) : Rat) p = K := ⟨_, rfl⟩
  have gK : K ≤ 0 := by rw [← hK, ordR_le]; exact Rat.floor_le p
  obtain ⟨M, hM⟩ : ∃ M, ordR p (((p.floor : Int) : Rat) + ((1 : Int) : Rat)) = M := ⟨_, rfl⟩
  have gM : M < 0 := by
    rw [← hM, ordR_neg, ← Rat.intCast_add]
    exact Rat.lt_floor_add_one p
  obtain ⟨eF0, eF1, eF2⟩ := tF.cells
  obtain ⟨eA0, eA1, eA2⟩ := tA.cells
  go_wp2_with fail
  refine (rCmp_ok hF hA zF zA (by omega) hK).mono ?_
  rintro e v3 ⟨rfl, hbN⟩
  clear eF0 eF1 eF2
  clear eA0 eA1 eA2
  replace hA := hA.later hbN
  replace tA := tA.later hbN
  replace hF := hF.later hbN
  replace tF := tF.later hbN
  replace hG := hG.later hbN
  replace tG := tG.later hbN
  replace HB := HB.trans (hbN.mono HB.size)
  clear hbN
  obtain ⟨eA0, eA1, eA2⟩ := tA.cells
  obtain ⟨eG0, eG1, eG2⟩ := tG.cells
  go_wp2_with fail
  refine (rCmp_ok hA hG zA zG (by omega) hM).mono ?_
  rintro e v4 ⟨rfl, hbN⟩
  clear eA0 eA1 eA2
  clear eG0 eG1 eG2
  replace hA := hA.later hbN
  replace tA := tA.later hbN
  replace hF := hF.later hbN
  replace tF := tF.later hbN
  replace hG := hG.later hbN
  replace tG := tG.later hbN
  replace HB := HB.trans (hbN.mono HB.size)
  clear hbN
  obtain ⟨eF0, eF1, eF2⟩ := tF.cells
  go_wp2_with fail
  refine (rFloor_ok hF zF (by omega)).mono ?_
  rintro e v8 ⟨sH, u1, u2, rfl, hRH, lH, hbN⟩
  clear eF0 eF1 eF2
  rw [Rat.floor_intCast] at hRH lH
  have zH := zF
  obtain ⟨aH, nH, cH, bH, mH, dH, rfl, rfl, hH⟩ := hRH.opens
  have hal := alloc_below (w := v8) (.cells #[.bool sH, .slice aH nH cH, .slice bH mH dH] 47)
  have tH := st_new v8 (.bool sH) (.slice aH nH cH) (.slice bH mH dH) 47
  replace hA := (hA.later hbN).later hal
  replace tA := (tA.later hbN).later hal
  replace hF := (hF.later hbN).later hal
  replace tF := (tF.later hbN).later hal
  replace hG := (hG.later hbN).later hal
  replace tG := (tG.later hbN).later hal
  replace HB := HB.trans (hbN.mono HB.size)
  replace HB := HB.trans (hal.mono HB.size)
  replace hH := hH.later hal
  clear hbN hal hRH
  clear lH
  obtain ⟨eF0, eF1, eF2⟩ := tF.cells
  go_wp2_with fail
  refine (check_ok hF zF (by omega)).mono ?_
  rintro e v5 ⟨rfl, hbN⟩
  clear eF0 eF1 eF2
  replace hA := hA.later hbN
  replace tA := tA.later hbN
  replace hF := hF.later hbN
  replace tF := tF.later hbN
  replace hG := hG.later hbN
  replace tG := tG.later hbN
  replace hH := hH.later hbN
  replace tH := tH.later hbN
  replace HB := HB.trans (hbN.mono HB.size)
  clear hbN
  obtain ⟨eF0, eF1, eF2⟩ := tF.cells
  have hal := alloc_below (w := v5) (.cells #[.int .u64 1] 31)
  have ro := rowC_one v5 1 31
  have rD := hF.de.later hal
  rw [Rat.den_intCast, show ((1 : Nat) : Int) = 1 from rfl, words_word (by omega) (by omega)] at rD
  go_wp2_with fail
  refine (sameN rD ro (by simp) (by simp) rfl).mono ?_
  rintro e v7 ⟨rfl, hbM⟩
  have hbN := hal.trans (hbM.mono hal.size)
  clear rD ro
  clear eF0 eF1 eF2
  replace hA := hA.later hbN
  replace tA := tA.later hbN
  replace hF := hF.later hbN
  replace tF := tF.later hbN
  replace hG := hG.later hbN
  replace tG := tG.later hbN
  replace hH := hH.later hbN
  replace tH := tH.later hbN
  replace HB := HB.trans (hbN.mono HB.size)
  clear hbN hal hbM
  obtain ⟨eH0, eH1, eH2⟩ := tH.cells
  obtain ⟨eF0, eF1, eF2⟩ := tF.cells
  go_wp2_with fail
  refine (one_any hH hF zH zF (by omega) (by omega) (decide_eq_true rfl)).mono ?_
  rintro e v6 ⟨rfl, hbN⟩
  clear eH0 eH1 eH2
  clear eF0 eF1 eF2
  replace hA := hA.later hbN
  replace tA := tA.later hbN
  replace hF := hF.later hbN
  replace tF := tF.later hbN
  replace hG := hG.later hbN
  replace tG := tG.later hbN
  replace hH := hH.later hbN
  replace tH := tH.later hbN
  replace HB := HB.trans (hbN.mono HB.size)
  clear hbN
  go_wp2
  go_ret
  exact ⟨rfl, HB⟩
end
end Go.Proofs.Ytopcdpeepchgfab
