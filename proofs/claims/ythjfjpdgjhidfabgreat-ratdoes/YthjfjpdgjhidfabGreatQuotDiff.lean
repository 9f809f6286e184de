/- package quot: difference, gcdWords, wordAt. -/
import Derived.Test.YthjfjpdgjhidfabGreatQuotRoot
namespace Go.Proofs.YthjfjpdgjhidfabGreat
open Go.ChangeShapes Go.WideShapes Go.ChangeAt Go.RowKit
open Na Ar
set_option linter.unusedVariables false
namespace Na
/-- a product laid into zeros -/
theorem tim_whole {xs us : List Int} {p d : Int} {L : Nat} (hx : Ws xs) (hl : xs.length < L) (h : TimI (List.replicate L 0) xs 0 p xs.length d us) : num (us.set xs.length d) = p * num xs ∧ Ws (us.set xs.length d) ∧ (us.set xs.length d).length = L := by
  have e := timI_done h
  obtain ⟨h1, h2, h3, h4, h5, _⟩ := h
  rw [List.length_replicate] at h2
  rw [Nat.zero_add] at h4 e
  have z : us.getD xs.length 0 = 0 := by
    rw [getD_drop h4, List.getD_eq_getElem?_getD, List.getElem?_replicate]
    split <;> rfl
  have n0 : num (List.replicate L (0 : Int)) = 0 := by unfold num; rw [val_zeros]
  have s : num (us.set xs.length d) = num us + 18446744073709551616 ^ xs.length * (d - us.getD xs.length 0) := val_set d (by omega)
  rw [n0, Int.pow_zero, Int.one_mul, Int.zero_add] at e
  refine ⟨by rw [s, z, Int.sub_zero, e], h1.set _ h3, by rw [List.length_set]; exact h2⟩
theorem num_two {us : List Int} {n L : Nat} (hl : us.length = L) (hn : n ≤ L) : num us = Na.win us 0 n + 18446744073709551616 ^ n * Na.win us n (L - n) := by
  have e := val_splitB 18446744073709551616 us (i := n) (by omega)
  unfold Na.win num
  rw [List.drop_zero, List.take_of_length_le (l := us.drop n) (by rw [List.length_drop]; omega)]
  exact e
theorem diff_room {us ys ts : List Int} {q d P : Int} {n L : Nat} (hu : us.length = L) (hn : ys.length = n) (hnL : n ≤ L) (eu : num us = P) (h : TakI us ys 0 q n d ts) (hle : q * num ys ≤ P) :
    d ≤ Na.win ts n (L - n) ∧ Na.win ts 0 n + 18446744073709551616 ^ n * (Na.win ts n (L - n) - d) = P - q * num ys := by
  subst hn
  have w := h.win (by omega)
  obtain ⟨h1, h2, h3, h4, h5, _⟩ := h
  rw [Nat.zero_add] at h4
  have e1 := num_two hu hnL
  have e2 : Na.win ts ys.length (L - ys.length) = Na.win us ys.length (L - ys.length) := by unfold Na.win; rw [h4]
  have key : Na.win ts 0 ys.length + 18446744073709551616 ^ ys.length * (Na.win ts ys.length (L - ys.length) - d) = P - q * num ys := by
    rw [e2, Int.mul_sub, ← eu, e1]
    omega
  refine ⟨?_, key⟩
  have lt := win_lt h1 (o := 0) (m := ys.length) (by omega)
  by_cases g : d ≤ Na.win ts ys.length (L - ys.length)
  · exact g
  · exfalso
    have p := wpow_pos ys.length
    have : 18446744073709551616 ^ ys.length * (Na.win ts ys.length (L - ys.length) - d) ≤ 18446744073709551616 ^ ys.length * (-1) := Int.mul_le_mul_of_nonneg_left (by omega) (Int.le_of_lt p)
    omega
theorem diff_done {ts vs : List Int} {n L : Nat} {d D : Int} (lt : ts.length = L) (lv : vs.length = L) (hn : n ≤ L) (t1 : vs.take n = ts.take n) (e : Na.win vs n (L - n) = Na.win ts n (L - n) - d) (k : Na.win ts 0 n + 18446744073709551616 ^ n * (Na.win ts n (L - n) - d) = D) : num vs = D := by
  rw [num_two lv hn, e, ← k]
  have : Na.win vs 0 n = Na.win ts 0 n := by unfold Na.win; rw [List.drop_zero, List.drop_zero, t1]
  rw [this]
end Na
set_option maxHeartbeats 3200000 in
set_option maxRecDepth 100000 in
theorem difference_any {a b : Option Addr} {m n c1 c2 : Nat} {xs ys : List Int} {p q : Int} {w : World} (hr1 : RowC w a m c1 xs) (hr2 : RowC w b n c2 ys) (hx : Ws xs) (hy : Ws ys) (hp : U p) (hq : U q) (hm : m ≤ 3900000) (hn : n ≤ 3900000) (hle : q * num ys ≤ p * num xs) :
    Calls Tryz.prog 108 #[.slice a m c1, .int .u64 p, .slice b n c2, .int .u64 q] w fun e w' => ∃ v, e = .returned v ∧ Own .u64 w' w.heap.size 53 v (words (p * num xs - q * num ys)) ∧ Below w.heap.size w w' := by
  obtain ⟨i_u64, hi_u64, hz0_u64, hz1_u64, hz2_u64⟩ := info_parts info_u64
  have HL1 : Hid (xs.length = m) := hr1.1.1
  have HL2 : Hid (ys.length = n) := hr2.1.1
  by_cases hmn : (m : Int) < (n : Int)
  · have hmM : m ≤ n := by omega
    have hnM : n ≤ n := by omega
    go_enter Tryz.func108, Tryz.ntmps108
    go_wp2_with (at_make; refine wpList_make_full _ rfl _ _ 22 rfl w.heap.size 53 i_u64 (.int .u64 0) 1 Tryz.underlying22 hi_u64 hz0_u64 hz1_u64 .i64 .i64 _ _ (n + 1) rfl rfl (by omega) (by omega) (by rw [hz2_u64]; omega) (by unfold maxLen; omega) (Nat.le_refl _) ?_)
    intro w3 hmade hgr
    have hown := own_zeros hmade
    have hb3 : Below w.heap.size w w3 := (Below.refl _ _).grown hgr (Nat.le_refl _) (fun k hk => by cases hk)
    obtain ⟨g, hg⟩ : ∃ g, g = w.heap.size := ⟨_, rfl⟩
    have hown2 : Own .u64 w3 w.heap.size 53 (.slice (some ⟨g, 0, none⟩) (n + 1) (n + 1)) (List.replicate (n + 1) 0) := by rw [hg]; exact hown
    have hgw : w.heap.size ≤ g := by omega
    rw [← hg]
    clear hmade hgr hown hg
    have hadd := addTimes_in (o := 0) (m := m) (M := n + 1) (dcap := n + 1) (cap2 := c1) (x := p) hown2 (by simp) (Dg_zeros (by omega) _) (hr1.1.later hb3) (fun h => hr1.1.off h hgw) hx hp (by omega) (by omega) (by omega)
    go_wp2_with fail
    refine hadd.mono ?_
    rintro e w4 ⟨d, us, rfl, hou, hti, hi4⟩
    have hB4 := below_inn hb3 hi4 hgw (Nat.le_refl _)
    have hti' : TimI (List.replicate (n + 1) 0) xs 0 p xs.length d us := by rw [HL1.out]; exact hti
    obtain ⟨eu, wu, lu⟩ := tim_whole hx (by rw [HL1.out]; omega) hti'
    have hlus : n + 1 = us.length := by have := hti.2.1; rw [List.length_replicate] at this; exact this.symm
    have hce := hou.cellAt hlus (j := m) (by omega)
    have hfz := hou.frozenAt hlus m
    have hO := hou.set hlus m d
    rw [HL1.out] at eu wu lu
    have hi5 := (In.refl g (g + 1) w4).set1 m (.int .u64 d)
    have hB5 := below_inn hB4 hi5 hgw (Nat.le_refl _)
    have htk := takeTimes_in (o := 0) (m := n) (M := n + 1) (dcap := n + 1) (cap2 := c2) (x := q) hO lu.symm wu (hr2.1.later hB5) (fun h => hr2.1.off h hgw) hy hq (by omega) (by omega) (by omega)
    have hdr := fun d2 ts h => diff_room (us := us.set m d) (ts := ts) (d := d2) (q := q) lu HL2.out (by omega) eu h hle
    have HTL : Hid ((us.set m d).length = n + 1) := lu
    have hb5s := hB5.size
    generalize us.getD m 0 = u0 at *
    generalize us.set m d = us2 at *
    clear hadd hown2 hb3 hou hti hti' hi4 hB4 hlus eu hi5
    go_wp2_with fail
    refine htk.mono ?_
    rintro e w6 ⟨d2, ts, rfl, hts, htt, hi6⟩
    obtain ⟨hd1, hd2⟩ := hdr d2 ts htt
    have hlt : ts.length = n + 1 := htt.2.1.trans HTL.out
    have wts := htt.1
    have hU2 := htt.2.2.1
    have hB6 := below_inn hB5 hi6 hgw (Nat.le_refl _)
    have hal := alloc_below (w := w6) (.cells #[.int .u64 d2] 53)
    have hts7 := hts.later hal
    have hB7 := hB6.trans (hal.mono hB6.size)
    have hone := rowC_one w6 d2 53
    have hg7 := hts.lt
    have hn1 : num [d2] = d2 := by simp [num, val]
    have e9 : n + 1 - n = 1 := by omega
    rw [e9] at hd1 hd2
    have htf := takeFrom_in (o := n) (m := 1) (dcap := 1) (m2 := 1) (cap2 := 1) hts7 hlt.symm wts hone.1 (fun _ => off_of (by omega)) (Dg.one hU2) (by omega) (by omega) (by omega) (by rw [hn1]; exact hd1)
    have k3 : ¬ (n + 1 = n) := by omega
    have k4 : n ≤ n + 1 := by omega
    have k5 : (n : Int) ≤ (n : Int) + 1 := by omega
    have HLT : Hid (ts.length = n + 1) := hlt
    have E9 : Hid (n + 1 - n = 1) := e9
    clear htk hdr htt hO hi6 hB5 hts hlt hce hfz e9
    go_wp2_with fail
    refine htf.mono ?_
    rintro e w8 ⟨vs, rfl, hvs, wvs, lvs, t1, t2, hw, hi8⟩
    rw [hn1] at hw
    have hnum := diff_done (D := p * num xs - q * num ys) HLT.out lvs (by omega) t1 (by rw [E9.out]; exact hw) (by rw [E9.out]; exact hd2)
    have hB8 := below_inn hB7 hi8 hgw (Nat.le_refl _)
    have hrc := hvs.rowC lvs.symm
    have htr := trimW_any hrc wvs (by omega)
    rw [← lvs] at hvs
    have hcut := hvs.cut (words_le wvs)
    rw [words_take wvs] at hcut
    rw [lvs] at hcut
    rw [hnum] at htr hcut
    clear htf hts7 hvs hrc wvs lvs t1 t2 hw hi8 hnum hd1 hd2
    go_wp2_with fail
    refine htr.mono ?_
    rintro e w' ⟨rfl, _, _, _, rfl⟩
    clear htr
    go_wp2
    go_ret
    exact ⟨_, rfl, hcut, hB8⟩
  · have hmM : m ≤ m := by omega
    have hnM : n ≤ m := by omega
    go_enter Tryz.func108, Tryz.ntmps108
    go_wp2_with (at_make; refine wpList_make_full _ rfl _ _ 22 rfl w.heap.size 53 i_u64 (.int .u64 0) 1 Tryz.underlying22 hi_u64 hz0_u64 hz1_u64 .i64 .i64 _ _ (m + 1) rfl rfl (by omega) (by omega) (by rw [hz2_u64]; omega) (by unfold maxLen; omega) (Nat.le_refl _) ?_)
    intro w3 hmade hgr
    have hown := own_zeros hmade
    have hb3 : Below w.heap.size w w3 := (Below.refl _ _).grown hgr (Nat.le_refl _) (fun k hk => by cases hk)
    obtain ⟨g, hg⟩ : ∃ g, g = w.heap.size := ⟨_, rfl⟩
    have hown2 : Own .u64 w3 w.heap.size 53 (.slice (some ⟨g, 0, none⟩) (m + 1) (m + 1)) (List.replicate (m + 1) 0) := by rw [hg]; exact hown
    have hgw : w.heap.size ≤ g := by omega
    rw [← hg]
    clear hmade hgr hown hg
    have hadd := addTimes_in (o := 0) (m := m) (M := m + 1) (dcap := m + 1) (cap2 := c1) (x := p) hown2 (by simp) (Dg_zeros (by omega) _) (hr1.1.later hb3) (fun h => hr1.1.off h hgw) hx hp (by omega) (by omega) (by omega)
    go_wp2_with fail
    refine hadd.mono ?_
    rintro e w4 ⟨d, us, rfl, hou, hti, hi4⟩
    have hB4 := below_inn hb3 hi4 hgw (Nat.le_refl _)
    have hti' : TimI (List.replicate (m + 1) 0) xs 0 p xs.length d us := by rw [HL1.out]; exact hti
    obtain ⟨eu, wu, lu⟩ := tim_whole hx (by rw [HL1.out]; omega) hti'
    have hlus : m + 1 = us.length := by have := hti.2.1; rw [List.length_replicate] at this; exact this.symm
    have hce := hou.cellAt hlus (j := m) (by omega)
    have hfz := hou.frozenAt hlus m
    have hO := hou.set hlus m d
    rw [HL1.out] at eu wu lu
    have hi5 := (In.refl g (g + 1) w4).set1 m (.int .u64 d)
    have hB5 := below_inn hB4 hi5 hgw (Nat.le_refl _)
    have htk := takeTimes_in (o := 0) (m := n) (M := m + 1) (dcap := m + 1) (cap2 := c2) (x := q) hO lu.symm wu (hr2.1.later hB5) (fun h => hr2.1.off h hgw) hy hq (by omega) (by omega) (by omega)
    have hdr := fun d2 ts h => diff_room (us := us.set m d) (ts := ts) (d := d2) (q := q) lu HL2.out (by omega) eu h hle
    have HTL : Hid ((us.set m d).length = m + 1) := lu
    have hb5s := hB5.size
    generalize us.getD m 0 = u0 at *
    generalize us.set m d = us2 at *
    clear hadd hown2 hb3 hou hti hti' hi4 hB4 hlus eu hi5
    go_wp2_with fail
    refine htk.mono ?_
    rintro e w6 ⟨d2, ts, rfl, hts, htt, hi6⟩
    obtain ⟨hd1, hd2⟩ := hdr d2 ts htt
    have hlt : ts.length = m + 1 := htt.2.1.trans HTL.out
    have wts := htt.1
    have hU2 := htt.2.2.1
    have hB6 := below_inn hB5 hi6 hgw (Nat.le_refl _)
    have hal := alloc_below (w := w6) (.cells #[.int .u64 d2] 53)
    have hts7 := hts.later hal
    have hB7 := hB6.trans (hal.mono hB6.size)
    have hone := rowC_one w6 d2 53
    have hg7 := hts.lt
    have hn1 : num [d2] = d2 := by simp [num, val]
    have htf := takeFrom_in (o := n) (m := m + 1 - n) (dcap := m + 1 - n) (m2 := 1) (cap2 := 1) hts7 hlt.symm wts hone.1 (fun _ => off_of (by omega)) (Dg.one hU2) (by omega) (by omega) (by omega) (by rw [hn1]; exact hd1)
    have k3 : ¬ (m + 1 = n) := by omega
    have k4 : n ≤ m + 1 := by omega
    have k5 : (n : Int) ≤ (m : Int) + 1 := by omega
    have HLT : Hid (ts.length = m + 1) := hlt
    clear htk hdr htt hO hi6 hB5 hts hlt hce hfz
    go_wp2_with fail
    refine htf.mono ?_
    rintro e w8 ⟨vs, rfl, hvs, wvs, lvs, t1, t2, hw, hi8⟩
    rw [hn1] at hw
    have hnum := diff_done (D := p * num xs - q * num ys) HLT.out lvs (by omega) t1 hw hd2
    have hB8 := below_inn hB7 hi8 hgw (Nat.le_refl _)
    have hrc := hvs.rowC lvs.symm
    have htr := trimW_any hrc wvs (by omega)
    rw [← lvs] at hvs
    have hcut := hvs.cut (words_le wvs)
    rw [words_take wvs] at hcut
    rw [lvs] at hcut
    rw [hnum] at htr hcut
    clear htf hts7 hvs hrc wvs lvs t1 t2 hw hi8 hnum hd1 hd2
    go_wp2_with fail
    refine htr.mono ?_
    rintro e w' ⟨rfl, _, _, _, rfl⟩
    clear htr
    go_wp2
    go_ret
    exact ⟨_, rfl, hcut, hB8⟩
end Go.Proofs.YthjfjpdgjhidfabGreat
