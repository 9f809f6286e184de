import Derived.Test.YtceecgklgkiffaaGreatDoorBaseC
import Derived.Deep.LoopGhost
import Derived.Deep.RegionWith
import Derived.Deep.RegionHeld3
/- package quot: plus, above, Root. -/
namespace Go.Proofs.YtceecgklgkiffaaGreatDoor
open Go.ChangeShapes Go.WideShapes Go.ChangeAt Go.RowKit
open Na Ar
set_option linter.unusedVariables false

theorem ret_vb {v : Value} {p q : Bool} (h : p = q) : Ending.returned (.tuple #[v, .bool p]) = .returned (.tuple #[v, .bool q]) := by rw [h]
def RootPost (w : World) (X : Int) (e : Ending) (w' : World) : Prop := ∃ v s, e = .returned (.tuple #[v, .bool (decide (s * s = X))]) ∧ IsRoot X s ∧ Own .u64 w' w.heap.size 22 v (words s) ∧ Below w.heap.size w w'
namespace Na
theorem above_small {X : Int} {b : Nat} (h1 : 2 ^ b ≤ X) (h2 : X < 2 ^ (b + 1)) : 0 < (1 : Int) * 2 ^ ((b + 2) / 2) ∧ (1 : Int) * 2 ^ ((b + 2) / 2) ≤ 2 * X ∧ X < ((1 : Int) * 2 ^ ((b + 2) / 2) + 1) * ((1 : Int) * 2 ^ ((b + 2) / 2) + 1) := by
  rw [Int.one_mul]
  have p := p2pos ((b + 2) / 2)
  have a := p2mono (show (b + 2) / 2 ≤ b + 1 by omega)
  have c : (2 : Int) ^ (b + 1) ≤ 2 ^ ((b + 2) / 2 + (b + 2) / 2) := p2mono (by omega)
  have e : (2 : Int) ^ ((b + 2) / 2 + (b + 2) / 2) = 2 ^ ((b + 2) / 2) * 2 ^ ((b + 2) / 2) := Int.pow_add ..
  rw [e] at c
  have e2 : (2 : Int) ^ (b + 1) = 2 * 2 ^ b := by rw [Int.pow_succ, Int.mul_comm]
  rw [e2] at a
  refine ⟨p, by omega, ?_⟩
  generalize (2 : Int) ^ ((b + 2) / 2) = s at *
  have : (s + 1) * (s + 1) = s * s + 2 * s + 1 := by grind
  omega
theorem above_great {X s0 : Int} {b q : Nat} (h1 : 2 ^ b ≤ X) (hq : 2 * q ≤ b) (hr : IsRoot (X / 2 ^ (2 * q)) s0) : 1 ≤ s0 ∧ 0 < (s0 + 1) * 2 ^ q ∧ (s0 + 1) * 2 ^ q ≤ 2 * X ∧ X < ((s0 + 1) * 2 ^ q + 1) * ((s0 + 1) * 2 ^ q + 1) := by
  obtain ⟨r1, r2, r3⟩ := hr
  have p := p2pos (2 * q)
  have pq := p2pos q
  have d := Int.mul_ediv_add_emod X (2 ^ (2 * q))
  have m0 := Int.emod_nonneg X (show (2 : Int) ^ (2 * q) ≠ 0 by omega)
  have m1 := Int.emod_lt_of_pos X p
  have y1 : 1 ≤ X / 2 ^ (2 * q) := by
    rw [Int.le_ediv_iff_mul_le p, Int.one_mul]
    exact Int.le_trans (p2mono hq) h1
  have e : (2 : Int) ^ (2 * q) = 2 ^ q * 2 ^ q := by rw [Nat.two_mul, Int.pow_add]
  generalize X / 2 ^ (2 * q) = Y at *
  generalize X % 2 ^ (2 * q) = R at *
  rw [e] at d m1
  generalize (2 : Int) ^ q = Q at *
  have s1 : 1 ≤ s0 := by
    by_cases g : 1 ≤ s0
    · exact g
    · have : s0 = 0 := by omega
      subst this
      omega
  have sY : s0 + 1 ≤ 2 * Y := by
    have : s0 * 1 ≤ s0 * s0 := Int.mul_le_mul_of_nonneg_left s1 r1
    omega
  have a : (s0 + 1) * Q ≤ 2 * Y * Q := Int.mul_le_mul_of_nonneg_right sY (by omega)
  have b2 : Y * Q * 1 ≤ Y * Q * Q := Int.mul_le_mul_of_nonneg_left (by omega) (Int.mul_nonneg (by omega) (by omega))
  have c : Q * Q * Y = Y * Q * Q := by grind
  have c2 : 2 * Y * Q = 2 * (Y * Q) := by grind
  have pos : 0 < (s0 + 1) * Q := Int.mul_pos (by omega) (by omega)
  refine ⟨s1, pos, by omega, ?_⟩
  have u : (Y + 1) * (Q * Q) ≤ (s0 + 1) * (s0 + 1) * (Q * Q) := Int.mul_le_mul_of_nonneg_right (by omega) (Int.mul_nonneg (by omega) (by omega))
  have u2 : (s0 + 1) * (s0 + 1) * (Q * Q) = (s0 + 1) * Q * ((s0 + 1) * Q) := by grind
  have u3 : (Y + 1) * (Q * Q) = Q * Q * Y + Q * Q := by grind
  generalize (s0 + 1) * Q = S at *
  have : (S + 1) * (S + 1) = S * S + 2 * S + 1 := by grind
  omega
end Na
end Go.Proofs.YtceecgklgkiffaaGreatDoor

/- package quot: difference, gcdWords, wordAt. -/
namespace Go.Proofs.YtceecgklgkiffaaGreatDoor
open Go.ChangeShapes Go.WideShapes Go.ChangeAt Go.RowKit
open Na Ar
set_option linter.unusedVariables false
namespace Na
/-- a product laid into zeros -/
theorem tim_whole {xs us : List Int} {p d : Int} {L : Nat} (hx : Ws xs) (hl : xs.length < L) (h : TimI (List.replicate L 0) xs 0 p xs.length d us) : num (us.set xs.length d) = p * num xs ∧ Ws (us.set xs.length d) ∧ (us.set xs.length d).length = L := by
  have e := timI_done h
  obtain ⟨h1, h2, h3, h4, h5, _⟩ := h
  rw [List.length_replicate] at h2
  rw [Nat.zero_add] at h4 e
  have z : us.getD xs.length 0 = 0 := by
    rw [getD_drop h4, List.getD_eq_getElem?_getD, List.getElem?_replicate]
    split <;> rfl
  have n0 : num (List.replicate L (0 : Int)) = 0 := by unfold num; rw [val_zeros]
  have s : num (us.set xs.length d) = num us + 18446744073709551616 ^ xs.length * (d - us.getD xs.length 0) := val_set d (by omega)
  rw [n0, Int.pow_zero, Int.one_mul, Int.zero_add] at e
  refine ⟨by rw [s, z, Int.sub_zero, e], h1.set _ h3, by rw [List.length_set]; exact h2⟩
theorem num_two {us : List Int} {n L : Nat} (hl : us.length = L) (hn : n ≤ L) : num us = Na.win us 0 n + 18446744073709551616 ^ n * Na.win us n (L - n) := by
  have e := val_splitB 18446744073709551616 us (i := n) (by omega)
  unfold Na.win num
  rw [List.drop_zero, List.take_of_length_le (l := us.drop n) (by rw [List.length_drop]; omega)]
  exact e
theorem diff_room {us ys ts : List Int} {q d P : Int} {n L : Nat} (hu : us.length = L) (hn : ys.length = n) (hnL : n ≤ L) (eu : num us = P) (h : TakI us ys 0 q n d ts) (hle : q * num ys ≤ P) :
    d ≤ Na.win ts n (L - n) ∧ Na.win ts 0 n + 18446744073709551616 ^ n * (Na.win ts n (L - n) - d) = P - q * num ys := by
  subst hn
  have w := h.win (by omega)
  obtain ⟨h1, h2, h3, h4, h5, _⟩ := h
  rw [Nat.zero_add] at h4
  have e1 := num_two hu hnL
  have e2 : Na.win ts ys.length (L - ys.length) = Na.win us ys.length (L - ys.length) := by unfold Na.win; rw [h4]
  have key : Na.win ts 0 ys.length + 18446744073709551616 ^ ys.length * (Na.win ts ys.length (L - ys.length) - d) = P - q * num ys := by
    rw [e2, Int.mul_sub, ← eu, e1]
    omega
  refine ⟨?_, key⟩
  have lt := win_lt h1 (o := 0) (m := ys.length) (by omega)
  by_cases g : d ≤ Na.win ts ys.length (L - ys.length)
  · exact g
  · exfalso
    have p := wpow_pos ys.length
    have : 18446744073709551616 ^ ys.length * (Na.win ts ys.length (L - ys.length) - d) ≤ 18446744073709551616 ^ ys.length * (-1) := Int.mul_le_mul_of_nonneg_left (by omega) (Int.le_of_lt p)
    omega
theorem diff_done {ts vs : List Int} {n L : Nat} {d D : Int} (lt : ts.length = L) (lv : vs.length = L) (hn : n ≤ L) (t1 : vs.take n = ts.take n) (e : Na.win vs n (L - n) = Na.win ts n (L - n) - d) (k : Na.win ts 0 n + 18446744073709551616 ^ n * (Na.win ts n (L - n) - d) = D) : num vs = D := by
  rw [num_two lv hn, e, ← k]
  have : Na.win vs 0 n = Na.win ts 0 n := by unfold Na.win; rw [List.drop_zero, List.drop_zero, t1]
  rw [this]
end Na
set_option maxHeartbeats 3200000 in
set_option maxRecDepth 100000 in
theorem difference_any {a b : Option Addr} {m n c1 c2 : Nat} {xs ys : List Int} {p q : Int} {w : World} (hr1 : RowC w a m c1 xs) (hr2 : RowC w b n c2 ys) (hx : Ws xs) (hy : Ws ys) (hp : U p) (hq : U q) (hm : m ≤ 3900000) (hn : n ≤ 3900000) (hle : q * num ys ≤ p * num xs) :
    Calls Tryz.prog 220 #[.slice a m c1, .int .u64 p, .slice b n c2, .int .u64 q] w fun e w' => ∃ v, e = .returned v ∧ Own .u64 w' w.heap.size 22 v (words (p * num xs - q * num ys)) ∧ Below w.heap.size w w' := by
  obtain ⟨i_u64, hi_u64, hz0_u64, hz1_u64, hz2_u64⟩ := info_parts info_u64
  have HL1 : Hid (xs.length = m) := hr1.1.1
  have HL2 : Hid (ys.length = n) := hr2.1.1
  by_cases hmn : (m : Int) < (n : Int)
  · have hmM : m ≤ n := by omega
    have hnM : n ≤ n := by omega
    go_enter Tryz.func220, Tryz.ntmps220
    go_wp2_with (at_make; refine wpList_make_full _ rfl _ _ 30 rfl w.heap.size 22 i_u64 (.int .u64 0) 1 Tryz.underlying30 hi_u64 hz0_u64 hz1_u64 .i64 .i64 _ _ (n + 1) rfl rfl (by omega) (by omega) (by rw [hz2_u64]; omega) (by unfold maxLen; omega) (Nat.le_refl _) ?_)
    intro w3 hmade hgr
    have hown := own_zeros hmade
    have hb3 : Below w.heap.size w w3 := (Below.refl _ _).grown hgr (Nat.le_refl _) (fun k hk => by cases hk)
    obtain ⟨g, hg⟩ : ∃ g, g = w.heap.size := ⟨_, rfl⟩
    have hown2 : Own .u64 w3 w.heap.size 22 (.slice (some ⟨g, 0, none⟩) (n + 1) (n + 1)) (List.replicate (n + 1) 0) := by rw [hg]; exact hown
    have hgw : w.heap.size ≤ g := by omega
    rw [← hg]
    clear hmade hgr hown hg
    have hadd := addTimes_in (o := 0) (m := m) (M := n + 1) (dcap := n + 1) (cap2 := c1) (x := p) hown2 (by simp) (Dg_zeros (by omega) _) (hr1.1.later hb3) (fun h => hr1.1.off h hgw) hx hp (by omega) (by omega) (by omega)
    go_wp2_with fail
    refine hadd.mono ?_
    rintro e w4 ⟨d, us, rfl, hou, hti, hi4⟩
    have hB4 := below_inn hb3 hi4 hgw (Nat.le_refl _)
    have hti' : TimI (List.replicate (n + 1) 0) xs 0 p xs.length d us := by rw [HL1.out]; exact hti
    obtain ⟨eu, wu, lu⟩ := tim_whole hx (by rw [HL1.out]; omega) hti'
    have hlus : n + 1 = us.length := by have := hti.2.1; rw [List.length_replicate] at this; exact this.symm
    have hce := hou.cellAt hlus (j := m) (by omega)
    have hfz := hou.frozenAt hlus m
    have hO := hou.set hlus m d
    rw [HL1.out] at eu wu lu
    have hi5 := (In.refl g (g + 1) w4).set1 m (.int .u64 d)
    have hB5 := below_inn hB4 hi5 hgw (Nat.le_refl _)
    have htk := takeTimes_in (o := 0) (m := n) (M := n + 1) (dcap := n + 1) (cap2 := c2) (x := q) hO lu.symm wu (hr2.1.later hB5) (fun h => hr2.1.off h hgw) hy hq (by omega) (by omega) (by omega)
    have hdr := fun d2 ts h => diff_room (us := us.set m d) (ts := ts) (d := d2) (q := q) lu HL2.out (by omega) eu h hle
    have HTL : Hid ((us.set m d).length = n + 1) := lu
    have hb5s := hB5.size
    generalize us.getD m 0 = u0 at *
    generalize us.set m d = us2 at *
    clear hadd hown2 hb3 hou hti hti' hi4 hB4 hlus eu hi5
    go_wp2_with fail
    refine htk.mono ?_
    rintro e w6 ⟨d2, ts, rfl, hts, htt, hi6⟩
    obtain ⟨hd1, hd2⟩ := hdr d2 ts htt
    have hlt : ts.length = n + 1 := htt.2.1.trans HTL.out
    have wts := htt.1
    have hU2 := htt.2.2.1
    have hB6 := below_inn hB5 hi6 hgw (Nat.le_refl _)
    have hal := alloc_below (w := w6) (.cells #[.int .u64 d2] 22)
    have hts7 := hts.later hal
    have hB7 := hB6.trans (hal.mono hB6.size)
    have hone := rowC_one w6 d2 22
    have hg7 := hts.lt
    have hn1 : num [d2] = d2 := by simp [num, val]
    have e9 : n + 1 - n = 1 := by omega
    rw [e9] at hd1 hd2
    have htf := takeFrom_in (o := n) (m := 1) (dcap := 1) (m2 := 1) (cap2 := 1) hts7 hlt.symm wts hone.1 (fun _ => off_of (by omega)) (Dg.one hU2) (by omega) (by omega) (by omega) (by rw [hn1]; exact hd1)
    have k3 : ¬ (n + 1 = n) := by omega
    have k4 : n ≤ n + 1 := by omega
    have k5 : (n : Int) ≤ (n : Int) + 1 := by omega
    have HLT : Hid (ts.length = n + 1) := hlt
    have E9 : Hid (n + 1 - n = 1) := e9
    clear htk hdr htt hO hi6 hB5 hts hlt hce hfz e9
    go_wp2_with fail
    refine htf.mono ?_
    rintro e w8 ⟨vs, rfl, hvs, wvs, lvs, t1, t2, hw, hi8⟩
    rw [hn1] at hw
    have hnum := diff_done (D := p * num xs - q * num ys) HLT.out lvs (by omega) t1 (by rw [E9.out]; exact hw) (by rw [E9.out]; exact hd2)
    have hB8 := below_inn hB7 hi8 hgw (Nat.le_refl _)
    have hrc := hvs.rowC lvs.symm
    have htr := trimW_any hrc wvs (by omega)
    rw [← lvs] at hvs
    have hcut := hvs.cut (words_le wvs)
    rw [words_take wvs] at hcut
    rw [lvs] at hcut
    rw [hnum] at htr hcut
    clear htf hts7 hvs hrc wvs lvs t1 t2 hw hi8 hnum hd1 hd2
    go_wp2_with fail
    refine htr.mono ?_
    rintro e w' ⟨rfl, _, _, _, rfl⟩
    clear htr
    go_wp2
    go_ret
    exact ⟨_, rfl, hcut, hB8⟩
  · have hmM : m ≤ m := by omega
    have hnM : n ≤ m := by omega
    go_enter Tryz.func220, Tryz.ntmps220
    go_wp2_with (at_make; refine wpList_make_full _ rfl _ _ 30 rfl w.heap.size 22 i_u64 (.int .u64 0) 1 Tryz.underlying30 hi_u64 hz0_u64 hz1_u64 .i64 .i64 _ _ (m + 1) rfl rfl (by omega) (by omega) (by rw [hz2_u64]; omega) (by unfold maxLen; omega) (Nat.le_refl _) ?_)
    intro w3 hmade hgr
    have hown := own_zeros hmade
    have hb3 : Below w.heap.size w w3 := (Below.refl _ _).grown hgr (Nat.le_refl _) (fun k hk => by cases hk)
    obtain ⟨g, hg⟩ : ∃ g, g = w.heap.size := ⟨_, rfl⟩
    have hown2 : Own .u64 w3 w.heap.size 22 (.slice (some ⟨g, 0, none⟩) (m + 1) (m + 1)) (List.replicate (m + 1) 0) := by rw [hg]; exact hown
    have hgw : w.heap.size ≤ g := by omega
    rw [← hg]
    clear hmade hgr hown hg
    have hadd := addTimes_in (o := 0) (m := m) (M := m + 1) (dcap := m + 1) (cap2 := c1) (x := p) hown2 (by simp) (Dg_zeros (by omega) _) (hr1.1.later hb3) (fun h => hr1.1.off h hgw) hx hp (by omega) (by omega) (by omega)
    go_wp2_with fail
    refine hadd.mono ?_
    rintro e w4 ⟨d, us, rfl, hou, hti, hi4⟩
    have hB4 := below_inn hb3 hi4 hgw (Nat.le_refl _)
    have hti' : TimI (List.replicate (m + 1) 0) xs 0 p xs.length d us := by rw [HL1.out]; exact hti
    obtain ⟨eu, wu, lu⟩ := tim_whole hx (by rw [HL1.out]; omega) hti'
    have hlus : m + 1 = us.length := by have := hti.2.1; rw [List.length_replicate] at this; exact this.symm
    have hce := hou.cellAt hlus (j := m) (by omega)
    have hfz := hou.frozenAt hlus m
    have hO := hou.set hlus m d
    rw [HL1.out] at eu wu lu
    have hi5 := (In.refl g (g + 1) w4).set1 m (.int .u64 d)
    have hB5 := below_inn hB4 hi5 hgw (Nat.le_refl _)
    have htk := takeTimes_in (o := 0) (m := n) (M := m + 1) (dcap := m + 1) (cap2 := c2) (x := q) hO lu.symm wu (hr2.1.later hB5) (fun h => hr2.1.off h hgw) hy hq (by omega) (by omega) (by omega)
    have hdr := fun d2 ts h => diff_room (us := us.set m d) (ts := ts) (d := d2) (q := q) lu HL2.out (by omega) eu h hle
    have HTL : Hid ((us.set m d).length = m + 1) := lu
    have hb5s := hB5.size
    generalize us.getD m 0 = u0 at *
    generalize us.set m d = us2 at *
    clear hadd hown2 hb3 hou hti hti' hi4 hB4 hlus eu hi5
    go_wp2_with fail
    refine htk.mono ?_
    rintro e w6 ⟨d2, ts, rfl, hts, htt, hi6⟩
    obtain ⟨hd1, hd2⟩ := hdr d2 ts htt
    have hlt : ts.length = m + 1 := htt.2.1.trans HTL.out
    have wts := htt.1
    have hU2 := htt.2.2.1
    have hB6 := below_inn hB5 hi6 hgw (Nat.le_refl _)
    have hal := alloc_below (w := w6) (.cells #[.int .u64 d2] 22)
    have hts7 := hts.later hal
    have hB7 := hB6.trans (hal.mono hB6.size)
    have hone := rowC_one w6 d2 22
    have hg7 := hts.lt
    have hn1 : num [d2] = d2 := by simp [num, val]
    have htf := takeFrom_in (o := n) (m := m + 1 - n) (dcap := m + 1 - n) (m2 := 1) (cap2 := 1) hts7 hlt.symm wts hone.1 (fun _ => off_of (by omega)) (Dg.one hU2) (by omega) (by omega) (by omega) (by rw [hn1]; exact hd1)
    have k3 : ¬ (m + 1 = n) := by omega
    have k4 : n ≤ m + 1 := by omega
    have k5 : (n : Int) ≤ (m : Int) + 1 := by omega
    have HLT : Hid (ts.length = m + 1) := hlt
    clear htk hdr htt hO hi6 hB5 hts hlt hce hfz
    go_wp2_with fail
    refine htf.mono ?_
    rintro e w8 ⟨vs, rfl, hvs, wvs, lvs, t1, t2, hw, hi8⟩
    rw [hn1] at hw
    have hnum := diff_done (D := p * num xs - q * num ys) HLT.out lvs (by omega) t1 hw hd2
    have hB8 := below_inn hB7 hi8 hgw (Nat.le_refl _)
    have hrc := hvs.rowC lvs.symm
    have htr := trimW_any hrc wvs (by omega)
    rw [← lvs] at hvs
    have hcut := hvs.cut (words_le wvs)
    rw [words_take wvs] at hcut
    rw [lvs] at hcut
    rw [hnum] at htr hcut
    clear htf hts7 hvs hrc wvs lvs t1 t2 hw hi8 hnum hd1 hd2
    go_wp2_with fail
    refine htr.mono ?_
    rintro e w' ⟨rfl, _, _, _, rfl⟩
    clear htr
    go_wp2
    go_ret
    exact ⟨_, rfl, hcut, hB8⟩
end Go.Proofs.YtceecgklgkiffaaGreatDoor

/- package quot: foresee. -/
namespace Go.Proofs.YtceecgklgkiffaaGreatDoor
open Go.ChangeShapes Go.WideShapes Go.ChangeAt Go.RowKit
open Na Ar
set_option linter.unusedVariables false

theorem shl_quiet {a b : Int} (ha : U a) (hb : U b) (n : Int) (w : World) :
    Calls Tryz.prog 208 #[.int .u64 a, .int .u64 b, .int .i64 n] w fun e w' => e = .returned (.tuple #[.int .u64 (shHi a b (clampN n)), .int .u64 (shLo a b (clampN n))]) ∧ ∃ m, w' = w.drewN m := by
  have hw := fun w => within_any n w
  have hk := clampN_le n
  generalize clampN n = k at *
  by_cases h : 64 ≤ k
  · go_enter Tryz.func208, Tryz.ntmps208
    go_wp2_with (go_at_call 176; refine (hw _).mono ?_; rintro e w' ⟨rfl, rfl⟩)
    go_ret2
    exact ⟨ret_two (shl_hi_big h) (shl_lo_big h), 0, rfl⟩
  · go_enter Tryz.func208, Tryz.ntmps208
    go_wp2_with (go_at_call 176; refine (hw _).mono ?_; rintro e w' ⟨rfl, rfl⟩)
    go_quiet (fail)
    go_wp2
    go_ret2
    exact ⟨ret_two (shl_hi hb (by omega)) (shl_lo k), _, rfl⟩
theorem wordAt_any {a : Option Addr} {n c1 : Nat} {xs : List Int} {w : World} (hr : RowAt .u64 w a n xs) (hn : n ≤ 4000000) (i : Nat) (hi : i ≤ 4000000) :
    Calls Tryz.prog 219 #[.slice a n c1, .int .i64 (i : Int)] w fun e w' => e = .returned (.int .u64 (xs.getD i 0)) ∧ w = w' := by
  by_cases h : i < n
  · obtain ⟨b, off, rfl, _, hc⟩ := hr.at (by omega)
    have hcx := hc i h
    generalize xs.getD i 0 = x at *
    have h2 : (i : Int) < (n : Int) := by omega
    clear hc hr
    go_enter Tryz.func219, Tryz.ntmps219
    go_wp2
    go_ret
    exact ⟨rfl, rfl⟩
  · have he : xs.getD i 0 = 0 := getD_out (by have := hr.1; omega)
    generalize xs.getD i 0 = x at he ⊢
    have HE : Hid (x = 0) := he
    clear he
    have h2 : ¬ (i : Int) < (n : Int) := by omega
    clear hr
    go_enter Tryz.func219, Tryz.ntmps219
    go_wp2
    go_ret
    exact ⟨ret_int HE.out.symm, rfl⟩
set_option maxHeartbeats 1600000 in
theorem gcdWords_any {a b : Int} (ha : U a) (hb : U b) (w : World) :
    Calls Tryz.prog 213 #[.int .u64 a, .int .u64 b] w fun e w' => e = .returned (.int .u64 (Int.gcd a b : Int)) ∧ Below w.heap.size w w' := by
  go_enter Tryz.func213, Tryz.ntmps213
  go_wp2
  go_loopw [0, 1] (fun x y wr => ∃ A B : Int, x = .int .u64 A ∧ y = .int .u64 B ∧ U A ∧ U B ∧ Hid (Int.gcd A B = Int.gcd a b) ∧ Below w.heap.size w wr) (fun _ y _ => (intOf y).toNat)
  case atStart => exact ⟨a, b, rfl, rfl, ha, hb, rfl, Below.refl _ _⟩
  case round =>
    obtain ⟨A, B, rfl, rfl, hA, hB, hg, hw⟩ := hrel
    by_cases h0 : B = 0
    · have HE : Hid (A = (Int.gcd a b : Int)) := by
        show _ = _
        rw [← hg.out, h0]
        unfold U at hA
        rw [Int.gcd_zero]; omega
      subst h0
      go_wp2
      go_ret
      exact ⟨by rw [← HE.out]; rfl, hw⟩
    · have t1 : (B != 0) = true := bne_yes h0
      have r0 := Int.emod_nonneg A h0
      have r1 := Int.emod_lt_of_pos A (show 0 < B by unfold U at hB; omega)
      have hU : U (A % B) := by unfold U at *; omega
      have HG : Hid (Int.gcd B (A % B) = Int.gcd a b) := (gcd_step A B).trans hg.out
      unfold U at hA hB
      go_wp2
      go_quiet (fail)
      go_wp2
      go_roundw
      case rel => exact ⟨B, A % B, rfl, rfl, hB, hU, HG, below_drewN hw _⟩
      case measure => simp [intOf]; omega

/-- a course in its block -/
def Cs (w : World) (g : Nat) (k ua ub va vb : Int) : Prop := w.heap[g]? = some (.cells #[.int .i64 k, .int .u64 ua, .int .u64 ub, .int .u64 va, .int .u64 vb] 233 (0, 0))
theorem Cs.lt {w : World} {g : Nat} {k ua ub va vb : Int} (h : Cs w g k ua ub va vb) : g < w.heap.size := by
  by_cases hlt : g < w.heap.size
  · exact hlt
  · unfold Cs at h; simp [Array.getElem?_eq_none (Nat.le_of_not_lt hlt)] at h
theorem Cs.later {w w' : World} {g : Nat} {k ua ub va vb : Int} (h : Cs w g k ua ub va vb) (hb : Below w.heap.size w w') : Cs w' g k ua ub va vb := by
  have := h.lt
  unfold Cs
  rw [hb.block g this]; exact h
theorem Cs.cells {w : World} {g : Nat} {k ua ub va vb : Int} (h : Cs w g k ua ub va vb) : w.cell? ⟨g, 0, none⟩ = some (.int .i64 k) ∧ w.cell? ⟨g, 1, none⟩ = some (.int .u64 ua) ∧ w.cell? ⟨g, 2, none⟩ = some (.int .u64 ub) ∧ w.cell? ⟨g, 3, none⟩ = some (.int .u64 va) ∧ w.cell? ⟨g, 4, none⟩ = some (.int .u64 vb) := by
  unfold Cs at h
  simp [World.cell?, h]
theorem Cs.frozen {w : World} {g : Nat} {k ua ub va vb : Int} (h : Cs w g k ua ub va vb) (i : Nat) : w.frozen? ⟨g, i, none⟩ = false := by
  unfold Cs at h
  simp [World.frozen?, h]
theorem set_block {w : World} {g i : Nat} {c : Array Value} {t : TypeId} {f : Nat × Nat} {v : Value} (h : w.heap[g]? = some (.cells c t f)) : (w.setCell ⟨g, i, none⟩ v).heap[g]? = some (.cells (c.setIfInBounds i v) t f) := by
  simp [World.setCell, Array.getElem?_modify, h]
theorem Cs.set {w : World} {g : Nat} {k ua ub va vb : Int} (h : Cs w g k ua ub va vb) (k' ua' ub' va' vb' : Int) :
    Cs (((((w.setCell ⟨g, 0, none⟩ (.int .i64 k')).setCell ⟨g, 1, none⟩ (.int .u64 ua')).setCell ⟨g, 2, none⟩ (.int .u64 ub')).setCell ⟨g, 3, none⟩ (.int .u64 va')).setCell ⟨g, 4, none⟩ (.int .u64 vb')) g k' ua' ub' va' vb' :=
  set_block (set_block (set_block (set_block (set_block h))))
theorem Cs.in5 {w : World} {g : Nat} (k' ua' ub' va' vb' : Int) :
    In g (g + 1) w (((((w.setCell ⟨g, 0, none⟩ (.int .i64 k')).setCell ⟨g, 1, none⟩ (.int .u64 ua')).setCell ⟨g, 2, none⟩ (.int .u64 ub')).setCell ⟨g, 3, none⟩ (.int .u64 va')).setCell ⟨g, 4, none⟩ (.int .u64 vb')) :=
  (((((In.refl g (g + 1) w).set1 0 _).set1 1 _).set1 2 _).set1 3 _).set1 4 _
theorem Cs.inn {w w' : World} {g g' : Nat} {k ua ub va vb : Int} (h : Cs w g k ua ub va vb) (hi : In g' (g' + 1) w w') (hne : g ≠ g') : Cs w' g k ua ub va vb := by
  have := h.lt
  unfold Cs
  rw [hi.block g this (by omega)]; exact h
namespace Na
theorem Fs.small {x0 y0 : Int} {K : Nat} {ua ub va vb x y : Int} (h : Fs x0 y0 K ua ub va vb x y) (hv : (K : Int) ≤ vb) (g1 : vb ≤ y) (g2 : vb + ub ≤ x - y) (hx : x0 < 18446744073709551616) : (K : Int) ≤ 4294967296 := by
  by_cases g : (K : Int) ≤ 4294967296
  · exact g
  · exfalso
    have nn := h.nn
    have e := h.e1
    have a : vb * vb ≤ vb * x := Int.mul_le_mul_of_nonneg_left (by omega) (by omega)
    have b : 0 ≤ ub * y := Int.mul_nonneg nn.2.1 h.y0
    have c : (4294967297 : Int) * 4294967297 ≤ vb * vb := Int.mul_le_mul (by omega) (by omega) (by omega) (by omega)
    omega
theorem Fs.more {x0 y0 : Int} {K : Nat} {ua ub va vb x y : Int} (h : Fs x0 y0 K ua ub va vb x y) (hy : y ≠ 0) (hv : (K : Int) ≤ vb) : ((K + 1 : Nat) : Int) ≤ ub + x / y * vb := by
  have nn := h.nn
  have y0 := h.y0
  have hxy : y ≤ x := by rcases h.st with s | s <;> omega
  have hq : 1 ≤ x / y := by rw [Int.le_ediv_iff_mul_le (by omega)]; omega
  have a : 1 * vb ≤ x / y * vb := Int.mul_le_mul_of_nonneg_right hq (by omega)
  rcases h.st with s | s
  · omega
  · omega
end Na
theorem cs_new (w : World) (k ua ub va vb : Int) : Cs (w.alloc (.cells #[.int .i64 k, .int .u64 ua, .int .u64 ub, .int .u64 va, .int .u64 vb] 233)) w.heap.size k ua ub va vb := heap_alloc_new _ _
set_option maxHeartbeats 3200000 in
set_option maxRecDepth 100000 in
theorem foresee_any {a b : Option Addr} {k m c1 c2 : Nat} {xs ys : List Int} {w : World} {s : Nat} (hr1 : RowAt .u64 w a (k + 2) xs) (hr2 : RowAt .u64 w b m ys) (hx : Ws xs) (hy : Ws ys) (hk : k ≤ 3800000) (hm : m ≤ 3800000)
    (hs : (64 : Int) - lenW (xs.getD (k + 1) 0) = (s : Int)) (hs63 : s ≤ 63) (hyx : shHi (ys.getD (k + 1) 0) (ys.getD k 0) s ≤ shHi (xs.getD (k + 1) 0) (xs.getD k 0) s) :
    Calls Tryz.prog 211 #[.slice a (k + 2) c1, .slice b m c2] w fun e w' => ∃ (K : Nat) (ua ub va vb : Int), e = .returned (.agg #[.int .i64 (K : Int), .int .u64 ua, .int .u64 ub, .int .u64 va, .int .u64 vb]) ∧ (K : Int) ≤ 4294967296 ∧ (K = 0 ∨ ∃ x y, Fs (shHi (xs.getD (k + 1) 0) (xs.getD k 0) s) (shHi (ys.getD (k + 1) 0) (ys.getD k 0) s) K ua ub va vb x y ∧ vb ≤ y ∧ vb + ub ≤ x - y) ∧ Below w.heap.size w w' := by
  obtain ⟨ba, oa, rfl, hba, hca⟩ := hr1.at (by omega)
  have ha1 := hca (k + 1) (by omega)
  have ha2 := hca k (by omega)
  have ga1 : U (xs.getD (k + 1) 0) := hx.getAnyB _
  have ga2 : U (xs.getD k 0) := hx.getAnyB _
  have gb1 : U (ys.getD (k + 1) 0) := hy.getAnyB _
  have gb2 : U (ys.getD k 0) := hy.getAnyB _
  have hlen := fun w => len_any ga1 w
  have hcl : clampN (s : Int) = s := clampN_of s (by omega)
  have hsh1 := fun w => shl_quiet ga1 ga2 (s : Int) w
  have hsh2 := fun w => shl_quiet gb1 gb2 (s : Int) w
  have hw1 := fun (w1 : World) (h : Below w.heap.size w w1) => wordAt_any (c1 := c2) (hr2.later h) (by omega) (k + 1) (by omega)
  have hw2 := fun (w1 : World) (h : Below w.heap.size w w1) => wordAt_any (c1 := c2) (hr2.later h) (by omega) k (by omega)
  rw [hcl] at hsh1 hsh2
  have e1 : ((k + 1 : Nat) : Int) = (k : Int) + 2 - 1 := by omega
  rw [e1] at hw1
  clear e1
  generalize xs.getD (k + 1) 0 = a1 at *
  generalize xs.getD k 0 = a2 at *
  generalize ys.getD (k + 1) 0 = b1 at *
  generalize ys.getD k 0 = b2 at *
  have hlb := lenW_bd ga1
  generalize lenW a1 = ln at *
  have hi1 : ((k : Int) + 2 - 1).toNat = k + 1 := by omega
  have hi2 : ((k : Int) + 2 - 2).toNat = k := by omega
  clear hcl hca hr1
  go_enter Tryz.func211, Tryz.ntmps211
  go_wp2_with fail
  refine (hlen _).mono ?_
  rintro e w' ⟨rfl, rfl⟩
  go_wp2_with fail
  go_quiet ((go_at_call 208; exact Calls.quiet_of (hsh1 _)))
  obtain ⟨w1, hw1e⟩ : ∃ w1, w1 = w.alloc (.cells #[.int .i64 0, .int .u64 0, .int .u64 0, .int .u64 0, .int .u64 0] 233) := ⟨_, rfl⟩
  have hal := alloc_below (w := w) (.cells #[.int .i64 0, .int .u64 0, .int .u64 0, .int .u64 0, .int .u64 0] 233)
  have hR1 := cs_new w 0 0 0 0 0
  rw [← hw1e] at hal hR1 ⊢
  obtain ⟨g4, hg4⟩ : ∃ g4, g4 = w.heap.size := ⟨_, rfl⟩
  rw [← hg4] at hR1 ⊢
  have hg4w : w.heap.size ≤ g4 := by omega
  have hg4l := hR1.lt
  clear hg4 hw1e
  have hal0 := hal
  have hb2 := below_drewN hal nq
  have hb21 : Below w1.heap.size w1 (w1.drewN nq) := below_drewN (Below.refl _ _) nq
  generalize World.drewN w1 nq = w2 at *
  go_wp2_with fail
  refine (hw1 w2 hb2).mono ?_
  rintro e w' ⟨rfl, rfl⟩
  go_wp2_with fail
  refine (hw2 w2 hb2).mono ?_
  rintro e w' ⟨rfl, rfl⟩
  go_wp2_with fail
  refine (hsh2 w2).mono ?_
  rintro e w3 ⟨rfl, nz, hw3⟩
  have hb3 : Below w1.heap.size w1 w3 := by rw [hw3]; exact below_drewN hb21 nz
  clear hw3 hsh1 hsh2 hw1 hw2 hlen
  have hc0 := cs_new w3 0 1 0 0 1
  have hal3 := alloc_below (w := w3) (.cells #[.int .i64 0, .int .u64 1, .int .u64 0, .int .u64 0, .int .u64 1] 233)
  have hb4 := hb3.trans (hal3.mono hb3.size)
  have hgc : w1.heap.size ≤ w3.heap.size := hb3.size
  go_wp2
  generalize hgce : w3.heap.size = gc at *
  generalize w3.alloc (.cells #[.int .i64 0, .int .u64 1, .int .u64 0, .int .u64 0, .int .u64 1] 233) = w4 at *
  clear hgce hal3 hb3
  obtain ⟨x0, hx0⟩ : ∃ x0, x0 = shHi a1 a2 s := ⟨_, rfl⟩
  obtain ⟨y0, hy0⟩ : ∃ y0, y0 = shHi b1 b2 s := ⟨_, rfl⟩
  rw [← hx0, ← hy0]
  have hUx : U x0 := by rw [hx0]; exact U_shHi _ _ _
  have hUy : U y0 := by rw [hy0]; exact U_shHi _ _ _
  rw [← hx0, ← hy0] at hyx
  have HX : Hid (shHi a1 a2 s = x0) := hx0.symm
  have HY : Hid (shHi b1 b2 s = y0) := hy0.symm
  clear hx0 hy0
  go_loopw [7, 9, 12, 13] (fun sx sy _ _ wr => ∃ (K : Nat) (ua ub va vb x y : Int), sx = .int .u64 x ∧ sy = .int .u64 y ∧ Fs x0 y0 K ua ub va vb x y ∧ (K = 0 ∨ (vb ≤ y ∧ vb + ub ≤ x - y)) ∧ (K : Int) ≤ vb ∧ Cs wr gc K ua ub va vb ∧ Below w1.heap.size w1 wr) (fun _ sy _ _ _ => (intOf sy).toNat)
  case atStart => exact ⟨0, 1, 0, 0, 1, x0, y0, rfl, rfl, fs_start hUy.1 hyx, Or.inl rfl, by omega, hc0, hb4⟩
  case round =>
    obtain ⟨K, ua, ub, va, vb, x, y, rfl, rfl, hF, hG, hKv, hC, hB⟩ := hrel
    clear hc0 hb4
    obtain ⟨d0, d1, d2, d3, d4⟩ := hC.cells
    have hR := hR1.later hB
    obtain ⟨r0, r1, r2, r3, r4⟩ := hR.cells
    have f0 := hR.frozen 0
    have f1 := hR.frozen 1
    have f2 := hR.frozen 2
    have f3 := hR.frozen 3
    have f4 := hR.frozen 4
    have hK : (K : Int) ≤ 4294967296 := by
      rcases hG with h | h
      · omega
      · exact hF.small hKv h.1 h.2 hUx.2
    have HK : Hid ((K : Int) ≤ 4294967296) := hK
    have HFG : Hid (K = 0 ∨ ∃ x y, Fs x0 y0 K ua ub va vb x y ∧ vb ≤ y ∧ vb + ub ≤ x - y) := by
      rcases hG with h | h
      · exact Or.inl h
      · exact Or.inr ⟨x, y, hF, h.1, h.2⟩
    have hcl := hC.lt
    have hrl := hR.lt
    by_cases hy0 : y = 0
    · subst hy0
      have hfin := hR.set (K : Int) ua ub va vb
      obtain ⟨z0, z1, z2, z3, z4⟩ := hfin.cells
      have hBf := below_inn (Below.trans hal0 (hB.mono hal0.size)) (Cs.in5 (g := g4) (K : Int) ua ub va vb) hg4w (Nat.le_refl _)
      clear hF hG hC hR1 hfin
      go_wp2
      refine bodyPost_ret (v := .agg #[.int .i64 (K : Int), .int .u64 ua, .int .u64 ub, .int .u64 va, .int .u64 vb]) (by simp [results, Tryz.results211, go_sem, z0, z1, z2, z3, z4]) rfl ⟨K, ua, ub, va, vb, rfl, HK.out, ?_, hBf⟩
      have h9 := HFG.out
      rw [HX.out, HY.out]
      exact h9
    · have t0 : (y != 0) = true := bne_yes hy0
      have hN := hF.step hy0
      have hKm := hF.more hy0 hKv
      have hyp : 1 ≤ y := by have := hF.y0; omega
      have hwd := hN.word hyp
      have hyx2 : y ≤ x := by rcases hF.st with h | h <;> omega
      have hbo := hF.both (show 1 ≤ x by omega) hyp
      have nn := hF.nn
      have hq0 : 0 ≤ x / y := Int.ediv_nonneg (by omega) (by omega)
      have m1 : 0 ≤ x / y * va := Int.mul_nonneg hq0 nn.2.2.1
      have m2 : 0 ≤ x / y * vb := Int.mul_nonneg hq0 (by omega)
      have r0' := Int.emod_nonneg x hy0
      have r1' := Int.emod_lt_of_pos x (show 0 < y by omega)
      unfold U at hUx hUy
      have hxU : x < 18446744073709551616 := by
        have e := hF.e1
        have a : 1 * x ≤ vb * x := Int.mul_le_mul_of_nonneg_right (by omega) (by omega)
        have b : 0 ≤ ub * y := Int.mul_nonneg nn.2.1 hF.y0
        omega
      have hyU : y < 18446744073709551616 := by omega
      have hva : va < 18446744073709551616 := by
        have e := hF.word (show 1 ≤ x by omega)
        omega
      have hub : ub < 18446744073709551616 := by omega
      have hvb : vb < 18446744073709551616 := by omega
      have hboth := fun h => hN.both hyp h
      obtain ⟨Qa, hQa⟩ : ∃ v, v = x / y * va := ⟨_, rfl⟩
      obtain ⟨Qb, hQb⟩ : ∃ v, v = x / y * vb := ⟨_, rfl⟩
      rw [← hQa] at hN hwd m1
      rw [← hQb] at hN hwd hKm m2 hboth
      obtain ⟨r, hr⟩ : ∃ r, r = x % y := ⟨_, rfl⟩
      obtain ⟨va', hva'⟩ : ∃ v, v = ua + Qa := ⟨_, rfl⟩
      obtain ⟨vb', hvb'⟩ : ∃ v, v = ub + Qb := ⟨_, rfl⟩
      have w1' : IntKind.u64.wrap (x / y * va) = Qa := by rw [← hQa, IntKind.wrap_u64]; omega
      have w2' : IntKind.u64.wrap (ua + Qa) = va' := by rw [IntKind.wrap_u64]; omega
      have w3' : IntKind.u64.wrap (x / y * vb) = Qb := by rw [← hQb, IntKind.wrap_u64]; omega
      have w4' : IntKind.u64.wrap (ub + Qb) = vb' := by rw [IntKind.wrap_u64]; omega
      rw [← hva'] at hN hwd
      rw [← hvb'] at hN hwd hKm hboth
      have hnn := hN.nn
      rw [← hr] at hN r0' r1' hboth
      have w5' : IntKind.u64.wrap (y - r) = y - r := by rw [IntKind.wrap_u64]; omega
      have c1' : IntKind.i64.wrap ((K : Int) + 1) = (K : Int) + 1 := by rw [IntKind.wrap_i64]; omega
      have HN : Hid (Fs x0 y0 (K + 1) va vb va' vb' y r) := hN
      have hre : x % y = r := hr.symm
      have hne : gc ≠ g4 := by omega
      have HKM : Hid (((K + 1 : Nat) : Int) ≤ vb') := hKm
      clear hF hN hG nn hal d0 d1 d2 d3 d4 r0 r1 r2 r3 r4 f0 f1 f2 f3 f4 hr hQa hQb hva' hvb' hcl hrl hKm m1 m2
      go_wp2
      go_quiet (fail)
      have hbq := below_drewN (Below.refl wr.heap.size wr) nq
      generalize World.drewN wr nq = wq at *
      have hCq := hC.later hbq
      have hRq := hR.later hbq
      have hBq := hB.trans (hbq.mono hB.size)
      obtain ⟨d0, d1, d2, d3, d4⟩ := hCq.cells
      obtain ⟨r0, r1, r2, r3, r4⟩ := hRq.cells
      have f0 := hRq.frozen 0
      have f1 := hRq.frozen 1
      have f2 := hRq.frozen 2
      have f3 := hRq.frozen 3
      have f4 := hRq.frozen 4
      have g0 := hCq.frozen 0
      have g1 := hCq.frozen 1
      have g2 := hCq.frozen 2
      have g3 := hCq.frozen 3
      have g4' := hCq.frozen 4
      have hcl := hCq.lt
      have hrl := hRq.lt
      clear hC hR hB hbq
      by_cases hb1 : r < vb'
      · have b1 : decide (r < vb') = true := decide_eq_true hb1
        have hfin0 := hRq.set (K : Int) ua ub va vb
        have hin0 := Cs.in5 (w := wq) (g := g4) (K : Int) ua ub va vb
        have hB0 := below_inn (Below.trans hal0 (hBq.mono hal0.size)) hin0 hg4w (Nat.le_refl _)
        have halx := alloc_below (w := ((((wq.setCell ⟨g4, 0, none⟩ (.int .i64 (K : Int))).setCell ⟨g4, 1, none⟩ (.int .u64 ua)).setCell ⟨g4, 2, none⟩ (.int .u64 ub)).setCell ⟨g4, 3, none⟩ (.int .u64 va)).setCell ⟨g4, 4, none⟩ (.int .u64 vb)) (.cells #[.int .i64 ((K : Int) + 1), .int .u64 va, .int .u64 vb, .int .u64 va', .int .u64 vb'] 233)
        have hfin := hfin0.later halx
        obtain ⟨z0, z1, z2, z3, z4⟩ := hfin.cells
        have hBf := hB0.trans (halx.mono hB0.size)
        clear hfin hfin0 hin0 hB0 halx hRq hBq hCq
        go_wp2
        refine bodyPost_ret (v := .agg #[.int .i64 (K : Int), .int .u64 ua, .int .u64 ub, .int .u64 va, .int .u64 vb]) (by simp [results, Tryz.results211, go_sem, z0, z1, z2, z3, z4]) rfl ⟨K, ua, ub, va, vb, rfl, HK.out, ?_, hBf⟩
        have h9 := HFG.out
        rw [HX.out, HY.out]
        exact h9
      · have b1 : decide (r < vb') = false := decide_eq_false hb1
        have hsum := hboth (by omega)
        have w6' : IntKind.u64.wrap (vb' + vb) = vb' + vb := by rw [IntKind.wrap_u64]; omega
        by_cases hb2 : y - r < vb' + vb
        · have b2 : decide (y - r < vb' + vb) = true := decide_eq_true hb2
          have hfin0 := hRq.set (K : Int) ua ub va vb
          have hin0 := Cs.in5 (w := wq) (g := g4) (K : Int) ua ub va vb
          have hB0 := below_inn (Below.trans hal0 (hBq.mono hal0.size)) hin0 hg4w (Nat.le_refl _)
          have halx := alloc_below (w := ((((wq.setCell ⟨g4, 0, none⟩ (.int .i64 (K : Int))).setCell ⟨g4, 1, none⟩ (.int .u64 ua)).setCell ⟨g4, 2, none⟩ (.int .u64 ub)).setCell ⟨g4, 3, none⟩ (.int .u64 va)).setCell ⟨g4, 4, none⟩ (.int .u64 vb)) (.cells #[.int .i64 ((K : Int) + 1), .int .u64 va, .int .u64 vb, .int .u64 va', .int .u64 vb'] 233)
          have hfin := hfin0.later halx
          obtain ⟨z0, z1, z2, z3, z4⟩ := hfin.cells
          have hBf := hB0.trans (halx.mono hB0.size)
          clear hfin hfin0 hin0 hB0 halx hRq hBq hCq
          go_wp2
          refine bodyPost_ret (v := .agg #[.int .i64 (K : Int), .int .u64 ua, .int .u64 ub, .int .u64 va, .int .u64 vb]) (by simp [results, Tryz.results211, go_sem, z0, z1, z2, z3, z4]) rfl ⟨K, ua, ub, va, vb, rfl, HK.out, ?_, hBf⟩
          have h9 := HFG.out
          rw [HX.out, HY.out]
          exact h9
        · have b2 : decide (y - r < vb' + vb) = false := decide_eq_false hb2
          have hset0 := hCq.set ((K : Int) + 1) va vb va' vb'
          have hin0 := Cs.in5 (w := wq) (g := gc) ((K : Int) + 1) va vb va' vb'
          have hB0 := below_inn hBq hin0 (by omega) (Nat.le_refl _)
          have halx := alloc_below (w := ((((wq.setCell ⟨gc, 0, none⟩ (.int .i64 ((K : Int) + 1))).setCell ⟨gc, 1, none⟩ (.int .u64 va)).setCell ⟨gc, 2, none⟩ (.int .u64 vb)).setCell ⟨gc, 3, none⟩ (.int .u64 va')).setCell ⟨gc, 4, none⟩ (.int .u64 vb')) (.cells #[.int .i64 ((K : Int) + 1), .int .u64 va, .int .u64 vb, .int .u64 va', .int .u64 vb'] 233)
          have hset := hset0.later halx
          have hBn := hB0.trans (halx.mono hB0.size)
          clear hset0 hin0 hB0 halx hRq hBq hCq
          go_wp2
          go_roundw
          case rel => exact ⟨K + 1, va, vb, va', vb', y, r, rfl, congrArg (Value.int .u64) hre, HN.out, Or.inr ⟨by omega, by omega⟩, HKM.out, hset, hBn⟩
          case measure => simp [intOf]; omega
end Go.Proofs.YtceecgklgkiffaaGreatDoor

/- package quot: run. -/
namespace Go.Proofs.YtceecgklgkiffaaGreatDoor
open Go.ChangeShapes Go.WideShapes Go.ChangeAt Go.RowKit
open Na Ar
set_option linter.unusedVariables false
set_option maxHeartbeats 6400000 in
set_option maxRecDepth 100000 in
theorem quotRun_any {a b : Option Addr} {n m c1 c2 K : Nat} {xs ys : List Int} {ua ub va vb A' B' : Int} {w : World} (hr1 : RowC w a n c1 xs) (hr2 : RowC w b m c2 ys) (hx : Ws xs) (hy : Ws ys) (hn : n ≤ 3800000) (hm : m ≤ 3800000)
    (hua : U ua) (hub : U ub) (hva : U va) (hvb : U vb) (hK : (K : Int) ≤ 4294967296) (hc : Crs K ua ub va vb (num xs) (num ys) A' B') :
    Calls Tryz.prog 212 #[.agg #[.int .i64 (K : Int), .int .u64 ua, .int .u64 ub, .int .u64 va, .int .u64 vb], .slice a n c1, .slice b m c2] w fun e w' => ∃ v1 v2, e = .returned (.tuple #[v1, v2]) ∧ Own .u64 w' w.heap.size 22 v1 (words A') ∧ Own .u64 w' w.heap.size 22 v2 (words B') ∧ Below w.heap.size w w' := by
  have hA := hc.da
  have hB := hc.db
  have n1 := hc.nn
  have n2 := hc.ord
  obtain ⟨w0, hw0⟩ : ∃ w0, w0 = w.alloc (.cells #[.int .i64 (K : Int), .int .u64 ua, .int .u64 ub, .int .u64 va, .int .u64 vb] 233) := ⟨_, rfl⟩
  have hb0 := alloc_below (w := w) (.cells #[.int .i64 (K : Int), .int .u64 ua, .int .u64 ub, .int .u64 va, .int .u64 vb] 233)
  rw [← hw0] at hb0
  have hcl : ∀ w1, Below w0.heap.size w0 w1 → w1.cell? ⟨w.heap.size, 1, none⟩ = some (.int .u64 ua) ∧ w1.cell? ⟨w.heap.size, 2, none⟩ = some (.int .u64 ub) ∧ w1.cell? ⟨w.heap.size, 3, none⟩ = some (.int .u64 va) ∧ w1.cell? ⟨w.heap.size, 4, none⟩ = some (.int .u64 vb) := fun w1 h => by
    have hl : w.heap.size < w0.heap.size := by rw [hw0]; simp
    have e : w1.heap[w.heap.size]? = some (.cells #[.int .i64 (K : Int), .int .u64 ua, .int .u64 ub, .int .u64 va, .int .u64 vb] 233 (0, 0)) := by
      rw [h.block _ hl, hw0]; exact heap_alloc_new _ _
    simp [World.cell?, e]
  obtain ⟨p1, p2, p3, p4⟩ := hcl w0 (Below.refl _ _)
  by_cases hp : K % 2 = 0
  · rw [if_pos hp] at hA hB
    have hd1 : ∀ w1, Below w0.heap.size w0 w1 → Calls Tryz.prog 220 #[.slice a n c1, .int .u64 ua, .slice b m c2, .int .u64 ub] w1 fun e w' => ∃ v, e = .returned v ∧ Own .u64 w' w.heap.size 22 v (words A') ∧ Below w0.heap.size w0 w' ∧ Below w1.heap.size w1 w' := fun w1 h => by
      have hh := hb0.trans (h.mono hb0.size)
      refine (difference_any (p := ua) (q := ub) (hr1.later hh) (hr2.later hh) hx hy hua hub (by omega) (by omega) (by omega)).mono ?_
      rintro e w' ⟨v, rfl, ho, hb⟩
      exact ⟨v, rfl, by rw [hA]; exact ho.wider hh.size, h.trans (hb.mono h.size), hb⟩
    have hd2 : ∀ w1, Below w0.heap.size w0 w1 → Calls Tryz.prog 220 #[.slice b m c2, .int .u64 vb, .slice a n c1, .int .u64 va] w1 fun e w' => ∃ v, e = .returned v ∧ Own .u64 w' w.heap.size 22 v (words B') ∧ Below w0.heap.size w0 w' ∧ Below w1.heap.size w1 w' := fun w1 h => by
      have hh := hb0.trans (h.mono hb0.size)
      refine (difference_any (p := vb) (q := va) (hr2.later hh) (hr1.later hh) hy hx hvb hva (by omega) (by omega) (by omega)).mono ?_
      rintro e w' ⟨v, rfl, ho, hb⟩
      exact ⟨v, rfl, by rw [hB]; exact ho.wider hh.size, h.trans (hb.mono h.size), hb⟩
    have hk : (K : Int) % 2 = 0 := by omega
    clear hA hB hc hr1 hr2 n1 n2 hp
    go_enter Tryz.func212, Tryz.ntmps212
    go_wp2
    rw [← hw0]
    have HB0 := hb0
    have HS := hb0.size
    obtain ⟨g, hg⟩ : ∃ g, g = w.heap.size := ⟨_, rfl⟩
    have HG : Hid (w.heap.size = g) := hg.symm
    rw [← hg] at hcl hd1 hd2 p1 p2 p3 p4 HB0 HS ⊢
    clear hw0 hb0 hg
    go_region_held3 (fun w' => w'.cell? ⟨g, 1, none⟩ = some (.int .u64 ua) ∧ w'.cell? ⟨g, 2, none⟩ = some (.int .u64 ub) ∧ w'.cell? ⟨g, 3, none⟩ = some (.int .u64 va) ∧ w'.cell? ⟨g, 4, none⟩ = some (.int .u64 vb)) (go_keep) (first | (go_at_call_of 220 ua; refine (hd1 _ (by first | exact hB2 | exact below_drewN hB2 _ | exact Below.refl _ _ | exact below_drewN (Below.refl _ _) _)).mono ?_; rintro e wA ⟨v1, rfl, hv1, hB1, hbA⟩; obtain ⟨p1, p2, p3, p4⟩ := hcl wA hB1) | (go_at_call_of 220 va; refine (hd2 _ (by first | exact hB1 | exact below_drewN hB1 _ | exact Below.refl _ _ | exact below_drewN (Below.refl _ _) _)).mono ?_; rintro e wB ⟨v2, rfl, hv2, hB2, hbB⟩; obtain ⟨p1, p2, p3, p4⟩ := hcl wB hB2))
    go_wp2
    go_ret2
    exact ⟨_, _, rfl, by rw [HG.out]; exact hv1.later hbB, by rw [HG.out]; exact hv2, by rw [HG.out]; exact HB0.trans (hB2.mono HS)⟩
  · rw [if_neg hp] at hA hB
    have hd1 : ∀ w1, Below w0.heap.size w0 w1 → Calls Tryz.prog 220 #[.slice b m c2, .int .u64 ub, .slice a n c1, .int .u64 ua] w1 fun e w' => ∃ v, e = .returned v ∧ Own .u64 w' w.heap.size 22 v (words A') ∧ Below w0.heap.size w0 w' ∧ Below w1.heap.size w1 w' := fun w1 h => by
      have hh := hb0.trans (h.mono hb0.size)
      refine (difference_any (p := ub) (q := ua) (hr2.later hh) (hr1.later hh) hy hx hub hua (by omega) (by omega) (by omega)).mono ?_
      rintro e w' ⟨v, rfl, ho, hb⟩
      exact ⟨v, rfl, by rw [hA]; exact ho.wider hh.size, h.trans (hb.mono h.size), hb⟩
    have hd2 : ∀ w1, Below w0.heap.size w0 w1 → Calls Tryz.prog 220 #[.slice a n c1, .int .u64 va, .slice b m c2, .int .u64 vb] w1 fun e w' => ∃ v, e = .returned v ∧ Own .u64 w' w.heap.size 22 v (words B') ∧ Below w0.heap.size w0 w' ∧ Below w1.heap.size w1 w' := fun w1 h => by
      have hh := hb0.trans (h.mono hb0.size)
      refine (difference_any (p := va) (q := vb) (hr1.later hh) (hr2.later hh) hx hy hva hvb (by omega) (by omega) (by omega)).mono ?_
      rintro e w' ⟨v, rfl, ho, hb⟩
      exact ⟨v, rfl, by rw [hB]; exact ho.wider hh.size, h.trans (hb.mono h.size), hb⟩
    have hk : (K : Int) % 2 = 1 := by omega
    clear hA hB hc hr1 hr2 n1 n2 hp
    go_enter Tryz.func212, Tryz.ntmps212
    go_wp2
    rw [← hw0]
    have HB0 := hb0
    have HS := hb0.size
    obtain ⟨g, hg⟩ : ∃ g, g = w.heap.size := ⟨_, rfl⟩
    have HG : Hid (w.heap.size = g) := hg.symm
    rw [← hg] at hcl hd1 hd2 p1 p2 p3 p4 HB0 HS ⊢
    clear hw0 hb0 hg
    go_region_held3 (fun w' => w'.cell? ⟨g, 1, none⟩ = some (.int .u64 ua) ∧ w'.cell? ⟨g, 2, none⟩ = some (.int .u64 ub) ∧ w'.cell? ⟨g, 3, none⟩ = some (.int .u64 va) ∧ w'.cell? ⟨g, 4, none⟩ = some (.int .u64 vb)) (go_keep) (first | (go_at_call_of 220 ua; refine (hd1 _ (by first | exact hB2 | exact below_drewN hB2 _ | exact Below.refl _ _ | exact below_drewN (Below.refl _ _) _)).mono ?_; rintro e wA ⟨v1, rfl, hv1, hB1, hbA⟩; obtain ⟨p1, p2, p3, p4⟩ := hcl wA hB1) | (go_at_call_of 220 va; refine (hd2 _ (by first | exact hB1 | exact below_drewN hB1 _ | exact Below.refl _ _ | exact below_drewN (Below.refl _ _) _)).mono ?_; rintro e wB ⟨v2, rfl, hv2, hB2, hbB⟩; obtain ⟨p1, p2, p3, p4⟩ := hcl wB hB2))
    go_wp2
    go_ret2
    exact ⟨_, _, rfl, by rw [HG.out]; exact hv1.later hbB, by rw [HG.out]; exact hv2, by rw [HG.out]; exact HB0.trans (hB2.mono HS)⟩
end Go.Proofs.YtceecgklgkiffaaGreatDoor

/- package quot: euclid. -/
namespace Go.Proofs.YtceecgklgkiffaaGreatDoor
open Go.ChangeShapes Go.WideShapes Go.ChangeAt Go.RowKit
open Na Ar
set_option linter.unusedVariables false
namespace Na
theorem top_num {A a1 a0 P R : Int} {s : Nat} (hs : s ≤ 63) (hP : 0 < P) (ha0 : 0 ≤ a0 ∧ a0 < 18446744073709551616) (ha1 : 0 ≤ a1) (e : A = R + P * (a0 + 18446744073709551616 * a1)) (hR : 0 ≤ R ∧ R < P) (hlt : a1 < 2 ^ (64 - s)) (hB : (18446744073709551616 : Int) = 2 ^ s * 2 ^ (64 - s)) :
    (a1 * 18446744073709551616 + a0) * 2 ^ s / 18446744073709551616 % 18446744073709551616 = A / (P * 2 ^ (64 - s)) := by
  have ps : (0 : Int) < 2 ^ s := Int.pow_pos (by omega)
  have pt : (0 : Int) < 2 ^ (64 - s) := Int.pow_pos (by omega)
  have e1 : A / P = a1 * 18446744073709551616 + a0 := by
    rw [e, Int.add_mul_ediv_left _ _ (by omega), Int.ediv_eq_zero_of_lt hR.1 hR.2]; omega
  have e2 : A / (P * 2 ^ (64 - s)) = (a1 * 18446744073709551616 + a0) / 2 ^ (64 - s) := by
    rw [← Int.ediv_ediv_of_nonneg (Int.le_of_lt hP), e1]
  rw [e2]
  have e3 : (a1 * 18446744073709551616 + a0) * 2 ^ s / 18446744073709551616 = (a1 * 18446744073709551616 + a0) / 2 ^ (64 - s) := by
    generalize a1 * 18446744073709551616 + a0 = z
    rw [hB, Int.mul_comm z, Int.mul_ediv_mul_of_pos _ _ ps]
  rw [e3]
  refine Int.emod_eq_of_lt (Int.ediv_nonneg (by omega) (by omega)) (Int.ediv_lt_of_lt_mul pt ?_)
  have m : (a1 + 1) * 18446744073709551616 ≤ 2 ^ (64 - s) * 18446744073709551616 := Int.mul_le_mul_of_nonneg_right (by omega) (by omega)
  rw [Int.mul_comm (18446744073709551616 : Int) (2 ^ (64 - s))]
  omega

theorem pad_two {ys : List Int} {k : Nat} (hy : Ws ys) (hl : ys.length ≤ k + 2) : ∃ R, (0 ≤ R ∧ R < 18446744073709551616 ^ k) ∧ num ys = R + 18446744073709551616 ^ k * (ys.getD k 0 + 18446744073709551616 * ys.getD (k + 1) 0) := by
  have p := wpow_pos k
  have n0 := num_nonneg hy
  have nb := num_bd hy
  by_cases h1 : ys.length ≤ k
  · have m := wpow_mono h1
    refine ⟨num ys, by omega, ?_⟩
    rw [getD_out (by omega), getD_out (by omega)]; omega
  · by_cases h2 : ys.length = k + 1
    · have e := win_succ (us := ys) (o := 0) (m := k) (by omega)
      rw [win_all h2, Nat.zero_add] at e
      refine ⟨Na.win ys 0 k, ⟨win_nonneg hy 0 k, win_lt hy (by omega)⟩, ?_⟩
      rw [getD_out (k := k + 1) (by omega), e]
      have : ys.getD k 0 + 18446744073709551616 * 0 = ys.getD k 0 := by omega
      rw [this]
    · have h3 : ys.length = k + 2 := by omega
      have e := win_two (us := ys) (o := 0) (k := k) (by omega)
      rw [win_all h3, Nat.zero_add, Nat.zero_add] at e
      refine ⟨Na.win ys 0 k, ⟨win_nonneg hy 0 k, win_lt hy (by omega)⟩, ?_⟩
      rw [e]
      generalize (18446744073709551616 : Int) ^ k = P
      grind
/-- the top parts of two numbers, the first not the lesser -/
theorem tops {A B : Int} {k : Nat} (hA : 0 < A) (hB : 0 ≤ B) (hAB : B ≤ A) (hl : (words A).length = k + 2) :
    ∃ (s : Nat) (H : Int), s ≤ 63 ∧ (64 : Int) - lenW ((words A).getD (k + 1) 0) = (s : Int) ∧ 0 < H ∧ shHi ((words A).getD (k + 1) 0) ((words A).getD k 0) s = A / H ∧ shHi ((words B).getD (k + 1) 0) ((words B).getD k 0) s = B / H ∧ B / H ≤ A / H ∧ A / H < 18446744073709551616 := by
  have dA := Dg_words A
  have dB := Dg_words B
  have nA := num_words (Int.le_of_lt hA)
  have nB := num_words hB
  obtain ⟨s, hs, hsl, hsb, ha1⟩ := dv_shift hA hl
  have gA1 := dA.getAnyB (k + 1)
  have gA0 := dA.getAnyB k
  have gB1 := dB.getAnyB (k + 1)
  have gB0 := dB.getAnyB k
  have lB := words_mono hB hAB
  obtain ⟨R1, r1, e1⟩ := pad_two (k := k) dA (by omega)
  obtain ⟨R2, r2, e2⟩ := pad_two (k := k) dB (by omega)
  rw [nA] at e1
  rw [nB] at e2
  obtain ⟨i, hi, i1, i2, i3⟩ := lenW_pos (x := (words A).getD (k + 1) 0) gA1 (by omega)
  have e64 : 64 - s = i + 1 := by rw [i1] at hsl; omega
  have a1lt : (words A).getD (k + 1) 0 < 2 ^ (64 - s) := by rw [e64]; exact i3
  have p := wpow_pos k
  have hBB : (18446744073709551616 : Int) = 2 ^ s * 2 ^ (64 - s) := by
    rw [← Int.pow_add, Nat.add_sub_cancel' (by omega)]; rfl
  have b1lt : (words B).getD (k + 1) 0 < 2 ^ (64 - s) := by
    by_cases g : (words B).getD (k + 1) 0 ≤ (words A).getD (k + 1) 0
    · omega
    · exfalso
      have m : 18446744073709551616 ^ k * ((words A).getD k 0 + 18446744073709551616 * (words A).getD (k + 1) 0 + 1) ≤ 18446744073709551616 ^ k * ((words B).getD k 0 + 18446744073709551616 * (words B).getD (k + 1) 0) := Int.mul_le_mul_of_nonneg_left (by omega) (Int.le_of_lt p)
      rw [Int.mul_add, Int.mul_one] at m
      omega
  have q1 := top_num hs p gA0 gA1.1 e1 r1 a1lt hBB
  have q2 := top_num hs p gB0 gB1.1 e2 r2 b1lt hBB
  have pH : 0 < (18446744073709551616 : Int) ^ k * 2 ^ (64 - s) := Int.mul_pos p (p2pos _)
  refine ⟨s, 18446744073709551616 ^ k * 2 ^ (64 - s), hs, hsl, pH, q1, q2, Int.ediv_le_ediv pH hAB, ?_⟩
  rw [← q1]
  exact (U_shHi ((words A).getD (k + 1) 0) ((words A).getD k 0) s).2
/-- what foresee tells, of the whole numbers -/
theorem foreseen {A B H : Int} {K : Nat} {ua ub va vb x y : Int} (hH : 0 < H) (hA : 0 < A) (hB : 0 ≤ B) (hlt : A / H < 18446744073709551616) (hF : Fs (A / H) (B / H) K ua ub va vb x y) (hK : K ≠ 0) (g1 : vb ≤ y) (g2 : vb + ub ≤ x - y) :
    (∃ A' B', Crs K ua ub va vb A B A' B') ∧ U ua ∧ U ub ∧ U va ∧ U vb := by
  have mA := Int.mul_ediv_add_emod A H
  have mB := Int.mul_ediv_add_emod B H
  have c := hF.course (by omega) g1 g2 hH ⟨Int.emod_nonneg A (show H ≠ 0 by omega), Int.emod_lt_of_pos A hH⟩ ⟨Int.emod_nonneg B (show H ≠ 0 by omega), Int.emod_lt_of_pos B hH⟩
  have eA : A / H * H + A % H = A := by rw [Int.mul_comm]; exact mA
  have eB : B / H * H + B % H = B := by rw [Int.mul_comm]; exact mB
  rw [eA, eB] at c
  have nn := hF.nn
  have b := hF.both (show 1 ≤ x by omega) (show 1 ≤ y by omega)
  have w := hF.word (show 1 ≤ x by omega)
  have hh : ua ≤ ub ∧ va ≤ vb := by
    rcases hF.st with s | s
    · omega
    · omega
  refine ⟨c, ?_, ?_, ?_, ?_⟩ <;> unfold U <;> omega
end Na

set_option maxHeartbeats 6400000 in
set_option maxRecDepth 100000 in
theorem euclid_any {a b : Option Addr} {n m c1 c2 : Nat} {A B : Int} {w : World} (hr1 : RowC w a n c1 (words A)) (hr2 : RowC w b m c2 (words B)) (hA : 0 < A) (hB : 0 ≤ B) (hBA : B ≤ A) (hn : n ≤ 3700000) :
    Calls Tryz.prog 186 #[.slice a n c1, .slice b m c2] w fun e w' => ∃ va l c, e = .returned (.slice va l c) ∧ RowC w' va l c (words (Int.gcd A B : Int)) ∧ l ≤ 3800000 ∧ Below w.heap.size w w' := by
  have hlen := hr1.1.1
  go_enter Tryz.func186, Tryz.ntmps186
  go_wp2
  go_loopg [0, 1, 5, 6, 7, 8] (A + B).toNat (fun g sa sb _ _ _ _ wr => ∃ (A' B' : Int) (va vb : Option Addr) (l1 l2 d1 d2 : Nat), g = (A' + B').toNat ∧ sa = .slice va l1 d1 ∧ sb = .slice vb l2 d2 ∧ RowC wr va l1 d1 (words A') ∧ RowC wr vb l2 d2 (words B') ∧ 0 < A' ∧ 0 ≤ B' ∧ B' ≤ A' ∧ A' ≤ A ∧ Hid (Int.gcd A' B' = Int.gcd A B) ∧ Below w.heap.size w wr)
  case atStart => exact ⟨A, B, a, b, n, m, c1, c2, rfl, rfl, rfl, hr1, hr2, hA, hB, hBA, Int.le_refl _, rfl, Below.refl _ _⟩
  case round =>
    obtain ⟨A', B', va, vb, l1, l2, d1, d2, hg, rfl, rfl, hra, hrb, hA', hB', hBA', hAA, hgc, hBw⟩ := hrel
    clear hr1 hr2
    have e1 := hra.1.1
    have e2 := hrb.1.1
    have nA := num_words (Int.le_of_lt hA')
    have nB := num_words hB'
    have dA := Dg_words A'
    have dB := Dg_words B'
    have m1 := words_mono (Int.le_of_lt hA') hAA
    have m2 := words_mono hB' hBA'
    have hl1 : l1 ≤ 3700000 := by omega
    have hl2 : l2 ≤ 3700000 := by omega
    by_cases hbig : 1 < l2
    · have hBp : 0 < B' := by
        have := words_nil hB'
        omega
      obtain ⟨k, hk⟩ : ∃ k, l1 = k + 2 := ⟨l1 - 2, by omega⟩
      subst hk
      obtain ⟨s, H, hs, hsl, hH, t1, t2, t3, t4⟩ := tops hA' hB' hBA' e1
      have hfs := foresee_any (c1 := d1) (c2 := d2) hra.1 hrb.1 dA dB (by omega) (by omega) hsl hs (by rw [t1, t2]; exact t3)
      rw [t1, t2] at hfs
      have hkn := fun K ua ub va' vb' x y h1 h2 h3 h4 => foreseen (K := K) (ua := ua) (ub := ub) (va := va') (vb := vb') (x := x) (y := y) hH hA' hB' t4 h1 h2 h3 h4
      have HE : Hid ((words A').length = k + 2 ∧ (words B').length = l2) := ⟨e1, e2⟩
      have hlt : (1 : Int) < (l2 : Int) := by omega
      clear t1 t2 t3 t4 hsl e1 e2 m1 m2 hlen
      go_wp2_with fail
      refine hfs.mono ?_
      rintro e w2 ⟨K, ua, ub, va', vb', rfl, hK, hF, hb2⟩
      have hB2 := hBw.trans (hb2.mono hBw.size)
      have hal := alloc_below (w := w2) (.cells #[.int .i64 (K : Int), .int .u64 ua, .int .u64 ub, .int .u64 va', .int .u64 vb'] 233)
      have hra2 := (hra.later hb2).later hal
      have hrb2 := (hrb.later hb2).later hal
      have hB3 := hB2.trans (hal.mono hB2.size)
      clear hfs hra hrb
      by_cases hK0 : K = 0
      · have hdm := divMod_any hra2 hrb2 dA dB (by omega) (by omega) (by rw [nB]; exact hBp)
        rw [nA, nB] at hdm
        have r0 := Int.emod_nonneg A' (show B' ≠ 0 by omega)
        have r1 := Int.emod_lt_of_pos A' hBp
        have HG : Hid (Int.gcd B' (A' % B') = Int.gcd A B) := (gcd_step A' B').trans hgc.out
        have hk1 : decide ((0 : Int) < (K : Int)) = false := decide_eq_false (by omega)
        have hk2 : ¬ (0 : Int) < (K : Int) := by omega
        clear hF hkn hK0
        go_wp2_with fail
        refine hdm.mono ?_
        rintro e w4 ⟨vq, vr, rfl, hq, hr, hb4, _⟩
        obtain ⟨ra, rc, rfl, hrr⟩ := hr.readsC
        have hB4 := hB3.trans (hb4.mono hB3.size)
        have hrb4 := hrb2.later hb4
        clear hdm hra2 hrb2 hq hr
        go_wp2
        go_roundg (B' + A' % B').toNat
        case measure => omega
        case rel => exact ⟨B', A' % B', vb, ra, l2, _, d2, rc, rfl, rfl, rfl, hrb4, hrr, hBp, r0, by omega, by omega, HG, hB4⟩
      · obtain ⟨x, y, hFs, q1, q2⟩ := hF.resolve_left hK0
        obtain ⟨⟨A2, B2, hcr⟩, u1, u2, u3, u4⟩ := hkn K ua ub va' vb' x y hFs hK0 q1 q2
        have hrun := quotRun_any hra2 hrb2 dA dB (by omega) (by omega) u1 u2 u3 u4 hK (by rw [nA, nB]; exact hcr)
        have HG : Hid (Int.gcd A2 B2 = Int.gcd A B) := hcr.gcd.trans hgc.out
        have o1 := hcr.ord
        have o2 := hcr.nn
        have o3 := hcr.sm
        have ea := hcr.ea
        have hA2 : 0 < A2 := by
          by_cases g : 0 < A2
          · exact g
          · exfalso
            have z1 : A2 = 0 := by omega
            have z2 : B2 = 0 := by omega
            rw [z1, z2] at ea
            omega
        have hk1 : (0 : Int) < (K : Int) := by omega
        have hk2 : decide ((0 : Int) < (K : Int)) = true := decide_eq_true hk1
        clear hF hkn hFs hcr ea
        go_wp2_with fail
        refine hrun.mono ?_
        rintro e w4 ⟨v1, v2, rfl, hv1, hv2, hb4⟩
        obtain ⟨pa, pc, rfl, hpr⟩ := hv1.readsC
        obtain ⟨qa, qc, rfl, hqr⟩ := hv2.readsC
        have hB4 := hB3.trans (hb4.mono hB3.size)
        clear hrun hra2 hrb2 hv1 hv2
        go_wp2
        go_roundg (A2 + B2).toNat
        case measure => omega
        case rel => exact ⟨A2, B2, pa, qa, _, _, pc, qc, rfl, rfl, rfl, hpr, hqr, hA2, o2, o1, by omega, HG, hB4⟩
    · have hBs : B' < 18446744073709551616 := by
        by_cases g : B' < 18446744073709551616
        · exact g
        · have := words_two (N := B') (by omega)
          omega
      have hword := natWord_any hrb dB (by omega)
      rw [nB] at hword
      have w1 : wordV B' = B' := by unfold wordV; rw [if_pos hBs]
      have w2 : wordB B' = true := decide_eq_true hBs
      rw [w1, w2] at hword
      have hlt : ¬ (1 : Int) < (l2 : Int) := by omega
      by_cases hz : B' = 0
      · have HG : Hid (A' = (Int.gcd A B : Int)) := by
          show _ = _
          rw [← hgc.out, hz, Int.gcd_zero]
          omega
        have tz : (B' == 0) = true := beq_of hz
        clear w1 w2 hlen
        go_wp2_with fail
        refine hword.mono ?_
        rintro e w2 ⟨rfl, hb2⟩
        have hra2 := hra.later hb2
        have hB2 := hBw.trans (hb2.mono hBw.size)
        clear hword hra hrb
        go_wp2
        go_ret
        exact ⟨_, _, _, rfl, by rw [← HG.out]; exact hra2, by omega, hB2⟩
      · have tz : (B' == 0) = false := beq_no hz
        by_cases hone : B' = 1
        · have t1 : (B' == 1) = true := beq_of hone
          have HG : Hid (words 1 = words (Int.gcd A B : Int)) := by
            show _ = _
            rw [← hgc.out, hone, Int.gcd_one]
            rfl
          have hfr := fun w => natFrom_any (v := 1) (by omega) w
          have lG := words_len1 (v := 1) (by omega)
          clear w1 w2 hlen hone
          go_wp2_with fail
          refine hword.mono ?_
          rintro e w2 ⟨rfl, hb2⟩
          have hB2 := hBw.trans (hb2.mono hBw.size)
          clear hword hra hrb
          go_wp2_with fail
          refine (hfr w2).mono ?_
          rintro e w5 ⟨v5, rfl, hv5, hb5⟩
          obtain ⟨fa, fc, rfl, hfrr⟩ := hv5.readsC
          have hB5 := hB2.trans (hb5.mono hB2.size)
          clear hfr hv5
          go_wp2
          go_ret
          exact ⟨_, _, _, rfl, by rw [← HG.out]; exact hfrr, by omega, hB5⟩
        have t1 : (B' == 1) = false := beq_no hone
        have hUB : U B' := ⟨hB', hBs⟩
        have hsm := fun (w2 : World) (h : Below wr.heap.size wr w2) => small_any (d := B') (hra.later h) dA (by omega) hUB hz
        rw [nA] at hsm
        have r0 := Int.emod_nonneg A' hz
        have r1 := Int.emod_lt_of_pos A' (show 0 < B' by omega)
        have hUR : U (A' % B') := ⟨r0, by omega⟩
        have hgw := fun w => gcdWords_any hUB hUR w
        have HG : Hid ((Int.gcd B' (A' % B') : Int) = (Int.gcd A B : Int)) := by
          show _ = _
          rw [gcd_step A' B', hgc.out]
        rw [HG.out] at hgw
        have hGb : 0 ≤ (Int.gcd A B : Int) ∧ (Int.gcd A B : Int) < 18446744073709551616 := by
          rw [← HG.out]
          have hd : (Int.gcd B' (A' % B') : Int) ∣ B' := Int.gcd_dvd_left ..
          have := Int.le_of_dvd (show 0 < B' by omega) hd
          omega
        have hfr := fun w => natFrom_any hGb w
        have lG := words_len1 hGb
        obtain ⟨R, hR⟩ : ∃ R, R = A' % B' := ⟨_, rfl⟩
        rw [← hR] at hsm hgw
        clear w1 w2 hlen r0 r1 hUR hR
        go_wp2_with fail
        refine hword.mono ?_
        rintro e w2 ⟨rfl, hb2⟩
        have hB2 := hBw.trans (hb2.mono hBw.size)
        have hs2 := hsm w2 hb2
        clear hword hsm hra hrb
        go_wp2_with fail
        refine hs2.mono ?_
        rintro e w3 ⟨vq, rfl, _, hb3⟩
        have hB3 := hB2.trans (hb3.mono hB2.size)
        clear hs2
        go_wp2_with fail
        refine (hgw w3).mono ?_
        rintro e w4 ⟨rfl, hb4⟩
        have hB4 := hB3.trans (hb4.mono hB3.size)
        clear hgw
        go_wp2_with fail
        refine (hfr w4).mono ?_
        rintro e w5 ⟨v5, rfl, hv5, hb5⟩
        obtain ⟨fa, fc, rfl, hfrr⟩ := hv5.readsC
        have hB5 := hB4.trans (hb5.mono hB4.size)
        clear hfr hv5
        go_wp2
        go_ret
        exact ⟨_, _, _, rfl, hfrr, by omega, hB5⟩
end Go.Proofs.YtceecgklgkiffaaGreatDoor

/- package quot: Gcd, Lowest. -/
namespace Go.Proofs.YtceecgklgkiffaaGreatDoor
open Go.ChangeShapes Go.WideShapes Go.ChangeAt Go.RowKit
open Na Ar
set_option linter.unusedVariables false
namespace Na
theorem one_iff {X A : Int} {i k : Nat} (e : X = A * 2 ^ i) (hA : 0 < A) (h1 : 2 ^ k ≤ X) (h2 : X < 2 ^ (k + 1)) : A = 1 ↔ i = k := by
  have p := p2pos i
  constructor
  · rintro rfl
    rw [Int.one_mul] at e
    rw [e] at h1 h2
    by_cases g : i < k
    · have : (2 : Int) ^ (i + 1) ≤ 2 ^ k := p2mono (by omega)
      rw [Int.pow_succ] at this; omega
    · by_cases g2 : k + 1 ≤ i
      · have : (2 : Int) ^ (k + 1) ≤ 2 ^ i := p2mono g2
        omega
      · omega
  · rintro rfl
    by_cases g : 2 ≤ A
    · exfalso
      have : (2 : Int) * 2 ^ i ≤ A * 2 ^ i := Int.mul_le_mul_of_nonneg_right g (Int.le_of_lt p)
      rw [Int.pow_succ] at h2
      omega
    · omega
theorem twos_of {X : Int} (h : 0 < X) : ∃ (i : Nat) (A : Int), X = A * 2 ^ i ∧ A % 2 = 1 ∧ 0 < A ∧ zerosN X = (i : Int) ∧ X / 2 ^ i = A := by
  obtain ⟨k, m, hk⟩ := odd_part X.toNat (by omega)
  have e : X = 2 ^ k * (2 * (m : Int) + 1) := by
    have : X = ((2 ^ (k + 1) * m + 2 ^ k : Nat) : Int) := by omega
    rw [this, Int.natCast_add, Int.natCast_mul, p2cast, p2cast, Int.pow_succ]
    grind
  have hz : zerosN X = k := zerosN_eq e (by omega) (by omega)
  refine ⟨k, 2 * (m : Int) + 1, by rw [e, Int.mul_comm], by omega, by omega, hz, ?_⟩
  rw [e]
  exact Int.mul_ediv_cancel_left _ (by have := p2pos k; omega)
end Na
set_option maxHeartbeats 6400000 in
set_option maxRecDepth 100000 in
theorem gcd_big {a b : Option Addr} {n m c1 c2 : Nat} {xs ys : List Int} {w : World} (hr1 : RowC w a n c1 xs) (hr2 : RowC w b m c2 ys) (hx : Ws xs) (hy : Ws ys) (hn : n ≤ 3700000) (hm : m ≤ 3700000) (hX : 0 < num xs) (hY : 0 < num ys) :
    Calls Tryz.prog 155 #[.slice a n c1, .slice b m c2] w fun e w' => ∃ v, e = .returned v ∧ Own .u64 w' w.heap.size 22 v (words (Int.gcd (num xs) (num ys) : Int)) ∧ Below w.heap.size w w' := by
  have nX := num_words (Int.le_of_lt hX)
  have nY := num_words (Int.le_of_lt hY)
  have dX := Dg_words (num xs)
  have dY := Dg_words (num ys)
  have zX := words_nil (Int.le_of_lt hX)
  have zY := words_nil (Int.le_of_lt hY)
  go_enter Tryz.func155, Tryz.ntmps155
  go_wp2_with fail
  refine (trim_any hr1 hx (by omega)).mono ?_
  rintro e w' ⟨rfl, r1, _, l1, rfl⟩
  go_wp2_with fail
  refine (trim_any hr2 hy (by omega)).mono ?_
  rintro e w' ⟨rfl, r2, _, l2, rfl⟩
  clear hr1 hr2
  obtain ⟨X, hXe⟩ : ∃ X, X = num xs := ⟨_, rfl⟩
  obtain ⟨Y, hYe⟩ : ∃ Y, Y = num ys := ⟨_, rfl⟩
  have HX : Hid (num xs = X) := hXe.symm
  have HY : Hid (num ys = Y) := hYe.symm
  rw [← hXe] at nX dX zX r1 hX l1 ⊢
  rw [← hYe] at nY dY zY r2 hY l2 ⊢
  clear hXe hYe
  have HXY : Hid ((Int.gcd (num xs) (num ys) : Int) = (Int.gcd X Y : Int)) := by show _ = _; rw [HX.out, HY.out]
  obtain ⟨i, A, eX, oA, qA, zi, dvA⟩ := twos_of hX
  obtain ⟨j, B, eY, oB, qB, zj, dvB⟩ := twos_of hY
  have hi9 : i ≤ 250000000 := by
    have b1 := num_bd dX
    rw [nX] at b1
    have b2 : (2 : Int) ^ i ≤ X := by
      have p := p2pos i
      have : 1 * 2 ^ i ≤ A * 2 ^ i := Int.mul_le_mul_of_nonneg_right (by omega) (Int.le_of_lt p)
      omega
    by_cases g : i ≤ 250000000
    · exact g
    · exfalso
      rw [wpow2] at b1
      have := p2mono (show 64 * (words X).length ≤ i by omega)
      omega
  have hj9 : j ≤ 250000000 := by
    have b1 := num_bd dY
    rw [nY] at b1
    have b2 : (2 : Int) ^ j ≤ Y := by
      have p := p2pos j
      have : 1 * 2 ^ j ≤ B * 2 ^ j := Int.mul_le_mul_of_nonneg_right (by omega) (Int.le_of_lt p)
      omega
    by_cases g : j ≤ 250000000
    · exact g
    · exfalso
      rw [wpow2] at b1
      have := p2mono (show 64 * (words Y).length ≤ j by omega)
      omega
  have HT : Hid ((Int.gcd X Y : Int) = (Int.gcd A B : Int) * 2 ^ (min i j)) := by
    show _ = _
    have := gcd_twos i j oA oB (Int.le_of_lt qA) (Int.le_of_lt qB)
    rw [← eX, ← eY] at this
    exact this
  have hzx := fun (w1 : World) (h : Below w.heap.size w w1) => natZeros_any (r1.later h) dX (by omega)
  have hzy := fun (w1 : World) (h : Below w.heap.size w w1) => natZeros_any (r2.later h) dY (by omega)
  rw [nX, zi] at hzx
  rw [nY, zj] at hzy
  have hbX := fun (w1 : World) (h : Below w.heap.size w w1) => bits0_any (r1.later h) dX (by omega)
  have hbY := fun (w1 : World) (h : Below w.heap.size w w1) => bits0_any (r2.later h) dY (by omega)
  rw [nX] at hbX
  rw [nY] at hbY
  obtain ⟨kx, hkx, hkx1, hkx2⟩ := bits_some hX
  obtain ⟨ky, hky, hky1, hky2⟩ := bits_some hY
  have hAone : A = 1 ↔ i = kx := one_iff eX qA hkx1 hkx2
  have hBone : B = 1 ↔ j = ky := one_iff eY qB hky1 hky2
  have kx9 : bitsN X ≤ 64 * 3700000 := by
    have b0 := num_bd dX
    rw [nX] at b0
    have b1 := bits_le (Int.le_of_lt hX) b0
    omega
  have ky9 : bitsN Y ≤ 64 * 3700000 := by
    have b0 := num_bd dY
    rw [nY] at b0
    have b1 := bits_le (Int.le_of_lt hY) b0
    omega
  have hdx := fun (w1 : World) (h : Below w.heap.size w w1) => down_any (r1.later h) dX (by omega) i (by omega)
  have hdy := fun (w1 : World) (h : Below w.heap.size w w1) => down_any (r2.later h) dY (by omega) j (by omega)
  rw [nX, dvA] at hdx
  rw [nY, dvB] at hdy
  have lA : (words A).length ≤ 3700000 := by
    have : A ≤ X := by
      have p := p2pos i
      have : A * 1 ≤ A * 2 ^ i := Int.mul_le_mul_of_nonneg_left (by omega) (Int.le_of_lt qA)
      omega
    have := words_mono (Int.le_of_lt qA) this
    omega
  have lB : (words B).length ≤ 3700000 := by
    have : B ≤ Y := by
      have p := p2pos j
      have : B * 1 ≤ B * 2 ^ j := Int.mul_le_mul_of_nonneg_left (by omega) (Int.le_of_lt qB)
      omega
    have := words_mono (Int.le_of_lt qB) this
    omega
  have dA := Dg_words A
  have dB := Dg_words B
  have nA := num_words (Int.le_of_lt qA)
  have nB := num_words (Int.le_of_lt qB)
  have tx : ((((words X).length : Nat) : Int) == 0) = false := by simp; intro h; have := zX.mp (by rw [h]; rfl); omega
  have ty : ((((words Y).length : Nat) : Int) == 0) = false := by simp; intro h; have := zY.mp (by rw [h]; rfl); omega
  clear r1 r2 zX zY nX nY dX dY eX eY zi zj dvA dvB oA oB
  generalize (words X).length = lx at *
  generalize (words Y).length = ly at *
  go_wp2_with fail
  refine (hzx w (Below.refl _ _)).mono ?_
  rintro e w2 ⟨rfl, hb2⟩
  go_wp2_with fail
  refine (hzy w2 hb2).mono ?_
  rintro e w3 ⟨rfl, hb3⟩
  have hB3 := hb2.trans (hb3.mono hb2.size)
  clear hzx hzy
  generalize bitsN X = bX at *
  generalize bitsN Y = bY at *
  have bX0 : 0 ≤ bX := by omega
  have bY0 : 0 ≤ bY := by omega
  by_cases hA1 : A = 1
  · obtain rfl : bX = (i : Int) + 1 := by have := hAone.mp hA1; omega
    clear hkx hky
    have hown1 : Own .u64 (w3.alloc (.cells #[.int .u64 1] 22)) w3.heap.size 22 (.slice (some ⟨w3.heap.size, 0, none⟩) [(1 : Int)].length 1) [1] := by
      refine ⟨rfl, Or.inr ⟨w3.heap.size, 1, #[.int .u64 1], rfl, Nat.le_refl _, ?_, Nat.le_refl _, by decide, rfl, rfl⟩⟩
      exact heap_alloc_new _ _
    have hrc := hown1.rowC (n := 1) rfl
    have hba := alloc_below (w := w3) (.cells #[.int .u64 1] 22)
    have hBa := hB3.trans (hba.mono hB3.size)
    have one_ws : Ws [(1 : Int)] := Dg.one (by omega)
    have one_num : num [(1 : Int)] = 1 := by simp [num, val]
    clear hown1 hba hBone hAone hkx1 hkx2 hky1 hky2
    go_wp2_with fail
    refine (hbX w3 hB3).mono ?_
    rintro e w' ⟨rfl, rfl⟩
    clear hbX hbY hdx hdy
    by_cases hle : (i : Int) ≤ (j : Int)
    · clear lA lB dA dB nA nB
      have HGG : Hid ((Int.gcd X Y : Int) = 1 * 2 ^ i) := by
        show _ = _
        rw [HT.out, hA1, Int.one_gcd, Nat.min_eq_left (by omega)]; rfl
      have hup := up_any hrc one_ws (by omega) i (by omega)
      rw [one_num] at hup
      go_wp2_with fail
      refine hup.mono ?_
      rintro e w8 ⟨v8, rfl, hv8, hb8⟩
      have hv9 := hv8.wider hBa.size
      have hB8 := hBa.trans (hb8.mono hBa.size)
      clear hup hrc
      go_wp2
      go_ret
      exact ⟨_, rfl, by rw [HXY.out, HGG.out]; exact hv9, hB8⟩
    · clear lA lB dA dB nA nB
      have HGG : Hid ((Int.gcd X Y : Int) = 1 * 2 ^ j) := by
        show _ = _
        rw [HT.out, hA1, Int.one_gcd, Nat.min_eq_right (by omega)]; rfl
      have hup := up_any hrc one_ws (by omega) j (by omega)
      rw [one_num] at hup
      go_wp2_with fail
      refine hup.mono ?_
      rintro e w8 ⟨v8, rfl, hv8, hb8⟩
      have hv9 := hv8.wider hBa.size
      have hB8 := hBa.trans (hb8.mono hBa.size)
      clear hup hrc
      go_wp2
      go_ret
      exact ⟨_, rfl, by rw [HXY.out, HGG.out]; exact hv9, hB8⟩
  · by_cases hB1 : B = 1
    · have t1 : ((i : Int) == bX - 1) = false := by have := fun h => hA1 (hAone.mpr h); simp; omega
      obtain rfl : bY = (j : Int) + 1 := by have := hBone.mp hB1; omega
      clear hkx hky
      have hown1 : Own .u64 (w3.alloc (.cells #[.int .u64 1] 22)) w3.heap.size 22 (.slice (some ⟨w3.heap.size, 0, none⟩) [(1 : Int)].length 1) [1] := by
        refine ⟨rfl, Or.inr ⟨w3.heap.size, 1, #[.int .u64 1], rfl, Nat.le_refl _, ?_, Nat.le_refl _, by decide, rfl, rfl⟩⟩
        exact heap_alloc_new _ _
      have hrc := hown1.rowC (n := 1) rfl
      have hba := alloc_below (w := w3) (.cells #[.int .u64 1] 22)
      have hBa := hB3.trans (hba.mono hB3.size)
      have one_ws : Ws [(1 : Int)] := Dg.one (by omega)
      have one_num : num [(1 : Int)] = 1 := by simp [num, val]
      clear hown1 hba hBone hAone hkx1 hkx2 hky1 hky2
      go_wp2_with fail
      refine (hbX w3 hB3).mono ?_
      rintro e w' ⟨rfl, rfl⟩
      go_wp2_with fail
      refine (hbY w3 hB3).mono ?_
      rintro e w' ⟨rfl, rfl⟩
      clear hbX hbY hdx hdy
      by_cases hle : (i : Int) ≤ (j : Int)
      · clear lA lB dA dB nA nB
        have HGG : Hid ((Int.gcd X Y : Int) = 1 * 2 ^ i) := by
          show _ = _
          rw [HT.out, hB1, Int.gcd_one, Nat.min_eq_left (by omega)]; rfl
        have hup := up_any hrc one_ws (by omega) i (by omega)
        rw [one_num] at hup
        go_wp2_with fail
        refine hup.mono ?_
        rintro e w8 ⟨v8, rfl, hv8, hb8⟩
        have hv9 := hv8.wider hBa.size
        have hB8 := hBa.trans (hb8.mono hBa.size)
        clear hup hrc
        go_wp2
        go_ret
        exact ⟨_, rfl, by rw [HXY.out, HGG.out]; exact hv9, hB8⟩
      · clear lA lB dA dB nA nB
        have HGG : Hid ((Int.gcd X Y : Int) = 1 * 2 ^ j) := by
          show _ = _
          rw [HT.out, hB1, Int.gcd_one, Nat.min_eq_right (by omega)]; rfl
        have hup := up_any hrc one_ws (by omega) j (by omega)
        rw [one_num] at hup
        go_wp2_with fail
        refine hup.mono ?_
        rintro e w8 ⟨v8, rfl, hv8, hb8⟩
        have hv9 := hv8.wider hBa.size
        have hB8 := hBa.trans (hb8.mono hBa.size)
        clear hup hrc
        go_wp2
        go_ret
        exact ⟨_, rfl, by rw [HXY.out, HGG.out]; exact hv9, hB8⟩
    · have t1 : ((i : Int) == bX - 1) = false := by have := fun h => hA1 (hAone.mpr h); simp; omega
      have t2 : ((j : Int) == bY - 1) = false := by have := fun h => hB1 (hBone.mpr h); simp; omega
      clear hBone hAone hkx1 hkx2 hky1 hky2 hkx hky
      go_wp2_with fail
      refine (hbX w3 hB3).mono ?_
      rintro e w' ⟨rfl, rfl⟩
      go_wp2_with fail
      refine (hbY w3 hB3).mono ?_
      rintro e w' ⟨rfl, rfl⟩
      clear hbX hbY hA1 hB1
      go_wp2_with fail
      refine (hdx w3 hB3).mono ?_
      rintro e w4 ⟨va, rfl, hva, hb4⟩
      clear kx9 ky9 bX0 bY0 t1 t2
      have hB4 := hB3.trans (hb4.mono hB3.size)
      go_wp2_with fail
      refine (hdy w4 hB4).mono ?_
      rintro e w5 ⟨vb, rfl, hvb, hb5⟩
      have hB5 := hB4.trans (hb5.mono hB4.size)
      have hva5 := hva.later hb5
      obtain ⟨aa, ac, rfl, hra5⟩ := hva5.readsC
      obtain ⟨ba, bc, rfl, hrb5⟩ := hvb.readsC
      have hcm := fun (w6 : World) (h : Below w5.heap.size w5 w6) => natCmp_any (hra5.later h) (hrb5.later h) dA dB (by omega) (by omega)
      rw [nA, nB] at hcm
      clear hdx hdy hva hvb hva5 hb2 hb3 hb4 hb5
      by_cases hsw : A < B
      · have ho := ordN_lt hsw
        rw [ho] at hcm
        by_cases hle : (i : Int) ≤ (j : Int)
        · have HGG : Hid ((Int.gcd X Y : Int) = (Int.gcd A B : Int) * 2 ^ i) := by
            show _ = _
            rw [HT.out, Nat.min_eq_left (by omega)]
          go_wp2_with fail
          refine (hcm w5 (Below.refl _ _)).mono ?_
          rintro e w6 ⟨rfl, hb6⟩
          have hB6 := hB5.trans (hb6.mono hB5.size)
          have heu := euclid_any (hrb5.later hb6) (hra5.later hb6) qB (Int.le_of_lt qA) (by omega) (by omega)
          rw [Int.gcd_comm] at heu
          clear hcm hra5 hrb5
          generalize (words A).length = la at *
          generalize (words B).length = lb at *
          go_wp2_with fail
          refine heu.mono ?_
          rintro e w7 ⟨ga, gl, gcp, rfl, hgr, hgl, hb7⟩
          have hB7 := hB6.trans (hb7.mono hB6.size)
          have hup := up_any hgr (Dg_words _) (by omega) i (by omega)
          rw [num_words (show (0 : Int) ≤ (Int.gcd A B : Int) by omega)] at hup
          clear heu
          go_wp2_with fail
          refine hup.mono ?_
          rintro e w8 ⟨v8, rfl, hv8, hb8⟩
          have hv9 := hv8.wider hB7.size
          have hB8 := hB7.trans (hb8.mono hB7.size)
          clear hup hgr
          go_wp2
          go_ret
          exact ⟨_, rfl, by rw [HXY.out, HGG.out]; exact hv9, hB8⟩
        · have HGG : Hid ((Int.gcd X Y : Int) = (Int.gcd A B : Int) * 2 ^ j) := by
            show _ = _
            rw [HT.out, Nat.min_eq_right (by omega)]
          go_wp2_with fail
          refine (hcm w5 (Below.refl _ _)).mono ?_
          rintro e w6 ⟨rfl, hb6⟩
          have hB6 := hB5.trans (hb6.mono hB5.size)
          have heu := euclid_any (hrb5.later hb6) (hra5.later hb6) qB (Int.le_of_lt qA) (by omega) (by omega)
          rw [Int.gcd_comm] at heu
          clear hcm hra5 hrb5
          generalize (words A).length = la at *
          generalize (words B).length = lb at *
          go_wp2_with fail
          refine heu.mono ?_
          rintro e w7 ⟨ga, gl, gcp, rfl, hgr, hgl, hb7⟩
          have hB7 := hB6.trans (hb7.mono hB6.size)
          have hup := up_any hgr (Dg_words _) (by omega) j (by omega)
          rw [num_words (show (0 : Int) ≤ (Int.gcd A B : Int) by omega)] at hup
          clear heu
          go_wp2_with fail
          refine hup.mono ?_
          rintro e w8 ⟨v8, rfl, hv8, hb8⟩
          have hv9 := hv8.wider hB7.size
          have hB8 := hB7.trans (hb8.mono hB7.size)
          clear hup hgr
          go_wp2
          go_ret
          exact ⟨_, rfl, by rw [HXY.out, HGG.out]; exact hv9, hB8⟩
      · have ho : ¬ ordN A B < 0 := by unfold ordN; rw [if_neg hsw]; split <;> omega
        generalize ordN A B = o at *
        by_cases hle : (i : Int) ≤ (j : Int)
        · have HGG : Hid ((Int.gcd X Y : Int) = (Int.gcd A B : Int) * 2 ^ i) := by
            show _ = _
            rw [HT.out, Nat.min_eq_left (by omega)]
          go_wp2_with fail
          refine (hcm w5 (Below.refl _ _)).mono ?_
          rintro e w6 ⟨rfl, hb6⟩
          have hB6 := hB5.trans (hb6.mono hB5.size)
          have heu := euclid_any (hra5.later hb6) (hrb5.later hb6) qA (Int.le_of_lt qB) (by omega) (by omega)
          skip
          clear hcm hra5 hrb5
          generalize (words A).length = la at *
          generalize (words B).length = lb at *
          go_wp2_with fail
          refine heu.mono ?_
          rintro e w7 ⟨ga, gl, gcp, rfl, hgr, hgl, hb7⟩
          have hB7 := hB6.trans (hb7.mono hB6.size)
          have hup := up_any hgr (Dg_words _) (by omega) i (by omega)
          rw [num_words (show (0 : Int) ≤ (Int.gcd A B : Int) by omega)] at hup
          clear heu
          go_wp2_with fail
          refine hup.mono ?_
          rintro e w8 ⟨v8, rfl, hv8, hb8⟩
          have hv9 := hv8.wider hB7.size
          have hB8 := hB7.trans (hb8.mono hB7.size)
          clear hup hgr
          go_wp2
          go_ret
          exact ⟨_, rfl, by rw [HXY.out, HGG.out]; exact hv9, hB8⟩
        · have HGG : Hid ((Int.gcd X Y : Int) = (Int.gcd A B : Int) * 2 ^ j) := by
            show _ = _
            rw [HT.out, Nat.min_eq_right (by omega)]
          go_wp2_with fail
          refine (hcm w5 (Below.refl _ _)).mono ?_
          rintro e w6 ⟨rfl, hb6⟩
          have hB6 := hB5.trans (hb6.mono hB5.size)
          have heu := euclid_any (hra5.later hb6) (hrb5.later hb6) qA (Int.le_of_lt qB) (by omega) (by omega)
          skip
          clear hcm hra5 hrb5
          generalize (words A).length = la at *
          generalize (words B).length = lb at *
          go_wp2_with fail
          refine heu.mono ?_
          rintro e w7 ⟨ga, gl, gcp, rfl, hgr, hgl, hb7⟩
          have hB7 := hB6.trans (hb7.mono hB6.size)
          have hup := up_any hgr (Dg_words _) (by omega) j (by omega)
          rw [num_words (show (0 : Int) ≤ (Int.gcd A B : Int) by omega)] at hup
          clear heu
          go_wp2_with fail
          refine hup.mono ?_
          rintro e w8 ⟨v8, rfl, hv8, hb8⟩
          have hv9 := hv8.wider hB7.size
          have hB8 := hB7.trans (hb8.mono hB7.size)
          clear hup hgr
          go_wp2
          go_ret
          exact ⟨_, rfl, by rw [HXY.out, HGG.out]; exact hv9, hB8⟩
end Go.Proofs.YtceecgklgkiffaaGreatDoor

/- What the laws of layer 3 call: the answers under fresh names; the laws' own helpers. -/
namespace Go.Proofs.YtceecgklgkiffaaGreatDoor
open Go.ChangeShapes Go.WideShapes Go.ChangeAt Go.RowKit
open Na Ar
set_option linter.unusedVariables false
set_option maxHeartbeats 1600000 in
set_option maxRecDepth 100000 in
theorem gcd_any {a b : Option Addr} {n m c1 c2 : Nat} {xs ys : List Int} {w : World} (hr1 : RowC w a n c1 xs) (hr2 : RowC w b m c2 ys) (hx : Ws xs) (hy : Ws ys) (hn : n ≤ 3700000) (hm : m ≤ 3700000) :
    Calls Tryz.prog 155 #[.slice a n c1, .slice b m c2] w fun e w' => ∃ v, e = .returned v ∧ Own .u64 w' w.heap.size 22 v (words (Int.gcd (num xs) (num ys) : Int)) ∧ Below w.heap.size w w' := by
  have p1 := num_nonneg hx
  have p2 := num_nonneg hy
  by_cases hX : num xs = 0
  · have HG : Hid ((Int.gcd (num xs) (num ys) : Int) = num ys) := by show _ = _; rw [hX, Int.gcd_comm, Int.gcd_zero]; omega
    have hl : (words (num xs)).length = 0 := (words_nil p1).mpr hX
    have nY := num_words p2
    have dY := Dg_words (num ys)
    have hno := fun (r : RowC w b (words (num ys)).length c2 (words (num ys))) h => natNorm_any r dY h
    rw [nY] at hno
    clear hX
    go_enter Tryz.func155, Tryz.ntmps155
    go_wp2_with fail
    refine (trim_any hr1 hx (by omega)).mono ?_
    rintro e w' ⟨rfl, _, _, _, rfl⟩
    rw [hl]
    go_wp2_with fail
    refine (trim_any hr2 hy (by omega)).mono ?_
    rintro e w' ⟨rfl, r2, _, l2, rfl⟩
    have h := hno r2 (by omega)
    clear hno r2 hl hr1 hr2
    generalize (words (num ys)).length = ly at *
    go_wp2_with fail
    refine h.mono ?_
    rintro e w2 ⟨v, rfl, hv, hb⟩
    clear h
    go_wp2
    go_ret
    exact ⟨_, rfl, by rw [HG.out]; exact hv, hb⟩
  · by_cases hY : num ys = 0
    · have HG : Hid ((Int.gcd (num xs) (num ys) : Int) = num xs) := by show _ = _; rw [hY, Int.gcd_zero]; omega
      have hl : (words (num ys)).length = 0 := (words_nil p2).mpr hY
      have nX := num_words p1
      have dX := Dg_words (num xs)
      have zX := words_nil p1
      have hno := fun (r : RowC w a (words (num xs)).length c1 (words (num xs))) h => natNorm_any r dX h
      rw [nX] at hno
      have tx : ((((words (num xs)).length : Nat) : Int) == 0) = false := by simp; intro h; exact hX (zX.mp (by rw [h]; rfl))
      clear hY zX hX
      go_enter Tryz.func155, Tryz.ntmps155
      go_wp2_with fail
      refine (trim_any hr1 hx (by omega)).mono ?_
      rintro e w' ⟨rfl, r1, _, l1, rfl⟩
      go_wp2_with fail
      refine (trim_any hr2 hy (by omega)).mono ?_
      rintro e w' ⟨rfl, _, _, _, rfl⟩
      rw [hl]
      have h := hno r1 (by omega)
      clear hno r1 hl hr1 hr2
      generalize (words (num xs)).length = lx at *
      go_wp2_with fail
      refine h.mono ?_
      rintro e w2 ⟨v, rfl, hv, hb⟩
      clear h
      go_wp2
      go_ret
      exact ⟨_, rfl, by rw [HG.out]; exact hv, hb⟩
    · exact gcd_big hr1 hr2 hx hy hn hm (by omega) (by omega)
section
variable {a b : Option Addr} {n m c1 c2 : Nat} {xs ys : List Int} {A B : Int} {w : World} {k : Nat}
theorem divModQ (hr1 : RowC w a n c1 xs) (hr2 : RowC w b m c2 ys) (h1 : Nm xs A) (h2 : Nm ys B) (hB : 0 < B) (hn : n ≤ 3700000) (hm : m ≤ 3700000) :
    Calls Tryz.prog 104 #[.slice a n c1, .slice b m c2] w fun e w' => ∃ a1 n1 d1 l1 a2 n2 d2 l2, e = .returned (.tuple #[.slice a1 n1 d1, .slice a2 n2 d2, .int .i64 0]) ∧ RowC w' a1 n1 d1 l1 ∧ Nm l1 (A / B) ∧ Hid (l1 = words (A / B)) ∧ RowC w' a2 n2 d2 l2 ∧ Nm l2 (A % B) ∧ Hid (l2 = words (A % B)) ∧ Below w.heap.size w w' := by
  refine (divMod_any hr1 hr2 h1.ws h2.ws (by omega) (by omega) (by rw [h2.num]; exact hB)).mono ?_
  rintro e w' ⟨v1, v2, rfl, ho1, ho2, hb, _⟩
  rw [h1.num, h2.num] at ho1 ho2
  have hA := h1.nonneg
  have q0 : 0 ≤ A / B := Int.ediv_nonneg hA (Int.le_of_lt hB)
  have r0 := Int.emod_nonneg A (show B ≠ 0 by omega)
  have r1 := Int.emod_lt_of_pos A hB
  have la : (words A).length ≤ 4000000 := by rw [← h1.num]; exact Nat.le_trans (words_le h1.ws) h1.len
  have lb : (words B).length ≤ 4000000 := by rw [← h2.num]; exact Nat.le_trans (words_le h2.ws) h2.len
  have l1 := words_mono q0 (Int.ediv_le_self B hA)
  have l2 := words_mono r0 (Int.le_of_lt r1)
  obtain ⟨a1, d1, rfl, q1⟩ := ho1.readsC
  obtain ⟨a2, d2, rfl, q2⟩ := ho2.readsC
  exact ⟨a1, _, d1, _, a2, _, d2, _, rfl, q1, ⟨Dg_words _, num_words q0, by omega⟩, rfl, q2, ⟨Dg_words _, num_words r0, by omega⟩, rfl, hb⟩
theorem divZeroQ (hr1 : RowC w a n c1 xs) (hr2 : RowC w b m c2 ys) (h1 : Nm xs A) (h2 : Nm ys 0) (hn : n ≤ 3700000) (hm : m ≤ 3700000) :
    Calls Tryz.prog 104 #[.slice a n c1, .slice b m c2] w fun e w' => ∃ a1 d1 a2 d2, e = .returned (.tuple #[.slice a1 0 d1, .slice a2 0 d2, .int .i64 30]) ∧ Below w.heap.size w w' := by
  refine (divModZero_any hr1 hr2 h1.ws h2.ws (by omega) (by omega) h2.num).mono ?_
  rintro e w' ⟨v1, v2, rfl, ho1, ho2, hb, _⟩
  obtain ⟨a1, d1, rfl, q1⟩ := ho1.readsC
  obtain ⟨a2, d2, rfl, q2⟩ := ho2.readsC
  exact ⟨a1, d1, a2, d2, rfl, hb⟩
theorem smallQ {d : Int} (hr1 : RowC w a n c1 xs) (h1 : Nm xs A) (hd : U d) (hd0 : d ≠ 0) (hn : n ≤ 3700000) :
    Calls Tryz.prog 144 #[.slice a n c1, .int .u64 d] w fun e w' => ∃ a1 n1 d1 l1, e = .returned (.tuple #[.slice a1 n1 d1, .int .u64 (A % d), .int .i64 0]) ∧ RowC w' a1 n1 d1 l1 ∧ Nm l1 (A / d) ∧ Hid (l1 = words (A / d)) ∧ Below w.heap.size w w' := by
  refine (small_any hr1 h1.ws (by omega) hd hd0).mono ?_
  rintro e w' ⟨v1, rfl, ho1, hb⟩
  rw [h1.num] at ho1 ⊢
  have hA := h1.nonneg
  have q0 : 0 ≤ A / d := Int.ediv_nonneg hA hd.1
  have la : (words A).length ≤ 4000000 := by rw [← h1.num]; exact Nat.le_trans (words_le h1.ws) h1.len
  have l1 := words_mono q0 (Int.ediv_le_self d hA)
  obtain ⟨a1, d1, rfl, q1⟩ := ho1.readsC
  exact ⟨a1, _, d1, _, rfl, q1, ⟨Dg_words _, num_words q0, by omega⟩, rfl, hb⟩
theorem powQ (t : Nat) (ht : t ≤ 9223372036854775807) (hr1 : RowC w a n c1 xs) (h1 : Nm xs A) (hL : Lt (A ^ t) k) (hk : k ≤ 4096) :
    Calls Tryz.prog 149 #[.slice a n c1, .int .i64 (t : Int)] w fun e w' => ∃ a1 n1 d1 l1, e = .returned (.tuple #[.slice a1 n1 d1, .int .i64 0]) ∧ RowC w' a1 n1 d1 l1 ∧ Nm l1 (A ^ t) ∧ Hid (l1 = words (A ^ t)) ∧ Below w.heap.size w w' := by
  have hf := hL.fits hk
  refine (pow_any hr1 h1.ws (by have := h1.len; have := hr1.1.1; omega) (t : Int) (by omega) (by omega)).mono ?_
  rintro e w' ⟨v1, rfl, ho1, hb⟩
  have e1 : powE (num xs) (t : Int) = 0 := by unfold powE; rw [if_neg (by omega), h1.num, Int.toNat_natCast]; exact hf.2
  have e2 : powL (num xs) (t : Int) = words (A ^ t) := by unfold powL; rw [if_neg (by omega), h1.num, Int.toNat_natCast]; exact hf.1
  rw [e1]
  rw [e2] at ho1
  obtain ⟨a1, d1, rfl, q1⟩ := ho1.readsC
  exact ⟨a1, _, d1, _, rfl, q1, hL.nm (by omega), rfl, hb⟩
theorem gcdQ (hr1 : RowC w a n c1 xs) (hr2 : RowC w b m c2 ys) (h1 : Nm xs A) (h2 : Nm ys B) (hL : Lt (Int.gcd A B : Int) k) (hk : k ≤ 4000000) (hn : n ≤ 3700000) (hm : m ≤ 3700000) :
    Calls Tryz.prog 155 #[.slice a n c1, .slice b m c2] w fun e w' => ∃ a1 n1 d1 l1, e = .returned (.slice a1 n1 d1) ∧ RowC w' a1 n1 d1 l1 ∧ Nm l1 (Int.gcd A B : Int) ∧ Hid (l1 = words (Int.gcd A B : Int)) ∧ Below w.heap.size w w' := by
  refine (gcd_any hr1 hr2 h1.ws h2.ws hn hm).mono ?_
  rintro e w' ⟨v1, rfl, ho1, hb⟩
  rw [h1.num, h2.num] at ho1
  obtain ⟨a1, d1, rfl, q1⟩ := ho1.readsC
  exact ⟨a1, _, d1, _, rfl, q1, hL.nm hk, rfl, hb⟩
end
end Go.Proofs.YtceecgklgkiffaaGreatDoor

/- package quot: Lowest; plumblaw03.divides. -/
namespace Go.Proofs.YtceecgklgkiffaaGreatDoor
open Go.ChangeShapes Go.WideShapes Go.ChangeAt Go.RowKit
open Na Ar
set_option linter.unusedVariables false
set_option maxHeartbeats 3200000 in
set_option maxRecDepth 100000 in
theorem lowest_any {a b : Option Addr} {n m c1 c2 : Nat} {xs ys : List Int} {w : World} (hr1 : RowC w a n c1 xs) (hr2 : RowC w b m c2 ys) (hx : Ws xs) (hy : Ws ys) (hn : n ≤ 3700000) (hm : m ≤ 3700000) (hG : 0 < (Int.gcd (num xs) (num ys) : Int)) :
    Calls Tryz.prog 152 #[.slice a n c1, .slice b m c2] w fun e w' => ∃ v1 v2, e = .returned (.tuple #[v1, v2]) ∧ Own .u64 w' w.heap.size 22 v1 (words (num xs / (Int.gcd (num xs) (num ys) : Int))) ∧ Own .u64 w' w.heap.size 22 v2 (words (num ys / (Int.gcd (num xs) (num ys) : Int))) ∧ Below w.heap.size w w' ∧ Apart v1 v2 := by
  have hgc := gcd_any hr1 hr2 hx hy hn hm
  have p1 := num_nonneg hx
  have p2 := num_nonneg hy
  have l1 := hr1.1.1
  have l2 := hr2.1.1
  have hGl : (words (Int.gcd (num xs) (num ys) : Int)).length ≤ 3800000 := by
    by_cases hX : num xs = 0
    · have d : (Int.gcd (num xs) (num ys) : Int) ∣ num ys := Int.gcd_dvd_right ..
      have hY : 0 < num ys := by
        by_cases g : num ys = 0
        · rw [hX, g] at hG; simp at hG
        · omega
      have := words_mono (Int.le_of_lt hG) (Int.le_of_dvd hY d)
      have := words_le hy
      omega
    · have d : (Int.gcd (num xs) (num ys) : Int) ∣ num xs := Int.gcd_dvd_left ..
      have := words_mono (Int.le_of_lt hG) (Int.le_of_dvd (by omega) d)
      have := words_le hx
      omega
  obtain ⟨X, hX⟩ : ∃ X, X = num xs := ⟨_, rfl⟩
  obtain ⟨Y, hY⟩ : ∃ Y, Y = num ys := ⟨_, rfl⟩
  obtain ⟨G, hGe⟩ : ∃ G, G = (Int.gcd (num xs) (num ys) : Int) := ⟨_, rfl⟩
  rw [← hGe] at hgc hG hGl ⊢
  have nG := num_words (Int.le_of_lt hG)
  have dG := Dg_words G
  have hd1 := fun (w1 : World) (o : Option Addr) (l c : Nat) (h : Below w.heap.size w w1) (r : RowC w1 o l c (words G)) (hl : l ≤ 3800000) => divMod_any (hr1.later h) r hx dG (by omega) hl (by rw [nG]; exact hG)
  have hd2 := fun (w1 : World) (o : Option Addr) (l c : Nat) (h : Below w.heap.size w w1) (r : RowC w1 o l c (words G)) (hl : l ≤ 3800000) => divMod_any (hr2.later h) r hy dG (by omega) hl (by rw [nG]; exact hG)
  rw [nG] at hd1 hd2
  have hzr := fun (w1 : World) (o : Option Addr) (l c : Nat) (r : RowC w1 o l c (words G)) (hl : l ≤ 3800000) => zeros0_any r dG (by omega)
  have hbt := fun (w1 : World) (o : Option Addr) (l c : Nat) (r : RowC w1 o l c (words G)) (hl : l ≤ 3800000) => bits0_any r dG (by omega)
  rw [nG] at hzr hbt
  obtain ⟨bt, hb1', hb2', hb3'⟩ := bits_some hG
  obtain ⟨tz, A, eA, oA, pA, zA, dvA⟩ := twos_of hG
  have hbl : bt ≤ 300000000 := by
    have b1 := num_bd dG
    rw [nG, wpow2] at b1
    by_cases g : bt ≤ 300000000
    · exact g
    · exfalso
      have := p2mono (show 64 * (words G).length ≤ bt by omega)
      omega
  have hzl : tz ≤ bt := by
    by_cases g : tz ≤ bt
    · exact g
    · exfalso
      have e1 := p2mono (show bt + 1 ≤ tz by omega)
      have p := p2pos tz
      have : 1 * 2 ^ tz ≤ A * 2 ^ tz := Int.mul_le_mul_of_nonneg_right (by omega) (Int.le_of_lt p)
      omega
  rw [zA] at hzr
  rw [hb1'] at hbt
  by_cases hpw : tz = bt
  · have hA1 : A = 1 := by
      rw [hpw] at eA
      by_cases g : A ≤ 1
      · omega
      · exfalso
        have p := p2pos bt
        have : 2 * 2 ^ bt ≤ A * 2 ^ bt := Int.mul_le_mul_of_nonneg_right (by omega) (Int.le_of_lt p)
        rw [Int.pow_succ] at hb3'
        omega
    have HG2 : Hid (2 ^ tz = G) := by show _ = _; rw [eA, hA1, Int.one_mul]
    have hdx := fun (w1 : World) (h : Below w.heap.size w w1) => down_any (hr1.later h) hx (by omega) tz (by omega)
    have hdy := fun (w1 : World) (h : Below w.heap.size w w1) => down_any (hr2.later h) hy (by omega) tz (by omega)
    rw [HG2.out] at hdx hdy
    have ht : ((tz : Int) == (bt : Int)) = true := beq_of (by omega)
    clear hX hY hGe hr1 hr2 hd1 hd2 hb1' hb2' hb3' eA oA pA zA dvA hA1 hpw nG
    go_enter Tryz.func152, Tryz.ntmps152
    go_wp2_with fail
    refine hgc.mono ?_
    rintro e w1 ⟨v, rfl, hv, hb1⟩
    obtain ⟨ga, gc, rfl, hgr⟩ := hv.readsC
    have hz1 := hzr w1 ga _ gc hgr hGl
    have hq1 := hbt w1 ga _ gc hgr hGl
    clear hgc hv hzr hbt hgr
    generalize (words G).length = lg at *
    go_wp2_with fail
    refine hz1.mono ?_
    rintro e w' ⟨rfl, rfl⟩
    go_wp2_with fail
    refine hq1.mono ?_
    rintro e w' ⟨rfl, rfl⟩
    have hx1 := hdx w1 hb1
    clear hz1 hq1
    go_wp2_with fail
    refine hx1.mono ?_
    rintro e w2 ⟨q1, rfl, hq1, hb2⟩
    have hB2 := hb1.trans (hb2.mono hb1.size)
    have hy1 := hdy w2 hB2
    clear hx1 hdx hdy
    go_wp2_with fail
    refine hy1.mono ?_
    rintro e w3 ⟨q2, rfl, hq2, hb3⟩
    have hB3 := hB2.trans (hb3.mono hB2.size)
    have hap := apart_of hq1 hq2 (Nat.le_refl _)
    have o1 := (hq1.later hb3).wider hb1.size
    have o2 := hq2.wider hB2.size
    clear hy1
    go_wp2
    go_ret2
    exact ⟨_, _, rfl, o1, o2, hB3, hap⟩
  · have ht : ((tz : Int) == (bt : Int)) = false := beq_no (by omega)
    clear hX hY hGe hr1 hr2 hb1' hb2' hb3' eA oA pA zA dvA hpw nG
    go_enter Tryz.func152, Tryz.ntmps152
    go_wp2_with fail
    refine hgc.mono ?_
    rintro e w1 ⟨v, rfl, hv, hb1⟩
    obtain ⟨ga, gc, rfl, hgr⟩ := hv.readsC
    have hz1 := hzr w1 ga _ gc hgr hGl
    have hq1 := hbt w1 ga _ gc hgr hGl
    have h1 := hd1 w1 ga _ gc hb1 hgr hGl
    have h2 := fun (w2 : World) (h : Below w1.heap.size w1 w2) => hd2 w2 ga _ gc (hb1.trans (h.mono hb1.size)) (hgr.later h) hGl
    clear hd1 hd2 hgc hv hzr hbt
    generalize (words G).length = lg at *
    go_wp2_with fail
    refine hz1.mono ?_
    rintro e w' ⟨rfl, rfl⟩
    go_wp2_with fail
    refine hq1.mono ?_
    rintro e w' ⟨rfl, rfl⟩
    clear hz1 hq1
    go_wp2_with fail
    refine h1.mono ?_
    rintro e w2 ⟨q1, s1, rfl, hq1, _, hb2, _⟩
    have h3 := h2 w2 hb2
    have hB2 := hb1.trans (hb2.mono hb1.size)
    clear h1 h2
    go_wp2_with fail
    refine h3.mono ?_
    rintro e w3 ⟨q2, s2, rfl, hq2, _, hb3, _⟩
    have hB3 := hB2.trans (hb3.mono hB2.size)
    have hap := apart_of hq1 hq2 (Nat.le_refl _)
    have o1 := (hq1.later hb3).wider hb1.size
    have o2 := hq2.wider hB2.size
    clear h3
    go_wp2
    go_ret2
    exact ⟨_, _, rfl, o1, o2, hB3, hap⟩
theorem lowestQ {a b : Option Addr} {n m c1 c2 : Nat} {xs ys : List Int} {A B : Int} {w : World} (hr1 : RowC w a n c1 xs) (hr2 : RowC w b m c2 ys) (h1 : Nm xs A) (h2 : Nm ys B) (hn : n ≤ 3700000) (hm : m ≤ 3700000) (hG : 0 < (Int.gcd A B : Int)) :
    Calls Tryz.prog 152 #[.slice a n c1, .slice b m c2] w fun e w' => ∃ a1 n1 d1 l1 a2 n2 d2 l2, e = .returned (.tuple #[.slice a1 n1 d1, .slice a2 n2 d2]) ∧ RowC w' a1 n1 d1 l1 ∧ Nm l1 (A / (Int.gcd A B : Int)) ∧ Hid (l1 = words (A / (Int.gcd A B : Int))) ∧ RowC w' a2 n2 d2 l2 ∧ Nm l2 (B / (Int.gcd A B : Int)) ∧ Hid (l2 = words (B / (Int.gcd A B : Int))) ∧ Below w.heap.size w w' := by
  refine (lowest_any hr1 hr2 h1.ws h2.ws hn hm (by rw [h1.num, h2.num]; exact hG)).mono ?_
  rintro e w' ⟨v1, v2, rfl, ho1, ho2, hb, _⟩
  rw [h1.num, h2.num] at ho1 ho2
  have hA := h1.nonneg
  have hB := h2.nonneg
  have q0 : 0 ≤ A / (Int.gcd A B : Int) := Int.ediv_nonneg hA (Int.le_of_lt hG)
  have r0 : 0 ≤ B / (Int.gcd A B : Int) := Int.ediv_nonneg hB (Int.le_of_lt hG)
  have la : (words A).length ≤ 4000000 := by rw [← h1.num]; exact Nat.le_trans (words_le h1.ws) h1.len
  have lb : (words B).length ≤ 4000000 := by rw [← h2.num]; exact Nat.le_trans (words_le h2.ws) h2.len
  have l1 := words_mono q0 (Int.ediv_le_self (Int.gcd A B : Int) hA)
  have l2 := words_mono r0 (Int.ediv_le_self (Int.gcd A B : Int) hB)
  obtain ⟨a1, d1, rfl, q1⟩ := ho1.readsC
  obtain ⟨a2, d2, rfl, q2⟩ := ho2.readsC
  exact ⟨a1, _, d1, _, a2, _, d2, _, rfl, q1, ⟨Dg_words _, num_words q0, by omega⟩, rfl, q2, ⟨Dg_words _, num_words r0, by omega⟩, rfl, hb⟩
end Go.Proofs.YtceecgklgkiffaaGreatDoor
