/-
  THE SHELL OF A PROOF OF 'Rows.NatHugeSaid' ('plumb/plumblaw02.NatHuge'), WRITTEN BY PROGRAM (proof-skeleton.mjs) off the guide's own print for that function. Not trusted: Lean checks it.
  YOURS ARE THE HOLES MARKED 'HOLE' (filled). ALL ELSE IS THE GUIDE's TEMPLATE (howto/template/XProofs.lean) at this function's number and types: leave it.
-/
import Derived.Test.YthigofcbmgheeaaRows
import Derived.WalkKit
import Derived.ProofKit
import Derived.OpenShut
import Derived.ShutString
import Derived.WalkLawsBesides
import Derived.WalkSpells
import Derived.Deep.RegionWith
import Derived.Deep.DeepCutAuto
import Derived.Deep.DeepFit
import Derived.Test.YthigofcbmgheeaaLawHuge
namespace Go.Proofs.Ythigofcbmgheeaa.natHuge
open Go.ChangeShapes Go.WideShapes Go.ChangeAt Go.RowKit
open Go.ChangeMaps (open_string shut_string)
set_option linter.unusedVariables false      -- a walk need not use every 'w<i>' (that an integer argument fits its kind)

theorem own : ownKnob Try.prog.godebug = none := by kernel_rfl

open Na Ar
/-! ### STEP 1: THE WALK: the Go text returns true. 'Grown w w'': the world has at most new blocks (Derived/RowKit3.lean). Part the cases AHEAD of 'go_enter' where a test parts the walk; take each callee by a contract of your own. -/
set_option maxHeartbeats 6000000 in
set_option maxRecDepth 100000 in
theorem walk (a0 : Int) (a1 : Int) (w0 : (Lit.int .i64 a0).wf = true) (w1 : (Lit.int .u64 a1).wf = true) (w : World) :
    Calls Try.prog 7 #[.int .i64 a0, .int .u64 a1] w fun e w' => e = .returned (.bool true) ∧ Below w.heap.size w w' := by
  obtain ⟨i_u64, hi_u64, hz0_u64, hz1_u64, hz2_u64⟩ := info_parts info_u64
  have b1 := bounds_i64 w0
  have uw := bounds_u64 w1
  have i1 := fun w => into_any a0 64 (by have := b1.1; omega) (by have := b1.2; omega) (by omega) (by omega) w
  clear b1 w0 w1
  by_cases hw0 : a1 = 0
  · have t0 : (a1 == 0) = true := by simp [hw0]
    clear hw0 uw
    go_enter Try.func7, Try.ntmps7
    go_wp2_with fail
    refine (i1 _).mono ?_
    rintro e w' ⟨r, rfl, hr, rfl⟩
    clear i1
    go_wp2_with (at_make; refine wpList_make_full _ rfl _ _ 22 rfl w.heap.size 36 i_u64 (.int .u64 0) 1 Try.underlying22 hi_u64 hz0_u64 hz1_u64 .i64 .i64 _ _ 4096 rfl rfl (by omega) (by omega) (by rw [hz2_u64]; omega) (by unfold maxLen; omega) (Nat.le_refl _) ?_)
    intro w3 hmade hgr
    have hown := own_zeros hmade
    have hb3 : Below w.heap.size w w3 := (Below.refl _ _).grown hgr (Nat.le_refl _) (fun k hk => by cases hk)
    obtain ⟨g, hg⟩ : ∃ g, g = w.heap.size := ⟨_, rfl⟩
    obtain ⟨us0, hus0⟩ : ∃ us0, us0 = List.replicate 4096 (0 : Int) := ⟨_, rfl⟩
    have hown2 : Own .u64 w3 w.heap.size 36 (.slice (some ⟨g, 0, none⟩) 4096 4096) us0 := by rw [hg, hus0]; exact hown
    have HU0 : Hid (us0.length = 4096) := by show _ = _; rw [hus0, List.length_replicate]
    rw [← hg]
    clear hmade hgr hown hg hus0
    go_wp2
    go_loopw [6] (fun i wr => ∃ (q : Nat) (us : List Int), i = .int .i64 q ∧ q ≤ 4096 ∧ Own .u64 wr w.heap.size 36 (.slice (some ⟨g, 0, none⟩) 4096 4096) us ∧ Hid (us.length = 4096) ∧ Hid (us.take q = List.replicate q 18446744073709551615) ∧ Below w.heap.size w wr) (fun i _ => 4096 - (intOf i).toNat)
    case atStart => exact ⟨0, us0, rfl, by omega, hown2, HU0, (rfl : us0.take 0 = List.replicate 0 18446744073709551615), hb3⟩
    case round =>
      obtain ⟨q, us, rfl, hq, hou, hul, hut, hnx⟩ := hrel
      clear hown2 hb3 HU0
      by_cases hlt : q < 4096
      · have hlu : 4096 = us.length := hul.out.symm
        have hce := hou.cellAt hlu (j := q) (by omega)
        have hfz := hou.frozenAt hlu q
        have hO := hou.set hlu q 18446744073709551615
        have hgb := hou.base_le
        have HT : Hid ((us.set q 18446744073709551615).take (q + 1) = List.replicate (q + 1) 18446744073709551615) := by show _ = _; rw [set_take_next (by omega), hut.out, List.replicate_succ']
        have HL : Hid ((us.set q 18446744073709551615).length = 4096) := by show _ = _; rw [List.length_set]; exact hul.out
        generalize us.getD q 0 = u at *
        clear hou hlu hut
        go_wp2
        go_roundw
        case rel => exact ⟨q + 1, _, by go_num, by omega, hO, HL, HT, hnx.setCell hgb _⟩
        case measure => simp [intOf]; omega
      have hq4 : q = 4096 := by omega
      subst hq4
      have hut2 : us = List.replicate 4096 18446744073709551615 := by have h := hut.out; rw [List.take_of_length_le (by rw [hul.out]; omega)] at h; exact h
      have nT := nm_top
      have eT := eq_top
      rw [← hut2] at nT eT
      have rT := hou.rowA hul.out.symm
      clear hut2 hut hul hou hlt hq
      go_wp2_with (at_make; refine wpList_make_full _ rfl _ _ 22 rfl wr.heap.size 36 i_u64 (.int .u64 0) 1 Try.underlying22 hi_u64 hz0_u64 hz1_u64 .i64 .i64 _ _ 4097 rfl rfl (by omega) (by omega) (by rw [hz2_u64]; omega) (by unfold maxLen; omega) (Nat.le_refl _) ?_)
      intro w5 hmade hgr
      have hown := own_zeros hmade
      have hb5 : Below wr.heap.size wr w5 := (Below.refl _ _).grown hgr (Nat.le_refl _) (fun k hk => by cases hk)
      obtain ⟨g2, hg2⟩ : ∃ g2, g2 = wr.heap.size := ⟨_, rfl⟩
      obtain ⟨os0, hos0⟩ : ∃ os0, os0 = List.replicate 4097 (0 : Int) := ⟨_, rfl⟩
      have hown2 : Own .u64 w5 wr.heap.size 36 (.slice (some ⟨g2, 0, none⟩) 4097 4097) os0 := by rw [hg2, hos0]; exact hown
      have hlo : 4097 = os0.length := by rw [hos0, List.length_replicate]
      have nO : Nm (os0.set 4096 1) (1 * lim) := by rw [hos0]; exact nm_over ⟨by omega, by omega⟩
      have eO : Hid (os0.set 4096 1 = words (1 * lim)) := by rw [hos0]; exact eq_over (by omega) (by omega)
      rw [← hg2]
      have hce := hown2.cellAt hlo (j := 4096) (by omega)
      have hfz := hown2.frozenAt hlo 4096
      have hgb := hown2.base_le
      have hO2 := (hown2.set hlo 4096 1).rowA (by rw [List.length_set]; exact hlo)
      have hb6 : Below wr.heap.size wr (w5.setCell ⟨g2, 4096, none⟩ (.int .u64 1)) := hb5.setCell hgb _
      generalize hol : os0.set 4096 1 = ol at *
      generalize os0.getD 4096 0 = z0 at *
      have rT6 := rT.later hb6
      have B_0 := hnx.trans (hb6.mono hnx.size)
      clear hmade hgr hown hos0 hown2 hlo hb5 hb6 hg2 rT hnx hol hgb
      go_wp2_with fail
      have hs6 : w5.heap.size = (w5.setCell ⟨g2, 4096, none⟩ (.int .u64 1)).heap.size := by simp
      generalize w5.setCell ⟨g2, 4096, none⟩ (.int .u64 1) = w6 at *
      rw [hs6]
      clear hs6
      have lT : Lt (lim - 1) 4096 := lt_lim (by have := lim_pos; omega) (by omega)
      have lO := over_lt (w := 1) (by omega) (by omega)
      have gO := over_ge (w := 1) (by omega)
      obtain ⟨sO1, sO2⟩ := over_sub (w := 1) (by omega)
      have bO := over_bits (w := 1) (by omega)
      have pL := lim_pos
      obtain ⟨Q, hQ⟩ : ∃ Q, bitsN (1 * lim) = Q := ⟨_, rfl⟩
      rw [hQ] at bO
      obtain ⟨OV, hOV⟩ : ∃ OV, OV = 1 * lim := ⟨_, rfl⟩
      rw [← hOV] at lO gO sO1 sO2 nO eO hQ
      have HQ : Hid (bitsN OV = Q) := hQ
      clear hOV hQ
      have al10 := alloc_below (w := w6) (.cells #[.int .u64 1] 36)
      have lr10 := rowC_one w6 1 36
      have lm10 := Nm.one (x := 1) ⟨by omega, by omega⟩
      have rT_al10 := rT6.later al10
      have rO_al10 := hO2.later al10
      have B_al10 := B_0.trans (al10.mono B_0.size)
      clear rT6 hO2 B_0 al10
      refine (addH rT_al10 lr10 nT lm10 (by omega)).mono ?_
      rintro e w11 ⟨a11, c11, rfl, hb11⟩
      have rT_11 := rT_al10.later hb11
      have rO_11 := rO_al10.later hb11
      have lr10_11 := lr10.later hb11
      have B_11 := B_al10.trans (hb11.mono B_al10.size)
      clear rT_al10 rO_al10 lr10 B_al10 hb11
      clear lr10_11 lm10
      go_wp2_with fail
      have al12 := alloc_below (w := w11) (.cells #[.int .u64 1] 36)
      have lr12 := rowC_one w11 1 36
      have lm12 := Nm.one (x := 1) ⟨by omega, by omega⟩
      have rT_al12 := rT_11.later al12
      have rO_al12 := rO_11.later al12
      have B_al12 := B_11.trans (al12.mono B_11.size)
      clear rT_11 rO_11 B_11 al12
      have es13 : (w11.alloc (.cells #[.int .u64 1] 36)).heap.size = w11.heap.size + 1 := by simp
      have rs13 := rowsC_three 22 rT_al12 (rowC_nil (w11.alloc (.cells #[.int .u64 1] 36))) lr12
      rw [es13] at rs13
      have sm13 : lim ≤ sumN [us, [], [1]] := by
        have e : sumN [us, [], [1]] = lim - 1 + 1 := by
          rw [sumN_cons, sumN_cons, sumN_cons, nT.num, lm12.num]
          have z1 : num [] = 0 := rfl
          have z2 : sumN [] = 0 := rfl
          rw [z1, z2]; omega
        omega
      have ws13 : Wss [us, [], [1]] := wss_three ⟨nT.ws, nT.len⟩ ⟨Dg.nil _, by simp⟩ ⟨lm12.ws, by simp⟩
      have al13 := alloc_below (w := (w11.alloc (.cells #[.int .u64 1] 36))) (.cells #[.slice (some ⟨g, 0, none⟩) 4096 4096, .slice none 0 0, .slice (some ⟨w11.heap.size, 0, none⟩) 1 1] 22)
      have rT_al13 := rT_al12.later al13
      have rO_al13 := rO_al12.later al13
      have lr12_al13 := lr12.later al13
      have B_al13 := B_al12.trans (al13.mono B_al12.size)
      clear rT_al12 rO_al12 lr12 B_al12 al13
      refine (sumH rs13 ws13 (by omega) sm13).mono ?_
      rintro e w14 ⟨a14, c14, rfl, hb14⟩
      have rT_14 := rT_al13.later hb14
      have rO_14 := rO_al13.later hb14
      have lr12_14 := lr12_al13.later hb14
      have B_14 := B_al13.trans (hb14.mono B_al13.size)
      clear rT_al13 rO_al13 lr12_al13 B_al13 hb14
      clear rs13 ws13 sm13 es13
      clear lr12_14 lm12
      go_wp2_with fail
      have al15 := alloc_below (w := w14) (.cells #[.int .u64 0] 36)
      have lr15 := rowC_one w14 0 36
      have lm15 := Nm.one (x := 0) ⟨by omega, by omega⟩
      have rT_al15 := rT_14.later al15
      have rO_al15 := rO_14.later al15
      have B_al15 := B_14.trans (al15.mono B_14.size)
      clear rT_14 rO_14 B_14 al15
      refine (subH rO_al15 lr15 nO lm15 (by omega) (by omega)).mono ?_
      rintro e w16 ⟨a16, c16, rfl, hb16⟩
      have rT_16 := rT_al15.later hb16
      have rO_16 := rO_al15.later hb16
      have lr15_16 := lr15.later hb16
      have B_16 := B_al15.trans (hb16.mono B_al15.size)
      clear rT_al15 rO_al15 lr15 B_al15 hb16
      clear lr15_16 lm15
      go_wp2_with fail
      have al17 := alloc_below (w := w16) (.cells #[.int .u64 1] 36)
      have lr17 := rowC_one w16 1 36
      have lm17 := Nm.one (x := 1) ⟨by omega, by omega⟩
      have rT_al17 := rT_16.later al17
      have rO_al17 := rO_16.later al17
      have B_al17 := B_16.trans (al17.mono B_16.size)
      clear rT_16 rO_16 B_16 al17
      refine (mulH rO_al17 lr17 nO lm17 (by omega)).mono ?_
      rintro e w18 ⟨a18, c18, rfl, hb18⟩
      have rT_18 := rT_al17.later hb18
      have rO_18 := rO_al17.later hb18
      have lr17_18 := lr17.later hb18
      have B_18 := B_al17.trans (hb18.mono B_al17.size)
      clear rT_al17 rO_al17 lr17 B_al17 hb18
      clear lr17_18 lm17
      go_wp2_with fail
      refine (shr0H rO_18 nO gO).mono ?_
      rintro e w19 ⟨a19, c19, rfl, hb19⟩
      have rT_19 := rT_18.later hb19
      have rO_19 := rO_18.later hb19
      have B_19 := B_18.trans (hb19.mono B_18.size)
      clear rT_18 rO_18 B_18 hb19
      go_wp2_with fail
      have lr20 := rowC_nil w19
      refine (addQ rT_19 lr20 nT Nm.nil (k := 4096) (by rw [Int.add_zero]; exact lT) (by omega)).mono ?_
      rintro e w21 ⟨a21, n21, c21, l21, rfl, r21, m21, e21, hb21⟩
      have rT_21 := rT_19.later hb21
      have rO_21 := rO_19.later hb21
      have lr20_21 := lr20.later hb21
      have B_21 := B_19.trans (hb21.mono B_19.size)
      clear rT_19 rO_19 lr20 B_19 hb21
      clear lr20_21
      go_wp2_with fail
      have al22 := alloc_below (w := w21) (.cells #[.int .u64 1] 36)
      have lr22 := rowC_one w21 1 36
      have lm22 := Nm.one (x := 1) ⟨by omega, by omega⟩
      have rT_al22 := rT_21.later al22
      have rO_al22 := rO_21.later al22
      have r21_al22 := r21.later al22
      have B_al22 := B_21.trans (al22.mono B_21.size)
      clear rT_21 rO_21 r21 B_21 al22
      refine (mulQ rT_al22 lr22 nT lm22 (k := 4096) (by rw [Int.mul_one]; exact lT) (by omega)).mono ?_
      rintro e w23 ⟨a23, n23, c23, l23, rfl, r23, m23, e23, hb23⟩
      have rT_23 := rT_al22.later hb23
      have rO_23 := rO_al22.later hb23
      have r21_23 := r21_al22.later hb23
      have lr22_23 := lr22.later hb23
      have B_23 := B_al22.trans (hb23.mono B_al22.size)
      clear rT_al22 rO_al22 r21_al22 lr22 B_al22 hb23
      clear lr22_23 lm22
      go_wp2_with fail
      have lr24 := rowC_nil w23
      refine (subQ rT_23 lr24 nT Nm.nil (by omega) (k := 4096) (by rw [Int.sub_zero]; exact lT) (by omega)).mono ?_
      rintro e w25 ⟨a25, n25, c25, l25, rfl, r25, m25, e25, hb25⟩
      have rT_25 := rT_23.later hb25
      have rO_25 := rO_23.later hb25
      have r21_25 := r21_23.later hb25
      have r23_25 := r23.later hb25
      have lr24_25 := lr24.later hb25
      have B_25 := B_23.trans (hb25.mono B_23.size)
      clear rT_23 rO_23 r21_23 r23 lr24 B_23 hb25
      clear lr24_25
      go_wp2_with fail
      have al26 := alloc_below (w := w25) (.cells #[.int .u64 1] 36)
      have lr26 := rowC_one w25 1 36
      have lm26 := Nm.one (x := 1) ⟨by omega, by omega⟩
      have rT_al26 := rT_25.later al26
      have rO_al26 := rO_25.later al26
      have r21_al26 := r21_25.later al26
      have r23_al26 := r23_25.later al26
      have r25_al26 := r25.later al26
      have B_al26 := B_25.trans (al26.mono B_25.size)
      clear rT_25 rO_25 r21_25 r23_25 r25 B_25 al26
      refine (shlT lr26 lm26 (t := 262143 - r) (T := 262143 - (r : Int)) (by omega) (by omega) (one_pow_lt hr) (by omega)).mono ?_
      rintro e w27 ⟨a27, n27, c27, l27, rfl, r27, m27, e27, hb27⟩
      have rT_27 := rT_al26.later hb27
      have rO_27 := rO_al26.later hb27
      have r21_27 := r21_al26.later hb27
      have r23_27 := r23_al26.later hb27
      have r25_27 := r25_al26.later hb27
      have lr26_27 := lr26.later hb27
      have B_27 := B_al26.trans (hb27.mono B_al26.size)
      clear rT_al26 rO_al26 r21_al26 r23_al26 r25_al26 lr26 B_al26 hb27
      clear lr26_27 lm26
      go_wp2_with fail
      have pw := pow_word hr
      have HW : IntKind.u64.wrap (2 ^ r) = 2 ^ r := by rw [IntKind.wrap_u64]; exact Int.emod_eq_of_lt pw.1 pw.2
      rw [HW]
      clear HW
      have al28 := alloc_below (w := w27) (.cells #[.int .u64 (2 ^ r)] 36)
      have lr28 := rowC_one w27 (2 ^ r) 36
      have lm28 := Nm.one (x := 2 ^ r) pw
      have rT_al28 := rT_27.later al28
      have rO_al28 := rO_27.later al28
      have r21_al28 := r21_27.later al28
      have r23_al28 := r23_27.later al28
      have r25_al28 := r25_27.later al28
      have r27_al28 := r27.later al28
      have B_al28 := B_27.trans (al28.mono B_27.size)
      clear rT_27 rO_27 r21_27 r23_27 r25_27 r27 B_27 al28
      refine (shlH lr28 lm28 (t := 262144 - r) (T := 262144 - (r : Int)) (by omega) (by omega) (by rw [pow_join hr]; omega)).mono ?_
      rintro e w29 ⟨a29, c29, rfl, hb29⟩
      have rT_29 := rT_al28.later hb29
      have rO_29 := rO_al28.later hb29
      have r21_29 := r21_al28.later hb29
      have r23_29 := r23_al28.later hb29
      have r25_29 := r25_al28.later hb29
      have r27_29 := r27_al28.later hb29
      have lr28_29 := lr28.later hb29
      have B_29 := B_al28.trans (hb29.mono B_al28.size)
      clear rT_al28 rO_al28 r21_al28 r23_al28 r25_al28 r27_al28 lr28 B_al28 hb29
      clear lr28_29 lm28
      clear pw
      go_wp2_with fail
      refine (sameQ r21_29 rT_29 m21 nT e21 eT (Int.add_zero _)).mono ?_
      rintro e w30 ⟨rfl, hb30⟩
      have rT_30 := rT_29.later hb30
      have rO_30 := rO_29.later hb30
      have r21_30 := r21_29.later hb30
      have r23_30 := r23_29.later hb30
      have r25_30 := r25_29.later hb30
      have r27_30 := r27_29.later hb30
      have B_30 := B_29.trans (hb30.mono B_29.size)
      clear rT_29 rO_29 r21_29 r23_29 r25_29 r27_29 B_29 hb30
      go_wp2_with fail
      refine (sameQ r23_30 rT_30 m23 nT e23 eT (Int.mul_one _)).mono ?_
      rintro e w31 ⟨rfl, hb31⟩
      have rT_31 := rT_30.later hb31
      have rO_31 := rO_30.later hb31
      have r21_31 := r21_30.later hb31
      have r23_31 := r23_30.later hb31
      have r25_31 := r25_30.later hb31
      have r27_31 := r27_30.later hb31
      have B_31 := B_30.trans (hb31.mono B_30.size)
      clear rT_30 rO_30 r21_30 r23_30 r25_30 r27_30 B_30 hb31
      go_wp2_with fail
      refine (sameQ r25_31 rT_31 m25 nT e25 eT (Int.sub_zero _)).mono ?_
      rintro e w32 ⟨rfl, hb32⟩
      have rT_32 := rT_31.later hb32
      have rO_32 := rO_31.later hb32
      have r21_32 := r21_31.later hb32
      have r23_32 := r23_31.later hb32
      have r25_32 := r25_31.later hb32
      have r27_32 := r27_31.later hb32
      have B_32 := B_31.trans (hb32.mono B_31.size)
      clear rT_31 rO_31 r21_31 r23_31 r25_31 r27_31 B_31 hb32
      clear r21_32 m21 e21 r23_32 m23 e23 r25_32 m25 e25
      have tb : (262144 - (r : Int) != 262144 - (r : Int)) = false := by simp
      go_wp2_with fail
      refine (bitsQ r27_32 m27 (one_pow_bits hr)).mono ?_
      rintro e w33 ⟨rfl, hb33⟩
      have rT_33 := rT_32.later hb33
      have rO_33 := rO_32.later hb33
      have r27_33 := r27_32.later hb33
      have B_33 := B_32.trans (hb33.mono B_32.size)
      clear rT_32 rO_32 r27_32 B_32 hb33
      clear r27_33 m27 e27
      clear tb
      go_wp2_with fail
      have al34 := alloc_below (w := w33) (.cells #[.int .u64 0, .int .u64 0] 36)
      have lr34 := rowC_two w33 0 0 36
      have lm34 := nm_zeros
      have rT_al34 := rT_33.later al34
      have rO_al34 := rO_33.later al34
      have B_al34 := B_33.trans (al34.mono B_33.size)
      clear rT_33 rO_33 B_33 al34
      refine (shlZ lr34 lm34 (by omega) (by omega)).mono ?_
      rintro e w35 ⟨a35, c35, rfl, hb35⟩
      have rT_35 := rT_al34.later hb35
      have rO_35 := rO_al34.later hb35
      have lr34_35 := lr34.later hb35
      have B_35 := B_al34.trans (hb35.mono B_al34.size)
      clear rT_al34 rO_al34 lr34 B_al34 hb35
      clear lr34_35 lm34
      obtain ⟨t, ht⟩ : ∃ t : Nat, t = 4611686018427387904 := ⟨_, rfl⟩
      go_wp2_with fail
      refine (shrOut rO_35 nO (by omega) (t := t) (by omega) (by omega) lO (by omega)).mono ?_
      rintro e w36 ⟨a36, c36, rfl, hb36⟩
      have rT_36 := rT_35.later hb36
      have rO_36 := rO_35.later hb36
      have B_36 := B_35.trans (hb36.mono B_35.size)
      clear rT_35 rO_35 B_35 hb36
      clear ht
      go_wp2_with fail
      have lr37 := rowC_nil w36
      refine (mulZ rO_36 lr37 nO Nm.nil).mono ?_
      rintro e w38 ⟨a38, c38, rfl, hb38⟩
      have rT_38 := rT_36.later hb38
      have rO_38 := rO_36.later hb38
      have lr37_38 := lr37.later hb38
      have B_38 := B_36.trans (hb38.mono B_36.size)
      clear rT_36 rO_36 lr37 B_36 hb38
      clear lr37_38
      go_wp2_with fail
      refine (shlNeg rT_38 nT (by omega)).mono ?_
      rintro e w39 ⟨a39, c39, rfl, hb39⟩
      have rT_39 := rT_38.later hb39
      have rO_39 := rO_38.later hb39
      have B_39 := B_38.trans (hb39.mono B_38.size)
      clear rT_38 rO_38 B_38 hb39
      go_wp2_with fail
      refine (shrNeg rT_39 nT (by omega)).mono ?_
      rintro e w40 ⟨a40, c40, rfl, hb40⟩
      have rT_40 := rT_39.later hb40
      have rO_40 := rO_39.later hb40
      have B_40 := B_39.trans (hb40.mono B_39.size)
      clear rT_39 rO_39 B_39 hb40
      go_wp2_with fail
      refine (cmpK rO_40 rT_40 nO nT (ordN_gt (by omega))).mono ?_
      rintro e w41 ⟨rfl, hb41⟩
      have rT_41 := rT_40.later hb41
      have rO_41 := rO_40.later hb41
      have B_41 := B_40.trans (hb41.mono B_40.size)
      clear rT_40 rO_40 B_40 hb41
      go_wp2_with fail
      refine (cmpK rT_41 rO_41 nT nO (ordN_lt (by omega))).mono ?_
      rintro e w42 ⟨rfl, hb42⟩
      have rT_42 := rT_41.later hb42
      have rO_42 := rO_41.later hb42
      have B_42 := B_41.trans (hb42.mono B_41.size)
      clear rT_41 rO_41 B_41 hb42
      go_wp2_with fail
      refine (bitsQ rO_42 nO HQ.out).mono ?_
      rintro e w43 ⟨rfl, hb43⟩
      have rT_43 := rT_42.later hb43
      have rO_43 := rO_42.later hb43
      have B_43 := B_42.trans (hb43.mono B_42.size)
      clear rT_42 rO_42 B_42 hb43
      go_wp2_with fail
      refine (normQ rO_43 nO lO (by omega)).mono ?_
      rintro e w44 ⟨a44, n44, c44, l44, rfl, r44, m44, e44, hb44⟩
      have rT_44 := rT_43.later hb44
      have rO_44 := rO_43.later hb44
      have B_44 := B_43.trans (hb44.mono B_43.size)
      clear rT_43 rO_43 B_43 hb44
      go_wp2_with fail
      refine (sameQ r44 rO_44 m44 nO e44 eO (rfl)).mono ?_
      rintro e w45 ⟨rfl, hb45⟩
      have rT_45 := rT_44.later hb45
      have rO_45 := rO_44.later hb45
      have r44_45 := r44.later hb45
      have B_45 := B_44.trans (hb45.mono B_44.size)
      clear rT_44 rO_44 r44 B_44 hb45
      go_wp2
      go_ret
      exact ⟨rfl, B_45⟩
  · have t0 : (a1 == 0) = false := by simp [hw0]
    have hW1 : 1 ≤ a1 := by omega
    have hW2 : a1 < 18446744073709551616 := by omega
    clear hw0 uw
    go_enter Try.func7, Try.ntmps7
    go_wp2_with fail
    refine (i1 _).mono ?_
    rintro e w' ⟨r, rfl, hr, rfl⟩
    clear i1
    go_wp2_with (at_make; refine wpList_make_full _ rfl _ _ 22 rfl w.heap.size 36 i_u64 (.int .u64 0) 1 Try.underlying22 hi_u64 hz0_u64 hz1_u64 .i64 .i64 _ _ 4096 rfl rfl (by omega) (by omega) (by rw [hz2_u64]; omega) (by unfold maxLen; omega) (Nat.le_refl _) ?_)
    intro w3 hmade hgr
    have hown := own_zeros hmade
    have hb3 : Below w.heap.size w w3 := (Below.refl _ _).grown hgr (Nat.le_refl _) (fun k hk => by cases hk)
    obtain ⟨g, hg⟩ : ∃ g, g = w.heap.size := ⟨_, rfl⟩
    obtain ⟨us0, hus0⟩ : ∃ us0, us0 = List.replicate 4096 (0 : Int) := ⟨_, rfl⟩
    have hown2 : Own .u64 w3 w.heap.size 36 (.slice (some ⟨g, 0, none⟩) 4096 4096) us0 := by rw [hg, hus0]; exact hown
    have HU0 : Hid (us0.length = 4096) := by show _ = _; rw [hus0, List.length_replicate]
    rw [← hg]
    clear hmade hgr hown hg hus0
    go_wp2
    go_loopw [6] (fun i wr => ∃ (q : Nat) (us : List Int), i = .int .i64 q ∧ q ≤ 4096 ∧ Own .u64 wr w.heap.size 36 (.slice (some ⟨g, 0, none⟩) 4096 4096) us ∧ Hid (us.length = 4096) ∧ Hid (us.take q = List.replicate q 18446744073709551615) ∧ Below w.heap.size w wr) (fun i _ => 4096 - (intOf i).toNat)
    case atStart => exact ⟨0, us0, rfl, by omega, hown2, HU0, (rfl : us0.take 0 = List.replicate 0 18446744073709551615), hb3⟩
    case round =>
      obtain ⟨q, us, rfl, hq, hou, hul, hut, hnx⟩ := hrel
      clear hown2 hb3 HU0
      by_cases hlt : q < 4096
      · have hlu : 4096 = us.length := hul.out.symm
        have hce := hou.cellAt hlu (j := q) (by omega)
        have hfz := hou.frozenAt hlu q
        have hO := hou.set hlu q 18446744073709551615
        have hgb := hou.base_le
        have HT : Hid ((us.set q 18446744073709551615).take (q + 1) = List.replicate (q + 1) 18446744073709551615) := by show _ = _; rw [set_take_next (by omega), hut.out, List.replicate_succ']
        have HL : Hid ((us.set q 18446744073709551615).length = 4096) := by show _ = _; rw [List.length_set]; exact hul.out
        generalize us.getD q 0 = u at *
        clear hou hlu hut
        go_wp2
        go_roundw
        case rel => exact ⟨q + 1, _, by go_num, by omega, hO, HL, HT, hnx.setCell hgb _⟩
        case measure => simp [intOf]; omega
      have hq4 : q = 4096 := by omega
      subst hq4
      have hut2 : us = List.replicate 4096 18446744073709551615 := by have h := hut.out; rw [List.take_of_length_le (by rw [hul.out]; omega)] at h; exact h
      have nT := nm_top
      have eT := eq_top
      rw [← hut2] at nT eT
      have rT := hou.rowA hul.out.symm
      clear hut2 hut hul hou hlt hq
      go_wp2_with (at_make; refine wpList_make_full _ rfl _ _ 22 rfl wr.heap.size 36 i_u64 (.int .u64 0) 1 Try.underlying22 hi_u64 hz0_u64 hz1_u64 .i64 .i64 _ _ 4097 rfl rfl (by omega) (by omega) (by rw [hz2_u64]; omega) (by unfold maxLen; omega) (Nat.le_refl _) ?_)
      intro w5 hmade hgr
      have hown := own_zeros hmade
      have hb5 : Below wr.heap.size wr w5 := (Below.refl _ _).grown hgr (Nat.le_refl _) (fun k hk => by cases hk)
      obtain ⟨g2, hg2⟩ : ∃ g2, g2 = wr.heap.size := ⟨_, rfl⟩
      obtain ⟨os0, hos0⟩ : ∃ os0, os0 = List.replicate 4097 (0 : Int) := ⟨_, rfl⟩
      have hown2 : Own .u64 w5 wr.heap.size 36 (.slice (some ⟨g2, 0, none⟩) 4097 4097) os0 := by rw [hg2, hos0]; exact hown
      have hlo : 4097 = os0.length := by rw [hos0, List.length_replicate]
      have nO : Nm (os0.set 4096 a1) (a1 * lim) := by rw [hos0]; exact nm_over ⟨by omega, by omega⟩
      have eO : Hid (os0.set 4096 a1 = words (a1 * lim)) := by rw [hos0]; exact eq_over (by omega) (by omega)
      rw [← hg2]
      have hce := hown2.cellAt hlo (j := 4096) (by omega)
      have hfz := hown2.frozenAt hlo 4096
      have hgb := hown2.base_le
      have hO2 := (hown2.set hlo 4096 a1).rowA (by rw [List.length_set]; exact hlo)
      have hb6 : Below wr.heap.size wr (w5.setCell ⟨g2, 4096, none⟩ (.int .u64 a1)) := hb5.setCell hgb _
      generalize hol : os0.set 4096 a1 = ol at *
      generalize os0.getD 4096 0 = z0 at *
      have rT6 := rT.later hb6
      have B_0 := hnx.trans (hb6.mono hnx.size)
      clear hmade hgr hown hos0 hown2 hlo hb5 hb6 hg2 rT hnx hol hgb
      go_wp2_with fail
      have hs6 : w5.heap.size = (w5.setCell ⟨g2, 4096, none⟩ (.int .u64 a1)).heap.size := by simp
      generalize w5.setCell ⟨g2, 4096, none⟩ (.int .u64 a1) = w6 at *
      rw [hs6]
      clear hs6
      have lT : Lt (lim - 1) 4096 := lt_lim (by have := lim_pos; omega) (by omega)
      have lO := over_lt (w := a1) (by omega) (by omega)
      have gO := over_ge (w := a1) (by omega)
      obtain ⟨sO1, sO2⟩ := over_sub (w := a1) (by omega)
      have bO := over_bits (w := a1) (by omega)
      have pL := lim_pos
      obtain ⟨Q, hQ⟩ : ∃ Q, bitsN (a1 * lim) = Q := ⟨_, rfl⟩
      rw [hQ] at bO
      obtain ⟨OV, hOV⟩ : ∃ OV, OV = a1 * lim := ⟨_, rfl⟩
      rw [← hOV] at lO gO sO1 sO2 nO eO hQ
      have HQ : Hid (bitsN OV = Q) := hQ
      clear hOV hQ
      have al10 := alloc_below (w := w6) (.cells #[.int .u64 a1] 36)
      have lr10 := rowC_one w6 a1 36
      have lm10 := Nm.one (x := a1) ⟨by omega, by omega⟩
      have rT_al10 := rT6.later al10
      have rO_al10 := hO2.later al10
      have B_al10 := B_0.trans (al10.mono B_0.size)
      clear rT6 hO2 B_0 al10
      refine (addH rT_al10 lr10 nT lm10 (by omega)).mono ?_
      rintro e w11 ⟨a11, c11, rfl, hb11⟩
      have rT_11 := rT_al10.later hb11
      have rO_11 := rO_al10.later hb11
      have lr10_11 := lr10.later hb11
      have B_11 := B_al10.trans (hb11.mono B_al10.size)
      clear rT_al10 rO_al10 lr10 B_al10 hb11
      clear lr10_11 lm10
      go_wp2_with fail
      have al12 := alloc_below (w := w11) (.cells #[.int .u64 a1] 36)
      have lr12 := rowC_one w11 a1 36
      have lm12 := Nm.one (x := a1) ⟨by omega, by omega⟩
      have rT_al12 := rT_11.later al12
      have rO_al12 := rO_11.later al12
      have B_al12 := B_11.trans (al12.mono B_11.size)
      clear rT_11 rO_11 B_11 al12
      have es13 : (w11.alloc (.cells #[.int .u64 a1] 36)).heap.size = w11.heap.size + 1 := by simp
      have rs13 := rowsC_three 22 rT_al12 (rowC_nil (w11.alloc (.cells #[.int .u64 a1] 36))) lr12
      rw [es13] at rs13
      have sm13 : lim ≤ sumN [us, [], [a1]] := by
        have e : sumN [us, [], [a1]] = lim - 1 + a1 := by
          rw [sumN_cons, sumN_cons, sumN_cons, nT.num, lm12.num]
          have z1 : num [] = 0 := rfl
          have z2 : sumN [] = 0 := rfl
          rw [z1, z2]; omega
        omega
      have ws13 : Wss [us, [], [a1]] := wss_three ⟨nT.ws, nT.len⟩ ⟨Dg.nil _, by simp⟩ ⟨lm12.ws, by simp⟩
      have al13 := alloc_below (w := (w11.alloc (.cells #[.int .u64 a1] 36))) (.cells #[.slice (some ⟨g, 0, none⟩) 4096 4096, .slice none 0 0, .slice (some ⟨w11.heap.size, 0, none⟩) 1 1] 22)
      have rT_al13 := rT_al12.later al13
      have rO_al13 := rO_al12.later al13
      have lr12_al13 := lr12.later al13
      have B_al13 := B_al12.trans (al13.mono B_al12.size)
      clear rT_al12 rO_al12 lr12 B_al12 al13
      refine (sumH rs13 ws13 (by omega) sm13).mono ?_
      rintro e w14 ⟨a14, c14, rfl, hb14⟩
      have rT_14 := rT_al13.later hb14
      have rO_14 := rO_al13.later hb14
      have lr12_14 := lr12_al13.later hb14
      have B_14 := B_al13.trans (hb14.mono B_al13.size)
      clear rT_al13 rO_al13 lr12_al13 B_al13 hb14
      clear rs13 ws13 sm13 es13
      clear lr12_14 lm12
      go_wp2_with fail
      have al15 := alloc_below (w := w14) (.cells #[.int .u64 (a1 - 1)] 36)
      have lr15 := rowC_one w14 (a1 - 1) 36
      have lm15 := Nm.one (x := (a1 - 1)) ⟨by omega, by omega⟩
      have rT_al15 := rT_14.later al15
      have rO_al15 := rO_14.later al15
      have B_al15 := B_14.trans (al15.mono B_14.size)
      clear rT_14 rO_14 B_14 al15
      refine (subH rO_al15 lr15 nO lm15 (by omega) (by omega)).mono ?_
      rintro e w16 ⟨a16, c16, rfl, hb16⟩
      have rT_16 := rT_al15.later hb16
      have rO_16 := rO_al15.later hb16
      have lr15_16 := lr15.later hb16
      have B_16 := B_al15.trans (hb16.mono B_al15.size)
      clear rT_al15 rO_al15 lr15 B_al15 hb16
      clear lr15_16 lm15
      go_wp2_with fail
      have al17 := alloc_below (w := w16) (.cells #[.int .u64 1] 36)
      have lr17 := rowC_one w16 1 36
      have lm17 := Nm.one (x := 1) ⟨by omega, by omega⟩
      have rT_al17 := rT_16.later al17
      have rO_al17 := rO_16.later al17
      have B_al17 := B_16.trans (al17.mono B_16.size)
      clear rT_16 rO_16 B_16 al17
      refine (mulH rO_al17 lr17 nO lm17 (by omega)).mono ?_
      rintro e w18 ⟨a18, c18, rfl, hb18⟩
      have rT_18 := rT_al17.later hb18
      have rO_18 := rO_al17.later hb18
      have lr17_18 := lr17.later hb18
      have B_18 := B_al17.trans (hb18.mono B_al17.size)
      clear rT_al17 rO_al17 lr17 B_al17 hb18
      clear lr17_18 lm17
      go_wp2_with fail
      refine (shr0H rO_18 nO gO).mono ?_
      rintro e w19 ⟨a19, c19, rfl, hb19⟩
      have rT_19 := rT_18.later hb19
      have rO_19 := rO_18.later hb19
      have B_19 := B_18.trans (hb19.mono B_18.size)
      clear rT_18 rO_18 B_18 hb19
      go_wp2_with fail
      have lr20 := rowC_nil w19
      refine (addQ rT_19 lr20 nT Nm.nil (k := 4096) (by rw [Int.add_zero]; exact lT) (by omega)).mono ?_
      rintro e w21 ⟨a21, n21, c21, l21, rfl, r21, m21, e21, hb21⟩
      have rT_21 := rT_19.later hb21
      have rO_21 := rO_19.later hb21
      have lr20_21 := lr20.later hb21
      have B_21 := B_19.trans (hb21.mono B_19.size)
      clear rT_19 rO_19 lr20 B_19 hb21
      clear lr20_21
      go_wp2_with fail
      have al22 := alloc_below (w := w21) (.cells #[.int .u64 1] 36)
      have lr22 := rowC_one w21 1 36
      have lm22 := Nm.one (x := 1) ⟨by omega, by omega⟩
      have rT_al22 := rT_21.later al22
      have rO_al22 := rO_21.later al22
      have r21_al22 := r21.later al22
      have B_al22 := B_21.trans (al22.mono B_21.size)
      clear rT_21 rO_21 r21 B_21 al22
      refine (mulQ rT_al22 lr22 nT lm22 (k := 4096) (by rw [Int.mul_one]; exact lT) (by omega)).mono ?_
      rintro e w23 ⟨a23, n23, c23, l23, rfl, r23, m23, e23, hb23⟩
      have rT_23 := rT_al22.later hb23
      have rO_23 := rO_al22.later hb23
      have r21_23 := r21_al22.later hb23
      have lr22_23 := lr22.later hb23
      have B_23 := B_al22.trans (hb23.mono B_al22.size)
      clear rT_al22 rO_al22 r21_al22 lr22 B_al22 hb23
      clear lr22_23 lm22
      go_wp2_with fail
      have lr24 := rowC_nil w23
      refine (subQ rT_23 lr24 nT Nm.nil (by omega) (k := 4096) (by rw [Int.sub_zero]; exact lT) (by omega)).mono ?_
      rintro e w25 ⟨a25, n25, c25, l25, rfl, r25, m25, e25, hb25⟩
      have rT_25 := rT_23.later hb25
      have rO_25 := rO_23.later hb25
      have r21_25 := r21_23.later hb25
      have r23_25 := r23.later hb25
      have lr24_25 := lr24.later hb25
      have B_25 := B_23.trans (hb25.mono B_23.size)
      clear rT_23 rO_23 r21_23 r23 lr24 B_23 hb25
      clear lr24_25
      go_wp2_with fail
      have al26 := alloc_below (w := w25) (.cells #[.int .u64 1] 36)
      have lr26 := rowC_one w25 1 36
      have lm26 := Nm.one (x := 1) ⟨by omega, by omega⟩
      have rT_al26 := rT_25.later al26
      have rO_al26 := rO_25.later al26
      have r21_al26 := r21_25.later al26
      have r23_al26 := r23_25.later al26
      have r25_al26 := r25.later al26
      have B_al26 := B_25.trans (al26.mono B_25.size)
      clear rT_25 rO_25 r21_25 r23_25 r25 B_25 al26
      refine (shlT lr26 lm26 (t := 262143 - r) (T := 262143 - (r : Int)) (by omega) (by omega) (one_pow_lt hr) (by omega)).mono ?_
      rintro e w27 ⟨a27, n27, c27, l27, rfl, r27, m27, e27, hb27⟩
      have rT_27 := rT_al26.later hb27
      have rO_27 := rO_al26.later hb27
      have r21_27 := r21_al26.later hb27
      have r23_27 := r23_al26.later hb27
      have r25_27 := r25_al26.later hb27
      have lr26_27 := lr26.later hb27
      have B_27 := B_al26.trans (hb27.mono B_al26.size)
      clear rT_al26 rO_al26 r21_al26 r23_al26 r25_al26 lr26 B_al26 hb27
      clear lr26_27 lm26
      go_wp2_with fail
      have pw := pow_word hr
      have HW : IntKind.u64.wrap (2 ^ r) = 2 ^ r := by rw [IntKind.wrap_u64]; exact Int.emod_eq_of_lt pw.1 pw.2
      rw [HW]
      clear HW
      have al28 := alloc_below (w := w27) (.cells #[.int .u64 (2 ^ r)] 36)
      have lr28 := rowC_one w27 (2 ^ r) 36
      have lm28 := Nm.one (x := 2 ^ r) pw
      have rT_al28 := rT_27.later al28
      have rO_al28 := rO_27.later al28
      have r21_al28 := r21_27.later al28
      have r23_al28 := r23_27.later al28
      have r25_al28 := r25_27.later al28
      have r27_al28 := r27.later al28
      have B_al28 := B_27.trans (al28.mono B_27.size)
      clear rT_27 rO_27 r21_27 r23_27 r25_27 r27 B_27 al28
      refine (shlH lr28 lm28 (t := 262144 - r) (T := 262144 - (r : Int)) (by omega) (by omega) (by rw [pow_join hr]; omega)).mono ?_
      rintro e w29 ⟨a29, c29, rfl, hb29⟩
      have rT_29 := rT_al28.later hb29
      have rO_29 := rO_al28.later hb29
      have r21_29 := r21_al28.later hb29
      have r23_29 := r23_al28.later hb29
      have r25_29 := r25_al28.later hb29
      have r27_29 := r27_al28.later hb29
      have lr28_29 := lr28.later hb29
      have B_29 := B_al28.trans (hb29.mono B_al28.size)
      clear rT_al28 rO_al28 r21_al28 r23_al28 r25_al28 r27_al28 lr28 B_al28 hb29
      clear lr28_29 lm28
      clear pw
      go_wp2_with fail
      refine (sameQ r21_29 rT_29 m21 nT e21 eT (Int.add_zero _)).mono ?_
      rintro e w30 ⟨rfl, hb30⟩
      have rT_30 := rT_29.later hb30
      have rO_30 := rO_29.later hb30
      have r21_30 := r21_29.later hb30
      have r23_30 := r23_29.later hb30
      have r25_30 := r25_29.later hb30
      have r27_30 := r27_29.later hb30
      have B_30 := B_29.trans (hb30.mono B_29.size)
      clear rT_29 rO_29 r21_29 r23_29 r25_29 r27_29 B_29 hb30
      go_wp2_with fail
      refine (sameQ r23_30 rT_30 m23 nT e23 eT (Int.mul_one _)).mono ?_
      rintro e w31 ⟨rfl, hb31⟩
      have rT_31 := rT_30.later hb31
      have rO_31 := rO_30.later hb31
      have r21_31 := r21_30.later hb31
      have r23_31 := r23_30.later hb31
      have r25_31 := r25_30.later hb31
      have r27_31 := r27_30.later hb31
      have B_31 := B_30.trans (hb31.mono B_30.size)
      clear rT_30 rO_30 r21_30 r23_30 r25_30 r27_30 B_30 hb31
      go_wp2_with fail
      refine (sameQ r25_31 rT_31 m25 nT e25 eT (Int.sub_zero _)).mono ?_
      rintro e w32 ⟨rfl, hb32⟩
      have rT_32 := rT_31.later hb32
      have rO_32 := rO_31.later hb32
      have r21_32 := r21_31.later hb32
      have r23_32 := r23_31.later hb32
      have r25_32 := r25_31.later hb32
      have r27_32 := r27_31.later hb32
      have B_32 := B_31.trans (hb32.mono B_31.size)
      clear rT_31 rO_31 r21_31 r23_31 r25_31 r27_31 B_31 hb32
      clear r21_32 m21 e21 r23_32 m23 e23 r25_32 m25 e25
      have tb : (262144 - (r : Int) != 262144 - (r : Int)) = false := by simp
      go_wp2_with fail
      refine (bitsQ r27_32 m27 (one_pow_bits hr)).mono ?_
      rintro e w33 ⟨rfl, hb33⟩
      have rT_33 := rT_32.later hb33
      have rO_33 := rO_32.later hb33
      have r27_33 := r27_32.later hb33
      have B_33 := B_32.trans (hb33.mono B_32.size)
      clear rT_32 rO_32 r27_32 B_32 hb33
      clear r27_33 m27 e27
      clear tb
      go_wp2_with fail
      have al34 := alloc_below (w := w33) (.cells #[.int .u64 0, .int .u64 0] 36)
      have lr34 := rowC_two w33 0 0 36
      have lm34 := nm_zeros
      have rT_al34 := rT_33.later al34
      have rO_al34 := rO_33.later al34
      have B_al34 := B_33.trans (al34.mono B_33.size)
      clear rT_33 rO_33 B_33 al34
      refine (shlZ lr34 lm34 (by omega) (by omega)).mono ?_
      rintro e w35 ⟨a35, c35, rfl, hb35⟩
      have rT_35 := rT_al34.later hb35
      have rO_35 := rO_al34.later hb35
      have lr34_35 := lr34.later hb35
      have B_35 := B_al34.trans (hb35.mono B_al34.size)
      clear rT_al34 rO_al34 lr34 B_al34 hb35
      clear lr34_35 lm34
      obtain ⟨t, ht⟩ : ∃ t : Nat, t = 4611686018427387904 := ⟨_, rfl⟩
      go_wp2_with fail
      refine (shrOut rO_35 nO (by omega) (t := t) (by omega) (by omega) lO (by omega)).mono ?_
      rintro e w36 ⟨a36, c36, rfl, hb36⟩
      have rT_36 := rT_35.later hb36
      have rO_36 := rO_35.later hb36
      have B_36 := B_35.trans (hb36.mono B_35.size)
      clear rT_35 rO_35 B_35 hb36
      clear ht
      go_wp2_with fail
      have lr37 := rowC_nil w36
      refine (mulZ rO_36 lr37 nO Nm.nil).mono ?_
      rintro e w38 ⟨a38, c38, rfl, hb38⟩
      have rT_38 := rT_36.later hb38
      have rO_38 := rO_36.later hb38
      have lr37_38 := lr37.later hb38
      have B_38 := B_36.trans (hb38.mono B_36.size)
      clear rT_36 rO_36 lr37 B_36 hb38
      clear lr37_38
      go_wp2_with fail
      refine (shlNeg rT_38 nT (by omega)).mono ?_
      rintro e w39 ⟨a39, c39, rfl, hb39⟩
      have rT_39 := rT_38.later hb39
      have rO_39 := rO_38.later hb39
      have B_39 := B_38.trans (hb39.mono B_38.size)
      clear rT_38 rO_38 B_38 hb39
      go_wp2_with fail
      refine (shrNeg rT_39 nT (by omega)).mono ?_
      rintro e w40 ⟨a40, c40, rfl, hb40⟩
      have rT_40 := rT_39.later hb40
      have rO_40 := rO_39.later hb40
      have B_40 := B_39.trans (hb40.mono B_39.size)
      clear rT_39 rO_39 B_39 hb40
      go_wp2_with fail
      refine (cmpK rO_40 rT_40 nO nT (ordN_gt (by omega))).mono ?_
      rintro e w41 ⟨rfl, hb41⟩
      have rT_41 := rT_40.later hb41
      have rO_41 := rO_40.later hb41
      have B_41 := B_40.trans (hb41.mono B_40.size)
      clear rT_40 rO_40 B_40 hb41
      go_wp2_with fail
      refine (cmpK rT_41 rO_41 nT nO (ordN_lt (by omega))).mono ?_
      rintro e w42 ⟨rfl, hb42⟩
      have rT_42 := rT_41.later hb42
      have rO_42 := rO_41.later hb42
      have B_42 := B_41.trans (hb42.mono B_41.size)
      clear rT_41 rO_41 B_41 hb42
      go_wp2_with fail
      refine (bitsQ rO_42 nO HQ.out).mono ?_
      rintro e w43 ⟨rfl, hb43⟩
      have rT_43 := rT_42.later hb43
      have rO_43 := rO_42.later hb43
      have B_43 := B_42.trans (hb43.mono B_42.size)
      clear rT_42 rO_42 B_42 hb43
      go_wp2_with fail
      refine (normQ rO_43 nO lO (by omega)).mono ?_
      rintro e w44 ⟨a44, n44, c44, l44, rfl, r44, m44, e44, hb44⟩
      have rT_44 := rT_43.later hb44
      have rO_44 := rO_43.later hb44
      have B_44 := B_43.trans (hb44.mono B_43.size)
      clear rT_43 rO_43 B_43 hb44
      go_wp2_with fail
      refine (sameQ r44 rO_44 m44 nO e44 eO (rfl)).mono ?_
      rintro e w45 ⟨rfl, hb45⟩
      have rT_45 := rT_44.later hb45
      have rO_45 := rO_44.later hb45
      have r44_45 := r44.later hb45
      have B_45 := B_44.trans (hb45.mono B_44.size)
      clear rT_44 rO_44 r44 B_44 hb45
      go_wp2
      go_ret
      exact ⟨rfl, B_45⟩

/-! ### THE ROW's STEP: WRITTEN OUT: LEAVE IT -/
set_option maxRecDepth 100000 in
theorem lifted (os : Os) (started : os.Started) (H : Type) (enc : TypeId × Value → H) :
    ReturnsInHanded {} Try.checked os 7 .any (Rows.natHugeSpec.pre6 enc Try.prog Try.f7 Rows.natHugeRow.domain false) (Rows.natHugeSpec.post enc Try.prog Try.f7 false true false false) := by
  refine returnsInHanded_of_change (C := Try.checked) own started (by kernel_rfl) Try.func7
    (ChangeSpec.witness6 (enc := enc) (C := Try.checked) false ⟨#[], #[.int .i64 0, .int .u64 0], []⟩ 8 (by kernel_rfl) (by kernel_rfl) (by kernel_rfl) (by kernel_rfl)) ?_
  intro W base args ds gs before hval0 hW hcnd _
  have hval : ∀ (j : Nat) t v, Try.f7.params[j]? = some t → args[j]? = some v → Value.okWide Try.prog W .any base t v := hval0
  have hW' := hW
  obtain ⟨p, q, hA0, hV, rfl, hfz, hnd⟩ := hW
  have hA : DataW.TrodAll enc Try.prog W 0 (fun _ => true) true Try.f7.params.toList args.toList ds p := hA0
  rw [Try.params7] at hA hval
  obtain ⟨v0, vs0, d0, ds0, p0, q0, hargs, rfl, rfl, h0, r0⟩ := trodAll_cons hA
  obtain ⟨v1, vs1, d1, ds1, p1, q1, rfl, rfl, rfl, h1, r1⟩ := trodAll_cons r0
  obtain ⟨rfl, rfl, rfl⟩ := trodAll_nil r1
  obtain rfl : args = #[v0, v1] := by cases args; simp_all
  obtain ⟨rfl, rfl⟩ := trodVars_none hV
  obtain ⟨a0, rfl, rfl, rfl, w0⟩ := open_int Try.underlying3 (hval 0 3 v0 rfl rfl) h0
  obtain ⟨a1, rfl, rfl, rfl, w1⟩ := open_int Try.underlying36 (hval 1 36 v1 rfl rfl) h1
  clear hA0 hval0
  simp only [List.append_nil] at hW'
  refine (walk a0 a1 w0 w1 W).mono fun e W' ⟨he, hg⟩ => ?_
  subst he
  exact ⟨_, rfl, _, _, _, [], _, [], hW', trodAll_mk1 (shut_bool Try.underlying4 _), (trodAll_cons_mk (shut_int Try.underlying3 w0) (trodAll_cons_mk (shut_int Try.underlying36 w1) trodAll_mk0)), rfl, hg.frame _, fun h => by cases h⟩

theorem over : Rows.natHugeRow.holds Try.pinned (OpenSpec.ofChange Rows.natHugeSpec) :=
  OpenClaim.holds_of_wide 7 Try.f7 rfl rfl rfl rfl rfl rfl rfl ⟨rfl, rfl, rfl, rfl, rfl⟩ rfl rfl rfl rfl rfl (by kernel_rfl) Try.func7 (by kernel_rfl)
    (of_decide_eq_true (by kernel_rfl)) (by unfold Func.isWrapper; first | (rw [if_pos (by decide +kernel)]; kernel_rfl) | (rw [if_neg (by decide +kernel)]; exact ⟨rfl, rfl⟩))
    (fun os started H enc _ => lifted os started H enc)

/-- ████ THE STATEMENT ████ -/
theorem proved : Rows.NatHugeSaid :=
  over
#print axioms proved
end Go.Proofs.Ythigofcbmgheeaa.natHuge
