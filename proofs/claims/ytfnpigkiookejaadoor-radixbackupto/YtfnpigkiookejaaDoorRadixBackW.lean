/- RadixBack's walk. -/
import Derived.Test.YtfnpigkiookejaaDoorRadixBackB
import Derived.WalkLawsBesides
import Derived.WalkSpells
import Derived.Deep.RegionWith
import Derived.Deep.DeepCutAuto
import Derived.Deep.DeepFit
namespace Go.Proofs.YtfnpigkiookejaaDoor
open Go.ChangeShapes Go.WideShapes Go.ChangeAt Go.RowKit
open Na Ar
set_option linter.unusedVariables false
set_option maxHeartbeats 6400000 in
set_option maxRecDepth 100000 in
theorem back_walk {a0 : Option Addr} {len0 cap0 : Nat} {x0 : List Int} {a1 a2 : Int} {w : World} (hal : ∀ w, Calls Tryd.prog 9 #[] w fun e w' => e = .returned (.bool true) ∧ Below w.heap.size w w') (hc0 : RowC w a0 len0 cap0 x0) (hx0 : Ws x0) (s0 : len0 ≤ 1048576) (b1 : -9223372036854775808 ≤ a1 ∧ a1 ≤ 9223372036854775807) (b2 : -9223372036854775808 ≤ a2 ∧ a2 ≤ 9223372036854775807) :
    Calls Tryd.prog 3 #[.slice a0 len0 cap0, .int .i64 a1, .int .i64 a2] w fun e w' => e = .returned (.bool true) ∧ Below w.heap.size w w' := by
  have h0 := num_nonneg hx0
  have hw4 := words_bits4096 h0
  obtain ⟨i_u8, hi_u8, hz0_u8, hz1_u8, hz2_u8⟩ := info_parts info_u8
  by_cases hgood : (2 ≤ a1 ∧ a1 ≤ 36) ∧ (words (num x0)).length ≤ 4096
  · obtain ⟨⟨hb, hb9⟩, hl⟩ := hgood
    have htx := text_digs hc0 hx0 (by omega) hb hb9 hl
    have hbits := hw4.mp hl
    clear hw4
    go_enter Tryd.func3, Tryd.ntmps3
    go_wp2_with fail
    refine htx.mono ?_
    rintro e wt1 ⟨t, D, rfl, htD, hD, hb1⟩
    have hc1 := hc0.later hb1
    have hlen := digs_short hD hb h0 hl
    have hsz := bytes_size htD
    have hone := hD.one
    clear htx hc0
    go_wp2_with fail
    refine (hal _).mono ?_
    rintro e wt2 ⟨rfl, hb2⟩
    have hc2 := hc1.later hb2
    have hB2 := hb1.trans (hb2.mono hb1.size)
    clear hc1
    go_wp2_with fail
    refine (natBits_any hc2 hx0 (by omega)).mono ?_
    rintro e wt3 ⟨rfl, hb3⟩
    have hc3 := hc2.later hb3
    have hB3 := hB2.trans (hb3.mono hB2.size)
    clear hc2
    obtain ⟨cb, wb, hcv, hbo, hb4⟩ := conv_text (w := wt3) htD hD.bd
    obtain ⟨g, hg⟩ : ∃ g, g = wt3.heap.size := ⟨_, rfl⟩
    rw [← hg] at hcv hbo
    have HG : Hid (wt3.heap.size ≤ g) := by show _ ≤ _; omega
    have HGw : Hid (w.heap.size ≤ g) := by show _ ≤ _; rw [hg]; exact hB3.size
    have hne0 : 0 < t.size := by omega
    have hz0 : ((t.size : Int) == 0) = false := by rw [beq_eq_false_iff_ne]; omega
    have hfb := first_byte htD hD.bd (by omega)
    have HSZ : Hid (t.size = D.length) := hsz
    have hN : t.size ≤ 262145 := by omega
    have HD : Hid (Digs (num x0) a1 D) := hD
    have HT : Hid (t.data.toList = bytesOf D) := htD
    have htop : (∀ h, ¬ ((t[0]'h).toNat : Int) = 48) ∨ ((∀ h, ((t[0]'h).toNat : Int) = 48) ∧ t.toList = [48]) := by
      rcases hD.top with q | q
      · exact Or.inl fun h => by rw [hfb h]; exact q
      · refine Or.inr ⟨fun h => by rw [hfb h, q]; rfl, ?_⟩
        rw [Lib.toList_data, htD, q]; rfl
    have hAU : 0 ≤ IntKind.u64.wrap a2 := by rw [wrapU]; omega
    obtain ⟨M, hM⟩ : ∃ M : Nat, IntKind.u64.wrap a2 % 50 = (M : Int) := ⟨(IntKind.u64.wrap a2 % 50).toNat, by omega⟩
    have hM50 : M < 50 := by omega
    clear hsz hD htD hfb hg hlen hone
    rcases htop with hA | ⟨hA, hA2⟩
    all_goals
      go_wp2
      go_loopw [10] (fun i wr => ∃ j : Nat, i = .int .i64 (j : Int) ∧ j ≤ t.size ∧ BO wr g (ups D j) ∧ In g (g + 1) wb wr) (fun i _ => t.size - (RowKit.intOf i).toNat)
      case atStart => exact ⟨0, rfl, by omega, by rw [ups_zero]; exact hbo, In.refl _ _ _⟩
      case round =>
        obtain ⟨j, rfl, hj, hou, hin⟩ := hrel
        have hul := ups_length D j
        by_cases hlt : j < t.size
        · have hjD : j < D.length := by rw [← HSZ.out]; exact hlt
          have hce := hou.2.1 j (by omega)
          have hfz := hou.2.2 j (by omega)
          rw [ups_get hjD] at hce
          have hcb := HD.out.bd (D.getD j 0) (by rw [List.getD_eq_getElem?_getD, List.getElem?_eq_getElem hjD]; exact List.getElem_mem hjD)
          by_cases hup : 97 ≤ D.getD j 0
          · have hset := hou.set (j := j) (by omega) (D.getD j 0 - 32)
            rw [ups_set hjD (by unfold upc; rw [if_pos (by omega)])] at hset
            clear hbo hou hul hcv
            generalize D.getD j 0 = ch at *
            go_wp2
            go_roundw
            case rel => exact ⟨j + 1, by go_num, by omega, hset, hin.set1 _ _⟩
            case measure => simp [RowKit.intOf]; omega
          · rw [ups_skip hjD (by unfold upc; rw [if_neg (by omega)])] at hou
            clear hbo hul hcv
            generalize D.getD j 0 = ch at *
            go_wp2
            go_roundw
            case rel => exact ⟨j + 1, by go_num, by omega, hou, hin⟩
            case measure => simp [RowKit.intOf]; omega
        · have hjN : j = D.length := by rw [← HSZ.out]; omega
          rw [hjN, ups_all] at hou
          have hb5 : Below wt3.heap.size wt3 wr := below_inn hb4 hin HG.out (Nat.le_refl _)
          have hc5 := hc3.later hb5
          have hB5 := hB3.trans (hb5.mono hB3.size)
          clear hjN hin hbo hul hcv hc3 hb4
          go_wp2_with (at_make; refine wpList_make_full _ rfl _ _ 28 rfl wr.heap.size 5 i_u8 (.int .u8 0) 1 Tryd.underlying28 hi_u8 hz0_u8 hz1_u8 .i64 .i64 _ _ M rfl rfl (by omega) (by omega) (by rw [hz2_u8]; omega) (by unfold maxLen; omega) (Nat.le_refl _) ?_)
          intro w6 hmade hgr
          have hown := own_zeros hmade
          have hb6 : Below wr.heap.size wr w6 := (Below.refl _ _).grown hgr (Nat.le_refl _) (fun k hk => by cases hk)
          obtain ⟨g2, hg2⟩ : ∃ g2, g2 = wr.heap.size := ⟨_, rfl⟩
          rw [← hg2] at hown ⊢
          have HG2 : Hid (wr.heap.size ≤ g2) := by show _ ≤ _; omega
          have hbz := BO.of_own hown (by simp)
          have hzf : ZF (List.replicate M (0 : Int)) M 0 := ⟨by simp, fun i hi => by omega⟩
          generalize List.replicate M (0 : Int) = zs0 at *
          clear hmade hgr hg2 hown
          go_wp2
          go_loopw [12] (fun i wz => ∃ (k : Nat) (zs : List Int), i = .int .i64 (k : Int) ∧ k ≤ M ∧ ZF zs M k ∧ BO wz g2 zs ∧ In g2 (g2 + 1) w6 wz) (fun i _ => M - (RowKit.intOf i).toNat)
          case atStart => exact ⟨0, zs0, rfl, by omega, hzf, hbz, In.refl _ _ _⟩
          case round =>
            obtain ⟨k, zs, rfl, hk, hzk, hoz, hin2⟩ := hrel
            by_cases hlt2 : k < M
            · have hzl := hzk.1
              have hce := hoz.2.1 k (by omega)
              have hfz := hoz.2.2 k (by omega)
              have hset := hoz.set (j := k) (by omega) 48
              have hzn := hzk.set hlt2
              clear hoz hbz hzl
              go_wp2
              go_roundw
              case rel => exact ⟨k + 1, _, by go_num, by omega, hzn, hset, hin2.set1 _ _⟩
              case measure => simp [RowKit.intOf]; omega
            · have hkM : k = M := by omega
              rw [hkM] at hzk
              rw [hzk.all] at hoz
              have hb7 := below_inn hb6 hin2 HG2.out (Nat.le_refl _)
              have hou7 := hou.later hb7
              have hc7 := hc5.later hb7
              have hB7 := hB5.trans (hb7.mono hB5.size)
              clear hkM hin2 hb6 hou hc5 hzk hzf hbz
              have hgd : Good t a1 ∧ Hid (numB t a1 t.size = num x0) := ⟨(digs_good HD.out hb hb9 h0 HT.out).1, (digs_good HD.out hb hb9 h0 HT.out).2.1⟩
              have hp1 := parse_all t a1 (by omega) wr
              go_wp2_with fail
              refine hp1.mono ?_
              intro e w8 hp
              rcases hp with ⟨_, v8, rfl, ho8, hb8⟩ | ⟨hno, _⟩
              · rw [hgd.2.out] at ho8
                obtain ⟨ya, yc, rfl, hy8⟩ := ho8.readsC
                have hz8 := hoz.later hb8
                have hu8 := hou7.later hb8
                have hc8 := hc7.later hb8
                have hB8 := hB7.trans (hb8.mono hB7.size)
                have cz := hz8.conv (N := M) (cap := M) (by simp) (fun x hx => by have := List.eq_of_mem_replicate hx; omega)
                have cu := hu8.conv (N := t.size) (cap := cb) (by rw [List.length_map]; exact HSZ.out) (upc_bd HD.out.bd)
                obtain ⟨zz, hzz⟩ : ∃ zz : ByteArray, zz = ⟨(bytesOf (List.replicate M 48)).toArray⟩ := ⟨_, rfl⟩
                obtain ⟨uu, huu⟩ : ∃ uu : ByteArray, uu = ⟨(bytesOf (D.map upc)).toArray⟩ := ⟨_, rfl⟩
                have fz := zeros_num (s := zz) (b := a1) (k := M) hb (by rw [hzz])
                have fu := digs_upper (s := uu) HD.out hb hb9 h0 (by rw [huu])
                have fa := app_good hb hb9 fz ⟨fu.1, fu.2.1⟩ (by rw [fu.2.2, ← HSZ.out]; exact hne0)
                rw [← hzz] at cz
                rw [← huu] at cu
                have fz3 := fz.2.2
                have fu3 := fu.2.2
                rw [← HSZ.out] at fu3
                have hcat : zz.size + uu.size ≤ 9223372036854775807 := by omega
                have hp2 := fun w => parse_all (zz ++ uu) a1 (by rw [app_size]; omega) w
                clear hzz huu fz fu ho8 hz8 hu8 hoz hou7 hc7 hp1 fz3 fu3 hA
                go_wp2_with fail
                refine (hp2 _).mono ?_
                intro e w9 hp
                rcases hp with ⟨_, v9, rfl, ho9, hb10⟩ | ⟨hno, _⟩
                · rw [fa.2] at ho9
                  obtain ⟨ua, uc, rfl, hu9⟩ := ho9.readsC
                  have hy9 := hy8.later hb10
                  have hc9 := hc8.later hb10
                  have hB9 := hB8.trans (hb10.mono hB8.size)
                  have hnm := natNorm_any hc9 hx0 (by omega)
                  clear fa hp2 hcat cz cu ho9 hy8 hc8 hgd
                  go_wp2_with fail
                  refine hnm.mono ?_
                  rintro e w10 ⟨v10, rfl, ho10, hb11⟩
                  obtain ⟨na, nc, rfl, hn10⟩ := ho10.readsC
                  have hy10 := hy9.later hb11
                  have hu10 := hu9.later hb11
                  have hB10 := hB9.trans (hb11.mono hB9.size)
                  have hs1 := sameN hy10 hn10 (by omega) (by omega) rfl
                  clear hnm ho10 hy9 hu9 hc9
                  go_wp2_with fail
                  refine hs1.mono ?_
                  rintro e w11 ⟨rfl, hb12⟩
                  have hy11 := hy10.later hb12
                  have hu11 := hu10.later hb12
                  have hB11 := hB10.trans (hb12.mono hB10.size)
                  have hs2 := sameN hu11 hy11 (by omega) (by omega) rfl
                  clear hs1 hy10 hu10 hn10
                  go_wp2_with fail
                  refine hs2.mono ?_
                  rintro e w12 ⟨rfl, hb13⟩
                  have hB12 := hB11.trans (hb13.mono hB11.size)
                  clear hs2 hy11 hu11
                  go_wp2
                  go_ret
                  exact ⟨rfl, hB12⟩
                · exact absurd ⟨fa.1, by rw [fa.2]; exact hl⟩ hno
              · exact absurd ⟨hgd.1, by rw [hgd.2.out]; exact hl⟩ hno
  · have htx := textBad_any hc0 hx0 (by omega) (b := a1) (by omega)
    have hbits : ¬ (2 ≤ a1 ∧ a1 ≤ 36) ∨ 262144 < bitsN (num x0) := by
      by_cases q : 2 ≤ a1 ∧ a1 ≤ 36
      · exact Or.inr (by have := fun z => hgood ⟨q, hw4.mpr z⟩; omega)
      · exact Or.inl q
    clear hgood hw4
    go_enter Tryd.func3, Tryd.ntmps3
    go_wp2_with fail
    refine htx.mono ?_
    rintro e wt1 ⟨c, rfl, hcc, hb1⟩
    have hc1 := hc0.later hb1
    have hcz : (c != 0) = true := by rcases hcc with rfl | rfl <;> rfl
    clear htx hc0 hcc
    go_wp2_with fail
    refine (hal _).mono ?_
    rintro e wt2 ⟨rfl, hb2⟩
    have hc2 := hc1.later hb2
    have hB2 := hb1.trans (hb2.mono hb1.size)
    clear hc1
    by_cases q1 : a1 < 2
    · clear hbits
      go_wp2
      go_ret
      exact ⟨rfl, hB2⟩
    · by_cases q2 : 36 < a1
      · clear hbits
        go_wp2
        go_ret
        exact ⟨rfl, hB2⟩
      · have hbits := hbits.resolve_left (fun q => q ⟨by omega, by omega⟩)
        go_wp2_with fail
        refine (natBits_any hc2 hx0 (by omega)).mono ?_
        rintro e wt3 ⟨rfl, hb3⟩
        have hB3 := hB2.trans (hb3.mono hB2.size)
        clear hc2
        go_wp2
        go_ret
        exact ⟨rfl, hB3⟩
end Go.Proofs.YtfnpigkiookejaaDoor
