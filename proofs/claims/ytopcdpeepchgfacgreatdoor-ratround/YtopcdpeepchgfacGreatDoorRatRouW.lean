/- RatRound: the walk. -/
import Derived.Test.YtopcdpeepchgfacGreatDoorRatR2
import Derived.Test.YtopcdpeepchgfacGreatDoorRatPart
import Derived.Deep.QuietTactic
import Derived.BigQuiet
namespace Go.Proofs.YtopcdpeepchgfacGreatDoor
open Go.ChangeShapes Go.WideShapes Go.ChangeAt Go.RowKit
open Na Ar
set_option linter.unusedVariables false
set_option linter.unusedSimpArgs false
section
variable {w : World} {s1 : Bool} {a1 b1 : Option Addr} {n1 c1 m1 d1 : Nat} {xs ys : List Int}
theorem drewN_two (w : World) (a b : Nat) : (w.drewN a).drewN b = w.drewN (a + b) := by
  simp [World.drewN, Nat.add_assoc]
set_option maxHeartbeats 25600000 in
set_option maxRecDepth 100000 in
theorem round_walk (ha : RowAt .u64 w a1 n1 xs) (hb : RowAt .u64 w b1 m1 ys) (hx : Ws xs) (hy : Ws ys) (hn : n1 ≤ maxLen) (hm : m1 ≤ maxLen) {z : Int} (hz : -9223372036854775808 ≤ z ∧ z ≤ 9223372036854775807) (hE : ErrVar w) :
    Calls Tryz.prog 3 #[.agg #[.bool s1, .slice a1 n1 c1, .slice b1 m1 d1], .int .i64 z] w fun e w' => e = .returned (.bool true) ∧ Below w.heap.size w w' := by
  have hb0 := alloc_below (w := w) (.cells #[.bool s1, .slice a1 n1 c1, .slice b1 m1 d1] 24)
  have st0 := st_new w (.bool s1) (.slice a1 n1 c1) (.slice b1 m1 d1) 24
  obtain ⟨w0, hw0⟩ : ∃ w0, w0 = w.alloc (.cells #[.bool s1, .slice a1 n1 c1, .slice b1 m1 d1] 24) := ⟨_, rfl⟩
  rw [← hw0] at hb0 st0
  have f1 := made_any (s1 := s1) (c1 := c1) (d1 := d1) (ha.later hb0) (hb.later hb0) hx hy hn hm
  have hE0 := hE.later hb0
  obtain ⟨x0, x1, x2⟩ := st0.cells
  obtain ⟨g, hg⟩ : ∃ g, g = w.heap.size := ⟨_, rfl⟩
  have HG : Hid (w.heap.size = g) := hg.symm
  rw [← hg] at st0 hb0 x0 x1 x2
  have HS : g ≤ w0.heap.size := by rw [hg]; exact hb0.size
  clear ha hb hx hy hn hm hE
  generalize mkR s1 (pNum xs) (pDen ys) = q at *
  have hin := into5_any z 10 hz.1 hz.2 (by omega) (by omega)
  go_enter Tryz.func3, Tryz.ntmps3
  go_wp2_with fail
  rw [← hw0, ← hg]
  clear hw0 hg
  refine f1.mono ?_
  rintro e w1 ⟨s, v1, v2, rfl, hR, hS, hb1⟩
  obtain ⟨a, n, c, b, m, d, rfl, rfl, r⟩ := hR.opens
  clear f1 hR
  go_upto_region 2 with (fail)
  have ta := st_new w1 (.bool s) (.slice a n c) (.slice b m d) 25
  have al := alloc_below (w := w1) (.cells #[.bool s, .slice a n c, .slice b m d] 25)
  replace r := r.later al
  have hE1 := (hE0.later hb1).later al
  have HB1 := hb0.trans ((hb1.trans (al.mono hb1.size)).mono HS)
  generalize w1.alloc (.cells #[.bool s, .slice a n c, .slice b m d] 25) = z1 at *
  obtain ⟨ga, hga⟩ : ∃ ga, ga = w1.heap.size := ⟨_, rfl⟩
  rw [← hga] at ta ⊢
  clear hga al st0 x0 x1 x2 hb1 hb0 hE0 HS
  have hsg : Hid (s = decide (q.num < 0)) := r.sgn
  have iR := isR_rt r hS
  have rx := rText_any (an5_rt r hS)
  have x9 : num (words (q.num.natAbs : Int)) = (q.num.natAbs : Int) := num_words (by omega)
  have y9 : num (words (q.den : Int)) = (q.den : Int) := num_words (by omega)
  have X1 := hS.1
  have Y1 := hS.2
  have hden := q.den_pos
  have gS : g ≤ z1.heap.size := by
    have := HB1.size
    rw [HG.out] at this
    exact this
  have tA := fun w2 (h : Below z1.heap.size z1 w2) => (rText_any ((an5_rt r hS).later h)).mono (R' := fun e w' => ∃ t T L, e = .returned (.tuple #[.string t, .int .i64 0]) ∧ Na.Form t T L s (q.num.natAbs : Int) (q.den : Int) ∧ Below w2.heap.size w2 w') (by
    rintro e w' ⟨t, cc, rfl, hT, hb'⟩
    obtain ⟨rfl, T, L, hF⟩ := form_of hT iR (by rw [x9]; omega) (by rw [x9]; exact X1.2) (by rw [y9]; omega) (by rw [y9]; exact Y1.2)
    rw [x9, y9] at hF
    exact ⟨t, T, L, rfl, hF, hb'⟩)
  have oA := od_rt r hS
  clear rx r iR x9 y9 X1 Y1
  obtain ⟨i0, i1, i2⟩ := ta.cells
  go_wp2_with fail
  refine (alive5_any _).mono ?_
  rintro e w2 ⟨rfl, hb2⟩
  obtain ⟨i0, i1, i2⟩ := (ta.later hb2).cells
  go_wp2_with fail
  refine (tA _ hb2).mono ?_
  rintro e w3 ⟨t, T, L, rfl, hF, hb3⟩
  have H3 := hb2.trans (hb3.mono hb2.size)
  obtain ⟨i0, i1, i2⟩ := (ta.later H3).cells
  clear tA
  -- what Parse makes of the five texts
  have hsz := hF.size
  have hT := hF.1
  have hL := hF.2.1
  have Ts := hT.size
  have Ls := hL.size
  have fs : fS s ≤ 1 := by cases s <;> decide
  have hfr : FromIs t (fS s) s := by
    rcases hF.2.2 with ⟨_, _, h⟩ | ⟨_, h⟩
    · exact h.from
    · exact h.from
  have hspec : RSpec t (fS s) 0 (-1) (q.num.natAbs : Int) (q.den : Int) := by
    rcases hF.2.2 with ⟨h1, _, h⟩ | ⟨_, h⟩
    · have := spec_whole h
      rw [hT.num] at this
      rw [h1]; exact this
    · have := spec_quot h hL.good (by rw [hL.num]; omega)
      rw [hT.num, hL.num] at this
      exact this
  have hP0 := fun w1 (h : ErrVar w1) => parse_ok hfr (by omega) hspec w1 h
  rw [hsg.out, mkR_self] at hP0
  have hP2 := fun w1 (h : ErrVar w1) => parse_err (spec_plus t).1 (by rw [app_size]; show 1 + t.size ≤ 4000; omega) (spec_plus t).2 (by omega) w1 h
  have hP3 : ∀ w1, ErrVar w1 → Calls Tryz.prog 9 #[.string (t ++ (⟨#[32]⟩ : ByteArray))] w1 fun e w' => ∃ g, e = .returned (.tuple #[.agg #[.bool false, .slice none 0 0, .slice none 0 0], .iface 74 (.pointer (some ⟨g, 0, none⟩))]) ∧ FaultAt w' g (t.size : Int) 41 ∧ Below w1.heap.size w1 w' := by
    intro w1 h
    have hs3 : (t ++ (⟨#[32]⟩ : ByteArray)).size ≤ 4000 := by rw [app_size]; show t.size + 1 ≤ 4000; omega
    rcases hF.2.2 with ⟨h1, _, hl⟩ | ⟨_, hl⟩
    · have hl2 : Lead2 (t ++ (⟨#[32]⟩ : ByteArray)) T s (32 :: []) := ⟨by rw [bl_app, hl.eq]; simp [bl], hl.good⟩
      have e : fS s + T.size = t.size := by have := hl.size; simp at this; omega
      have sp := spec_wrong hl2 (by decide) (by decide)
      rw [e] at sp
      exact parse_err hl2.from hs3 sp (by omega) w1 h
    · have hl2 : Lead2 (t ++ (⟨#[32]⟩ : ByteArray)) T s (47 :: (bl L ++ (32 :: []))) := ⟨by rw [bl_app, hl.eq]; simp [bl], hl.good⟩
      have e : fS s + T.size + 1 + L.size = t.size := by have := hl.size; simp [← bl_size] at this; omega
      have sp := spec_behind hl2 hL.good (by decide)
      rw [e] at sp
      exact parse_err hl2.from hs3 sp (by omega) w1 h
  have hne : t.toList.isEmpty = false := by
    rw [Lib.toList_data, ← Bool.not_eq_true, List.isEmpty_iff_length_eq_zero]
    have := Lib.size_eq t
    omega
  have hne2 : (t.toList == []) = false := by
    rw [Lib.toList_data, ← Bool.not_eq_true, beq_iff_eq]
    intro e
    have := Lib.size_eq t
    rw [e] at this
    have h0 : t.size = 0 := this
    omega
  go_wp2_with fail
  refine (hP0 _ (hE1.later H3)).mono ?_
  rintro e w4 ⟨s4, a4, n4, c4, b4, m4, d4, rfl, o4, hb4⟩
  have H4 := H3.trans (hb4.mono H3.size)
  go_upto_region 6 with (fail)
  have tb := st_new w4 (.bool s4) (.slice a4 n4 c4) (.slice b4 m4 d4) 25
  have al4 := alloc_below (w := w4) (.cells #[.bool s4, .slice a4 n4 c4, .slice b4 m4 d4] 25)
  replace o4 := o4.later al4
  have H5 := H4.trans (al4.mono H4.size)
  have ga4 : ga < w4.heap.size := (ta.later H4).lt
  generalize w4.alloc (.cells #[.bool s4, .slice a4 n4 c4, .slice b4 m4 d4] 25) = z4 at *
  obtain ⟨gb, hgb⟩ : ∃ gb, gb = w4.heap.size := ⟨_, rfl⟩
  rw [← hgb] at tb ga4 ⊢
  have nab : ¬ ga = gb := by omega
  have nba : ¬ gb = ga := by omega
  clear hgb al4
  obtain ⟨i0, i1, i2⟩ := (ta.later H5).cells
  obtain ⟨j0, j1, j2⟩ := tb.cells
  go_wp2_with fail
  refine (one_yes (oA.later H5) o4).mono ?_
  rintro e w5 ⟨rfl, hb5⟩
  have H6 := H5.trans (hb5.mono H5.size)
  obtain ⟨i0, i1, i2⟩ := (ta.later H6).cells
  clear o4 tb
  go_wp2_with fail
  refine (hin _).mono ?_
  rintro e w6 ⟨rr, rfl, hr, rfl⟩
  have hr1 : (rr : Int) ≤ 10 := by omega
  have hpz := pad_zero rr hr
  go_wp2_with fail
  generalize (⟨#[48, 48, 48, 48, 48, 48, 48, 48, 48, 48]⟩ : ByteArray).extract 0 rr = pad at *
  obtain ⟨ps, pz⟩ := hpz
  have p10 : pad.size ≤ 10 := by omega
  clear ps hin
  have gA := pad_good hT pz p10
  have gL := pad_good hL pz p10
  have gZ := zeros_good pz
  have hP1 : ∀ X, bl X = bl (sgS s) ++ (bl (pad ++ T ++ (⟨#[48]⟩ : ByteArray)) ++ (47 :: (bl (pad ++ L ++ (⟨#[48]⟩ : ByteArray)) ++ []))) → ∀ w1, ErrVar w1 → Calls Tryz.prog 9 #[.string X] w1 fun e w' => ∃ s' a n c b m d, e = .returned (.tuple #[.agg #[.bool s', .slice a n c, .slice b m d], .nilIface]) ∧ Od w' s' a n c b m d (.ok q) ∧ Below w1.heap.size w1 w' := by
    intro X hX w1 h
    have hl : Lead2 X (pad ++ T ++ (⟨#[48]⟩ : ByteArray)) s (47 :: (bl (pad ++ L ++ (⟨#[48]⟩ : ByteArray)) ++ [])) := ⟨hX, gA.1⟩
    have hs1 : X.size ≤ 4000 := by
      have := hl.size
      rw [app_size, app_size, List.length_cons, List.length_append, ← bl_size, app_size, app_size, List.length_nil] at this
      have e1 : (⟨#[48]⟩ : ByteArray).size = 1 := rfl
      omega
    have sp := spec_quot hl gL.1 (by rw [gL.2]; omega)
    rw [gA.2, gL.2] at sp
    have := parse_ok hl.from hs1 sp w1 h
    rw [hsg.out, mkR_ten] at this
    exact this
  have hP4 : ∀ X, bl X = bl (sgS s) ++ (bl T ++ (47 :: (bl (pad ++ (⟨#[48]⟩ : ByteArray)) ++ []))) → ∀ w1, ErrVar w1 → Calls Tryz.prog 9 #[.string X] w1 fun e w' => ∃ g, e = .returned (.tuple #[.agg #[.bool false, .slice none 0 0, .slice none 0 0], .iface 74 (.pointer (some ⟨g, 0, none⟩))]) ∧ FaultAt w' g (((fS s + T.size : Nat) : Int) + 1) 50 ∧ Below w1.heap.size w1 w' := by
    intro X hX w1 h
    have hl : Lead2 X T s (47 :: (bl (pad ++ (⟨#[48]⟩ : ByteArray)) ++ [])) := ⟨hX, hT.good⟩
    have hs1 : X.size ≤ 4000 := by
      have := hl.size
      rw [List.length_cons, List.length_append, ← bl_size, app_size, List.length_nil] at this
      have e1 : (⟨#[48]⟩ : ByteArray).size = 1 := rfl
      omega
    exact parse_err hl.from hs1 (spec_zero hl gZ.1 gZ.2) (by omega) w1 h
  have Tp := hT.good.2.2.1
  have szt : (t.size : Int) ≤ 2100 := by omega
  clear hP0 hspec hfr gA gL gZ pz hT hL
  go_loopw [12, 13, 14] (fun u v iv wr => ∃ (tp lo : ByteArray) (i dd : Nat), u = .string tp ∧ v = .string lo ∧ iv = .int .i64 (i : Int) ∧ i ≤ t.size ∧ Hid (CutI t tp lo i) ∧ wr = w5.drewN dd) (fun _ _ iv _ => t.size - (intOf iv).toNat)
  case atStart => exact ⟨t, ⟨#[49]⟩, 0, 0, rfl, rfl, rfl, by omega, Or.inl ⟨fun j hj => by omega, rfl, rfl⟩, rfl⟩
  case round =>
    obtain ⟨tp, lo, i, dd, rfl, rfl, rfl, hi0, hci, rfl⟩ := hrel
    by_cases hi : i < t.size
    · have hl : (i : Int) < (t.size : Int) := by omega
      have hbt := get_byte hi
      by_cases q7 : t.get! i = 47
      · have q8 : ((((t[i]'hi).toNat : Nat) : Int) == 47) = true := beq_of (by rw [← hbt, q7]; rfl)
        have H2 : Hid (CutI t (t.extract 0 i) (t.extract (i + 1) t.size) (i + 1)) := Or.inr ⟨i, by omega, q7, rfl, rfl⟩
        have c2 : (i : Int) ≤ (t.size : Int) := by omega
        have c4 : ((i : Int) + 1) ≤ (t.size : Int) := by omega
        clear hci hbt q7
        go_wp2_with fail
        go_quiet (fail)
        go_wp2_with fail
        go_roundw
        case rel => exact ⟨_, _, i + 1, _, rfl, rfl, rfl, by omega, H2, by first | rfl | exact drewN_two _ _ _⟩
        case measure => simp [intOf]; omega
      · have q8 : ((((t[i]'hi).toNat : Nat) : Int) == 47) = false := beq_no (by
          intro e
          apply q7
          rw [hbt]
          exact UInt8.toNat_inj.1 (by show (t[i]'hi).toNat = 47; omega))
        have H2 : Hid (CutI t tp lo (i + 1)) := by
          rcases hci.out with ⟨c1, c2, c3⟩ | ⟨k, k1, k2, k3, k4⟩
          · exact Or.inl ⟨fun j hj => by
              by_cases e : j < i
              · exact c1 j e
              · have : j = i := by omega
                rw [this]; exact q7, c2, c3⟩
          · exact Or.inr ⟨k, by omega, k2, k3, k4⟩
        clear hci hbt q7
        go_wp2_with fail
        go_roundw
        case rel => exact ⟨tp, lo, i + 1, dd, rfl, rfl, rfl, by omega, H2, rfl⟩
        case measure => simp [intOf]; omega
    · have hl : ¬ (i : Int) < (t.size : Int) := by omega
      have ie : i = t.size := by omega
      have hci2 := hci.out
      rw [ie] at hci2
      obtain ⟨tpE, loE⟩ := hF.cut hci2
      have HTP : Hid (bl tp = bl (sgS s) ++ bl T) := tpE
      clear hci hci2 ie tpE hF
      subst loE
      have Hq := below_drewN H6 dd
      obtain ⟨i0, i1, i2⟩ := (ta.later Hq).cells
      generalize w5.drewN dd = wq at *
      clear H6 H5 H4 H3
      cases s
      · have e0 : tp = T := bl_eq (by rw [HTP.out]; rfl)
        clear HTP
        subst e0
        go_wp2_with fail
        refine (hP1 _ (by simp [bl_app, bl, sgS]) _ (hE1.later Hq)).mono ?_
        rintro e w6 ⟨s6, a6, n6, c6, b6, m6, d6, rfl, o6, hb6⟩
        have H7 := Hq.trans (hb6.mono Hq.size)
        go_upto_region 19 with (fail)
        have tc := st_new w6 (.bool s6) (.slice a6 n6 c6) (.slice b6 m6 d6) 25
        have al6 := alloc_below (w := w6) (.cells #[.bool s6, .slice a6 n6 c6, .slice b6 m6 d6] 25)
        replace o6 := o6.later al6
        have H8 := H7.trans (al6.mono H7.size)
        have ga6 : ga < w6.heap.size := (ta.later H7).lt
        generalize w6.alloc (.cells #[.bool s6, .slice a6 n6 c6, .slice b6 m6 d6] 25) = z6 at *
        obtain ⟨gc, hgc⟩ : ∃ gc, gc = w6.heap.size := ⟨_, rfl⟩
        rw [← hgc] at tc ga6 ⊢
        have nac : ¬ ga = gc := by omega
        have nca : ¬ gc = ga := by omega
        clear hgc al6
        go_wp2_with fail
        refine (hP2 _ (hE1.later H8)).mono ?_
        rintro e w7 ⟨g7, rfl, F7, hb7⟩
        go_upto_region 20 with (fail)
        have al7 := alloc_below (w := w7) (.cells #[.bool false, .slice none 0 0, .slice none 0 0] 25)
        have B7 := hb7.trans (al7.mono hb7.size)
        replace F7 := F7.later al7
        generalize w7.alloc (.cells #[.bool false, .slice none 0 0, .slice none 0 0] 25) = z7 at *
        generalize w7.heap.size = n7 at *
        clear al7 hb7
        have H9 := H8.trans (B7.mono H8.size)
        go_wp2_with fail
        refine (hP3 _ (hE1.later H9)).mono ?_
        rintro e w8 ⟨g8, rfl, F8, hb8⟩
        go_upto_region 21 with (fail)
        have al8 := alloc_below (w := w8) (.cells #[.bool false, .slice none 0 0, .slice none 0 0] 25)
        have B8 := hb8.trans (al8.mono hb8.size)
        replace F8 := F8.later al8
        generalize w8.alloc (.cells #[.bool false, .slice none 0 0, .slice none 0 0] 25) = z8 at *
        generalize w8.heap.size = n8 at *
        clear al8 hb8
        have H10 := H9.trans (B8.mono H9.size)
        go_wp2_with fail
        refine (hP4 _ (by simp [bl_app, bl, sgS]) _ (hE1.later H10)).mono ?_
        rintro e w9 ⟨g9, rfl, F9, hb9⟩
        go_upto_region 22 with (fail)
        have al9 := alloc_below (w := w9) (.cells #[.bool false, .slice none 0 0, .slice none 0 0] 25)
        have B9 := hb9.trans (al9.mono hb9.size)
        replace F9 := F9.later al9
        generalize w9.alloc (.cells #[.bool false, .slice none 0 0, .slice none 0 0] 25) = z9 at *
        generalize w9.heap.size = n9 at *
        clear al9 hb9
        have H11 := H10.trans (B9.mono H10.size)
        have F8' := F8.later B9
        have F7' := (F7.later B8).later B9
        have o6' := ((o6.later B7).later B8).later B9
        obtain ⟨i0, i1, i2⟩ := (ta.later H11).cells
        obtain ⟨j0, j1, j2⟩ := ((((tc.later B7).later B8).later B9)).cells
        have E11 := hE1.later H11
        clear F7 F8 o6 hP1 hP2 hP3 hP4
        go_wp2_with fail
        refine (one_yes (oA.later H11) o6').mono ?_
        rintro e wA ⟨rfl, hbA⟩
        go_wp2_with fail
        refine (codeFault_any (F7'.later hbA) (E11.later hbA)).mono ?_
        rintro e wB ⟨rfl, hbB⟩
        have BB := hbA.trans (hbB.mono hbA.size)
        go_wp2_with fail
        refine (placeFault_any (F7'.later BB) (E11.later BB)).mono ?_
        rintro e wC ⟨rfl, hbC⟩
        have BC := BB.trans (hbC.mono BB.size)
        go_wp2_with fail
        refine (codeFault_any (F8'.later BC) (E11.later BC)).mono ?_
        rintro e wD ⟨rfl, hbD⟩
        have BD := BC.trans (hbD.mono BC.size)
        go_wp2_with fail
        refine (placeFault_any (F8'.later BD) (E11.later BD)).mono ?_
        rintro e wE ⟨rfl, hbE⟩
        have BE := BD.trans (hbE.mono BD.size)
        go_wp2_with fail
        refine (codeFault_any (F9.later BE) (E11.later BE)).mono ?_
        rintro e wF ⟨rfl, hbF⟩
        have BF := BE.trans (hbF.mono BE.size)
        go_wp2_with fail
        refine (placeFault_any (F9.later BF) (E11.later BF)).mono ?_
        rintro e wG ⟨rfl, hbG⟩
        have BG := BF.trans (hbG.mono BF.size)
        have HH := H11.trans (BG.mono H11.size)
        have fv : fS false = 0 := rfl
        go_wp2_with fail
        go_ret
        rw [HG.out]
        exact ⟨ret_bool (by simp [fS] <;> omega), HB1.trans (HH.mono gS)⟩
      · have e0 : tp.extract 1 tp.size = T := bl_eq (by
          have h := HTP.out
          have h2 : (sgS true).data.toList = [45] := rfl
          have h3 : tp.data.toList = 45 :: T.data.toList := by
            unfold bl at h
            rw [h, h2]; rfl
          unfold bl
          rw [ext_list, List.take_of_length_le (by rw [List.length_drop]; have := Lib.size_eq tp; omega), h3]
          rfl)
        have e1 : (1 : Int) ≤ (tp.size : Int) := by
          have h := Lib.size_eq tp
          have h9 := HTP.out
          unfold bl at h9
          rw [h9, List.length_append] at h
          have h2 : (sgS true).data.toList.length = 1 := rfl
          omega
        have HE0 : Hid (tp.extract 1 tp.size = T) := e0
        clear HTP e0
        go_wp2_with fail
        go_quiet (fail)
        rw [HE0.out]
        have Hq1 := below_drewN Hq nq
        obtain ⟨i0, i1, i2⟩ := (ta.later Hq1).cells
        generalize wq.drewN nq = wr at *
        go_wp2_with fail
        refine (hP1 _ (by simp [bl_app, bl, sgS]) _ (hE1.later Hq1)).mono ?_
        rintro e w6 ⟨s6, a6, n6, c6, b6, m6, d6, rfl, o6, hb6⟩
        have H7 := Hq1.trans (hb6.mono Hq1.size)
        go_upto_region 19 with (fail)
        have tc := st_new w6 (.bool s6) (.slice a6 n6 c6) (.slice b6 m6 d6) 25
        have al6 := alloc_below (w := w6) (.cells #[.bool s6, .slice a6 n6 c6, .slice b6 m6 d6] 25)
        replace o6 := o6.later al6
        have H8 := H7.trans (al6.mono H7.size)
        have ga6 : ga < w6.heap.size := (ta.later H7).lt
        generalize w6.alloc (.cells #[.bool s6, .slice a6 n6 c6, .slice b6 m6 d6] 25) = z6 at *
        obtain ⟨gc, hgc⟩ : ∃ gc, gc = w6.heap.size := ⟨_, rfl⟩
        rw [← hgc] at tc ga6 ⊢
        have nac : ¬ ga = gc := by omega
        have nca : ¬ gc = ga := by omega
        clear hgc al6
        go_wp2_with fail
        refine (hP2 _ (hE1.later H8)).mono ?_
        rintro e w7 ⟨g7, rfl, F7, hb7⟩
        go_upto_region 20 with (fail)
        have al7 := alloc_below (w := w7) (.cells #[.bool false, .slice none 0 0, .slice none 0 0] 25)
        have B7 := hb7.trans (al7.mono hb7.size)
        replace F7 := F7.later al7
        generalize w7.alloc (.cells #[.bool false, .slice none 0 0, .slice none 0 0] 25) = z7 at *
        generalize w7.heap.size = n7 at *
        clear al7 hb7
        have H9 := H8.trans (B7.mono H8.size)
        go_wp2_with fail
        refine (hP3 _ (hE1.later H9)).mono ?_
        rintro e w8 ⟨g8, rfl, F8, hb8⟩
        go_upto_region 21 with (fail)
        have al8 := alloc_below (w := w8) (.cells #[.bool false, .slice none 0 0, .slice none 0 0] 25)
        have B8 := hb8.trans (al8.mono hb8.size)
        replace F8 := F8.later al8
        generalize w8.alloc (.cells #[.bool false, .slice none 0 0, .slice none 0 0] 25) = z8 at *
        generalize w8.heap.size = n8 at *
        clear al8 hb8
        have H10 := H9.trans (B8.mono H9.size)
        go_wp2_with fail
        refine (hP4 _ (by simp [bl_app, bl, sgS]) _ (hE1.later H10)).mono ?_
        rintro e w9 ⟨g9, rfl, F9, hb9⟩
        go_upto_region 22 with (fail)
        have al9 := alloc_below (w := w9) (.cells #[.bool false, .slice none 0 0, .slice none 0 0] 25)
        have B9 := hb9.trans (al9.mono hb9.size)
        replace F9 := F9.later al9
        generalize w9.alloc (.cells #[.bool false, .slice none 0 0, .slice none 0 0] 25) = z9 at *
        generalize w9.heap.size = n9 at *
        clear al9 hb9
        have H11 := H10.trans (B9.mono H10.size)
        have F8' := F8.later B9
        have F7' := (F7.later B8).later B9
        have o6' := ((o6.later B7).later B8).later B9
        obtain ⟨i0, i1, i2⟩ := (ta.later H11).cells
        obtain ⟨j0, j1, j2⟩ := ((((tc.later B7).later B8).later B9)).cells
        have E11 := hE1.later H11
        clear F7 F8 o6 hP1 hP2 hP3 hP4
        go_wp2_with fail
        refine (one_yes (oA.later H11) o6').mono ?_
        rintro e wA ⟨rfl, hbA⟩
        go_wp2_with fail
        refine (codeFault_any (F7'.later hbA) (E11.later hbA)).mono ?_
        rintro e wB ⟨rfl, hbB⟩
        have BB := hbA.trans (hbB.mono hbA.size)
        go_wp2_with fail
        refine (placeFault_any (F7'.later BB) (E11.later BB)).mono ?_
        rintro e wC ⟨rfl, hbC⟩
        have BC := BB.trans (hbC.mono BB.size)
        go_wp2_with fail
        refine (codeFault_any (F8'.later BC) (E11.later BC)).mono ?_
        rintro e wD ⟨rfl, hbD⟩
        have BD := BC.trans (hbD.mono BC.size)
        go_wp2_with fail
        refine (placeFault_any (F8'.later BD) (E11.later BD)).mono ?_
        rintro e wE ⟨rfl, hbE⟩
        have BE := BD.trans (hbE.mono BD.size)
        go_wp2_with fail
        refine (codeFault_any (F9.later BE) (E11.later BE)).mono ?_
        rintro e wF ⟨rfl, hbF⟩
        have BF := BE.trans (hbF.mono BE.size)
        go_wp2_with fail
        refine (placeFault_any (F9.later BF) (E11.later BF)).mono ?_
        rintro e wG ⟨rfl, hbG⟩
        have BG := BF.trans (hbG.mono BF.size)
        have HH := H11.trans (BG.mono H11.size)
        have fv : fS true = 1 := rfl
        go_wp2_with fail
        go_ret
        rw [HG.out]
        exact ⟨ret_bool (by simp [fS] <;> omega), HB1.trans (HH.mono gS)⟩
end
end Go.Proofs.YtopcdpeepchgfacGreatDoor
