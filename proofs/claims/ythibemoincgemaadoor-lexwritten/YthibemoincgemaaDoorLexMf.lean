/- plumblaw09: a piece is made: kind 2. -/
import Derived.Test.YthibemoincgemaaDoorLexMe
namespace Go.Proofs.YthibemoincgemaaDoor
open Go.ChangeShapes Go.WideShapes Go.ChangeAt Go.RowKit
open Lx
set_option linter.unusedVariables false
set_option maxHeartbeats 3200000 in
set_option maxRecDepth 100000 in
theorem made9_k2 {w : World} {kd sg e : Int} {a1 a2 : Option Addr} {n1 c1 n2 c2 : Nat} {z1 z2 : List Int} (hr1 : RowAt .i64 w a1 n1 z1) (hr2 : RowAt .i64 w a2 n2 z2) (hn1 : n1 ≤ 9223372036854775807) (hn2 : n2 ≤ 9223372036854775807) (pt ne plus big : Bool)
    (hk : kd % 3 = 2) {s h t : B} (hs : sgL (sg % 3 - 1) plus = s) (hh : dgL 10 big z1 = h) (ht : dgL 10 big z2 = t) {e' : Int} (he : e.tmod 100000 = e') :
    Calls Tryd.prog 14 #[.agg (pieA kd sg (.slice a1 n1 c1) (.slice a2 n2 c2) pt ne e plus big)] w fun r w' =>
      r = .returned (.tuple #[.string (str (mdS 2 s h t pt ne big (exL e' plus))), .agg (nmA (mdN 2 s h t ne e'))]) ∧ Below w.heap.size w w' := by
  have hI1 := fun w => into9_any (n := kd) (top := 3) (by omega) (by omega) w
  have hI2 := fun w => into9_any (n := sg) (top := 3) (by omega) (by omega) w
  have hS := fun w => lawSign9_any (sg % 3 - 1) plus w
  rw [hs] at hS
  rw [hk] at hI1
  have hm0 := Int.emod_nonneg sg (show (3 : Int) ≠ 0 by omega)
  have hm1 := Int.emod_lt_of_pos sg (show (0 : Int) < 3 by omega)
  have hsl : (str s).size ≤ 1 := by rw [str_size, ← hs]; rcases sgL_cases (sg % 3 - 1) plus with q | q | q <;> rw [q] <;> simp
  have hhl : h.length ≤ 40 := by rw [← hh]; exact dgL_len
  have htl : t.length ≤ 40 := by rw [← ht]; exact dgL_len
  have HNEG : Hid (((str s).toList == [45]) = decide (s = [45])) := by
    rcases sgL_cases (sg % 3 - 1) plus with q | q | q <;> (rw [hs] at q; rw [q, Lib.toList_data, str_list]; rfl)
  generalize sg % 3 = q at *
  have hqw : IntKind.i64.wrap (q - 1) = q - 1 := by unfold IntKind.wrap; simp [IntKind.signed, IntKind.bits]; omega
  unfold pieA
  obtain ⟨w0, hw0⟩ : ∃ w0, w0 = (w.alloc (.cells #[.int .i64 kd, .int .i64 sg, .slice a1 n1 c1, .slice a2 n2 c2, .bool pt, .bool ne, .int .i64 e, .bool plus, .bool big] 44)).alloc (.cells zero5 25) := ⟨_, rfl⟩
  have hbl0 : Below w.heap.size w w0 := by rw [hw0]; exact ((Below.refl _ w).alloc (Nat.le_refl _) _).alloc (by simp) _
  have hst0 : Bk w0 w.heap.size 44 #[.int .i64 kd, .int .i64 sg, .slice a1 n1 c1, .slice a2 n2 c2, .bool pt, .bool ne, .int .i64 e, .bool plus, .bool big] := by
    rw [hw0]; exact (Bk.new w _ _).later ((Below.refl _ _).alloc (Nat.le_refl _) _)
  have hst1 : Bk w0 (w.heap.size + 1) 25 zero5 := by
    have := Bk.new (w.alloc (.cells #[.int .i64 kd, .int .i64 sg, .slice a1 n1 c1, .slice a2 n2 c2, .bool pt, .bool ne, .int .i64 e, .bool plus, .bool big] 44)) 25 zero5
    rw [World.size_alloc] at this
    rw [hw0]
    exact this
  have hD1 : ∀ w1, Below w0.heap.size w0 w1 → Calls Tryd.prog 10 #[.slice a1 n1 c1, .int .i64 10, .bool big] w1 fun r w' => r = .returned (.string (str h)) ∧ Below w1.heap.size w1 w' := fun w1 hb => by
    rw [← hh]; exact digits9_any ((hr1.later hbl0).later hb) hn1 (by omega) (by omega) big
  have hD2 : ∀ w1, Below w0.heap.size w0 w1 → Calls Tryd.prog 10 #[.slice a2 n2 c2, .int .i64 10, .bool big] w1 fun r w' => r = .returned (.string (str t)) ∧ Below w1.heap.size w1 w' := fun w1 hb => by
    rw [← ht]; exact digits9_any ((hr2.later hbl0).later hb) hn2 (by omega) (by omega) big
  unfold zero5 at hw0
  obtain ⟨g, hg⟩ : ∃ g, g = w.heap.size := ⟨_, rfl⟩
  have HG : Hid (w.heap.size = g) := hg.symm
  rw [← hg] at hst0 hst1 hbl0
  have hgl := hst0.lt
  have HS0 : Hid (Bk w0 g 44 #[.int .i64 kd, .int .i64 sg, .slice a1 n1 c1, .slice a2 n2 c2, .bool pt, .bool ne, .int .i64 e, .bool plus, .bool big]) := hst0
  have HS1 : Hid (Bk w0 (g + 1) 25 zero5) := hst1
  have hcl : ∀ w1, Below w0.heap.size w0 w1 → w1.cell? ⟨g, 2, none⟩ = some (.slice a1 n1 c1) ∧ w1.cell? ⟨g, 3, none⟩ = some (.slice a2 n2 c2) ∧ w1.cell? ⟨g, 8, none⟩ = some (.bool big) :=
    fun w1 h => ⟨(HS0.out.later h).cell 2 rfl, (HS0.out.later h).cell 3 rfl, (HS0.out.later h).cell 8 rfl⟩
  have x0 : w0.cell? ⟨g, 0, none⟩ = some (.int .i64 kd) := hst0.cell 0 rfl
  have x1 : w0.cell? ⟨g, 1, none⟩ = some (.int .i64 sg) := hst0.cell 1 rfl
  have x7 : w0.cell? ⟨g, 7, none⟩ = some (.bool plus) := hst0.cell 7 rfl
  have HE : Hid (e.tmod 100000 = e') := he
  have HBL : Hid (Below g w w0) := hbl0
  clear hst0 hst1 hs hk he hh ht hr1 hr2 hn1 hn2 hbl0
  generalize hSS : str s = SS at *
  go_enter Tryd.func14, Tryd.ntmps14
  go_wp2_with fail
  rw [← hw0, ← hg]
  clear hw0 hg
  refine (hI1 _).mono ?_
  rintro r w1 ⟨rfl, hw1⟩
  rw [hw1]
  clear hI1 hw1
  go_wp2_with fail
  go_quiet ((first | (go_at_call 7; exact Calls.quiet_of_same (hI2 _)) | (go_at_call 26; exact Calls.quiet_of_same (hS _))))
  go_upto_region 7 with fail
  obtain ⟨w2, hw2⟩ : ∃ w2, w2 = w0.drewN nq := ⟨_, rfl⟩
  have hB2 : Below w0.heap.size w0 w2 := by rw [hw2]; exact below_drewN (Below.refl _ w0) nq
  rw [← hw2]
  clear hw2
  obtain ⟨x2, x3, x8⟩ := hcl w2 hB2
  go_cut [8, 9] (fun v8 v9 wx => v8 = .string (str h) ∧ v9 = .string (str t) ∧ Below w0.heap.size w0 wx)
  case first =>
    go_region_held3 (fun w1 => w1.cell? ⟨g, 2, none⟩ = some (.slice a1 n1 c1) ∧ w1.cell? ⟨g, 3, none⟩ = some (.slice a2 n2 c2) ∧ w1.cell? ⟨g, 8, none⟩ = some (.bool big)) (go_keep) (first | (go_at_call_of 10 a1; refine (hD1 _ (by first | exact hB2 | exact hB2.trans (below_drewN (Below.refl _ _) _))).mono ?_; rintro r wX ⟨rfl, hbX⟩; have hBX : Below w0.heap.size w0 wX := (by first | exact hB2.trans (hbX.mono hB2.size) | exact (hB2.trans (below_drewN (Below.refl _ _) _)).trans (hbX.mono hB2.size)); obtain ⟨y2, y3, y8⟩ := hcl wX hBX) | (go_at_call_of 10 a2; refine (hD2 _ (by first | exact hBX | exact hBX.trans (below_drewN (Below.refl _ _) _))).mono ?_; rintro r wY ⟨rfl, hbY⟩; have hBY : Below w0.heap.size w0 wY := (by first | exact hBX.trans (hbY.mono hBX.size) | exact (hBX.trans (below_drewN (Below.refl _ _) _)).trans (hbY.mono hBX.size)); obtain ⟨y2, y3, y8⟩ := hcl wY hBY))
    all_goals (go_wp2_with fail)
    all_goals go_meet
    all_goals exact ⟨rfl, rfl, hBY⟩
  obtain ⟨rfl, rfl, hBc⟩ := hcut
  clear x0 x1 x7 x2 x3 x8 hcl hD1 hD2 hI2 hS hB2
  rw [HNEG.out]
  clear HNEG
  generalize hNB : decide (s = [45]) = NB at *
  have HNB : Hid (decide (s = [45]) = NB) := hNB
  have HSS : Hid (str s = SS) := hSS
  clear hNB hSS
  by_cases h0 : h = [] <;> by_cases t0 : t = []
  · subst h0
    subst t0
    have hB1 : ∀ w, Calls Tryd.prog 27 #[.string (ByteArray.mk #[55])] w fun r w' => r = .returned (.string (str (bareR [55]))) ∧ Below w.heap.size w w' := fun w => lawBare9_any (str [55]) (by decide) w
    have hB2 : ∀ w, Calls Tryd.prog 27 #[.string (ByteArray.mk #[48, 50])] w fun r w' => r = .returned (.string (str (bareR [48, 50]))) ∧ Below w.heap.size w w' := fun w => lawBare9_any (str [48, 50]) (by decide) w
    have HR : Hid (mdS 2 s [] [] pt ne big (exL e' plus) = s ++ ([55] ++ (47 :: [48, 50]))) := by
      show _ = _
      rw [mdS_2]
      unfold mdHead mdTail
      rfl
    have HN : Hid (mdN 2 s [] [] ne e' = ⟨3, NB, bareR [55], 0, bareR [48, 50]⟩) := by
      show _ = _
      rw [mdN_2, HNB.out]
      unfold mdHead mdTail
      rfl
    have hcat : SS ++ str [55] ++ ByteArray.mk #[47] ++ str [48, 50] = str (mdS 2 s [] [] pt ne big (exL e' plus)) := by
      rw [HR.out, ← HSS.out]
      show str s ++ str [55] ++ str [47] ++ str [48, 50] = _
      rw [cat_str9, cat_str9, cat_str9]
      simp
    have hz1 : (str [55]).size ≤ 40 := by rw [str_size]; exact (by decide)
    have hz2 : (str [48, 50]).size ≤ 40 := by rw [str_size]; exact (by decide)
    generalize hRS : str (mdS 2 s [] [] pt ne big (exL e' plus)) = RS at *
    have HRS : Hid (str (mdS 2 s [] [] pt ne big (exL e' plus)) = RS) := hRS
    clear hRS
    have e55 : str [55] = ByteArray.mk #[55] := rfl
    rw [e55] at hcat hz1
    clear e55
    have e48 : str [48, 50] = ByteArray.mk #[48, 50] := rfl
    rw [e48] at hcat hz2
    clear e48
    have e0 : str [] = ByteArray.mk #[] := rfl
    rw [e0]
    clear e0
    clear HSS hhl htl
    go_wp2_with fail
    refine (hB1 _).mono ?_
    rintro r w3 ⟨rfl, b3⟩
    have g3 := hBc.trans (b3.mono hBc.size)
    go_wp2_with fail
    refine (hB2 _).mono ?_
    rintro r w4 ⟨rfl, b4⟩
    have g4 := g3.trans (b4.mono g3.size)
    have B4 := HS1.out.later g4
    clear hB1 hB2 b3 b4 g3
    have z0 := B4.cell 0 rfl
    have zf0 := B4.frozen 0
    have z1 := B4.cell 1 rfl
    have zf1 := B4.frozen 1
    have z2 := B4.cell 2 rfl
    have zf2 := B4.frozen 2
    have z3 := B4.cell 3 rfl
    have zf3 := B4.frozen 3
    have z4 := B4.cell 4 rfl
    have zf4 := B4.frozen 4
    go_wp2
    refine bodyPost_ret (results_tc rfl _ _ (g + 1) 25 #[.int .i64 3, .bool NB, .string (str (bareR [55])), .int .i64 0, .string (str (bareR [48, 50]))] _ rfl (Bk.all5 B4 _ _ _ _ _) Tryd.underlying25 rfl (by kernel_rfl)) rfl ?_
    refine ⟨?_, ?_⟩
    · rw [HN.out, HRS.out]
      rfl
    · rw [HG.out]
      exact Tn.below (HBL.out.trans (g4.mono (by omega))) (Tn.all5 ..) (by omega) (by rw [HG.out]; exact Nat.le_refl _)
  · subst h0
    have hB1 : ∀ w, Calls Tryd.prog 27 #[.string (ByteArray.mk #[55])] w fun r w' => r = .returned (.string (str (bareR [55]))) ∧ Below w.heap.size w w' := fun w => lawBare9_any (str [55]) (by decide) w
    have hE2 : (str t).toList.isEmpty = false := by rw [str_empty]; exact isEmpty_ne t0
    have hB2 : ∀ w, Calls Tryd.prog 27 #[.string (str t)] w fun r w' => r = .returned (.string (str (bareR t))) ∧ Below w.heap.size w w' := fun w => by
      have := lawBare9_any (str t) (by rw [str_size]; omega) w
      rw [str_list] at this; exact this
    have HR : Hid (mdS 2 s [] t pt ne big (exL e' plus) = s ++ ([55] ++ (47 :: t))) := by
      show _ = _
      rw [mdS_2]
      unfold mdHead mdTail
      simp only [if_neg t0]; rfl
    have HN : Hid (mdN 2 s [] t ne e' = ⟨3, NB, bareR [55], 0, bareR t⟩) := by
      show _ = _
      rw [mdN_2, HNB.out]
      unfold mdHead mdTail
      simp only [if_neg t0]; rfl
    have hcat : SS ++ str [55] ++ ByteArray.mk #[47] ++ str t = str (mdS 2 s [] t pt ne big (exL e' plus)) := by
      rw [HR.out, ← HSS.out]
      show str s ++ str [55] ++ str [47] ++ str t = _
      rw [cat_str9, cat_str9, cat_str9]
      simp
    have hz1 : (str [55]).size ≤ 40 := by rw [str_size]; exact (by decide)
    have hz2 : (str t).size ≤ 40 := by rw [str_size]; omega
    generalize hRS : str (mdS 2 s [] t pt ne big (exL e' plus)) = RS at *
    have HRS : Hid (str (mdS 2 s [] t pt ne big (exL e' plus)) = RS) := hRS
    clear hRS
    have e55 : str [55] = ByteArray.mk #[55] := rfl
    rw [e55] at hcat hz1
    clear e55
    generalize str t = TL at *
    have e0 : str [] = ByteArray.mk #[] := rfl
    rw [e0]
    clear e0
    clear HSS hhl htl
    go_wp2_with fail
    refine (hB1 _).mono ?_
    rintro r w3 ⟨rfl, b3⟩
    have g3 := hBc.trans (b3.mono hBc.size)
    go_wp2_with fail
    refine (hB2 _).mono ?_
    rintro r w4 ⟨rfl, b4⟩
    have g4 := g3.trans (b4.mono g3.size)
    have B4 := HS1.out.later g4
    clear hB1 hB2 b3 b4 g3
    have z0 := B4.cell 0 rfl
    have zf0 := B4.frozen 0
    have z1 := B4.cell 1 rfl
    have zf1 := B4.frozen 1
    have z2 := B4.cell 2 rfl
    have zf2 := B4.frozen 2
    have z3 := B4.cell 3 rfl
    have zf3 := B4.frozen 3
    have z4 := B4.cell 4 rfl
    have zf4 := B4.frozen 4
    go_wp2
    refine bodyPost_ret (results_tc rfl _ _ (g + 1) 25 #[.int .i64 3, .bool NB, .string (str (bareR [55])), .int .i64 0, .string (str (bareR t))] _ rfl (Bk.all5 B4 _ _ _ _ _) Tryd.underlying25 rfl (by kernel_rfl)) rfl ?_
    refine ⟨?_, ?_⟩
    · rw [HN.out, HRS.out]
      rfl
    · rw [HG.out]
      exact Tn.below (HBL.out.trans (g4.mono (by omega))) (Tn.all5 ..) (by omega) (by rw [HG.out]; exact Nat.le_refl _)
  · subst t0
    have hE1 : (str h).toList.isEmpty = false := by rw [str_empty]; exact isEmpty_ne h0
    have hB1 : ∀ w, Calls Tryd.prog 27 #[.string (str h)] w fun r w' => r = .returned (.string (str (bareR h))) ∧ Below w.heap.size w w' := fun w => by
      have := lawBare9_any (str h) (by rw [str_size]; omega) w
      rw [str_list] at this; exact this
    have hB2 : ∀ w, Calls Tryd.prog 27 #[.string (ByteArray.mk #[48, 50])] w fun r w' => r = .returned (.string (str (bareR [48, 50]))) ∧ Below w.heap.size w w' := fun w => lawBare9_any (str [48, 50]) (by decide) w
    have HR : Hid (mdS 2 s h [] pt ne big (exL e' plus) = s ++ (h ++ (47 :: [48, 50]))) := by
      show _ = _
      rw [mdS_2]
      unfold mdHead mdTail
      simp only [if_neg h0]; rfl
    have HN : Hid (mdN 2 s h [] ne e' = ⟨3, NB, bareR h, 0, bareR [48, 50]⟩) := by
      show _ = _
      rw [mdN_2, HNB.out]
      unfold mdHead mdTail
      simp only [if_neg h0]; rfl
    have hcat : SS ++ str h ++ ByteArray.mk #[47] ++ str [48, 50] = str (mdS 2 s h [] pt ne big (exL e' plus)) := by
      rw [HR.out, ← HSS.out]
      show str s ++ str h ++ str [47] ++ str [48, 50] = _
      rw [cat_str9, cat_str9, cat_str9]
      simp
    have hz1 : (str h).size ≤ 40 := by rw [str_size]; omega
    have hz2 : (str [48, 50]).size ≤ 40 := by rw [str_size]; exact (by decide)
    generalize hRS : str (mdS 2 s h [] pt ne big (exL e' plus)) = RS at *
    have HRS : Hid (str (mdS 2 s h [] pt ne big (exL e' plus)) = RS) := hRS
    clear hRS
    generalize str h = HD at *
    have e48 : str [48, 50] = ByteArray.mk #[48, 50] := rfl
    rw [e48] at hcat hz2
    clear e48
    have e0 : str [] = ByteArray.mk #[] := rfl
    rw [e0]
    clear e0
    clear HSS hhl htl
    go_wp2_with fail
    refine (hB1 _).mono ?_
    rintro r w3 ⟨rfl, b3⟩
    have g3 := hBc.trans (b3.mono hBc.size)
    go_wp2_with fail
    refine (hB2 _).mono ?_
    rintro r w4 ⟨rfl, b4⟩
    have g4 := g3.trans (b4.mono g3.size)
    have B4 := HS1.out.later g4
    clear hB1 hB2 b3 b4 g3
    have z0 := B4.cell 0 rfl
    have zf0 := B4.frozen 0
    have z1 := B4.cell 1 rfl
    have zf1 := B4.frozen 1
    have z2 := B4.cell 2 rfl
    have zf2 := B4.frozen 2
    have z3 := B4.cell 3 rfl
    have zf3 := B4.frozen 3
    have z4 := B4.cell 4 rfl
    have zf4 := B4.frozen 4
    go_wp2
    refine bodyPost_ret (results_tc rfl _ _ (g + 1) 25 #[.int .i64 3, .bool NB, .string (str (bareR h)), .int .i64 0, .string (str (bareR [48, 50]))] _ rfl (Bk.all5 B4 _ _ _ _ _) Tryd.underlying25 rfl (by kernel_rfl)) rfl ?_
    refine ⟨?_, ?_⟩
    · rw [HN.out, HRS.out]
      rfl
    · rw [HG.out]
      exact Tn.below (HBL.out.trans (g4.mono (by omega))) (Tn.all5 ..) (by omega) (by rw [HG.out]; exact Nat.le_refl _)
  · have hE1 : (str h).toList.isEmpty = false := by rw [str_empty]; exact isEmpty_ne h0
    have hB1 : ∀ w, Calls Tryd.prog 27 #[.string (str h)] w fun r w' => r = .returned (.string (str (bareR h))) ∧ Below w.heap.size w w' := fun w => by
      have := lawBare9_any (str h) (by rw [str_size]; omega) w
      rw [str_list] at this; exact this
    have hE2 : (str t).toList.isEmpty = false := by rw [str_empty]; exact isEmpty_ne t0
    have hB2 : ∀ w, Calls Tryd.prog 27 #[.string (str t)] w fun r w' => r = .returned (.string (str (bareR t))) ∧ Below w.heap.size w w' := fun w => by
      have := lawBare9_any (str t) (by rw [str_size]; omega) w
      rw [str_list] at this; exact this
    have HR : Hid (mdS 2 s h t pt ne big (exL e' plus) = s ++ (h ++ (47 :: t))) := by
      show _ = _
      rw [mdS_2]
      unfold mdHead mdTail
      simp only [if_neg h0, if_neg t0]; rfl
    have HN : Hid (mdN 2 s h t ne e' = ⟨3, NB, bareR h, 0, bareR t⟩) := by
      show _ = _
      rw [mdN_2, HNB.out]
      unfold mdHead mdTail
      simp only [if_neg h0, if_neg t0]; rfl
    have hcat : SS ++ str h ++ ByteArray.mk #[47] ++ str t = str (mdS 2 s h t pt ne big (exL e' plus)) := by
      rw [HR.out, ← HSS.out]
      show str s ++ str h ++ str [47] ++ str t = _
      rw [cat_str9, cat_str9, cat_str9]
      simp
    have hz1 : (str h).size ≤ 40 := by rw [str_size]; omega
    have hz2 : (str t).size ≤ 40 := by rw [str_size]; omega
    generalize hRS : str (mdS 2 s h t pt ne big (exL e' plus)) = RS at *
    have HRS : Hid (str (mdS 2 s h t pt ne big (exL e' plus)) = RS) := hRS
    clear hRS
    generalize str h = HD at *
    generalize str t = TL at *
    clear HSS hhl htl
    go_wp2_with fail
    refine (hB1 _).mono ?_
    rintro r w3 ⟨rfl, b3⟩
    have g3 := hBc.trans (b3.mono hBc.size)
    go_wp2_with fail
    refine (hB2 _).mono ?_
    rintro r w4 ⟨rfl, b4⟩
    have g4 := g3.trans (b4.mono g3.size)
    have B4 := HS1.out.later g4
    clear hB1 hB2 b3 b4 g3
    have z0 := B4.cell 0 rfl
    have zf0 := B4.frozen 0
    have z1 := B4.cell 1 rfl
    have zf1 := B4.frozen 1
    have z2 := B4.cell 2 rfl
    have zf2 := B4.frozen 2
    have z3 := B4.cell 3 rfl
    have zf3 := B4.frozen 3
    have z4 := B4.cell 4 rfl
    have zf4 := B4.frozen 4
    go_wp2
    refine bodyPost_ret (results_tc rfl _ _ (g + 1) 25 #[.int .i64 3, .bool NB, .string (str (bareR h)), .int .i64 0, .string (str (bareR t))] _ rfl (Bk.all5 B4 _ _ _ _ _) Tryd.underlying25 rfl (by kernel_rfl)) rfl ?_
    refine ⟨?_, ?_⟩
    · rw [HN.out, HRS.out]
      rfl
    · rw [HG.out]
      exact Tn.below (HBL.out.trans (g4.mono (by omega))) (Tn.all5 ..) (by omega) (by rw [HG.out]; exact Nat.le_refl _)
end Go.Proofs.YthibemoincgemaaDoor
