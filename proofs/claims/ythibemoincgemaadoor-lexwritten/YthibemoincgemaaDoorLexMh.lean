/- plumblaw09: a piece is made: kind 1. -/
import Derived.Test.YthibemoincgemaaDoorLexMe
namespace Go.Proofs.YthibemoincgemaaDoor
open Go.ChangeShapes Go.WideShapes Go.ChangeAt Go.RowKit
open Lx
set_option linter.unusedVariables false
set_option maxHeartbeats 3200000 in
set_option maxRecDepth 100000 in
theorem made9_k1 {w : World} {kd sg e : Int} {a1 a2 : Option Addr} {n1 c1 n2 c2 : Nat} {z1 z2 : List Int} (hr1 : RowAt .i64 w a1 n1 z1) (hr2 : RowAt .i64 w a2 n2 z2) (hn1 : n1 ≤ 9223372036854775807) (hn2 : n2 ≤ 9223372036854775807) (pt ne plus big : Bool)
    (hk : kd % 3 = 1) {s h t : B} (hs : sgL (sg % 3 - 1) plus = s) (hh : dgL 16 big z1 = h) (ht : dgL 16 big z2 = t) {e' : Int} (he : e.tmod 100000 = e') :
    Calls Tryd.prog 14 #[.agg (pieA kd sg (.slice a1 n1 c1) (.slice a2 n2 c2) pt ne e plus big)] w fun r w' =>
      r = .returned (.tuple #[.string (str (mdS 1 s h t pt ne big (exL e' plus))), .agg (nmA (mdN 1 s h t ne e'))]) ∧ Below w.heap.size w w' := by
  have hI1 := fun w => into9_any (n := kd) (top := 3) (by omega) (by omega) w
  have hI2 := fun w => into9_any (n := sg) (top := 3) (by omega) (by omega) w
  have hS := fun w => lawSign9_any (sg % 3 - 1) plus w
  rw [hs] at hS
  rw [hk] at hI1
  have hm0 := Int.emod_nonneg sg (show (3 : Int) ≠ 0 by omega)
  have hm1 := Int.emod_lt_of_pos sg (show (0 : Int) < 3 by omega)
  have hsl : (str s).size ≤ 1 := by rw [str_size, ← hs]; rcases sgL_cases (sg % 3 - 1) plus with q | q | q <;> rw [q] <;> simp
  have hhl : h.length ≤ 40 := by rw [← hh]; exact dgL_len
  have htl : t.length ≤ 40 := by rw [← ht]; exact dgL_len
  have HNEG : Hid (((str s).toList == [45]) = decide (s = [45])) := by
    rcases sgL_cases (sg % 3 - 1) plus with q | q | q <;> (rw [hs] at q; rw [q, Lib.toList_data, str_list]; rfl)
  generalize sg % 3 = q at *
  have hqw : IntKind.i64.wrap (q - 1) = q - 1 := by unfold IntKind.wrap; simp [IntKind.signed, IntKind.bits]; omega
  unfold pieA
  obtain ⟨w0, hw0⟩ : ∃ w0, w0 = (w.alloc (.cells #[.int .i64 kd, .int .i64 sg, .slice a1 n1 c1, .slice a2 n2 c2, .bool pt, .bool ne, .int .i64 e, .bool plus, .bool big] 44)).alloc (.cells zero5 25) := ⟨_, rfl⟩
  have hbl0 : Below w.heap.size w w0 := by rw [hw0]; exact ((Below.refl _ w).alloc (Nat.le_refl _) _).alloc (by simp) _
  have hst0 : Bk w0 w.heap.size 44 #[.int .i64 kd, .int .i64 sg, .slice a1 n1 c1, .slice a2 n2 c2, .bool pt, .bool ne, .int .i64 e, .bool plus, .bool big] := by
    rw [hw0]; exact (Bk.new w _ _).later ((Below.refl _ _).alloc (Nat.le_refl _) _)
  have hst1 : Bk w0 (w.heap.size + 1) 25 zero5 := by
    have := Bk.new (w.alloc (.cells #[.int .i64 kd, .int .i64 sg, .slice a1 n1 c1, .slice a2 n2 c2, .bool pt, .bool ne, .int .i64 e, .bool plus, .bool big] 44)) 25 zero5
    rw [World.size_alloc] at this
    rw [hw0]
    exact this
  have hD1 : ∀ w1, Below w0.heap.size w0 w1 → Calls Tryd.prog 10 #[.slice a1 n1 c1, .int .i64 16, .bool big] w1 fun r w' => r = .returned (.string (str h)) ∧ Below w1.heap.size w1 w' := fun w1 hb => by
    rw [← hh]; exact digits9_any ((hr1.later hbl0).later hb) hn1 (by omega) (by omega) big
  have hD2 : ∀ w1, Below w0.heap.size w0 w1 → Calls Tryd.prog 10 #[.slice a2 n2 c2, .int .i64 16, .bool big] w1 fun r w' => r = .returned (.string (str t)) ∧ Below w1.heap.size w1 w' := fun w1 hb => by
    rw [← ht]; exact digits9_any ((hr2.later hbl0).later hb) hn2 (by omega) (by omega) big
  unfold zero5 at hw0
  obtain ⟨g, hg⟩ : ∃ g, g = w.heap.size := ⟨_, rfl⟩
  have HG : Hid (w.heap.size = g) := hg.symm
  rw [← hg] at hst0 hst1 hbl0
  have hgl := hst0.lt
  have HS0 : Hid (Bk w0 g 44 #[.int .i64 kd, .int .i64 sg, .slice a1 n1 c1, .slice a2 n2 c2, .bool pt, .bool ne, .int .i64 e, .bool plus, .bool big]) := hst0
  have HS1 : Hid (Bk w0 (g + 1) 25 zero5) := hst1
  have hcl : ∀ w1, Below w0.heap.size w0 w1 → w1.cell? ⟨g, 2, none⟩ = some (.slice a1 n1 c1) ∧ w1.cell? ⟨g, 3, none⟩ = some (.slice a2 n2 c2) ∧ w1.cell? ⟨g, 8, none⟩ = some (.bool big) :=
    fun w1 h => ⟨(HS0.out.later h).cell 2 rfl, (HS0.out.later h).cell 3 rfl, (HS0.out.later h).cell 8 rfl⟩
  have x0 : w0.cell? ⟨g, 0, none⟩ = some (.int .i64 kd) := hst0.cell 0 rfl
  have x1 : w0.cell? ⟨g, 1, none⟩ = some (.int .i64 sg) := hst0.cell 1 rfl
  have x7 : w0.cell? ⟨g, 7, none⟩ = some (.bool plus) := hst0.cell 7 rfl
  have HE : Hid (e.tmod 100000 = e') := he
  have HBL : Hid (Below g w w0) := hbl0
  clear hst0 hst1 hs hk he hh ht hr1 hr2 hn1 hn2 hbl0
  generalize hSS : str s = SS at *
  go_enter Tryd.func14, Tryd.ntmps14
  go_wp2_with fail
  rw [← hw0, ← hg]
  clear hw0 hg
  refine (hI1 _).mono ?_
  rintro r w1 ⟨rfl, hw1⟩
  rw [hw1]
  clear hI1 hw1
  go_wp2_with fail
  go_quiet ((first | (go_at_call 7; exact Calls.quiet_of_same (hI2 _)) | (go_at_call 26; exact Calls.quiet_of_same (hS _))))
  go_upto_region 7 with fail
  obtain ⟨w2, hw2⟩ : ∃ w2, w2 = w0.drewN nq := ⟨_, rfl⟩
  have hB2 : Below w0.heap.size w0 w2 := by rw [hw2]; exact below_drewN (Below.refl _ w0) nq
  rw [← hw2]
  clear hw2
  obtain ⟨x2, x3, x8⟩ := hcl w2 hB2
  go_cut [8, 9] (fun v8 v9 wx => v8 = .string (str h) ∧ v9 = .string (str t) ∧ Below w0.heap.size w0 wx)
  case first =>
    go_region_held3 (fun w1 => w1.cell? ⟨g, 2, none⟩ = some (.slice a1 n1 c1) ∧ w1.cell? ⟨g, 3, none⟩ = some (.slice a2 n2 c2) ∧ w1.cell? ⟨g, 8, none⟩ = some (.bool big)) (go_keep) (first | (go_at_call_of 10 a1; refine (hD1 _ (by first | exact hB2 | exact hB2.trans (below_drewN (Below.refl _ _) _))).mono ?_; rintro r wX ⟨rfl, hbX⟩; have hBX : Below w0.heap.size w0 wX := (by first | exact hB2.trans (hbX.mono hB2.size) | exact (hB2.trans (below_drewN (Below.refl _ _) _)).trans (hbX.mono hB2.size)); obtain ⟨y2, y3, y8⟩ := hcl wX hBX) | (go_at_call_of 10 a2; refine (hD2 _ (by first | exact hBX | exact hBX.trans (below_drewN (Below.refl _ _) _))).mono ?_; rintro r wY ⟨rfl, hbY⟩; have hBY : Below w0.heap.size w0 wY := (by first | exact hBX.trans (hbY.mono hBX.size) | exact (hBX.trans (below_drewN (Below.refl _ _) _)).trans (hbY.mono hBX.size)); obtain ⟨y2, y3, y8⟩ := hcl wY hBY))
    all_goals (go_wp2_with fail)
    all_goals go_meet
    all_goals exact ⟨rfl, rfl, hBY⟩
  obtain ⟨rfl, rfl, hBc⟩ := hcut
  clear x0 x1 x7 x2 x3 x8 hcl hD1 hD2 hI2 hS hB2
  rw [HNEG.out]
  clear HNEG
  generalize hNB : decide (s = [45]) = NB at *
  have HNB : Hid (decide (s = [45]) = NB) := hNB
  have HSS : Hid (str s = SS) := hSS
  clear hNB hSS
  have e0 : ∀ l : B, l = [] → str l = ByteArray.mk #[] := fun l q => by rw [q]; rfl
  go_upto_region 14 with fail
  go_cut [64] (fun v wx => v = .bool (decide (h = [] ∧ t = [])) ∧ wx = wc)
  case first =>
    by_cases h0 : h = [] <;> by_cases t0 : t = []
    all_goals
      first | (have hE1 : (str h).toList.isEmpty = true := by (rw [str_empty, h0]; rfl)) | (have hE1 : (str h).toList.isEmpty = false := by (rw [str_empty]; exact isEmpty_ne h0))
      first | (have hE2 : (str t).toList.isEmpty = true := by (rw [str_empty, t0]; rfl)) | (have hE2 : (str t).toList.isEmpty = false := by (rw [str_empty]; exact isEmpty_ne t0))
      have HD : Hid (decide (h = [] ∧ t = []) = ((str h).toList.isEmpty && (str t).toList.isEmpty)) := by (show _ = _; rw [hE1, hE2]; simp [h0, t0])
      rw [hE1, hE2] at HD
      clear h0 t0
      go_wp2
      go_meet
      exact ⟨by rw [HD.out]; rfl, rfl⟩
  obtain ⟨rfl, rfl⟩ := hcut
  have HMH0 : Hid (mdHead 1 h t = if h = [] ∧ t = [] then [48] else h) := rfl
  go_upto_if 64 with fail
  go_cut [8] (fun v wx => v = .string (str (mdHead 1 h t)) ∧ wx = wc)
  case first =>
    by_cases hc : h = [] ∧ t = []
    · have d : decide (h = [] ∧ t = []) = true := decide_eq_true hc
      have HM : Hid (str (mdHead 1 h t) = ByteArray.mk #[48]) := by (show _ = _; rw [HMH0.out, if_pos hc]; rfl)
      generalize decide (h = [] ∧ t = []) = D at *
      subst d
      clear hc
      go_wp2
      go_meet
      exact ⟨by rw [HM.out], rfl⟩
    · have d : decide (h = [] ∧ t = []) = false := decide_eq_false hc
      have HM : Hid (mdHead 1 h t = h) := by (show _ = _; rw [HMH0.out, if_neg hc])
      generalize decide (h = [] ∧ t = []) = D at *
      subst d
      clear hc
      go_wp2
      go_meet
      exact ⟨by rw [HM.out], rfl⟩
  obtain ⟨rfl, rfl⟩ := hcut
  have hml : (mdHead 1 h t).length ≤ 40 := by (rw [HMH0.out]; split; simp; exact hhl)
  clear HMH0
  have y4 : wc.cell? ⟨g, 4, none⟩ = some (.bool pt) := (HS0.out.later hBc).cell 4 rfl
  go_upto_region 17 with fail
  go_cut [71] (fun v wx => v = .bool (mdPt t pt) ∧ wx = wc)
  case first =>
    by_cases t0 : t = []
    · have hE2 : (str t).toList.isEmpty = true := by (rw [str_empty, t0]; rfl)
      have HP : Hid (mdPt t pt = pt) := by (rw [t0]; rfl)
      clear t0
      go_wp2
      go_meet
      exact ⟨by rw [HP.out], rfl⟩
    · have hE2 : (str t).toList.isEmpty = false := by (rw [str_empty]; exact isEmpty_ne t0)
      have HP : Hid (mdPt t pt = true) := by (show _ = _; unfold mdPt; rw [isEmpty_ne t0]; rfl)
      clear t0
      go_wp2
      go_meet
      exact ⟨by rw [HP.out], rfl⟩
  obtain ⟨rfl, rfl⟩ := hcut
  clear y4
  go_upto_if 71 with fail
  go_cut [10] (fun v wx => v = .string (str (mdHead 1 h t ++ (if mdPt t pt = true then 46 :: t else []))) ∧ wx = wc)
  case first =>
    have HB : Hid (str (mdHead 1 h t) ++ ByteArray.mk #[46] ++ str t = str (mdHead 1 h t ++ (46 :: t))) := by
      show str (mdHead 1 h t) ++ str [46] ++ str t = _
      rw [cat_str9, cat_str9]
      simp
    have hz1 : (str (mdHead 1 h t)).size ≤ 40 := by (rw [str_size]; exact hml)
    have hz2 : (str t).size ≤ 40 := by (rw [str_size]; exact htl)
    by_cases hp : mdPt t pt = true
    · have HP : Hid (str (mdHead 1 h t ++ (if mdPt t pt = true then 46 :: t else [])) = str (mdHead 1 h t) ++ ByteArray.mk #[46] ++ str t) := by (show _ = _; rw [if_pos hp, HB.out])
      generalize mdPt t pt = D at *
      subst hp
      go_wp2
      go_meet
      exact ⟨by rw [HP.out], rfl⟩
    · have HP : Hid (mdHead 1 h t ++ (if mdPt t pt = true then 46 :: t else []) = mdHead 1 h t) := by (show _ = _; rw [if_neg hp, List.append_nil])
      have hp' : mdPt t pt = false := by simpa using hp
      generalize mdPt t pt = D at *
      subst hp'
      clear hp
      go_wp2
      go_meet
      exact ⟨by rw [HP.out], rfl⟩
  obtain ⟨rfl, rfl⟩ := hcut
  have hz6 : (str (mdHead 1 h t ++ (if mdPt t pt = true then 46 :: t else []))).size ≤ 90 := by
    rw [str_size, List.length_append]
    split
    · rw [List.length_cons]; omega
    · rw [List.length_nil]; omega
  have HRS : Hid (str (mdS 1 s h t pt ne big (exL e' plus)) = SS ++ ByteArray.mk #[48, if big = true then 88 else 120] ++ str (mdHead 1 h t ++ (if mdPt t pt = true then 46 :: t else [])) ++ str (mdExp ne big 1 (exL e' plus))) := by
    show _ = _
    rw [← HSS.out, mdS_1]
    show _ = str s ++ str [48, if big = true then 88 else 120] ++ _ ++ _
    rw [cat_str9, cat_str9, cat_str9]
    simp [List.append_assoc]
  generalize str (mdHead 1 h t ++ (if mdPt t pt = true then 46 :: t else [])) = BD at *
  have hEe := HE.out
  have he0 : -100000 < e' := by (rw [← hEe]; exact Int.lt_tmod_of_pos e (by omega))
  have he1 : e' < 100000 := by (rw [← hEe]; exact Int.tmod_lt_of_pos e (by omega))
  have y6 : wc.cell? ⟨g, 6, none⟩ = some (.int .i64 e) := (HS0.out.later hBc).cell 6 rfl
  go_upto_if 81 with fail
  go_cut [12] (fun v wx => v = .int .i64 (e'.natAbs : Int) ∧ wx = wc)
  case first =>
    by_cases hn : e' < 0
    · have d : decide (e' < 0) = true := decide_eq_true hn
      have HA : Hid ((e'.natAbs : Int) = -e') := by (show _ = _; omega)
      go_wp2
      go_meet
      exact ⟨by rw [HA.out], rfl⟩
    · have d : decide (e' < 0) = false := decide_eq_false hn
      have HA : Hid ((e'.natAbs : Int) = e') := by (show _ = _; omega)
      go_wp2
      go_meet
      exact ⟨by rw [HA.out], rfl⟩
  obtain ⟨rfl, rfl⟩ := hcut
  clear y6 hEe
  have y7 : wc.cell? ⟨g, 7, none⟩ = some (.bool plus) := (HS0.out.later hBc).cell 7 rfl
  have hSx := fun w => lawSign9_any e' plus w
  have hNx := fun w => number9_any 5 (by omega) e'.natAbs (by omega) (by omega) w
  have hc1 : str (sgL e' plus) ++ str (decF 5 e'.natAbs) = str (exL e' plus) := cat_str9 _ _
  have hc2 : str (mdHead 1 h t) ++ str t = str (mdHead 1 h t ++ t) := cat_str9 _ _
  have hBr : ∀ w, Calls Tryd.prog 27 #[.string (str (mdHead 1 h t ++ t))] w fun r w' => r = .returned (.string (str (bareR (mdHead 1 h t ++ t)))) ∧ Below w.heap.size w w' := fun w => by
    have := lawBare9_any (str (mdHead 1 h t ++ t)) (by rw [str_size, List.length_append]; omega) w
    rw [str_list] at this; exact this
  have hz1 : (str (sgL e' plus)).size ≤ 1 := by (rw [str_size]; rcases sgL_cases e' plus with q | q | q <;> rw [q] <;> simp)
  have hz2 : (str (decF 5 e'.natAbs)).size ≤ 6 := by (rw [str_size]; exact (decF_D 5 _ (by omega)).2.2)
  have hz3 : (str (exL e' plus)).size ≤ 7 := by (rw [str_size]; exact (exL_ok (by omega) plus).2.2)
  have hz4 : (str (mdHead 1 h t)).size ≤ 40 := by (rw [str_size]; exact hml)
  have hz5 : (str t).size = t.length := str_size t
  have HN : Hid (mdN 1 s h t ne e' = ⟨2, NB, bareR (mdHead 1 h t ++ t), e' - 4 * t.length, []⟩) := by
    show _ = _
    rw [mdN_1, HNB.out]
  have hlt : t.length ≤ 40 := htl
  generalize hLT : t.length = LT at *
  have HLT : Hid (t.length = LT) := hLT
  clear hLT
  generalize str (sgL e' plus) = X1 at *
  generalize str (decF 5 e'.natAbs) = X2 at *
  generalize hXX : str (exL e' plus) = XX at *
  have HXX : Hid (str (exL e' plus) = XX) := hXX
  clear hXX
  generalize str (mdHead 1 h t ++ t) = MT at *
  generalize str (mdHead 1 h t) = MH at *
  generalize str t = TL at *
  generalize hBB : bareR (mdHead 1 h t ++ t) = BB at *
  clear hBB hhl htl hml HSS
  go_wp2_with fail
  refine (hSx _).mono ?_
  rintro r w3 ⟨rfl, hw3⟩
  rw [hw3]
  clear hw3 hSx y7
  go_wp2_with fail
  refine (hNx _).mono ?_
  rintro r w4 ⟨rfl, b4⟩
  have g4 := hBc.trans (b4.mono hBc.size)
  clear hNx b4
  go_wp2_with fail
  refine (hBr _).mono ?_
  rintro r w5 ⟨rfl, b5⟩
  have g5 := g4.trans (b5.mono g4.size)
  clear hBr b5 g4
  have hw1 : IntKind.i64.wrap (e' - (LT : Int)) = e' - (LT : Int) := by unfold IntKind.wrap; simp [IntKind.signed, IntKind.bits]; omega
  have hs5 := g5.size
  have y5 : w5.cell? ⟨g, 5, none⟩ = some (.bool ne) := (HS0.out.later g5).cell 5 rfl
  have y8 : w5.cell? ⟨g, 8, none⟩ = some (.bool big) := (HS0.out.later g5).cell 8 rfl
  have hl1 := HS1.out.lt
  have B5 : Hid (Bk w5 (g + 1) 25 zero5) := HS1.out.later g5
  have n0 : ¬ g = w5.heap.size := by omega
  have n0' : ¬ w5.heap.size = g := by omega
  have n1 : ¬ g + 1 = w5.heap.size := by omega
  have n1' : ¬ w5.heap.size = g + 1 := by omega
  have m0 : g < w5.heap.size := by omega
  have m1 : g + 1 < w5.heap.size := by omega
  have z0 := B5.out.cell 0 rfl
  have zf0 := B5.out.frozen 0
  have z1 := B5.out.cell 1 rfl
  have zf1 := B5.out.frozen 1
  have z2 := B5.out.cell 2 rfl
  have zf2 := B5.out.frozen 2
  have z3 := B5.out.cell 3 rfl
  have zf3 := B5.out.frozen 3
  have z4 := B5.out.cell 4 rfl
  have zf4 := B5.out.frozen 4
  have hw2 : IntKind.i64.wrap (4 * (LT : Int)) = 4 * (LT : Int) := by unfold IntKind.wrap; simp [IntKind.signed, IntKind.bits]; omega
  have hw3 : IntKind.i64.wrap (e' - 4 * (LT : Int)) = e' - 4 * (LT : Int) := by unfold IntKind.wrap; simp [IntKind.signed, IntKind.bits]; omega
  cases big
  · skip
    go_wp2
    have K6 : Hid (Bk (w5.alloc (.cells #[.int .i64 2, .bool NB, .string (str BB), .int .i64 (e' - 4 * (LT : Int)), .string (ByteArray.mk #[])] 25)) w5.heap.size 25 #[.int .i64 2, .bool NB, .string (str BB), .int .i64 (e' - 4 * (LT : Int)), .string (ByteArray.mk #[])]) := Bk.new w5 25 #[.int .i64 2, .bool NB, .string (str BB), .int .i64 (e' - 4 * (LT : Int)), .string (ByteArray.mk #[])]
    have g6 : Below w0.heap.size w0 (w5.alloc (.cells #[.int .i64 2, .bool NB, .string (str BB), .int .i64 (e' - 4 * (LT : Int)), .string (ByteArray.mk #[])] 25)) := g5.alloc g5.size _
    have Z6 : Hid (Bk (w5.alloc (.cells #[.int .i64 2, .bool NB, .string (str BB), .int .i64 (e' - 4 * (LT : Int)), .string (ByteArray.mk #[])] 25)) (g + 1) 25 zero5) := HS1.out.later g6
    generalize w5.alloc (.cells #[.int .i64 2, .bool NB, .string (str BB), .int .i64 (e' - 4 * (LT : Int)), .string (ByteArray.mk #[])] 25) = w6 at *
    clear y5 y8 z0 z1 z2 z3 z4 zf0 zf1 zf2 zf3 zf4
    have z0 := Z6.out.cell 0 rfl
    have zf0 := Z6.out.frozen 0
    have v0 := K6.out.cell 0 rfl
    have z1 := Z6.out.cell 1 rfl
    have zf1 := Z6.out.frozen 1
    have v1 := K6.out.cell 1 rfl
    have z2 := Z6.out.cell 2 rfl
    have zf2 := Z6.out.frozen 2
    have v2 := K6.out.cell 2 rfl
    have z3 := Z6.out.cell 3 rfl
    have zf3 := Z6.out.frozen 3
    have v3 := K6.out.cell 3 rfl
    have z4 := Z6.out.cell 4 rfl
    have zf4 := Z6.out.frozen 4
    have v4 := K6.out.cell 4 rfl
    clear HS0 B5
    have HX : Hid (SS ++ ByteArray.mk #[48, 120] ++ BD ++ ByteArray.mk #[112] ++ XX = str (mdS 1 s h t pt ne false (exL e' plus))) := by (show _ = _; rw [HRS.out]; rw [← HXX.out, ByteArray.append_assoc]; show _ ++ (str [112] ++ str _) = _; rw [cat_str9]; rfl)
    go_region
    go_wp2
    have hdr : ∀ (N : Nat) (x : World), Below N x x.drew := fun N x => ⟨rfl, rfl, rfl, Nat.le_refl _, fun _ _ => rfl⟩
    refine bodyPost_ret (results_tc rfl _ _ (g + 1) 25 #[.int .i64 2, .bool NB, .string (str BB), .int .i64 (e' - 4 * (LT : Int)), .string (ByteArray.mk #[])] _ rfl ((Bk.all5 Z6.out _ _ _ _ _).later (hdr _ _)) Tryd.underlying25 rfl (by kernel_rfl)) rfl ?_
    refine ⟨?_, ?_⟩
    · rw [HN.out, ← HX.out]
      rfl
    · rw [HG.out]
      exact (Tn.below (HBL.out.trans (g6.mono (by omega))) (Tn.all5 ..) (by omega) (by rw [HG.out]; exact Nat.le_refl _)).trans (hdr _ _)
  · skip
    go_wp2
    have K6 : Hid (Bk (w5.alloc (.cells #[.int .i64 2, .bool NB, .string (str BB), .int .i64 (e' - 4 * (LT : Int)), .string (ByteArray.mk #[])] 25)) w5.heap.size 25 #[.int .i64 2, .bool NB, .string (str BB), .int .i64 (e' - 4 * (LT : Int)), .string (ByteArray.mk #[])]) := Bk.new w5 25 #[.int .i64 2, .bool NB, .string (str BB), .int .i64 (e' - 4 * (LT : Int)), .string (ByteArray.mk #[])]
    have g6 : Below w0.heap.size w0 (w5.alloc (.cells #[.int .i64 2, .bool NB, .string (str BB), .int .i64 (e' - 4 * (LT : Int)), .string (ByteArray.mk #[])] 25)) := g5.alloc g5.size _
    have Z6 : Hid (Bk (w5.alloc (.cells #[.int .i64 2, .bool NB, .string (str BB), .int .i64 (e' - 4 * (LT : Int)), .string (ByteArray.mk #[])] 25)) (g + 1) 25 zero5) := HS1.out.later g6
    generalize w5.alloc (.cells #[.int .i64 2, .bool NB, .string (str BB), .int .i64 (e' - 4 * (LT : Int)), .string (ByteArray.mk #[])] 25) = w6 at *
    clear y5 y8 z0 z1 z2 z3 z4 zf0 zf1 zf2 zf3 zf4
    have z0 := Z6.out.cell 0 rfl
    have zf0 := Z6.out.frozen 0
    have v0 := K6.out.cell 0 rfl
    have z1 := Z6.out.cell 1 rfl
    have zf1 := Z6.out.frozen 1
    have v1 := K6.out.cell 1 rfl
    have z2 := Z6.out.cell 2 rfl
    have zf2 := Z6.out.frozen 2
    have v2 := K6.out.cell 2 rfl
    have z3 := Z6.out.cell 3 rfl
    have zf3 := Z6.out.frozen 3
    have v3 := K6.out.cell 3 rfl
    have z4 := Z6.out.cell 4 rfl
    have zf4 := Z6.out.frozen 4
    have v4 := K6.out.cell 4 rfl
    clear HS0 B5
    have HX : Hid (SS ++ ByteArray.mk #[48, 88] ++ BD ++ ByteArray.mk #[80] ++ XX = str (mdS 1 s h t pt ne true (exL e' plus))) := by (show _ = _; rw [HRS.out]; rw [← HXX.out, ByteArray.append_assoc]; show _ ++ (str [80] ++ str _) = _; rw [cat_str9]; rfl)
    go_region
    go_wp2
    have hdr : ∀ (N : Nat) (x : World), Below N x x.drew := fun N x => ⟨rfl, rfl, rfl, Nat.le_refl _, fun _ _ => rfl⟩
    refine bodyPost_ret (results_tc rfl _ _ (g + 1) 25 #[.int .i64 2, .bool NB, .string (str BB), .int .i64 (e' - 4 * (LT : Int)), .string (ByteArray.mk #[])] _ rfl ((Bk.all5 Z6.out _ _ _ _ _).later (hdr _ _)) Tryd.underlying25 rfl (by kernel_rfl)) rfl ?_
    refine ⟨?_, ?_⟩
    · rw [HN.out, ← HX.out]
      rfl
    · rw [HG.out]
      exact (Tn.below (HBL.out.trans (g6.mono (by omega))) (Tn.all5 ..) (by omega) (by rw [HG.out]; exact Nat.le_refl _)).trans (hdr _ _)
end Go.Proofs.YthibemoincgemaaDoor
