import Derived.Deep.DeepCutAuto
import Derived.WalkKit
import Derived.ProofKit
import Derived.OpenShut
import Derived.ShutString
import Derived.ChangeOld
import Derived.Below
import Derived.BigQuiet
import Derived.Deep.CutRange
import Derived.Deep.LoopGhost
import Derived.Deep.QuietTactic
import Derived.Deep.RegionHeld3
import Derived.Deep.RegionWith
import Derived.Deep.WholeRow
import Derived.KernelRfl
import Derived.Laws.BitsAllLaws
import Derived.Laws.CopyRow
import Derived.Laws.EntriesVeiled
import Derived.Laws.Externs
import Derived.Laws.IdiomCopy
import Derived.Laws.IdiomRangeMap
import Derived.Laws.RangeString
import Derived.Laws.ResultCell
import Derived.Laws.Runes
import Derived.Laws.Strings3
import Derived.Lib.AsciiSet
import Derived.Lib.AtoiErrMem
import Derived.Lib.BufferRead
import Derived.Lib.Bytealg
import Derived.Lib.ConvBytes
import Derived.Lib.IndexBytes
import Derived.Lib.Strings
import Derived.Lib.TrimByte
import Derived.Lib.Walk
import Derived.OwnWalk
import Derived.Shelf.Strconv.Clone
import Derived.Shelf.Strings.OnBuilder
import Derived.WalkLawsBesides
import Derived.WalkSpells
import Derived.Test.YtiicphkpmdidaaaDoorLrj10
import Derived.Test.YtiicphkpmdidaaaDoorLrj12
import Derived.Test.YtiicphkpmdidaaaDoorLrj16
/- plumblaw09: a piece is made. -/
namespace Go.Proofs.YtiicphkpmdidaaaDoor
open Go.ChangeShapes Go.WideShapes Go.ChangeAt Go.RowKit
open Lx
set_option linter.unusedVariables false
namespace Lx
theorem results_tc {P : Program} {fn : Func} {p u : Tmp} {ty : TypeId} (h : fn.results = #[.tmp u, .cell p ty]) (tmps : Array Value) (w : World) (g : Nat) (t : TypeId) (cs : Array Value) (d : TypeDesc)
    (hp : tmps.getD p undef = .pointer (some ⟨g, 0, none⟩)) (hg : Bk w g t cs)
    (hu : P.underlying ty = some d) (hd : (match d with | .struct _ | .array _ _ => true | _ => false) = true) (hi : (P.info? ty).map (·.size) = some cs.size) :
    (results fn tmps).run P w = .ok (.tuple #[tmps.getD u undef, .agg cs]) w := by
  have hp' : tmps[p]?.getD undef = .pointer (some ⟨g, 0, none⟩) := by simpa using hp
  simp [results, h, hp', asAddr, run_loadVar_row w g t ty cs (0, 0) d hg hu hd hi, Result.andThen]
/-- a Piece's cells -/
def pieA (kd sg : Int) (v1 v2 : Value) (pt ne : Bool) (e : Int) (plus big : Bool) : Array Value := #[.int .i64 kd, .int .i64 sg, v1, v2, .bool pt, .bool ne, .int .i64 e, .bool plus, .bool big]
def baseOf (k : Int) : Int := if k = 1 then 16 else 10
end Lx
end Go.Proofs.YtiicphkpmdidaaaDoor

/- plumblaw09: a piece is made: kind 2. -/
namespace Go.Proofs.YtiicphkpmdidaaaDoor
open Go.ChangeShapes Go.WideShapes Go.ChangeAt Go.RowKit
open Lx
set_option linter.unusedVariables false
set_option maxHeartbeats 3200000 in
set_option maxRecDepth 100000 in
theorem made9_k2 {w : World} {kd sg e : Int} {a1 a2 : Option Addr} {n1 c1 n2 c2 : Nat} {z1 z2 : List Int} (hr1 : RowAt .i64 w a1 n1 z1) (hr2 : RowAt .i64 w a2 n2 z2) (hn1 : n1 ≤ 9223372036854775807) (hn2 : n2 ≤ 9223372036854775807) (pt ne plus big : Bool)
    (hk : kd % 3 = 2) {s h t : B} (hs : sgL (sg % 3 - 1) plus = s) (hh : dgL 10 big z1 = h) (ht : dgL 10 big z2 = t) {e' : Int} (he : e.tmod 100000 = e') :
    Calls Tryd.prog 10 #[.agg (pieA kd sg (.slice a1 n1 c1) (.slice a2 n2 c2) pt ne e plus big)] w fun r w' =>
      r = .returned (.tuple #[.string (str (mdS 2 s h t pt ne big (exL e' plus))), .agg (nmA (mdN 2 s h t ne e'))]) ∧ Below w.heap.size w w' := by
  have hI1 := fun w => into9_any (n := kd) (top := 3) (by omega) (by omega) w
  have hI2 := fun w => into9_any (n := sg) (top := 3) (by omega) (by omega) w
  have hS := fun w => lawSign9_any (sg % 3 - 1) plus w
  rw [hs] at hS
  rw [hk] at hI1
  have hm0 := Int.emod_nonneg sg (show (3 : Int) ≠ 0 by omega)
  have hm1 := Int.emod_lt_of_pos sg (show (0 : Int) < 3 by omega)
  have hsl : (str s).size ≤ 1 := by rw [str_size, ← hs]; rcases sgL_cases (sg % 3 - 1) plus with q | q | q <;> rw [q] <;> simp
  have hhl : h.length ≤ 40 := by rw [← hh]; exact dgL_len
  have htl : t.length ≤ 40 := by rw [← ht]; exact dgL_len
  have HNEG : Hid (((str s).toList == [45]) = decide (s = [45])) := by
    rcases sgL_cases (sg % 3 - 1) plus with q | q | q <;> (rw [hs] at q; rw [q, Lib.toList_data, str_list]; rfl)
  generalize sg % 3 = q at *
  have hqw : IntKind.i64.wrap (q - 1) = q - 1 := by unfold IntKind.wrap; simp [IntKind.signed, IntKind.bits]; omega
  unfold pieA
  obtain ⟨w0, hw0⟩ : ∃ w0, w0 = (w.alloc (.cells #[.int .i64 kd, .int .i64 sg, .slice a1 n1 c1, .slice a2 n2 c2, .bool pt, .bool ne, .int .i64 e, .bool plus, .bool big] 39)).alloc (.cells zero5 28) := ⟨_, rfl⟩
  have hbl0 : Below w.heap.size w w0 := by rw [hw0]; exact ((Below.refl _ w).alloc (Nat.le_refl _) _).alloc (by simp) _
  have hst0 : Bk w0 w.heap.size 39 #[.int .i64 kd, .int .i64 sg, .slice a1 n1 c1, .slice a2 n2 c2, .bool pt, .bool ne, .int .i64 e, .bool plus, .bool big] := by
    rw [hw0]; exact (Bk.new w _ _).later ((Below.refl _ _).alloc (Nat.le_refl _) _)
  have hst1 : Bk w0 (w.heap.size + 1) 28 zero5 := by
    have := Bk.new (w.alloc (.cells #[.int .i64 kd, .int .i64 sg, .slice a1 n1 c1, .slice a2 n2 c2, .bool pt, .bool ne, .int .i64 e, .bool plus, .bool big] 39)) 28 zero5
    rw [World.size_alloc] at this
    rw [hw0]
    exact this
  have hD1 : ∀ w1, Below w0.heap.size w0 w1 → Calls Tryd.prog 5 #[.slice a1 n1 c1, .int .i64 10, .bool big] w1 fun r w' => r = .returned (.string (str h)) ∧ Below w1.heap.size w1 w' := fun w1 hb => by
    rw [← hh]; exact digits9_any ((hr1.later hbl0).later hb) hn1 (by omega) (by omega) big
  have hD2 : ∀ w1, Below w0.heap.size w0 w1 → Calls Tryd.prog 5 #[.slice a2 n2 c2, .int .i64 10, .bool big] w1 fun r w' => r = .returned (.string (str t)) ∧ Below w1.heap.size w1 w' := fun w1 hb => by
    rw [← ht]; exact digits9_any ((hr2.later hbl0).later hb) hn2 (by omega) (by omega) big
  unfold zero5 at hw0
  obtain ⟨g, hg⟩ : ∃ g, g = w.heap.size := ⟨_, rfl⟩
  have HG : Hid (w.heap.size = g) := hg.symm
  rw [← hg] at hst0 hst1 hbl0
  have hgl := hst0.lt
  have HS0 : Hid (Bk w0 g 39 #[.int .i64 kd, .int .i64 sg, .slice a1 n1 c1, .slice a2 n2 c2, .bool pt, .bool ne, .int .i64 e, .bool plus, .bool big]) := hst0
  have HS1 : Hid (Bk w0 (g + 1) 28 zero5) := hst1
  have hcl : ∀ w1, Below w0.heap.size w0 w1 → w1.cell? ⟨g, 2, none⟩ = some (.slice a1 n1 c1) ∧ w1.cell? ⟨g, 3, none⟩ = some (.slice a2 n2 c2) ∧ w1.cell? ⟨g, 8, none⟩ = some (.bool big) :=
    fun w1 h => ⟨(HS0.out.later h).cell 2 rfl, (HS0.out.later h).cell 3 rfl, (HS0.out.later h).cell 8 rfl⟩
  have x0 : w0.cell? ⟨g, 0, none⟩ = some (.int .i64 kd) := hst0.cell 0 rfl
  have x1 : w0.cell? ⟨g, 1, none⟩ = some (.int .i64 sg) := hst0.cell 1 rfl
  have x7 : w0.cell? ⟨g, 7, none⟩ = some (.bool plus) := hst0.cell 7 rfl
  have HE : Hid (e.tmod 100000 = e') := he
  have HBL : Hid (Below g w w0) := hbl0
  clear hst0 hst1 hs hk he hh ht hr1 hr2 hn1 hn2 hbl0
  generalize hSS : str s = SS at *
  go_enter Tryd.func10, Tryd.ntmps10
  go_wp2_with fail
  rw [← hw0, ← hg]
  clear hw0 hg
  refine (hI1 _).mono ?_
  rintro r w1 ⟨rfl, hw1⟩
  rw [hw1]
  clear hI1 hw1
  go_wp2_with fail
  go_quiet ((first | (go_at_call 6; exact Calls.quiet_of_same (hI2 _)) | (go_at_call 20; exact Calls.quiet_of_same (hS _))))
  go_upto_region 7 with fail
  obtain ⟨w2, hw2⟩ : ∃ w2, w2 = w0.drewN nq := ⟨_, rfl⟩
  have hB2 : Below w0.heap.size w0 w2 := by rw [hw2]; exact below_drewN (Below.refl _ w0) nq
  rw [← hw2]
  clear hw2
  obtain ⟨x2, x3, x8⟩ := hcl w2 hB2
  go_cut [8, 9] (fun v8 v9 wx => v8 = .string (str h) ∧ v9 = .string (str t) ∧ Below w0.heap.size w0 wx)
  case first =>
    go_region_held3 (fun w1 => w1.cell? ⟨g, 2, none⟩ = some (.slice a1 n1 c1) ∧ w1.cell? ⟨g, 3, none⟩ = some (.slice a2 n2 c2) ∧ w1.cell? ⟨g, 8, none⟩ = some (.bool big)) (go_keep) (first | (go_at_call_of 5 a1; refine (hD1 _ (by first | exact hB2 | exact hB2.trans (below_drewN (Below.refl _ _) _))).mono ?_; rintro r wX ⟨rfl, hbX⟩; have hBX : Below w0.heap.size w0 wX := (by first | exact hB2.trans (hbX.mono hB2.size) | exact (hB2.trans (below_drewN (Below.refl _ _) _)).trans (hbX.mono hB2.size)); obtain ⟨y2, y3, y8⟩ := hcl wX hBX) | (go_at_call_of 5 a2; refine (hD2 _ (by first | exact hBX | exact hBX.trans (below_drewN (Below.refl _ _) _))).mono ?_; rintro r wY ⟨rfl, hbY⟩; have hBY : Below w0.heap.size w0 wY := (by first | exact hBX.trans (hbY.mono hBX.size) | exact (hBX.trans (below_drewN (Below.refl _ _) _)).trans (hbY.mono hBX.size)); obtain ⟨y2, y3, y8⟩ := hcl wY hBY))
    all_goals (go_wp2_with fail)
    all_goals go_meet
    all_goals exact ⟨rfl, rfl, hBY⟩
  obtain ⟨rfl, rfl, hBc⟩ := hcut
  clear x0 x1 x7 x2 x3 x8 hcl hD1 hD2 hI2 hS hB2
  rw [HNEG.out]
  clear HNEG
  generalize hNB : decide (s = [45]) = NB at *
  have HNB : Hid (decide (s = [45]) = NB) := hNB
  have HSS : Hid (str s = SS) := hSS
  clear hNB hSS
  by_cases h0 : h = [] <;> by_cases t0 : t = []
  · subst h0
    subst t0
    have hB1 : ∀ w, Calls Tryd.prog 21 #[.string (ByteArray.mk #[55])] w fun r w' => r = .returned (.string (str (bareR [55]))) ∧ Below w.heap.size w w' := fun w => lawBare9_any (str [55]) (by decide) w
    have hB2 : ∀ w, Calls Tryd.prog 21 #[.string (ByteArray.mk #[48, 50])] w fun r w' => r = .returned (.string (str (bareR [48, 50]))) ∧ Below w.heap.size w w' := fun w => lawBare9_any (str [48, 50]) (by decide) w
    have HR : Hid (mdS 2 s [] [] pt ne big (exL e' plus) = s ++ ([55] ++ (47 :: [48, 50]))) := by
      show _ = _
      rw [mdS_2]
      unfold mdHead mdTail
      rfl
    have HN : Hid (mdN 2 s [] [] ne e' = ⟨3, NB, bareR [55], 0, bareR [48, 50]⟩) := by
      show _ = _
      rw [mdN_2, HNB.out]
      unfold mdHead mdTail
      rfl
    have hcat : SS ++ str [55] ++ ByteArray.mk #[47] ++ str [48, 50] = str (mdS 2 s [] [] pt ne big (exL e' plus)) := by
      rw [HR.out, ← HSS.out]
      show str s ++ str [55] ++ str [47] ++ str [48, 50] = _
      rw [cat_str9, cat_str9, cat_str9]
      simp
    have hz1 : (str [55]).size ≤ 40 := by rw [str_size]; exact (by decide)
    have hz2 : (str [48, 50]).size ≤ 40 := by rw [str_size]; exact (by decide)
    generalize hRS : str (mdS 2 s [] [] pt ne big (exL e' plus)) = RS at *
    have HRS : Hid (str (mdS 2 s [] [] pt ne big (exL e' plus)) = RS) := hRS
    clear hRS
    have e55 : str [55] = ByteArray.mk #[55] := rfl
    rw [e55] at hcat hz1
    clear e55
    have e48 : str [48, 50] = ByteArray.mk #[48, 50] := rfl
    rw [e48] at hcat hz2
    clear e48
    have e0 : str [] = ByteArray.mk #[] := rfl
    rw [e0]
    clear e0
    clear HSS hhl htl
    go_wp2_with fail
    refine (hB1 _).mono ?_
    rintro r w3 ⟨rfl, b3⟩
    have g3 := hBc.trans (b3.mono hBc.size)
    go_wp2_with fail
    refine (hB2 _).mono ?_
    rintro r w4 ⟨rfl, b4⟩
    have g4 := g3.trans (b4.mono g3.size)
    have B4 := HS1.out.later g4
    clear hB1 hB2 b3 b4 g3
    have z0 := B4.cell 0 rfl
    have zf0 := B4.frozen 0
    have z1 := B4.cell 1 rfl
    have zf1 := B4.frozen 1
    have z2 := B4.cell 2 rfl
    have zf2 := B4.frozen 2
    have z3 := B4.cell 3 rfl
    have zf3 := B4.frozen 3
    have z4 := B4.cell 4 rfl
    have zf4 := B4.frozen 4
    go_wp2
    refine bodyPost_ret (results_tc rfl _ _ (g + 1) 28 #[.int .i64 3, .bool NB, .string (str (bareR [55])), .int .i64 0, .string (str (bareR [48, 50]))] _ rfl (Bk.all5 B4 _ _ _ _ _) Tryd.underlying28 rfl (by kernel_rfl)) rfl ?_
    refine ⟨?_, ?_⟩
    · rw [HN.out, HRS.out]
      rfl
    · rw [HG.out]
      exact Tn.below (HBL.out.trans (g4.mono (by omega))) (Tn.all5 ..) (by omega) (by rw [HG.out]; exact Nat.le_refl _)
  · subst h0
    have hB1 : ∀ w, Calls Tryd.prog 21 #[.string (ByteArray.mk #[55])] w fun r w' => r = .returned (.string (str (bareR [55]))) ∧ Below w.heap.size w w' := fun w => lawBare9_any (str [55]) (by decide) w
    have hE2 : (str t).toList.isEmpty = false := by rw [str_empty]; exact isEmpty_ne t0
    have hB2 : ∀ w, Calls Tryd.prog 21 #[.string (str t)] w fun r w' => r = .returned (.string (str (bareR t))) ∧ Below w.heap.size w w' := fun w => by
      have := lawBare9_any (str t) (by rw [str_size]; omega) w
      rw [str_list] at this; exact this
    have HR : Hid (mdS 2 s [] t pt ne big (exL e' plus) = s ++ ([55] ++ (47 :: t))) := by
      show _ = _
      rw [mdS_2]
      unfold mdHead mdTail
      simp only [if_neg t0]; rfl
    have HN : Hid (mdN 2 s [] t ne e' = ⟨3, NB, bareR [55], 0, bareR t⟩) := by
      show _ = _
      rw [mdN_2, HNB.out]
      unfold mdHead mdTail
      simp only [if_neg t0]; rfl
    have hcat : SS ++ str [55] ++ ByteArray.mk #[47] ++ str t = str (mdS 2 s [] t pt ne big (exL e' plus)) := by
      rw [HR.out, ← HSS.out]
      show str s ++ str [55] ++ str [47] ++ str t = _
      rw [cat_str9, cat_str9, cat_str9]
      simp
    have hz1 : (str [55]).size ≤ 40 := by rw [str_size]; exact (by decide)
    have hz2 : (str t).size ≤ 40 := by rw [str_size]; omega
    generalize hRS : str (mdS 2 s [] t pt ne big (exL e' plus)) = RS at *
    have HRS : Hid (str (mdS 2 s [] t pt ne big (exL e' plus)) = RS) := hRS
    clear hRS
    have e55 : str [55] = ByteArray.mk #[55] := rfl
    rw [e55] at hcat hz1
    clear e55
    generalize str t = TL at *
    have e0 : str [] = ByteArray.mk #[] := rfl
    rw [e0]
    clear e0
    clear HSS hhl htl
    go_wp2_with fail
    refine (hB1 _).mono ?_
    rintro r w3 ⟨rfl, b3⟩
    have g3 := hBc.trans (b3.mono hBc.size)
    go_wp2_with fail
    refine (hB2 _).mono ?_
    rintro r w4 ⟨rfl, b4⟩
    have g4 := g3.trans (b4.mono g3.size)
    have B4 := HS1.out.later g4
    clear hB1 hB2 b3 b4 g3
    have z0 := B4.cell 0 rfl
    have zf0 := B4.frozen 0
    have z1 := B4.cell 1 rfl
    have zf1 := B4.frozen 1
    have z2 := B4.cell 2 rfl
    have zf2 := B4.frozen 2
    have z3 := B4.cell 3 rfl
    have zf3 := B4.frozen 3
    have z4 := B4.cell 4 rfl
    have zf4 := B4.frozen 4
    go_wp2
    refine bodyPost_ret (results_tc rfl _ _ (g + 1) 28 #[.int .i64 3, .bool NB, .string (str (bareR [55])), .int .i64 0, .string (str (bareR t))] _ rfl (Bk.all5 B4 _ _ _ _ _) Tryd.underlying28 rfl (by kernel_rfl)) rfl ?_
    refine ⟨?_, ?_⟩
    · rw [HN.out, HRS.out]
      rfl
    · rw [HG.out]
      exact Tn.below (HBL.out.trans (g4.mono (by omega))) (Tn.all5 ..) (by omega) (by rw [HG.out]; exact Nat.le_refl _)
  · subst t0
    have hE1 : (str h).toList.isEmpty = false := by rw [str_empty]; exact isEmpty_ne h0
    have hB1 : ∀ w, Calls Tryd.prog 21 #[.string (str h)] w fun r w' => r = .returned (.string (str (bareR h))) ∧ Below w.heap.size w w' := fun w => by
      have := lawBare9_any (str h) (by rw [str_size]; omega) w
      rw [str_list] at this; exact this
    have hB2 : ∀ w, Calls Tryd.prog 21 #[.string (ByteArray.mk #[48, 50])] w fun r w' => r = .returned (.string (str (bareR [48, 50]))) ∧ Below w.heap.size w w' := fun w => lawBare9_any (str [48, 50]) (by decide) w
    have HR : Hid (mdS 2 s h [] pt ne big (exL e' plus) = s ++ (h ++ (47 :: [48, 50]))) := by
      show _ = _
      rw [mdS_2]
      unfold mdHead mdTail
      simp only [if_neg h0]; rfl
    have HN : Hid (mdN 2 s h [] ne e' = ⟨3, NB, bareR h, 0, bareR [48, 50]⟩) := by
      show _ = _
      rw [mdN_2, HNB.out]
      unfold mdHead mdTail
      simp only [if_neg h0]; rfl
    have hcat : SS ++ str h ++ ByteArray.mk #[47] ++ str [48, 50] = str (mdS 2 s h [] pt ne big (exL e' plus)) := by
      rw [HR.out, ← HSS.out]
      show str s ++ str h ++ str [47] ++ str [48, 50] = _
      rw [cat_str9, cat_str9, cat_str9]
      simp
    have hz1 : (str h).size ≤ 40 := by rw [str_size]; omega
    have hz2 : (str [48, 50]).size ≤ 40 := by rw [str_size]; exact (by decide)
    generalize hRS : str (mdS 2 s h [] pt ne big (exL e' plus)) = RS at *
    have HRS : Hid (str (mdS 2 s h [] pt ne big (exL e' plus)) = RS) := hRS
    clear hRS
    generalize str h = HD at *
    have e48 : str [48, 50] = ByteArray.mk #[48, 50] := rfl
    rw [e48] at hcat hz2
    clear e48
    have e0 : str [] = ByteArray.mk #[] := rfl
    rw [e0]
    clear e0
    clear HSS hhl htl
    go_wp2_with fail
    refine (hB1 _).mono ?_
    rintro r w3 ⟨rfl, b3⟩
    have g3 := hBc.trans (b3.mono hBc.size)
    go_wp2_with fail
    refine (hB2 _).mono ?_
    rintro r w4 ⟨rfl, b4⟩
    have g4 := g3.trans (b4.mono g3.size)
    have B4 := HS1.out.later g4
    clear hB1 hB2 b3 b4 g3
    have z0 := B4.cell 0 rfl
    have zf0 := B4.frozen 0
    have z1 := B4.cell 1 rfl
    have zf1 := B4.frozen 1
    have z2 := B4.cell 2 rfl
    have zf2 := B4.frozen 2
    have z3 := B4.cell 3 rfl
    have zf3 := B4.frozen 3
    have z4 := B4.cell 4 rfl
    have zf4 := B4.frozen 4
    go_wp2
    refine bodyPost_ret (results_tc rfl _ _ (g + 1) 28 #[.int .i64 3, .bool NB, .string (str (bareR h)), .int .i64 0, .string (str (bareR [48, 50]))] _ rfl (Bk.all5 B4 _ _ _ _ _) Tryd.underlying28 rfl (by kernel_rfl)) rfl ?_
    refine ⟨?_, ?_⟩
    · rw [HN.out, HRS.out]
      rfl
    · rw [HG.out]
      exact Tn.below (HBL.out.trans (g4.mono (by omega))) (Tn.all5 ..) (by omega) (by rw [HG.out]; exact Nat.le_refl _)
  · have hE1 : (str h).toList.isEmpty = false := by rw [str_empty]; exact isEmpty_ne h0
    have hB1 : ∀ w, Calls Tryd.prog 21 #[.string (str h)] w fun r w' => r = .returned (.string (str (bareR h))) ∧ Below w.heap.size w w' := fun w => by
      have := lawBare9_any (str h) (by rw [str_size]; omega) w
      rw [str_list] at this; exact this
    have hE2 : (str t).toList.isEmpty = false := by rw [str_empty]; exact isEmpty_ne t0
    have hB2 : ∀ w, Calls Tryd.prog 21 #[.string (str t)] w fun r w' => r = .returned (.string (str (bareR t))) ∧ Below w.heap.size w w' := fun w => by
      have := lawBare9_any (str t) (by rw [str_size]; omega) w
      rw [str_list] at this; exact this
    have HR : Hid (mdS 2 s h t pt ne big (exL e' plus) = s ++ (h ++ (47 :: t))) := by
      show _ = _
      rw [mdS_2]
      unfold mdHead mdTail
      simp only [if_neg h0, if_neg t0]; rfl
    have HN : Hid (mdN 2 s h t ne e' = ⟨3, NB, bareR h, 0, bareR t⟩) := by
      show _ = _
      rw [mdN_2, HNB.out]
      unfold mdHead mdTail
      simp only [if_neg h0, if_neg t0]; rfl
    have hcat : SS ++ str h ++ ByteArray.mk #[47] ++ str t = str (mdS 2 s h t pt ne big (exL e' plus)) := by
      rw [HR.out, ← HSS.out]
      show str s ++ str h ++ str [47] ++ str t = _
      rw [cat_str9, cat_str9, cat_str9]
      simp
    have hz1 : (str h).size ≤ 40 := by rw [str_size]; omega
    have hz2 : (str t).size ≤ 40 := by rw [str_size]; omega
    generalize hRS : str (mdS 2 s h t pt ne big (exL e' plus)) = RS at *
    have HRS : Hid (str (mdS 2 s h t pt ne big (exL e' plus)) = RS) := hRS
    clear hRS
    generalize str h = HD at *
    generalize str t = TL at *
    clear HSS hhl htl
    go_wp2_with fail
    refine (hB1 _).mono ?_
    rintro r w3 ⟨rfl, b3⟩
    have g3 := hBc.trans (b3.mono hBc.size)
    go_wp2_with fail
    refine (hB2 _).mono ?_
    rintro r w4 ⟨rfl, b4⟩
    have g4 := g3.trans (b4.mono g3.size)
    have B4 := HS1.out.later g4
    clear hB1 hB2 b3 b4 g3
    have z0 := B4.cell 0 rfl
    have zf0 := B4.frozen 0
    have z1 := B4.cell 1 rfl
    have zf1 := B4.frozen 1
    have z2 := B4.cell 2 rfl
    have zf2 := B4.frozen 2
    have z3 := B4.cell 3 rfl
    have zf3 := B4.frozen 3
    have z4 := B4.cell 4 rfl
    have zf4 := B4.frozen 4
    go_wp2
    refine bodyPost_ret (results_tc rfl _ _ (g + 1) 28 #[.int .i64 3, .bool NB, .string (str (bareR h)), .int .i64 0, .string (str (bareR t))] _ rfl (Bk.all5 B4 _ _ _ _ _) Tryd.underlying28 rfl (by kernel_rfl)) rfl ?_
    refine ⟨?_, ?_⟩
    · rw [HN.out, HRS.out]
      rfl
    · rw [HG.out]
      exact Tn.below (HBL.out.trans (g4.mono (by omega))) (Tn.all5 ..) (by omega) (by rw [HG.out]; exact Nat.le_refl _)
end Go.Proofs.YtiicphkpmdidaaaDoor

/- plumblaw09: a piece is made: kind 0. -/
namespace Go.Proofs.YtiicphkpmdidaaaDoor
open Go.ChangeShapes Go.WideShapes Go.ChangeAt Go.RowKit
open Lx
set_option linter.unusedVariables false
set_option maxHeartbeats 3200000 in
set_option maxRecDepth 100000 in
theorem made9_k0 {w : World} {kd sg e : Int} {a1 a2 : Option Addr} {n1 c1 n2 c2 : Nat} {z1 z2 : List Int} (hr1 : RowAt .i64 w a1 n1 z1) (hr2 : RowAt .i64 w a2 n2 z2) (hn1 : n1 ≤ 9223372036854775807) (hn2 : n2 ≤ 9223372036854775807) (pt ne plus big : Bool)
    (hk : kd % 3 = 0) {s h t : B} (hs : sgL (sg % 3 - 1) plus = s) (hh : dgL 10 big z1 = h) (ht : dgL 10 big z2 = t) {e' : Int} (he : e.tmod 100000 = e') :
    Calls Tryd.prog 10 #[.agg (pieA kd sg (.slice a1 n1 c1) (.slice a2 n2 c2) pt ne e plus big)] w fun r w' =>
      r = .returned (.tuple #[.string (str (mdS 0 s h t pt ne big (exL e' plus))), .agg (nmA (mdN 0 s h t ne e'))]) ∧ Below w.heap.size w w' := by
  have hI1 := fun w => into9_any (n := kd) (top := 3) (by omega) (by omega) w
  have hI2 := fun w => into9_any (n := sg) (top := 3) (by omega) (by omega) w
  have hS := fun w => lawSign9_any (sg % 3 - 1) plus w
  rw [hs] at hS
  rw [hk] at hI1
  have hm0 := Int.emod_nonneg sg (show (3 : Int) ≠ 0 by omega)
  have hm1 := Int.emod_lt_of_pos sg (show (0 : Int) < 3 by omega)
  have hsl : (str s).size ≤ 1 := by rw [str_size, ← hs]; rcases sgL_cases (sg % 3 - 1) plus with q | q | q <;> rw [q] <;> simp
  have hhl : h.length ≤ 40 := by rw [← hh]; exact dgL_len
  have htl : t.length ≤ 40 := by rw [← ht]; exact dgL_len
  have HNEG : Hid (((str s).toList == [45]) = decide (s = [45])) := by
    rcases sgL_cases (sg % 3 - 1) plus with q | q | q <;> (rw [hs] at q; rw [q, Lib.toList_data, str_list]; rfl)
  generalize sg % 3 = q at *
  have hqw : IntKind.i64.wrap (q - 1) = q - 1 := by unfold IntKind.wrap; simp [IntKind.signed, IntKind.bits]; omega
  unfold pieA
  obtain ⟨w0, hw0⟩ : ∃ w0, w0 = (w.alloc (.cells #[.int .i64 kd, .int .i64 sg, .slice a1 n1 c1, .slice a2 n2 c2, .bool pt, .bool ne, .int .i64 e, .bool plus, .bool big] 39)).alloc (.cells zero5 28) := ⟨_, rfl⟩
  have hbl0 : Below w.heap.size w w0 := by rw [hw0]; exact ((Below.refl _ w).alloc (Nat.le_refl _) _).alloc (by simp) _
  have hst0 : Bk w0 w.heap.size 39 #[.int .i64 kd, .int .i64 sg, .slice a1 n1 c1, .slice a2 n2 c2, .bool pt, .bool ne, .int .i64 e, .bool plus, .bool big] := by
    rw [hw0]; exact (Bk.new w _ _).later ((Below.refl _ _).alloc (Nat.le_refl _) _)
  have hst1 : Bk w0 (w.heap.size + 1) 28 zero5 := by
    have := Bk.new (w.alloc (.cells #[.int .i64 kd, .int .i64 sg, .slice a1 n1 c1, .slice a2 n2 c2, .bool pt, .bool ne, .int .i64 e, .bool plus, .bool big] 39)) 28 zero5
    rw [World.size_alloc] at this
    rw [hw0]
    exact this
  have hD1 : ∀ w1, Below w0.heap.size w0 w1 → Calls Tryd.prog 5 #[.slice a1 n1 c1, .int .i64 10, .bool big] w1 fun r w' => r = .returned (.string (str h)) ∧ Below w1.heap.size w1 w' := fun w1 hb => by
    rw [← hh]; exact digits9_any ((hr1.later hbl0).later hb) hn1 (by omega) (by omega) big
  have hD2 : ∀ w1, Below w0.heap.size w0 w1 → Calls Tryd.prog 5 #[.slice a2 n2 c2, .int .i64 10, .bool big] w1 fun r w' => r = .returned (.string (str t)) ∧ Below w1.heap.size w1 w' := fun w1 hb => by
    rw [← ht]; exact digits9_any ((hr2.later hbl0).later hb) hn2 (by omega) (by omega) big
  unfold zero5 at hw0
  obtain ⟨g, hg⟩ : ∃ g, g = w.heap.size := ⟨_, rfl⟩
  have HG : Hid (w.heap.size = g) := hg.symm
  rw [← hg] at hst0 hst1 hbl0
  have hgl := hst0.lt
  have HS0 : Hid (Bk w0 g 39 #[.int .i64 kd, .int .i64 sg, .slice a1 n1 c1, .slice a2 n2 c2, .bool pt, .bool ne, .int .i64 e, .bool plus, .bool big]) := hst0
  have HS1 : Hid (Bk w0 (g + 1) 28 zero5) := hst1
  have hcl : ∀ w1, Below w0.heap.size w0 w1 → w1.cell? ⟨g, 2, none⟩ = some (.slice a1 n1 c1) ∧ w1.cell? ⟨g, 3, none⟩ = some (.slice a2 n2 c2) ∧ w1.cell? ⟨g, 8, none⟩ = some (.bool big) :=
    fun w1 h => ⟨(HS0.out.later h).cell 2 rfl, (HS0.out.later h).cell 3 rfl, (HS0.out.later h).cell 8 rfl⟩
  have x0 : w0.cell? ⟨g, 0, none⟩ = some (.int .i64 kd) := hst0.cell 0 rfl
  have x1 : w0.cell? ⟨g, 1, none⟩ = some (.int .i64 sg) := hst0.cell 1 rfl
  have x7 : w0.cell? ⟨g, 7, none⟩ = some (.bool plus) := hst0.cell 7 rfl
  have HE : Hid (e.tmod 100000 = e') := he
  have HBL : Hid (Below g w w0) := hbl0
  clear hst0 hst1 hs hk he hh ht hr1 hr2 hn1 hn2 hbl0
  generalize hSS : str s = SS at *
  go_enter Tryd.func10, Tryd.ntmps10
  go_wp2_with fail
  rw [← hw0, ← hg]
  clear hw0 hg
  refine (hI1 _).mono ?_
  rintro r w1 ⟨rfl, hw1⟩
  rw [hw1]
  clear hI1 hw1
  go_wp2_with fail
  go_quiet ((first | (go_at_call 6; exact Calls.quiet_of_same (hI2 _)) | (go_at_call 20; exact Calls.quiet_of_same (hS _))))
  go_upto_region 7 with fail
  obtain ⟨w2, hw2⟩ : ∃ w2, w2 = w0.drewN nq := ⟨_, rfl⟩
  have hB2 : Below w0.heap.size w0 w2 := by rw [hw2]; exact below_drewN (Below.refl _ w0) nq
  rw [← hw2]
  clear hw2
  obtain ⟨x2, x3, x8⟩ := hcl w2 hB2
  go_cut [8, 9] (fun v8 v9 wx => v8 = .string (str h) ∧ v9 = .string (str t) ∧ Below w0.heap.size w0 wx)
  case first =>
    go_region_held3 (fun w1 => w1.cell? ⟨g, 2, none⟩ = some (.slice a1 n1 c1) ∧ w1.cell? ⟨g, 3, none⟩ = some (.slice a2 n2 c2) ∧ w1.cell? ⟨g, 8, none⟩ = some (.bool big)) (go_keep) (first | (go_at_call_of 5 a1; refine (hD1 _ (by first | exact hB2 | exact hB2.trans (below_drewN (Below.refl _ _) _))).mono ?_; rintro r wX ⟨rfl, hbX⟩; have hBX : Below w0.heap.size w0 wX := (by first | exact hB2.trans (hbX.mono hB2.size) | exact (hB2.trans (below_drewN (Below.refl _ _) _)).trans (hbX.mono hB2.size)); obtain ⟨y2, y3, y8⟩ := hcl wX hBX) | (go_at_call_of 5 a2; refine (hD2 _ (by first | exact hBX | exact hBX.trans (below_drewN (Below.refl _ _) _))).mono ?_; rintro r wY ⟨rfl, hbY⟩; have hBY : Below w0.heap.size w0 wY := (by first | exact hBX.trans (hbY.mono hBX.size) | exact (hBX.trans (below_drewN (Below.refl _ _) _)).trans (hbY.mono hBX.size)); obtain ⟨y2, y3, y8⟩ := hcl wY hBY))
    all_goals (go_wp2_with fail)
    all_goals go_meet
    all_goals exact ⟨rfl, rfl, hBY⟩
  obtain ⟨rfl, rfl, hBc⟩ := hcut
  clear x0 x1 x7 x2 x3 x8 hcl hD1 hD2 hI2 hS hB2
  rw [HNEG.out]
  clear HNEG
  generalize hNB : decide (s = [45]) = NB at *
  have HNB : Hid (decide (s = [45]) = NB) := hNB
  have HSS : Hid (str s = SS) := hSS
  clear hNB hSS
  have e0 : ∀ l : B, l = [] → str l = ByteArray.mk #[] := fun l q => by rw [q]; rfl
  go_upto_region 14 with fail
  go_cut [64] (fun v wx => v = .bool (decide (h = [] ∧ t = [])) ∧ wx = wc)
  case first =>
    by_cases h0 : h = [] <;> by_cases t0 : t = []
    all_goals
      first | (have hE1 : (str h).toList.isEmpty = true := by (rw [str_empty, h0]; rfl)) | (have hE1 : (str h).toList.isEmpty = false := by (rw [str_empty]; exact isEmpty_ne h0))
      first | (have hE2 : (str t).toList.isEmpty = true := by (rw [str_empty, t0]; rfl)) | (have hE2 : (str t).toList.isEmpty = false := by (rw [str_empty]; exact isEmpty_ne t0))
      have HD : Hid (decide (h = [] ∧ t = []) = ((str h).toList.isEmpty && (str t).toList.isEmpty)) := by (show _ = _; rw [hE1, hE2]; simp [h0, t0])
      rw [hE1, hE2] at HD
      clear h0 t0
      go_wp2
      go_meet
      exact ⟨by rw [HD.out]; rfl, rfl⟩
  obtain ⟨rfl, rfl⟩ := hcut
  have HMH0 : Hid (mdHead 0 h t = if h = [] ∧ t = [] then [48] else h) := rfl
  go_upto_if 64 with fail
  go_cut [8] (fun v wx => v = .string (str (mdHead 0 h t)) ∧ wx = wc)
  case first =>
    by_cases hc : h = [] ∧ t = []
    · have d : decide (h = [] ∧ t = []) = true := decide_eq_true hc
      have HM : Hid (str (mdHead 0 h t) = ByteArray.mk #[48]) := by (show _ = _; rw [HMH0.out, if_pos hc]; rfl)
      generalize decide (h = [] ∧ t = []) = D at *
      subst d
      clear hc
      go_wp2
      go_meet
      exact ⟨by rw [HM.out], rfl⟩
    · have d : decide (h = [] ∧ t = []) = false := decide_eq_false hc
      have HM : Hid (mdHead 0 h t = h) := by (show _ = _; rw [HMH0.out, if_neg hc])
      generalize decide (h = [] ∧ t = []) = D at *
      subst d
      clear hc
      go_wp2
      go_meet
      exact ⟨by rw [HM.out], rfl⟩
  obtain ⟨rfl, rfl⟩ := hcut
  have hml : (mdHead 0 h t).length ≤ 40 := by (rw [HMH0.out]; split; simp; exact hhl)
  clear HMH0
  have y4 : wc.cell? ⟨g, 4, none⟩ = some (.bool pt) := (HS0.out.later hBc).cell 4 rfl
  go_upto_region 17 with fail
  go_cut [71] (fun v wx => v = .bool (mdPt t pt) ∧ wx = wc)
  case first =>
    by_cases t0 : t = []
    · have hE2 : (str t).toList.isEmpty = true := by (rw [str_empty, t0]; rfl)
      have HP : Hid (mdPt t pt = pt) := by (rw [t0]; rfl)
      clear t0
      go_wp2
      go_meet
      exact ⟨by rw [HP.out], rfl⟩
    · have hE2 : (str t).toList.isEmpty = false := by (rw [str_empty]; exact isEmpty_ne t0)
      have HP : Hid (mdPt t pt = true) := by (show _ = _; unfold mdPt; rw [isEmpty_ne t0]; rfl)
      clear t0
      go_wp2
      go_meet
      exact ⟨by rw [HP.out], rfl⟩
  obtain ⟨rfl, rfl⟩ := hcut
  clear y4
  go_upto_if 71 with fail
  go_cut [10] (fun v wx => v = .string (str (mdHead 0 h t ++ (if mdPt t pt = true then 46 :: t else []))) ∧ wx = wc)
  case first =>
    have HB : Hid (str (mdHead 0 h t) ++ ByteArray.mk #[46] ++ str t = str (mdHead 0 h t ++ (46 :: t))) := by
      show str (mdHead 0 h t) ++ str [46] ++ str t = _
      rw [cat_str9, cat_str9]
      simp
    have hz1 : (str (mdHead 0 h t)).size ≤ 40 := by (rw [str_size]; exact hml)
    have hz2 : (str t).size ≤ 40 := by (rw [str_size]; exact htl)
    by_cases hp : mdPt t pt = true
    · have HP : Hid (str (mdHead 0 h t ++ (if mdPt t pt = true then 46 :: t else [])) = str (mdHead 0 h t) ++ ByteArray.mk #[46] ++ str t) := by (show _ = _; rw [if_pos hp, HB.out])
      generalize mdPt t pt = D at *
      subst hp
      go_wp2
      go_meet
      exact ⟨by rw [HP.out], rfl⟩
    · have HP : Hid (mdHead 0 h t ++ (if mdPt t pt = true then 46 :: t else []) = mdHead 0 h t) := by (show _ = _; rw [if_neg hp, List.append_nil])
      have hp' : mdPt t pt = false := by simpa using hp
      generalize mdPt t pt = D at *
      subst hp'
      clear hp
      go_wp2
      go_meet
      exact ⟨by rw [HP.out], rfl⟩
  obtain ⟨rfl, rfl⟩ := hcut
  have hz6 : (str (mdHead 0 h t ++ (if mdPt t pt = true then 46 :: t else []))).size ≤ 90 := by
    rw [str_size, List.length_append]
    split
    · rw [List.length_cons]; omega
    · rw [List.length_nil]; omega
  have HRS : Hid (str (mdS 0 s h t pt ne big (exL e' plus)) = SS ++ str (mdHead 0 h t ++ (if mdPt t pt = true then 46 :: t else [])) ++ str (mdExp ne big 0 (exL e' plus))) := by
    show _ = _
    rw [← HSS.out, mdS_0]
    
    rw [cat_str9, cat_str9]
    simp [List.append_assoc]
  generalize str (mdHead 0 h t ++ (if mdPt t pt = true then 46 :: t else [])) = BD at *
  have hEe := HE.out
  have he0 : -100000 < e' := by (rw [← hEe]; exact Int.lt_tmod_of_pos e (by omega))
  have he1 : e' < 100000 := by (rw [← hEe]; exact Int.tmod_lt_of_pos e (by omega))
  have y6 : wc.cell? ⟨g, 6, none⟩ = some (.int .i64 e) := (HS0.out.later hBc).cell 6 rfl
  go_upto_if 81 with fail
  go_cut [12] (fun v wx => v = .int .i64 (e'.natAbs : Int) ∧ wx = wc)
  case first =>
    by_cases hn : e' < 0
    · have d : decide (e' < 0) = true := decide_eq_true hn
      have HA : Hid ((e'.natAbs : Int) = -e') := by (show _ = _; omega)
      go_wp2
      go_meet
      exact ⟨by rw [HA.out], rfl⟩
    · have d : decide (e' < 0) = false := decide_eq_false hn
      have HA : Hid ((e'.natAbs : Int) = e') := by (show _ = _; omega)
      go_wp2
      go_meet
      exact ⟨by rw [HA.out], rfl⟩
  obtain ⟨rfl, rfl⟩ := hcut
  clear y6 hEe
  have y7 : wc.cell? ⟨g, 7, none⟩ = some (.bool plus) := (HS0.out.later hBc).cell 7 rfl
  have hSx := fun w => lawSign9_any e' plus w
  have hNx := fun w => number9_any 5 (by omega) e'.natAbs (by omega) (by omega) w
  have hc1 : str (sgL e' plus) ++ str (decF 5 e'.natAbs) = str (exL e' plus) := cat_str9 _ _
  have hc2 : str (mdHead 0 h t) ++ str t = str (mdHead 0 h t ++ t) := cat_str9 _ _
  have hBr : ∀ w, Calls Tryd.prog 21 #[.string (str (mdHead 0 h t ++ t))] w fun r w' => r = .returned (.string (str (bareR (mdHead 0 h t ++ t)))) ∧ Below w.heap.size w w' := fun w => by
    have := lawBare9_any (str (mdHead 0 h t ++ t)) (by rw [str_size, List.length_append]; omega) w
    rw [str_list] at this; exact this
  have hz1 : (str (sgL e' plus)).size ≤ 1 := by (rw [str_size]; rcases sgL_cases e' plus with q | q | q <;> rw [q] <;> simp)
  have hz2 : (str (decF 5 e'.natAbs)).size ≤ 6 := by (rw [str_size]; exact (decF_D 5 _ (by omega)).2.2)
  have hz3 : (str (exL e' plus)).size ≤ 7 := by (rw [str_size]; exact (exL_ok (by omega) plus).2.2)
  have hz4 : (str (mdHead 0 h t)).size ≤ 40 := by (rw [str_size]; exact hml)
  have hz5 : (str t).size = t.length := str_size t
  have HN : Hid (mdN 0 s h t ne e' = ⟨1, NB, bareR (mdHead 0 h t ++ t), (if ne = true then -(t.length : Int) else e' - t.length), []⟩) := by
    show _ = _
    rw [mdN_0, HNB.out]
  have hlt : t.length ≤ 40 := htl
  generalize hLT : t.length = LT at *
  have HLT : Hid (t.length = LT) := hLT
  clear hLT
  generalize str (sgL e' plus) = X1 at *
  generalize str (decF 5 e'.natAbs) = X2 at *
  generalize hXX : str (exL e' plus) = XX at *
  have HXX : Hid (str (exL e' plus) = XX) := hXX
  clear hXX
  generalize str (mdHead 0 h t ++ t) = MT at *
  generalize str (mdHead 0 h t) = MH at *
  generalize str t = TL at *
  generalize hBB : bareR (mdHead 0 h t ++ t) = BB at *
  clear hBB hhl htl hml HSS
  go_wp2_with fail
  refine (hSx _).mono ?_
  rintro r w3 ⟨rfl, hw3⟩
  rw [hw3]
  clear hw3 hSx y7
  go_wp2_with fail
  refine (hNx _).mono ?_
  rintro r w4 ⟨rfl, b4⟩
  have g4 := hBc.trans (b4.mono hBc.size)
  clear hNx b4
  go_wp2_with fail
  refine (hBr _).mono ?_
  rintro r w5 ⟨rfl, b5⟩
  have g5 := g4.trans (b5.mono g4.size)
  clear hBr b5 g4
  have hw1 : IntKind.i64.wrap (e' - (LT : Int)) = e' - (LT : Int) := by unfold IntKind.wrap; simp [IntKind.signed, IntKind.bits]; omega
  have hs5 := g5.size
  have y5 : w5.cell? ⟨g, 5, none⟩ = some (.bool ne) := (HS0.out.later g5).cell 5 rfl
  have y8 : w5.cell? ⟨g, 8, none⟩ = some (.bool big) := (HS0.out.later g5).cell 8 rfl
  have hl1 := HS1.out.lt
  have B5 : Hid (Bk w5 (g + 1) 28 zero5) := HS1.out.later g5
  have n0 : ¬ g = w5.heap.size := by omega
  have n0' : ¬ w5.heap.size = g := by omega
  have n1 : ¬ g + 1 = w5.heap.size := by omega
  have n1' : ¬ w5.heap.size = g + 1 := by omega
  have m0 : g < w5.heap.size := by omega
  have m1 : g + 1 < w5.heap.size := by omega
  have z0 := B5.out.cell 0 rfl
  have zf0 := B5.out.frozen 0
  have z1 := B5.out.cell 1 rfl
  have zf1 := B5.out.frozen 1
  have z2 := B5.out.cell 2 rfl
  have zf2 := B5.out.frozen 2
  have z3 := B5.out.cell 3 rfl
  have zf3 := B5.out.frozen 3
  have z4 := B5.out.cell 4 rfl
  have zf4 := B5.out.frozen 4
  cases ne
  · cases big
    · skip
      go_wp2
      have K6 : Hid (Bk (w5.alloc (.cells #[.int .i64 1, .bool NB, .string (str BB), .int .i64 (e' - (LT : Int)), .string (ByteArray.mk #[])] 28)) w5.heap.size 28 #[.int .i64 1, .bool NB, .string (str BB), .int .i64 (e' - (LT : Int)), .string (ByteArray.mk #[])]) := Bk.new w5 28 #[.int .i64 1, .bool NB, .string (str BB), .int .i64 (e' - (LT : Int)), .string (ByteArray.mk #[])]
      have g6 : Below w0.heap.size w0 (w5.alloc (.cells #[.int .i64 1, .bool NB, .string (str BB), .int .i64 (e' - (LT : Int)), .string (ByteArray.mk #[])] 28)) := g5.alloc g5.size _
      have Z6 : Hid (Bk (w5.alloc (.cells #[.int .i64 1, .bool NB, .string (str BB), .int .i64 (e' - (LT : Int)), .string (ByteArray.mk #[])] 28)) (g + 1) 28 zero5) := HS1.out.later g6
      generalize w5.alloc (.cells #[.int .i64 1, .bool NB, .string (str BB), .int .i64 (e' - (LT : Int)), .string (ByteArray.mk #[])] 28) = w6 at *
      clear y5 y8 z0 z1 z2 z3 z4 zf0 zf1 zf2 zf3 zf4
      have z0 := Z6.out.cell 0 rfl
      have zf0 := Z6.out.frozen 0
      have v0 := K6.out.cell 0 rfl
      have z1 := Z6.out.cell 1 rfl
      have zf1 := Z6.out.frozen 1
      have v1 := K6.out.cell 1 rfl
      have z2 := Z6.out.cell 2 rfl
      have zf2 := Z6.out.frozen 2
      have v2 := K6.out.cell 2 rfl
      have z3 := Z6.out.cell 3 rfl
      have zf3 := Z6.out.frozen 3
      have v3 := K6.out.cell 3 rfl
      have z4 := Z6.out.cell 4 rfl
      have zf4 := Z6.out.frozen 4
      have v4 := K6.out.cell 4 rfl
      clear HS0 B5
      have HX : Hid (SS ++ BD ++ ByteArray.mk #[101] ++ XX = str (mdS 0 s h t pt false false (exL e' plus))) := by (show _ = _; rw [HRS.out]; rw [← HXX.out, ByteArray.append_assoc]; show _ ++ (str [101] ++ str _) = _; rw [cat_str9]; rfl)
      go_region
      go_wp2
      have hdr : ∀ (N : Nat) (x : World), Below N x x.drew := fun N x => ⟨rfl, rfl, rfl, Nat.le_refl _, fun _ _ => rfl⟩
      refine bodyPost_ret (results_tc rfl _ _ (g + 1) 28 #[.int .i64 1, .bool NB, .string (str BB), .int .i64 (e' - (LT : Int)), .string (ByteArray.mk #[])] _ rfl ((Bk.all5 Z6.out _ _ _ _ _).later (hdr _ _)) Tryd.underlying28 rfl (by kernel_rfl)) rfl ?_
      refine ⟨?_, ?_⟩
      · rw [HN.out, ← HX.out]
        rfl
      · rw [HG.out]
        exact (Tn.below (HBL.out.trans (g6.mono (by omega))) (Tn.all5 ..) (by omega) (by rw [HG.out]; exact Nat.le_refl _)).trans (hdr _ _)
    · skip
      go_wp2
      have K6 : Hid (Bk (w5.alloc (.cells #[.int .i64 1, .bool NB, .string (str BB), .int .i64 (e' - (LT : Int)), .string (ByteArray.mk #[])] 28)) w5.heap.size 28 #[.int .i64 1, .bool NB, .string (str BB), .int .i64 (e' - (LT : Int)), .string (ByteArray.mk #[])]) := Bk.new w5 28 #[.int .i64 1, .bool NB, .string (str BB), .int .i64 (e' - (LT : Int)), .string (ByteArray.mk #[])]
      have g6 : Below w0.heap.size w0 (w5.alloc (.cells #[.int .i64 1, .bool NB, .string (str BB), .int .i64 (e' - (LT : Int)), .string (ByteArray.mk #[])] 28)) := g5.alloc g5.size _
      have Z6 : Hid (Bk (w5.alloc (.cells #[.int .i64 1, .bool NB, .string (str BB), .int .i64 (e' - (LT : Int)), .string (ByteArray.mk #[])] 28)) (g + 1) 28 zero5) := HS1.out.later g6
      generalize w5.alloc (.cells #[.int .i64 1, .bool NB, .string (str BB), .int .i64 (e' - (LT : Int)), .string (ByteArray.mk #[])] 28) = w6 at *
      clear y5 y8 z0 z1 z2 z3 z4 zf0 zf1 zf2 zf3 zf4
      have z0 := Z6.out.cell 0 rfl
      have zf0 := Z6.out.frozen 0
      have v0 := K6.out.cell 0 rfl
      have z1 := Z6.out.cell 1 rfl
      have zf1 := Z6.out.frozen 1
      have v1 := K6.out.cell 1 rfl
      have z2 := Z6.out.cell 2 rfl
      have zf2 := Z6.out.frozen 2
      have v2 := K6.out.cell 2 rfl
      have z3 := Z6.out.cell 3 rfl
      have zf3 := Z6.out.frozen 3
      have v3 := K6.out.cell 3 rfl
      have z4 := Z6.out.cell 4 rfl
      have zf4 := Z6.out.frozen 4
      have v4 := K6.out.cell 4 rfl
      clear HS0 B5
      have HX : Hid (SS ++ BD ++ ByteArray.mk #[69] ++ XX = str (mdS 0 s h t pt false true (exL e' plus))) := by (show _ = _; rw [HRS.out]; rw [← HXX.out, ByteArray.append_assoc]; show _ ++ (str [69] ++ str _) = _; rw [cat_str9]; rfl)
      go_region
      go_wp2
      have hdr : ∀ (N : Nat) (x : World), Below N x x.drew := fun N x => ⟨rfl, rfl, rfl, Nat.le_refl _, fun _ _ => rfl⟩
      refine bodyPost_ret (results_tc rfl _ _ (g + 1) 28 #[.int .i64 1, .bool NB, .string (str BB), .int .i64 (e' - (LT : Int)), .string (ByteArray.mk #[])] _ rfl ((Bk.all5 Z6.out _ _ _ _ _).later (hdr _ _)) Tryd.underlying28 rfl (by kernel_rfl)) rfl ?_
      refine ⟨?_, ?_⟩
      · rw [HN.out, ← HX.out]
        rfl
      · rw [HG.out]
        exact (Tn.below (HBL.out.trans (g6.mono (by omega))) (Tn.all5 ..) (by omega) (by rw [HG.out]; exact Nat.le_refl _)).trans (hdr _ _)
  · have hw2 : IntKind.i64.wrap (-(LT : Int)) = -(LT : Int) := by unfold IntKind.wrap; simp [IntKind.signed, IntKind.bits]; omega
    go_wp2
    have K6 : Hid (Bk (w5.alloc (.cells #[.int .i64 1, .bool NB, .string (str BB), .int .i64 (-(LT : Int)), .string (ByteArray.mk #[])] 28)) w5.heap.size 28 #[.int .i64 1, .bool NB, .string (str BB), .int .i64 (-(LT : Int)), .string (ByteArray.mk #[])]) := Bk.new w5 28 #[.int .i64 1, .bool NB, .string (str BB), .int .i64 (-(LT : Int)), .string (ByteArray.mk #[])]
    have g6 : Below w0.heap.size w0 (w5.alloc (.cells #[.int .i64 1, .bool NB, .string (str BB), .int .i64 (-(LT : Int)), .string (ByteArray.mk #[])] 28)) := g5.alloc g5.size _
    have Z6 : Hid (Bk (w5.alloc (.cells #[.int .i64 1, .bool NB, .string (str BB), .int .i64 (-(LT : Int)), .string (ByteArray.mk #[])] 28)) (g + 1) 28 zero5) := HS1.out.later g6
    generalize w5.alloc (.cells #[.int .i64 1, .bool NB, .string (str BB), .int .i64 (-(LT : Int)), .string (ByteArray.mk #[])] 28) = w6 at *
    clear y5 y8 z0 z1 z2 z3 z4 zf0 zf1 zf2 zf3 zf4
    have z0 := Z6.out.cell 0 rfl
    have zf0 := Z6.out.frozen 0
    have v0 := K6.out.cell 0 rfl
    have z1 := Z6.out.cell 1 rfl
    have zf1 := Z6.out.frozen 1
    have v1 := K6.out.cell 1 rfl
    have z2 := Z6.out.cell 2 rfl
    have zf2 := Z6.out.frozen 2
    have v2 := K6.out.cell 2 rfl
    have z3 := Z6.out.cell 3 rfl
    have zf3 := Z6.out.frozen 3
    have v3 := K6.out.cell 3 rfl
    have z4 := Z6.out.cell 4 rfl
    have zf4 := Z6.out.frozen 4
    have v4 := K6.out.cell 4 rfl
    clear HS0 B5
    have HX : Hid (SS ++ BD = str (mdS 0 s h t pt true big (exL e' plus))) := by (show _ = _; rw [HRS.out]; show SS ++ BD = SS ++ BD ++ str []; apply ByteArray.ext; simp [str])
    go_region
    go_wp2
    have hdr : ∀ (N : Nat) (x : World), Below N x x.drew := fun N x => ⟨rfl, rfl, rfl, Nat.le_refl _, fun _ _ => rfl⟩
    refine bodyPost_ret (results_tc rfl _ _ (g + 1) 28 #[.int .i64 1, .bool NB, .string (str BB), .int .i64 (-(LT : Int)), .string (ByteArray.mk #[])] _ rfl ((Bk.all5 Z6.out _ _ _ _ _).later (hdr _ _)) Tryd.underlying28 rfl (by kernel_rfl)) rfl ?_
    refine ⟨?_, ?_⟩
    · rw [HN.out, ← HX.out]
      rfl
    · rw [HG.out]
      exact (Tn.below (HBL.out.trans (g6.mono (by omega))) (Tn.all5 ..) (by omega) (by rw [HG.out]; exact Nat.le_refl _)).trans (hdr _ _)
end Go.Proofs.YtiicphkpmdidaaaDoor

/- plumblaw09: a piece is made: kind 1. -/
namespace Go.Proofs.YtiicphkpmdidaaaDoor
open Go.ChangeShapes Go.WideShapes Go.ChangeAt Go.RowKit
open Lx
set_option linter.unusedVariables false
set_option maxHeartbeats 3200000 in
set_option maxRecDepth 100000 in
theorem made9_k1 {w : World} {kd sg e : Int} {a1 a2 : Option Addr} {n1 c1 n2 c2 : Nat} {z1 z2 : List Int} (hr1 : RowAt .i64 w a1 n1 z1) (hr2 : RowAt .i64 w a2 n2 z2) (hn1 : n1 ≤ 9223372036854775807) (hn2 : n2 ≤ 9223372036854775807) (pt ne plus big : Bool)
    (hk : kd % 3 = 1) {s h t : B} (hs : sgL (sg % 3 - 1) plus = s) (hh : dgL 16 big z1 = h) (ht : dgL 16 big z2 = t) {e' : Int} (he : e.tmod 100000 = e') :
    Calls Tryd.prog 10 #[.agg (pieA kd sg (.slice a1 n1 c1) (.slice a2 n2 c2) pt ne e plus big)] w fun r w' =>
      r = .returned (.tuple #[.string (str (mdS 1 s h t pt ne big (exL e' plus))), .agg (nmA (mdN 1 s h t ne e'))]) ∧ Below w.heap.size w w' := by
  have hI1 := fun w => into9_any (n := kd) (top := 3) (by omega) (by omega) w
  have hI2 := fun w => into9_any (n := sg) (top := 3) (by omega) (by omega) w
  have hS := fun w => lawSign9_any (sg % 3 - 1) plus w
  rw [hs] at hS
  rw [hk] at hI1
  have hm0 := Int.emod_nonneg sg (show (3 : Int) ≠ 0 by omega)
  have hm1 := Int.emod_lt_of_pos sg (show (0 : Int) < 3 by omega)
  have hsl : (str s).size ≤ 1 := by rw [str_size, ← hs]; rcases sgL_cases (sg % 3 - 1) plus with q | q | q <;> rw [q] <;> simp
  have hhl : h.length ≤ 40 := by rw [← hh]; exact dgL_len
  have htl : t.length ≤ 40 := by rw [← ht]; exact dgL_len
  have HNEG : Hid (((str s).toList == [45]) = decide (s = [45])) := by
    rcases sgL_cases (sg % 3 - 1) plus with q | q | q <;> (rw [hs] at q; rw [q, Lib.toList_data, str_list]; rfl)
  generalize sg % 3 = q at *
  have hqw : IntKind.i64.wrap (q - 1) = q - 1 := by unfold IntKind.wrap; simp [IntKind.signed, IntKind.bits]; omega
  unfold pieA
  obtain ⟨w0, hw0⟩ : ∃ w0, w0 = (w.alloc (.cells #[.int .i64 kd, .int .i64 sg, .slice a1 n1 c1, .slice a2 n2 c2, .bool pt, .bool ne, .int .i64 e, .bool plus, .bool big] 39)).alloc (.cells zero5 28) := ⟨_, rfl⟩
  have hbl0 : Below w.heap.size w w0 := by rw [hw0]; exact ((Below.refl _ w).alloc (Nat.le_refl _) _).alloc (by simp) _
  have hst0 : Bk w0 w.heap.size 39 #[.int .i64 kd, .int .i64 sg, .slice a1 n1 c1, .slice a2 n2 c2, .bool pt, .bool ne, .int .i64 e, .bool plus, .bool big] := by
    rw [hw0]; exact (Bk.new w _ _).later ((Below.refl _ _).alloc (Nat.le_refl _) _)
  have hst1 : Bk w0 (w.heap.size + 1) 28 zero5 := by
    have := Bk.new (w.alloc (.cells #[.int .i64 kd, .int .i64 sg, .slice a1 n1 c1, .slice a2 n2 c2, .bool pt, .bool ne, .int .i64 e, .bool plus, .bool big] 39)) 28 zero5
    rw [World.size_alloc] at this
    rw [hw0]
    exact this
  have hD1 : ∀ w1, Below w0.heap.size w0 w1 → Calls Tryd.prog 5 #[.slice a1 n1 c1, .int .i64 16, .bool big] w1 fun r w' => r = .returned (.string (str h)) ∧ Below w1.heap.size w1 w' := fun w1 hb => by
    rw [← hh]; exact digits9_any ((hr1.later hbl0).later hb) hn1 (by omega) (by omega) big
  have hD2 : ∀ w1, Below w0.heap.size w0 w1 → Calls Tryd.prog 5 #[.slice a2 n2 c2, .int .i64 16, .bool big] w1 fun r w' => r = .returned (.string (str t)) ∧ Below w1.heap.size w1 w' := fun w1 hb => by
    rw [← ht]; exact digits9_any ((hr2.later hbl0).later hb) hn2 (by omega) (by omega) big
  unfold zero5 at hw0
  obtain ⟨g, hg⟩ : ∃ g, g = w.heap.size := ⟨_, rfl⟩
  have HG : Hid (w.heap.size = g) := hg.symm
  rw [← hg] at hst0 hst1 hbl0
  have hgl := hst0.lt
  have HS0 : Hid (Bk w0 g 39 #[.int .i64 kd, .int .i64 sg, .slice a1 n1 c1, .slice a2 n2 c2, .bool pt, .bool ne, .int .i64 e, .bool plus, .bool big]) := hst0
  have HS1 : Hid (Bk w0 (g + 1) 28 zero5) := hst1
  have hcl : ∀ w1, Below w0.heap.size w0 w1 → w1.cell? ⟨g, 2, none⟩ = some (.slice a1 n1 c1) ∧ w1.cell? ⟨g, 3, none⟩ = some (.slice a2 n2 c2) ∧ w1.cell? ⟨g, 8, none⟩ = some (.bool big) :=
    fun w1 h => ⟨(HS0.out.later h).cell 2 rfl, (HS0.out.later h).cell 3 rfl, (HS0.out.later h).cell 8 rfl⟩
  have x0 : w0.cell? ⟨g, 0, none⟩ = some (.int .i64 kd) := hst0.cell 0 rfl
  have x1 : w0.cell? ⟨g, 1, none⟩ = some (.int .i64 sg) := hst0.cell 1 rfl
  have x7 : w0.cell? ⟨g, 7, none⟩ = some (.bool plus) := hst0.cell 7 rfl
  have HE : Hid (e.tmod 100000 = e') := he
  have HBL : Hid (Below g w w0) := hbl0
  clear hst0 hst1 hs hk he hh ht hr1 hr2 hn1 hn2 hbl0
  generalize hSS : str s = SS at *
  go_enter Tryd.func10, Tryd.ntmps10
  go_wp2_with fail
  rw [← hw0, ← hg]
  clear hw0 hg
  refine (hI1 _).mono ?_
  rintro r w1 ⟨rfl, hw1⟩
  rw [hw1]
  clear hI1 hw1
  go_wp2_with fail
  go_quiet ((first | (go_at_call 6; exact Calls.quiet_of_same (hI2 _)) | (go_at_call 20; exact Calls.quiet_of_same (hS _))))
  go_upto_region 7 with fail
  obtain ⟨w2, hw2⟩ : ∃ w2, w2 = w0.drewN nq := ⟨_, rfl⟩
  have hB2 : Below w0.heap.size w0 w2 := by rw [hw2]; exact below_drewN (Below.refl _ w0) nq
  rw [← hw2]
  clear hw2
  obtain ⟨x2, x3, x8⟩ := hcl w2 hB2
  go_cut [8, 9] (fun v8 v9 wx => v8 = .string (str h) ∧ v9 = .string (str t) ∧ Below w0.heap.size w0 wx)
  case first =>
    go_region_held3 (fun w1 => w1.cell? ⟨g, 2, none⟩ = some (.slice a1 n1 c1) ∧ w1.cell? ⟨g, 3, none⟩ = some (.slice a2 n2 c2) ∧ w1.cell? ⟨g, 8, none⟩ = some (.bool big)) (go_keep) (first | (go_at_call_of 5 a1; refine (hD1 _ (by first | exact hB2 | exact hB2.trans (below_drewN (Below.refl _ _) _))).mono ?_; rintro r wX ⟨rfl, hbX⟩; have hBX : Below w0.heap.size w0 wX := (by first | exact hB2.trans (hbX.mono hB2.size) | exact (hB2.trans (below_drewN (Below.refl _ _) _)).trans (hbX.mono hB2.size)); obtain ⟨y2, y3, y8⟩ := hcl wX hBX) | (go_at_call_of 5 a2; refine (hD2 _ (by first | exact hBX | exact hBX.trans (below_drewN (Below.refl _ _) _))).mono ?_; rintro r wY ⟨rfl, hbY⟩; have hBY : Below w0.heap.size w0 wY := (by first | exact hBX.trans (hbY.mono hBX.size) | exact (hBX.trans (below_drewN (Below.refl _ _) _)).trans (hbY.mono hBX.size)); obtain ⟨y2, y3, y8⟩ := hcl wY hBY))
    all_goals (go_wp2_with fail)
    all_goals go_meet
    all_goals exact ⟨rfl, rfl, hBY⟩
  obtain ⟨rfl, rfl, hBc⟩ := hcut
  clear x0 x1 x7 x2 x3 x8 hcl hD1 hD2 hI2 hS hB2
  rw [HNEG.out]
  clear HNEG
  generalize hNB : decide (s = [45]) = NB at *
  have HNB : Hid (decide (s = [45]) = NB) := hNB
  have HSS : Hid (str s = SS) := hSS
  clear hNB hSS
  have e0 : ∀ l : B, l = [] → str l = ByteArray.mk #[] := fun l q => by rw [q]; rfl
  go_upto_region 14 with fail
  go_cut [64] (fun v wx => v = .bool (decide (h = [] ∧ t = [])) ∧ wx = wc)
  case first =>
    by_cases h0 : h = [] <;> by_cases t0 : t = []
    all_goals
      first | (have hE1 : (str h).toList.isEmpty = true := by (rw [str_empty, h0]; rfl)) | (have hE1 : (str h).toList.isEmpty = false := by (rw [str_empty]; exact isEmpty_ne h0))
      first | (have hE2 : (str t).toList.isEmpty = true := by (rw [str_empty, t0]; rfl)) | (have hE2 : (str t).toList.isEmpty = false := by (rw [str_empty]; exact isEmpty_ne t0))
      have HD : Hid (decide (h = [] ∧ t = []) = ((str h).toList.isEmpty && (str t).toList.isEmpty)) := by (show _ = _; rw [hE1, hE2]; simp [h0, t0])
      rw [hE1, hE2] at HD
      clear h0 t0
      go_wp2
      go_meet
      exact ⟨by rw [HD.out]; rfl, rfl⟩
  obtain ⟨rfl, rfl⟩ := hcut
  have HMH0 : Hid (mdHead 1 h t = if h = [] ∧ t = [] then [48] else h) := rfl
  go_upto_if 64 with fail
  go_cut [8] (fun v wx => v = .string (str (mdHead 1 h t)) ∧ wx = wc)
  case first =>
    by_cases hc : h = [] ∧ t = []
    · have d : decide (h = [] ∧ t = []) = true := decide_eq_true hc
      have HM : Hid (str (mdHead 1 h t) = ByteArray.mk #[48]) := by (show _ = _; rw [HMH0.out, if_pos hc]; rfl)
      generalize decide (h = [] ∧ t = []) = D at *
      subst d
      clear hc
      go_wp2
      go_meet
      exact ⟨by rw [HM.out], rfl⟩
    · have d : decide (h = [] ∧ t = []) = false := decide_eq_false hc
      have HM : Hid (mdHead 1 h t = h) := by (show _ = _; rw [HMH0.out, if_neg hc])
      generalize decide (h = [] ∧ t = []) = D at *
      subst d
      clear hc
      go_wp2
      go_meet
      exact ⟨by rw [HM.out], rfl⟩
  obtain ⟨rfl, rfl⟩ := hcut
  have hml : (mdHead 1 h t).length ≤ 40 := by (rw [HMH0.out]; split; simp; exact hhl)
  clear HMH0
  have y4 : wc.cell? ⟨g, 4, none⟩ = some (.bool pt) := (HS0.out.later hBc).cell 4 rfl
  go_upto_region 17 with fail
  go_cut [71] (fun v wx => v = .bool (mdPt t pt) ∧ wx = wc)
  case first =>
    by_cases t0 : t = []
    · have hE2 : (str t).toList.isEmpty = true := by (rw [str_empty, t0]; rfl)
      have HP : Hid (mdPt t pt = pt) := by (rw [t0]; rfl)
      clear t0
      go_wp2
      go_meet
      exact ⟨by rw [HP.out], rfl⟩
    · have hE2 : (str t).toList.isEmpty = false := by (rw [str_empty]; exact isEmpty_ne t0)
      have HP : Hid (mdPt t pt = true) := by (show _ = _; unfold mdPt; rw [isEmpty_ne t0]; rfl)
      clear t0
      go_wp2
      go_meet
      exact ⟨by rw [HP.out], rfl⟩
  obtain ⟨rfl, rfl⟩ := hcut
  clear y4
  go_upto_if 71 with fail
  go_cut [10] (fun v wx => v = .string (str (mdHead 1 h t ++ (if mdPt t pt = true then 46 :: t else []))) ∧ wx = wc)
  case first =>
    have HB : Hid (str (mdHead 1 h t) ++ ByteArray.mk #[46] ++ str t = str (mdHead 1 h t ++ (46 :: t))) := by
      show str (mdHead 1 h t) ++ str [46] ++ str t = _
      rw [cat_str9, cat_str9]
      simp
    have hz1 : (str (mdHead 1 h t)).size ≤ 40 := by (rw [str_size]; exact hml)
    have hz2 : (str t).size ≤ 40 := by (rw [str_size]; exact htl)
    by_cases hp : mdPt t pt = true
    · have HP : Hid (str (mdHead 1 h t ++ (if mdPt t pt = true then 46 :: t else [])) = str (mdHead 1 h t) ++ ByteArray.mk #[46] ++ str t) := by (show _ = _; rw [if_pos hp, HB.out])
      generalize mdPt t pt = D at *
      subst hp
      go_wp2
      go_meet
      exact ⟨by rw [HP.out], rfl⟩
    · have HP : Hid (mdHead 1 h t ++ (if mdPt t pt = true then 46 :: t else []) = mdHead 1 h t) := by (show _ = _; rw [if_neg hp, List.append_nil])
      have hp' : mdPt t pt = false := by simpa using hp
      generalize mdPt t pt = D at *
      subst hp'
      clear hp
      go_wp2
      go_meet
      exact ⟨by rw [HP.out], rfl⟩
  obtain ⟨rfl, rfl⟩ := hcut
  have hz6 : (str (mdHead 1 h t ++ (if mdPt t pt = true then 46 :: t else []))).size ≤ 90 := by
    rw [str_size, List.length_append]
    split
    · rw [List.length_cons]; omega
    · rw [List.length_nil]; omega
  have HRS : Hid (str (mdS 1 s h t pt ne big (exL e' plus)) = SS ++ ByteArray.mk #[48, if big = true then 88 else 120] ++ str (mdHead 1 h t ++ (if mdPt t pt = true then 46 :: t else [])) ++ str (mdExp ne big 1 (exL e' plus))) := by
    show _ = _
    rw [← HSS.out, mdS_1]
    show _ = str s ++ str [48, if big = true then 88 else 120] ++ _ ++ _
    rw [cat_str9, cat_str9, cat_str9]
    simp [List.append_assoc]
  generalize str (mdHead 1 h t ++ (if mdPt t pt = true then 46 :: t else [])) = BD at *
  have hEe := HE.out
  have he0 : -100000 < e' := by (rw [← hEe]; exact Int.lt_tmod_of_pos e (by omega))
  have he1 : e' < 100000 := by (rw [← hEe]; exact Int.tmod_lt_of_pos e (by omega))
  have y6 : wc.cell? ⟨g, 6, none⟩ = some (.int .i64 e) := (HS0.out.later hBc).cell 6 rfl
  go_upto_if 81 with fail
  go_cut [12] (fun v wx => v = .int .i64 (e'.natAbs : Int) ∧ wx = wc)
  case first =>
    by_cases hn : e' < 0
    · have d : decide (e' < 0) = true := decide_eq_true hn
      have HA : Hid ((e'.natAbs : Int) = -e') := by (show _ = _; omega)
      go_wp2
      go_meet
      exact ⟨by rw [HA.out], rfl⟩
    · have d : decide (e' < 0) = false := decide_eq_false hn
      have HA : Hid ((e'.natAbs : Int) = e') := by (show _ = _; omega)
      go_wp2
      go_meet
      exact ⟨by rw [HA.out], rfl⟩
  obtain ⟨rfl, rfl⟩ := hcut
  clear y6 hEe
  have y7 : wc.cell? ⟨g, 7, none⟩ = some (.bool plus) := (HS0.out.later hBc).cell 7 rfl
  have hSx := fun w => lawSign9_any e' plus w
  have hNx := fun w => number9_any 5 (by omega) e'.natAbs (by omega) (by omega) w
  have hc1 : str (sgL e' plus) ++ str (decF 5 e'.natAbs) = str (exL e' plus) := cat_str9 _ _
  have hc2 : str (mdHead 1 h t) ++ str t = str (mdHead 1 h t ++ t) := cat_str9 _ _
  have hBr : ∀ w, Calls Tryd.prog 21 #[.string (str (mdHead 1 h t ++ t))] w fun r w' => r = .returned (.string (str (bareR (mdHead 1 h t ++ t)))) ∧ Below w.heap.size w w' := fun w => by
    have := lawBare9_any (str (mdHead 1 h t ++ t)) (by rw [str_size, List.length_append]; omega) w
    rw [str_list] at this; exact this
  have hz1 : (str (sgL e' plus)).size ≤ 1 := by (rw [str_size]; rcases sgL_cases e' plus with q | q | q <;> rw [q] <;> simp)
  have hz2 : (str (decF 5 e'.natAbs)).size ≤ 6 := by (rw [str_size]; exact (decF_D 5 _ (by omega)).2.2)
  have hz3 : (str (exL e' plus)).size ≤ 7 := by (rw [str_size]; exact (exL_ok (by omega) plus).2.2)
  have hz4 : (str (mdHead 1 h t)).size ≤ 40 := by (rw [str_size]; exact hml)
  have hz5 : (str t).size = t.length := str_size t
  have HN : Hid (mdN 1 s h t ne e' = ⟨2, NB, bareR (mdHead 1 h t ++ t), e' - 4 * t.length, []⟩) := by
    show _ = _
    rw [mdN_1, HNB.out]
  have hlt : t.length ≤ 40 := htl
  generalize hLT : t.length = LT at *
  have HLT : Hid (t.length = LT) := hLT
  clear hLT
  generalize str (sgL e' plus) = X1 at *
  generalize str (decF 5 e'.natAbs) = X2 at *
  generalize hXX : str (exL e' plus) = XX at *
  have HXX : Hid (str (exL e' plus) = XX) := hXX
  clear hXX
  generalize str (mdHead 1 h t ++ t) = MT at *
  generalize str (mdHead 1 h t) = MH at *
  generalize str t = TL at *
  generalize hBB : bareR (mdHead 1 h t ++ t) = BB at *
  clear hBB hhl htl hml HSS
  go_wp2_with fail
  refine (hSx _).mono ?_
  rintro r w3 ⟨rfl, hw3⟩
  rw [hw3]
  clear hw3 hSx y7
  go_wp2_with fail
  refine (hNx _).mono ?_
  rintro r w4 ⟨rfl, b4⟩
  have g4 := hBc.trans (b4.mono hBc.size)
  clear hNx b4
  go_wp2_with fail
  refine (hBr _).mono ?_
  rintro r w5 ⟨rfl, b5⟩
  have g5 := g4.trans (b5.mono g4.size)
  clear hBr b5 g4
  have hw1 : IntKind.i64.wrap (e' - (LT : Int)) = e' - (LT : Int) := by unfold IntKind.wrap; simp [IntKind.signed, IntKind.bits]; omega
  have hs5 := g5.size
  have y5 : w5.cell? ⟨g, 5, none⟩ = some (.bool ne) := (HS0.out.later g5).cell 5 rfl
  have y8 : w5.cell? ⟨g, 8, none⟩ = some (.bool big) := (HS0.out.later g5).cell 8 rfl
  have hl1 := HS1.out.lt
  have B5 : Hid (Bk w5 (g + 1) 28 zero5) := HS1.out.later g5
  have n0 : ¬ g = w5.heap.size := by omega
  have n0' : ¬ w5.heap.size = g := by omega
  have n1 : ¬ g + 1 = w5.heap.size := by omega
  have n1' : ¬ w5.heap.size = g + 1 := by omega
  have m0 : g < w5.heap.size := by omega
  have m1 : g + 1 < w5.heap.size := by omega
  have z0 := B5.out.cell 0 rfl
  have zf0 := B5.out.frozen 0
  have z1 := B5.out.cell 1 rfl
  have zf1 := B5.out.frozen 1
  have z2 := B5.out.cell 2 rfl
  have zf2 := B5.out.frozen 2
  have z3 := B5.out.cell 3 rfl
  have zf3 := B5.out.frozen 3
  have z4 := B5.out.cell 4 rfl
  have zf4 := B5.out.frozen 4
  have hw2 : IntKind.i64.wrap (4 * (LT : Int)) = 4 * (LT : Int) := by unfold IntKind.wrap; simp [IntKind.signed, IntKind.bits]; omega
  have hw3 : IntKind.i64.wrap (e' - 4 * (LT : Int)) = e' - 4 * (LT : Int) := by unfold IntKind.wrap; simp [IntKind.signed, IntKind.bits]; omega
  cases big
  · skip
    go_wp2
    have K6 : Hid (Bk (w5.alloc (.cells #[.int .i64 2, .bool NB, .string (str BB), .int .i64 (e' - 4 * (LT : Int)), .string (ByteArray.mk #[])] 28)) w5.heap.size 28 #[.int .i64 2, .bool NB, .string (str BB), .int .i64 (e' - 4 * (LT : Int)), .string (ByteArray.mk #[])]) := Bk.new w5 28 #[.int .i64 2, .bool NB, .string (str BB), .int .i64 (e' - 4 * (LT : Int)), .string (ByteArray.mk #[])]
    have g6 : Below w0.heap.size w0 (w5.alloc (.cells #[.int .i64 2, .bool NB, .string (str BB), .int .i64 (e' - 4 * (LT : Int)), .string (ByteArray.mk #[])] 28)) := g5.alloc g5.size _
    have Z6 : Hid (Bk (w5.alloc (.cells #[.int .i64 2, .bool NB, .string (str BB), .int .i64 (e' - 4 * (LT : Int)), .string (ByteArray.mk #[])] 28)) (g + 1) 28 zero5) := HS1.out.later g6
    generalize w5.alloc (.cells #[.int .i64 2, .bool NB, .string (str BB), .int .i64 (e' - 4 * (LT : Int)), .string (ByteArray.mk #[])] 28) = w6 at *
    clear y5 y8 z0 z1 z2 z3 z4 zf0 zf1 zf2 zf3 zf4
    have z0 := Z6.out.cell 0 rfl
    have zf0 := Z6.out.frozen 0
    have v0 := K6.out.cell 0 rfl
    have z1 := Z6.out.cell 1 rfl
    have zf1 := Z6.out.frozen 1
    have v1 := K6.out.cell 1 rfl
    have z2 := Z6.out.cell 2 rfl
    have zf2 := Z6.out.frozen 2
    have v2 := K6.out.cell 2 rfl
    have z3 := Z6.out.cell 3 rfl
    have zf3 := Z6.out.frozen 3
    have v3 := K6.out.cell 3 rfl
    have z4 := Z6.out.cell 4 rfl
    have zf4 := Z6.out.frozen 4
    have v4 := K6.out.cell 4 rfl
    clear HS0 B5
    have HX : Hid (SS ++ ByteArray.mk #[48, 120] ++ BD ++ ByteArray.mk #[112] ++ XX = str (mdS 1 s h t pt ne false (exL e' plus))) := by (show _ = _; rw [HRS.out]; rw [← HXX.out, ByteArray.append_assoc]; show _ ++ (str [112] ++ str _) = _; rw [cat_str9]; rfl)
    go_region
    go_wp2
    have hdr : ∀ (N : Nat) (x : World), Below N x x.drew := fun N x => ⟨rfl, rfl, rfl, Nat.le_refl _, fun _ _ => rfl⟩
    refine bodyPost_ret (results_tc rfl _ _ (g + 1) 28 #[.int .i64 2, .bool NB, .string (str BB), .int .i64 (e' - 4 * (LT : Int)), .string (ByteArray.mk #[])] _ rfl ((Bk.all5 Z6.out _ _ _ _ _).later (hdr _ _)) Tryd.underlying28 rfl (by kernel_rfl)) rfl ?_
    refine ⟨?_, ?_⟩
    · rw [HN.out, ← HX.out]
      rfl
    · rw [HG.out]
      exact (Tn.below (HBL.out.trans (g6.mono (by omega))) (Tn.all5 ..) (by omega) (by rw [HG.out]; exact Nat.le_refl _)).trans (hdr _ _)
  · skip
    go_wp2
    have K6 : Hid (Bk (w5.alloc (.cells #[.int .i64 2, .bool NB, .string (str BB), .int .i64 (e' - 4 * (LT : Int)), .string (ByteArray.mk #[])] 28)) w5.heap.size 28 #[.int .i64 2, .bool NB, .string (str BB), .int .i64 (e' - 4 * (LT : Int)), .string (ByteArray.mk #[])]) := Bk.new w5 28 #[.int .i64 2, .bool NB, .string (str BB), .int .i64 (e' - 4 * (LT : Int)), .string (ByteArray.mk #[])]
    have g6 : Below w0.heap.size w0 (w5.alloc (.cells #[.int .i64 2, .bool NB, .string (str BB), .int .i64 (e' - 4 * (LT : Int)), .string (ByteArray.mk #[])] 28)) := g5.alloc g5.size _
    have Z6 : Hid (Bk (w5.alloc (.cells #[.int .i64 2, .bool NB, .string (str BB), .int .i64 (e' - 4 * (LT : Int)), .string (ByteArray.mk #[])] 28)) (g + 1) 28 zero5) := HS1.out.later g6
    generalize w5.alloc (.cells #[.int .i64 2, .bool NB, .string (str BB), .int .i64 (e' - 4 * (LT : Int)), .string (ByteArray.mk #[])] 28) = w6 at *
    clear y5 y8 z0 z1 z2 z3 z4 zf0 zf1 zf2 zf3 zf4
    have z0 := Z6.out.cell 0 rfl
    have zf0 := Z6.out.frozen 0
    have v0 := K6.out.cell 0 rfl
    have z1 := Z6.out.cell 1 rfl
    have zf1 := Z6.out.frozen 1
    have v1 := K6.out.cell 1 rfl
    have z2 := Z6.out.cell 2 rfl
    have zf2 := Z6.out.frozen 2
    have v2 := K6.out.cell 2 rfl
    have z3 := Z6.out.cell 3 rfl
    have zf3 := Z6.out.frozen 3
    have v3 := K6.out.cell 3 rfl
    have z4 := Z6.out.cell 4 rfl
    have zf4 := Z6.out.frozen 4
    have v4 := K6.out.cell 4 rfl
    clear HS0 B5
    have HX : Hid (SS ++ ByteArray.mk #[48, 88] ++ BD ++ ByteArray.mk #[80] ++ XX = str (mdS 1 s h t pt ne true (exL e' plus))) := by (show _ = _; rw [HRS.out]; rw [← HXX.out, ByteArray.append_assoc]; show _ ++ (str [80] ++ str _) = _; rw [cat_str9]; rfl)
    go_region
    go_wp2
    have hdr : ∀ (N : Nat) (x : World), Below N x x.drew := fun N x => ⟨rfl, rfl, rfl, Nat.le_refl _, fun _ _ => rfl⟩
    refine bodyPost_ret (results_tc rfl _ _ (g + 1) 28 #[.int .i64 2, .bool NB, .string (str BB), .int .i64 (e' - 4 * (LT : Int)), .string (ByteArray.mk #[])] _ rfl ((Bk.all5 Z6.out _ _ _ _ _).later (hdr _ _)) Tryd.underlying28 rfl (by kernel_rfl)) rfl ?_
    refine ⟨?_, ?_⟩
    · rw [HN.out, ← HX.out]
      rfl
    · rw [HG.out]
      exact (Tn.below (HBL.out.trans (g6.mono (by omega))) (Tn.all5 ..) (by omega) (by rw [HG.out]; exact Nat.le_refl _)).trans (hdr _ _)
end Go.Proofs.YtiicphkpmdidaaaDoor

/- plumblaw09: a piece is made, and what it says. -/
namespace Go.Proofs.YtiicphkpmdidaaaDoor
open Go.ChangeShapes Go.WideShapes Go.ChangeAt Go.RowKit
open Lx
set_option linter.unusedVariables false
namespace Lx
/-- this text says this, whatever that can't go on stands behind it -/
def Reads (S : B) (N : Nm) : Prop := ∀ R : B, Stops R → (longestL (S ++ R)).kind ≠ 0 ∧ (longestL (S ++ R)).stop = S.length ∧ numOf (longestL (S ++ R)) = N
theorem mdS_len {k : Int} (hk : k = 0 ∨ k = 1 ∨ k = 2) {s h t x : B} {pt ne big : Bool} (hs : s.length ≤ 1) (hh : h.length ≤ 40) (ht : t.length ≤ 40) (hx : x.length ≤ 7) : (mdS k s h t pt ne big x).length ≤ 200 := by
  have h1 : ∀ k : Int, (mdHead k h t).length ≤ 40 := by
    intro k
    unfold mdHead
    split
    · split
      · simp
      · exact hh
    · split
      · simp
      · exact hh
  have h2 : ∀ k : Int, (mdTail k t).length ≤ 40 := by
    intro k
    unfold mdTail
    split
    · split
      · simp
      · exact ht
    · exact ht
  have h3 : (if mdPt t pt = true then 46 :: t else []).length ≤ 41 := by
    split
    · rw [List.length_cons]; omega
    · simp
  have h4 : ∀ k : Int, (mdExp ne big k x).length ≤ 8 := by
    intro k
    unfold mdExp
    split
    · rw [List.length_cons]; omega
    · split
      · simp
      · rw [List.length_cons]; omega
  rcases hk with rfl | rfl | rfl
  · rw [mdS_0]; simp only [List.length_append]; have := h1 0; have := h4 0; omega
  · rw [mdS_1]; simp only [List.length_append, List.length_cons]; have := h1 1; have := h4 1; omega
  · rw [mdS_2]; simp only [List.length_append, List.length_cons]; have := h1 2; have := h2 2; omega
theorem made_say {k q e : Int} {plus pt ne big : Bool} {z1 z2 : List Int} (hk : k = 0 ∨ k = 1 ∨ k = 2) :
    Reads (mdS k (sgL q plus) (dgL (baseOf k) big z1) (dgL (baseOf k) big z2) pt ne big (exL (e.tmod 100000) plus)) (mdN k (sgL q plus) (dgL (baseOf k) big z1) (dgL (baseOf k) big z2) ne (e.tmod 100000)) ∧
    (mdS k (sgL q plus) (dgL (baseOf k) big z1) (dgL (baseOf k) big z2) pt ne big (exL (e.tmod 100000) plus)).length ≤ 200 := by
  have he0 : -100000 < e.tmod 100000 := Int.lt_tmod_of_pos e (by omega)
  have he1 : e.tmod 100000 < 100000 := Int.tmod_lt_of_pos e (by omega)
  have hb0 : 0 < baseOf k := by unfold baseOf; split <;> omega
  have hb1 : baseOf k ≤ 16 := by unfold baseOf; split <;> omega
  obtain ⟨x1, x2, x3⟩ := exL_ok (e := e.tmod 100000) (by omega) plus
  refine ⟨fun R hR => ?_, mdS_len hk ?_ dgL_len dgL_len x3⟩
  · refine made_read hk (sgL_cases _ _) (dgL_H hb0 hb1) (dgL_H hb0 hb1) (fun hk1 => ?_) x1 x2 (exL_val (by omega) plus) (by omega) dgL_len hR
    have : baseOf k = 10 := by unfold baseOf; rw [if_neg hk1]
    rw [this]
    exact ⟨dgL_D, dgL_D⟩
  · rcases sgL_cases q plus with h | h | h <;> rw [h] <;> simp
end Lx
end Go.Proofs.YtiicphkpmdidaaaDoor

/- plumblaw09: what is written is read (alone, and at its place), and is right. -/
namespace Go.Proofs.YtiicphkpmdidaaaDoor
open Go.ChangeShapes Go.WideShapes Go.ChangeAt Go.RowKit
open Lx
set_option linter.unusedVariables false
theorem parse_said9 {S : B} {p : Pc} (hl : S.length ≤ 60000) (hp : scanP S 0 = p) (hk : p.kind ≠ 0) (hst : p.stop = S.length) (w : World) :
    Calls Tryd.prog 7 #[.string (str S)] w fun r w' => r = .returned (.tuple #[.agg (nmA (Lx.numOf p)), .nilIface]) ∧ Below w.heap.size w w' := by
  refine (parse9_any (str S) (by rw [str_size]; unfold maxLen; omega) w).mono ?_
  rintro r w' ⟨⟨g, at_, c, rfl, _, _, _, hn⟩ | ⟨_, _, rfl⟩, hb⟩
  · exfalso
    rw [str_list, hp] at hn
    rcases hn with ⟨q, _⟩ | ⟨_, q, _⟩
    · exact hk q
    · rw [str_size] at q; omega
  · rw [str_list, hp]
    exact ⟨rfl, hb⟩
theorem parse_reads {S : B} {N : Nm} (h : Reads S N) (hl : S.length ≤ 60000) (w : World) :
    Calls Tryd.prog 7 #[.string (str S)] w fun r w' => r = .returned (.tuple #[.agg (nmA N), .nilIface]) ∧ Below w.heap.size w w' := by
  obtain ⟨k1, k2, k3⟩ := h [] Stops.nil
  rw [List.append_nil] at k1 k2 k3
  have := parse_said9 hl (p := longestL S) (by unfold scanP; rw [List.drop_zero, List.take_of_length_le (by omega)]) k1 k2 w
  rw [k3] at this
  exact this
set_option maxRecDepth 100000 in
theorem alive9b_any (w : World) :
    Calls Tryd.prog 8 #[] w fun r w' => r = .returned (.bool true) ∧ Below w.heap.size w w' := by
  have hP : ∀ w, Calls Tryd.prog 7 #[.string (ByteArray.mk #[45, 49, 46, 53, 48, 101, 49])] w fun r w' => r = .returned (.tuple #[.agg (nmA ⟨1, true, [49, 53, 48], -1, []⟩), .nilIface]) ∧ Below w.heap.size w w' := fun w => by
    have := parse_said9 (S := [45, 49, 46, 53, 48, 101, 49]) (p := ⟨1, true, [49], [53, 48], [49], [], 7⟩) (by decide) (by rfl) (by decide) rfl w
    have e : Lx.numOf ⟨1, true, [49], [53, 48], [49], [], 7⟩ = ⟨1, true, [49, 53, 48], -1, []⟩ := by rfl
    rw [e] at this
    exact this
  go_enter Tryd.func8, Tryd.ntmps8
  go_wp2_with fail
  refine (hP _).mono ?_
  rintro r w1 ⟨rfl, hb⟩
  have hB : Hid (Below w.heap.size w (w1.alloc (.cells (nmA ⟨1, true, [49, 53, 48], -1, []⟩) 28))) := hb.alloc hb.size _
  unfold nmA at hB
  clear hP hb
  unfold nmA
  have s1 : str [49, 53, 48] = ByteArray.mk #[49, 53, 48] := rfl
  have s2 : str [] = ByteArray.mk #[] := rfl
  simp only [s1, s2] at hB ⊢
  go_wp2
  go_ret
  exact ⟨rfl, hB.out⟩
namespace Lx
set_option maxRecDepth 100000 in
theorem lowF_in : ∀ b : Fin 256, isH (UInt8.ofNat b.val) = true → smal9.contains (lowF (UInt8.ofNat b.val)) = true := by decide
theorem lowF_smal {b : UInt8} (h : isH b = true) : smal9.contains (lowF b) = true := by
  have := lowF_in ⟨b.toNat, UInt8.toNat_lt b⟩
  simp only [UInt8.ofNat_toNat] at this
  exact this h
theorem lowF_digs {b : UInt8} (h : isD b = true) : digs9.contains (lowF b) = true := by
  have hb := isD_bd h
  have : lowF b = b := by unfold lowF; rw [if_neg (by omega)]
  rw [this]
  exact (digits_has b).trans h
theorem lowF_zero {b : UInt8} (h : ([48] : B).contains b = false) : ([48] : B).contains (lowF b) = false := by
  unfold lowF
  split
  · rename_i q
    have hne : UInt8.ofNat (b.toNat + 32) ≠ 48 := fun e => by
      have := congrArg UInt8.toNat e
      rw [UInt8.toNat_ofNat'] at this
      have h48 : (48 : UInt8).toNat = 48 := rfl
      omega
    generalize UInt8.ofNat (b.toNat + 32) = c at *
    simp [hne]
  · exact h
theorem bareR_kept {cs l : B} (hl : l.length ≤ 65536) (h : ∀ b ∈ l, cs.contains (lowF b) = true) : keptB cs (bareR l) = true := by
  have h1 : (bareR l).length ≤ 65536 := by
    unfold bareR
    rw [List.length_map]
    have := dk_len (fun b => ([48] : B).contains b) l
    omega
  have h2 : fst [48] (bareR l) = false := by
    unfold bareR
    cases hd : l.dropWhile (fun b => ([48] : B).contains b) with
    | nil => rfl
    | cons c r =>
      have := dk_head hd
      rw [List.map_cons]
      exact lowF_zero this
  have h3 : (bareR l).all (fun b => cs.contains b) = true := by
    unfold bareR
    rw [List.all_map, List.all_eq_true]
    intro b hb
    exact h b (List.dropWhile_subset _ hb)
  unfold keptB
  rw [h2, h3, decide_eq_true h1]
  rfl
/-- what it says is a right Numeral -/
theorem made_right {k q e : Int} {plus ne big : Bool} {z1 z2 : List Int} (hk : k = 0 ∨ k = 1 ∨ k = 2) :
    ∀ N, N = mdN k (sgL q plus) (dgL (baseOf k) big z1) (dgL (baseOf k) big z2) ne (e.tmod 100000) → rightB N.kind N.num N.exp N.den = true := by
  rintro N rfl
  have he0 : -100000 < e.tmod 100000 := Int.lt_tmod_of_pos e (by omega)
  have he1 : e.tmod 100000 < 100000 := Int.tmod_lt_of_pos e (by omega)
  have hb0 : 0 < baseOf k := by unfold baseOf; split <;> omega
  have hb1 : baseOf k ≤ 16 := by unfold baseOf; split <;> omega
  have l1 : (dgL (baseOf k) big z1).length ≤ 40 := dgL_len
  have l2 : (dgL (baseOf k) big z2).length ≤ 40 := dgL_len
  have H1 : (dgL (baseOf k) big z1).all isH = true := dgL_H hb0 hb1
  have H2 : (dgL (baseOf k) big z2).all isH = true := dgL_H hb0 hb1
  have D : k ≠ 1 → (dgL (baseOf k) big z1).all isD = true ∧ (dgL (baseOf k) big z2).all isD = true := fun hk1 => by
    have : baseOf k = 10 := by unfold baseOf; rw [if_neg hk1]
    rw [this]
    exact ⟨dgL_D, dgL_D⟩
  generalize dgL (baseOf k) big z1 = h at *
  generalize dgL (baseOf k) big z2 = t at *
  generalize e.tmod 100000 = e' at *
  have mh : ∀ k : Int, (mdHead k h t).length ≤ 40 := by
    intro k
    unfold mdHead
    split
    · split
      · simp
      · exact l1
    · split
      · simp
      · exact l1
  have mt : ∀ k : Int, (mdTail k t).length ≤ 40 := by
    intro k
    unfold mdTail
    split
    · split
      · simp
      · exact l2
    · exact l2
  have mhD : ∀ k : Int, h.all isD = true → (mdHead k h t).all isD = true := by
    intro k hd
    unfold mdHead
    split
    · split
      · rfl
      · exact hd
    · split
      · rfl
      · exact hd
  have mhH : ∀ k : Int, (mdHead k h t).all isH = true := by
    intro k
    unfold mdHead
    split
    · split
      · rfl
      · exact H1
    · split
      · rfl
      · exact H1
  have mtD : ∀ k : Int, t.all isD = true → (mdTail k t).all isD = true := by
    intro k hd
    unfold mdTail
    split
    · split
      · rfl
      · exact hd
    · exact hd
  have wi : ∀ n : Int, -1073741824 ≤ n → n ≤ 1073741824 → withB n = true := fun n a b => by unfold withB; rw [decide_eq_true a, decide_eq_true b]; rfl
  have kd : ∀ l : B, l.length ≤ 65536 → l.all isD = true → keptB digs9 (bareR l) = true := fun l a b => bareR_kept a (fun x hx => lowF_digs (List.all_eq_true.mp b x hx))
  have kh : ∀ l : B, l.length ≤ 65536 → l.all isH = true → keptB smal9 (bareR l) = true := fun l a b => bareR_kept a (fun x hx => lowF_smal (List.all_eq_true.mp b x hx))
  rcases hk with rfl | rfl | rfl
  · obtain ⟨d1, d2⟩ := D (by omega)
    rw [mdN_0]
    show rightB 1 (bareR (mdHead 0 h t ++ t)) (if ne = true then -(t.length : Int) else e' - t.length) [] = true
    unfold rightB
    have := mh 0
    rw [if_pos rfl, kd _ (by rw [List.length_append]; omega) (by rw [List.all_append, mhD 0 d1, d2]; rfl), wi _ (by split <;> omega) (by split <;> omega)]
    rfl
  · rw [mdN_1]
    show rightB 2 (bareR (mdHead 1 h t ++ t)) (e' - 4 * t.length) [] = true
    unfold rightB
    have := mh 1
    rw [if_neg (by omega), if_pos rfl, kh _ (by rw [List.length_append]; omega) (by rw [List.all_append, mhH 1, H2]; rfl), wi _ (by omega) (by omega)]
    rfl
  · obtain ⟨d1, d2⟩ := D (by omega)
    rw [mdN_2]
    show rightB 3 (bareR (mdHead 2 h t)) 0 (bareR (mdTail 2 t)) = true
    unfold rightB
    have := mh 2
    have := mt 2
    rw [if_neg (by omega), if_neg (by omega), if_pos rfl, kd _ (by omega) (mhD 2 d1), kd _ (by omega) (mtD 2 d2)]
    rfl
end Lx
end Go.Proofs.YtiicphkpmdidaaaDoor

/- A Piece among the inputs, opened. -/
namespace Go.Proofs.YtiicphkpmdidaaaDoor
open Go.ChangeShapes Go.WideShapes Go.ChangeAt Go.RowKit
open Lx
set_option linter.unusedVariables false
theorem cells_piece : Tryd.prog.cellsOf 39 = 9 := by kernel_rfl
theorem cells_sint9 : Tryd.prog.cellsOf 22 = 1 := by kernel_rfl
theorem cells_i649 : Tryd.prog.cellsOf 3 = 1 := by kernel_rfl
theorem cells_bool9 : Tryd.prog.cellsOf 4 = 1 := by kernel_rfl
theorem row_of9 {w : World} {x : Addr} {l c : Nat} {zs : List Int} (hl : l ≤ c) (hz : zs.length = c) (hcell : ∀ i, i < zs.length → w.cell? (x.add i) = some (.int .i64 (zs.getD i 0))) : RowAt .i64 w (some x) l (zs.take l) := by
  refine ⟨by rw [List.length_take]; omega, ?_⟩
  by_cases h0 : l = 0
  · exact Or.inl h0
  · right
    obtain ⟨b, off, spot⟩ := x
    have h1 := hcell 0 (by omega)
    have hs : spot = none := by simpa [Addr.add] using World.cell?_spot h1
    subst hs
    refine ⟨b, off, rfl, ?_, fun i hi => ?_⟩
    · by_cases hlt : b < w.heap.size
      · exact hlt
      · have := Array.getElem?_eq_none (xs := w.heap) (i := b) (Nat.le_of_not_lt hlt)
        simp [World.cell?, Addr.add, this] at h1
    · have h2 := hcell i (by omega)
      have e : (zs.take l).getD i 0 = zs.getD i 0 := by simp [List.getD_eq_getElem?_getD, List.getElem?_take_of_lt hi]
      have ea : (⟨b, off, none⟩ : Addr).add i = ⟨b, off + i, none⟩ := by
        unfold Addr.add
        by_cases hi0 : i = 0
        · subst hi0; simp
        · simp [hi0]
      rw [ea] at h2
      rw [e]
      exact h2
set_option maxRecDepth 100000 in
theorem open_piece {H : Type} {enc : TypeId × Value → H} {w : World} {r : Reach} {base b0 : Nat} {spare : Nat → Bool} {held : Bool} {v : Value} {d : DataW H} {p : List MemPlace}
    (hv : Value.okWide Tryd.prog w r b0 39 v) (h : DataW.Trod enc Tryd.prog w base spare held 39 v d p) (hall : ∀ g, spare g = true) :
    ∃ kd sg a n c b m f z1 z2 pt ne e plus big, v = .agg (pieA kd sg (.slice a n c) (.slice b m f) pt ne e plus big) ∧ RowAt .i64 w a n z1 ∧ n ≤ 9223372036854775807 ∧ RowAt .i64 w b m z2 ∧ m ≤ 9223372036854775807 := by
  obtain ⟨cs, rfl, hsz⟩ := okWide_struct Tryd.underlying39 hv
  obtain ⟨fuel, hf⟩ := h
  obtain ⟨xs, m, _, _, hl, hx, hi⟩ := DataW.trod_struct Tryd.underlying39 hf
  rw [cells_piece] at hsz
  obtain ⟨c0, c1, c2, c3, c4, c5, c6, c7, c8, rfl⟩ : ∃ c0 c1 c2 c3 c4 c5 c6 c7 c8, cs = #[c0, c1, c2, c3, c4, c5, c6, c7, c8] := by
    match cs, hsz with
    | ⟨[c0, c1, c2, c3, c4, c5, c6, c7, c8]⟩, _ => exact ⟨c0, c1, c2, c3, c4, c5, c6, c7, c8, rfl⟩
  have i0 := hi 0 _ rfl
  have i1 := hi 1 _ rfl
  have i2 := hi 2 _ rfl
  have i3 := hi 3 _ rfl
  have i4 := hi 4 _ rfl
  have i5 := hi 5 _ rfl
  have i6 := hi 6 _ rfl
  have i7 := hi 7 _ rfl
  have i8 := hi 8 _ rfl
  match xs, hx with
  | [x0, x1, x2, x3, x4, x5, x6, x7, x8], _ =>
    simp [Value.cells, cells_sint9, cells_bool9, cells_i649] at i0 i1 i2 i3 i4 i5 i6 i7 i8
    have bo : ∀ {cs : Value} {x : DataW H × List MemPlace}, DataW.trod enc Tryd.prog w base spare held m 4 [cs] = some x → ∃ s, cs = .bool s := by
      intro cs x hf
      obtain ⟨s, e0, _⟩ := DataW.trod_bool Tryd.underlying4 hf
      simp at e0
      exact ⟨s, e0⟩
    have nt : ∀ {cs : Value} {x : DataW H × List MemPlace}, DataW.trod enc Tryd.prog w base spare held m 3 [cs] = some x → ∃ s, cs = .int .i64 s := by
      intro cs x hf
      obtain ⟨s, e0, _⟩ := DataW.trod_int Tryd.underlying3 hf
      simp at e0
      exact ⟨s, e0⟩
    have sl : ∀ {cs : Value} {x : DataW H × List MemPlace}, DataW.trod enc Tryd.prog w base spare held m 22 [cs] = some x → (∀ g, spare g = true) → ∃ a n c xs, cs = .slice a n c ∧ RowAt .i64 w a n xs ∧ n ≤ 9223372036854775807 := by
      intro cs x hf hsp
      rcases open_ints Tryd.underlying22 Tryd.underlying3 (by kernel_rfl) hf with ⟨hcs, _⟩ | ⟨x, l, c, zs, hcs, _, hl, hm, hz, _, hcell, hwz⟩
      · simp at hcs
        subst hcs
        exact ⟨none, 0, 0, [], rfl, ⟨rfl, Or.inl rfl⟩, by omega⟩
      · simp at hcs
        subst hcs
        rw [if_pos (hsp _)] at hz
        exact ⟨some x, l, c, _, rfl, row_of9 hl hz hcell, by unfold maxLen at hm; omega⟩
    obtain ⟨kd, rfl⟩ := nt i0
    obtain ⟨sg, rfl⟩ := nt i1
    obtain ⟨a, n, c, us, rfl, r1, r3⟩ := sl i2 hall
    obtain ⟨b, k, f, vs, rfl, q1, q3⟩ := sl i3 hall
    obtain ⟨pt, rfl⟩ := bo i4
    obtain ⟨ne, rfl⟩ := bo i5
    obtain ⟨e, rfl⟩ := nt i6
    obtain ⟨plus, rfl⟩ := bo i7
    obtain ⟨big, rfl⟩ := bo i8
    exact ⟨kd, sg, a, n, c, b, k, f, us, vs, pt, ne, e, plus, big, rfl, r1, r3, q1, q3⟩
end Go.Proofs.YtiicphkpmdidaaaDoor

