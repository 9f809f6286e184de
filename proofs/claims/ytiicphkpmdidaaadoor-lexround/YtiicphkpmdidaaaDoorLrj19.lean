import Derived.Deep.DeepCutAuto
import Derived.Deep.RegionWith
import Derived.Below
import Derived.BigQuiet
import Derived.ChangeOld
import Derived.Deep.CutRange
import Derived.Deep.LoopGhost
import Derived.Deep.QuietTactic
import Derived.Deep.RegionHeld3
import Derived.Deep.WholeRow
import Derived.KernelRfl
import Derived.Laws.BitsAllLaws
import Derived.Laws.CopyRow
import Derived.Laws.EntriesVeiled
import Derived.Laws.Externs
import Derived.Laws.IdiomCopy
import Derived.Laws.IdiomRangeMap
import Derived.Laws.RangeString
import Derived.Laws.ResultCell
import Derived.Laws.Runes
import Derived.Laws.Strings3
import Derived.Lib.AppendIntMem
import Derived.Lib.AsciiSet
import Derived.Lib.AtoiErrMem
import Derived.Lib.BufferRead
import Derived.Lib.Builder
import Derived.Lib.Bytealg
import Derived.Lib.ConvBytes
import Derived.Lib.IndexBytes
import Derived.Lib.ItoaLen
import Derived.Lib.ItoaNum
import Derived.Lib.Strings
import Derived.Lib.TrimByte
import Derived.Lib.Walk
import Derived.OpenShut
import Derived.OwnWalk
import Derived.ProofKit
import Derived.Shelf.Strconv.Clone
import Derived.Shelf.Strconv.Itoa3
import Derived.Shelf.Strings.OnBuilder
import Derived.ShutString
import Derived.WalkKit
import Derived.WalkLawsBesides
import Derived.WalkSpells
import Derived.Test.YtiicphkpmdidaaaDoorLrj13
import Derived.Test.YtiicphkpmdidaaaDoorLrj15
import Derived.Test.YtiicphkpmdidaaaDoorLrj17
import Derived.Test.YtiicphkpmdidaaaDoorLrj18
/- LexRound. -/
namespace Go.Proofs.YtiicphkpmdidaaaDoor
open Go.ChangeShapes Go.WideShapes Go.ChangeAt Go.RowKit
open Lx Go.Shelf
set_option linter.unusedVariables false
namespace Lx
theorem bareR_lenR (l : B) : (bareR l).length ≤ l.length := by
  unfold bareR
  rw [List.length_map]
  exact (List.dropWhile_sublist _).length_le
theorem mdN_len {k e : Int} {s h t : B} {ne : Bool} (hk : k = 0 ∨ k = 1 ∨ k = 2) (hh : h.length ≤ 40) (ht : t.length ≤ 40) : (mdN k s h t ne e).num.length ≤ 100 ∧ (mdN k s h t ne e).den.length ≤ 100 := by
  have l1 : ∀ k : Int, (mdHead k h t).length ≤ 40 := by
    intro k
    unfold mdHead
    split
    · split
      · simp
      · exact hh
    · split
      · simp
      · exact hh
  have l2 : ∀ k : Int, (mdTail k t).length ≤ 40 := by
    intro k
    unfold mdTail
    split
    · split
      · simp
      · exact ht
    · exact ht
  rcases hk with rfl | rfl | rfl
  · rw [mdN_0]
    refine ⟨?_, by simp⟩
    have := bareR_lenR (mdHead 0 h t ++ t); rw [List.length_append] at this; have := l1 0; show (bareR _).length ≤ 100; omega
  · rw [mdN_1]
    refine ⟨?_, by simp⟩
    have := bareR_lenR (mdHead 1 h t ++ t); rw [List.length_append] at this; have := l1 1; show (bareR _).length ≤ 100; omega
  · rw [mdN_2]
    refine ⟨?_, ?_⟩
    · have := bareR_lenR (mdHead 2 h t); have := l1 2; show (bareR _).length ≤ 100; omega
    · have := bareR_lenR (mdTail 2 t); have := l2 2; show (bareR _).length ≤ 100; omega
theorem right_bd {k e : Int} {num den : B} (h : rightB k num e den = true) : (k = 1 ∨ k = 2 ∨ k = 3) ∧ -1073741824 ≤ e ∧ e ≤ 1073741824 := by
  unfold rightB withB at h
  by_cases h1 : k = 1
  · rw [if_pos h1] at h
    simp only [Bool.and_eq_true, decide_eq_true_eq] at h
    exact ⟨Or.inl h1, h.2.2.1, h.2.2.2⟩
  · rw [if_neg h1] at h
    by_cases h2 : k = 2
    · rw [if_pos h2] at h
      simp only [Bool.and_eq_true, decide_eq_true_eq] at h
      exact ⟨Or.inr (Or.inl h2), h.2.2.1, h.2.2.2⟩
    · rw [if_neg h2] at h
      by_cases h3 : k = 3
      · rw [if_pos h3] at h
        simp only [Bool.and_eq_true, decide_eq_true_eq] at h
        exact ⟨Or.inr (Or.inr h3), by omega, by omega⟩
      · rw [if_neg h3] at h; cases h
end Lx
theorem pow_later {w w' : World} (h : PowTab w) (hb : Below w.heap.size w w') : PowTab w' := by
  cases hg : Tryd.prog.globalNamed "internal/strconv.uint64pow10" with
  | none =>
    unfold PowTab Lib.TabIs World.var? at h
    rw [hg] at h
    cases h
  | some g =>
    unfold PowTab Lib.TabIs World.var? at h ⊢
    rw [hg] at h ⊢
    simp only [Option.bind_some] at h ⊢
    have hlt : g < w.heap.size := by
      rcases Nat.lt_or_ge g w.heap.size with h' | h'
      · exact h'
      · rw [Array.getElem?_eq_none h'] at h; cases h
    rw [hb.block g hlt]
    exact h
theorem made9_len {kd sg e : Int} {a1 a2 : Option Addr} {n1 c1 n2 c2 : Nat} {z1 z2 : List Int} (hn1 : n1 ≤ 9223372036854775807) (hn2 : n2 ≤ 9223372036854775807) (pt ne plus big : Bool) :
    ∃ (S : Lx.B) (N : Lx.Nm), Reads S N ∧ S.length ≤ 200 ∧ rightB N.kind N.num N.exp N.den = true ∧ (N.num.length ≤ 100 ∧ N.den.length ≤ 100) ∧ ∀ w, RowAt .i64 w a1 n1 z1 → RowAt .i64 w a2 n2 z2 → Calls Tryd.prog 10 #[.agg (pieA kd sg (.slice a1 n1 c1) (.slice a2 n2 c2) pt ne e plus big)] w fun r w' =>
      r = .returned (.tuple #[.string (str S), .agg (nmA N)]) ∧ Below w.heap.size w w' := by
  have hk : kd % 3 = 0 ∨ kd % 3 = 1 ∨ kd % 3 = 2 := by omega
  obtain ⟨h1, h2⟩ := made_say (k := kd % 3) (q := sg % 3 - 1) (e := e) (plus := plus) (pt := pt) (ne := ne) (big := big) (z1 := z1) (z2 := z2) hk
  refine ⟨_, _, h1, h2, made_right hk _ rfl, mdN_len hk dgL_len dgL_len, fun w hr1 hr2 => ?_⟩
  rcases hk with k0 | k1 | k2
  · rw [k0]; exact made9_k0 hr1 hr2 hn1 hn2 pt ne plus big k0 rfl rfl rfl rfl
  · rw [k1]; exact made9_k1 hr1 hr2 hn1 hn2 pt ne plus big k1 rfl rfl rfl rfl
  · rw [k2]; exact made9_k2 hr1 hr2 hn1 hn2 pt ne plus big k2 rfl rfl rfl rfl
theorem cutR_any (s : ByteArray) : ∃ C : ByteArray, C.size ≤ 300 ∧ ∀ w, Calls Tryd.prog 11 #[.string s] w fun e w' => e = .returned (.string C) ∧ w' = w := by
  by_cases h : 300 < s.size
  · refine ⟨s.extract 0 300, by rw [ByteArray.size_extract]; omega, fun w => ?_⟩
    have d : decide ((s.size : Int) > 300) = true := by simp; omega
    have d' : decide ((300 : Int) < (s.size : Int)) = true := by simp; omega
    have hl : (300 : Int) ≤ (s.size : Int) := by omega
    go_enter Tryd.func11, Tryd.ntmps11
    go_wp2
    go_ret
    exact ⟨rfl, rfl⟩
  · refine ⟨s, by omega, fun w => ?_⟩
    have d : decide ((s.size : Int) > 300) = false := by simp; omega
    have d' : decide ((300 : Int) < (s.size : Int)) = false := by simp; omega
    go_enter Tryd.func11, Tryd.ntmps11
    go_wp2
    go_ret
    exact ⟨rfl, rfl⟩
set_option maxHeartbeats 25600000 in
set_option maxRecDepth 100000 in
theorem round_walk {w : World} {kd sg e : Int} {a1 a2 : Option Addr} {n1 c1 n2 c2 : Nat} {z1 z2 : List Int} {pt ne plus big : Bool} (hr1 : RowAt .i64 w a1 n1 z1) (hn1 : n1 ≤ 9223372036854775807) (hr2 : RowAt .i64 w a2 n2 z2) (hn2 : n2 ≤ 9223372036854775807)
    {kq xq : Int} {ng1 : Bool} {nuq deq : ByteArray} (ka : -9223372036854775808 ≤ kq) (kb : kq ≤ 9223372036854775807) (ea : -9223372036854775808 ≤ xq) (eb : xq ≤ 9223372036854775807) (hnq : nuq.size ≤ 9223372036854775807) (hdq : deq.size ≤ 9223372036854775807) (hT : PowTab w) :
    Calls Tryd.prog 4 #[.agg (pieA kd sg (.slice a1 n1 c1) (.slice a2 n2 c2) pt ne e plus big), .agg (numC kq ng1 nuq xq deq)] w fun r w' => r = .returned (.bool true) ∧ Below w.heap.size w w' := by
  obtain ⟨nq, hnq'⟩ : ∃ nq, nq = ng1 := ⟨_, rfl⟩
  subst hnq'
  clear ka kb ea eb hnq hdq
  obtain ⟨CN, sCN, hcN⟩ := cutR_any nuq
  obtain ⟨CD, sCD, hcD⟩ := cutR_any deq
  obtain ⟨S, ⟨k, ng, nu, ex, de⟩, hR, lS, hrt, ⟨ln, ld⟩, hM⟩ := made9_len (kd := kd) (sg := sg) (e := e) (a1 := a1) (a2 := a2) (c1 := c1) (c2 := c2) (z1 := z1) (z2 := z2) hn1 hn2 pt ne plus big
  dsimp only at hrt ln ld
  unfold nmA at hM
  dsimp only at hM
  have TL : ∀ w', Below w.heap.size w w' → PowTab w' := fun w' h => pow_later hT h
  obtain ⟨hk, e0, e1⟩ := right_bd hrt
  have hTx := fun {w1 : World} (h : Below w.heap.size w w1) => text9_good k ng (str nu) ex (str de) (by rw [str_size]; omega) (by rw [str_size]; omega) hk e0 e1 (by rw [str_list, str_list]; exact hrt) (TL w1 h) (fun w' h' => TL w' (h.trans (h'.mono h.size)))
  have hPt := fun w => parse_reads (text_reads (ng := ng) hrt) (by have := tx_len (k := k) (ng := ng) (num := nu) (den := de) e0 e1 (Lib.itoa_length_le ex (by omega) (by omega)) (by omega) (by omega); omega) w
  have hPs := fun w => parse_reads hR (by omega) w
  have hal9 := fun w => alive9b_any w
  unfold nmA at hPt hPs
  unfold numC at hTx
  rw [str_list, str_list] at hTx
  generalize txL k ng nu ex de = TX at *
  have hb1 : Below w.heap.size w (w.alloc (.cells (pieA kd sg (.slice a1 n1 c1) (.slice a2 n2 c2) pt ne e plus big) 39)) := (Below.refl _ w).alloc (Nat.le_refl _) _
  have hb2 : Below (w.alloc (.cells (pieA kd sg (.slice a1 n1 c1) (.slice a2 n2 c2) pt ne e plus big) 39)).heap.size (w.alloc (.cells (pieA kd sg (.slice a1 n1 c1) (.slice a2 n2 c2) pt ne e plus big) 39)) ((w.alloc (.cells (pieA kd sg (.slice a1 n1 c1) (.slice a2 n2 c2) pt ne e plus big) 39)).alloc (.cells (numC kq nq nuq xq deq) 28)) := (Below.refl _ _).alloc (Nat.le_refl _) _
  have BQ : Bk ((w.alloc (.cells (pieA kd sg (.slice a1 n1 c1) (.slice a2 n2 c2) pt ne e plus big) 39)).alloc (.cells (numC kq nq nuq xq deq) 28)) (w.alloc (.cells (pieA kd sg (.slice a1 n1 c1) (.slice a2 n2 c2) pt ne e plus big) 39)).heap.size 28 (numC kq nq nuq xq deq) := Bk.new _ _ _
  have BP : Bk (w.alloc (.cells (pieA kd sg (.slice a1 n1 c1) (.slice a2 n2 c2) pt ne e plus big) 39)) w.heap.size 39 (pieA kd sg (.slice a1 n1 c1) (.slice a2 n2 c2) pt ne e plus big) := Bk.new _ _ _
  rw [World.size_alloc] at BQ
  replace BP := BP.later hb2
  have BW := hb1.trans (hb2.mono hb1.size)
  obtain ⟨w0, hw0⟩ : ∃ w0, w0 = (w.alloc (.cells (pieA kd sg (.slice a1 n1 c1) (.slice a2 n2 c2) pt ne e plus big) 39)).alloc (.cells (numC kq nq nuq xq deq) 28) := ⟨_, rfl⟩
  rw [← hw0] at BP BQ BW
  obtain ⟨g, hg⟩ : ∃ g, g = w.heap.size := ⟨_, rfl⟩
  rw [← hg] at BP BQ
  have HG : Hid (w.heap.size = g) := hg.symm
  clear hb1 hb2
  unfold pieA at hw0 hM ⊢
  unfold numC at hw0 ⊢
  go_enter Tryd.func4, Tryd.ntmps4
  go_upto_region 1 with fail
  rw [← hw0, ← hg]
  clear hw0 hg
  have y0 := BP.cell 0 (v := .int .i64 kd) rfl
  have y1 := BP.cell 1 (v := .int .i64 sg) rfl
  have y2 := BP.cell 2 (v := .slice a1 n1 c1) rfl
  have y3 := BP.cell 3 (v := .slice a2 n2 c2) rfl
  have y4 := BP.cell 4 (v := .bool pt) rfl
  have y5 := BP.cell 5 (v := .bool ne) rfl
  have y6 := BP.cell 6 (v := .int .i64 e) rfl
  have y7 := BP.cell 7 (v := .bool plus) rfl
  have y8 := BP.cell 8 (v := .bool big) rfl
  have hMW := hM w0 (hr1.later BW) (hr2.later BW)
  go_wp2_with fail
  refine hMW.mono ?_
  rintro r w1 ⟨rfl, hb⟩
  replace BQ := BQ.later hb
  replace BW := BW.trans (hb.mono BW.size)
  clear hM hMW hb y0 y1 y2 y3 y4 y5 y6 y7 y8 BP hr1 hr2
  go_upto_region 2 with fail
  have BN := Bk.new w1 28 #[.int .i64 k, .bool ng, .string (str nu), .int .i64 ex, .string (str de)]
  have hal : Below w1.heap.size w1 (w1.alloc (.cells #[.int .i64 k, .bool ng, .string (str nu), .int .i64 ex, .string (str de)] 28)) := (Below.refl _ _).alloc (Nat.le_refl _) _
  replace BQ := BQ.later hal
  replace BW := BW.trans (hal.mono BW.size)
  generalize w1.alloc (.cells #[.int .i64 k, .bool ng, .string (str nu), .int .i64 ex, .string (str de)] 28) = y2 at *
  obtain ⟨gn, hgg⟩ : ∃ gn, gn = w1.heap.size := ⟨_, rfl⟩
  rw [← hgg] at BN ⊢
  clear hgg hal
  have p0 := BN.cell 0 (v := .int .i64 k) rfl
  have p1 := BN.cell 1 (v := .bool ng) rfl
  have p2 := BN.cell 2 (v := .string (str nu)) rfl
  have p3 := BN.cell 3 (v := .int .i64 ex) rfl
  have p4 := BN.cell 4 (v := .string (str de)) rfl
  go_wp2_with fail
  refine (hTx BW).mono ?_
  rintro r w3 ⟨rfl, hb⟩
  replace BN := BN.later hb
  replace BQ := BQ.later hb
  replace BW := BW.trans (hb.mono BW.size)
  clear hTx hb p0 p1 p2 p3 p4
  go_wp2_with fail
  refine (hPt _).mono ?_
  rintro r w4 ⟨rfl, hb⟩
  replace BN := BN.later hb
  replace BQ := BQ.later hb
  replace BW := BW.trans (hb.mono BW.size)
  clear hPt hb
  go_upto_region 4 with fail
  have BM := Bk.new w4 28 #[.int .i64 k, .bool ng, .string (str nu), .int .i64 ex, .string (str de)]
  have hal : Below w4.heap.size w4 (w4.alloc (.cells #[.int .i64 k, .bool ng, .string (str nu), .int .i64 ex, .string (str de)] 28)) := (Below.refl _ _).alloc (Nat.le_refl _) _
  replace BN := BN.later hal
  replace BQ := BQ.later hal
  replace BW := BW.trans (hal.mono BW.size)
  generalize w4.alloc (.cells #[.int .i64 k, .bool ng, .string (str nu), .int .i64 ex, .string (str de)] 28) = y5 at *
  obtain ⟨gm, hgg⟩ : ∃ gm, gm = w4.heap.size := ⟨_, rfl⟩
  rw [← hgg] at BM ⊢
  clear hgg hal
  go_wp2_with fail
  refine (hPs _).mono ?_
  rintro r w6 ⟨rfl, hb⟩
  replace BN := BN.later hb
  replace BM := BM.later hb
  replace BQ := BQ.later hb
  replace BW := BW.trans (hb.mono BW.size)
  clear hPs hb
  go_upto_region 5 with fail
  have BO := Bk.new w6 28 #[.int .i64 k, .bool ng, .string (str nu), .int .i64 ex, .string (str de)]
  have hal : Below w6.heap.size w6 (w6.alloc (.cells #[.int .i64 k, .bool ng, .string (str nu), .int .i64 ex, .string (str de)] 28)) := (Below.refl _ _).alloc (Nat.le_refl _) _
  replace BN := BN.later hal
  replace BM := BM.later hal
  replace BQ := BQ.later hal
  replace BW := BW.trans (hal.mono BW.size)
  generalize w6.alloc (.cells #[.int .i64 k, .bool ng, .string (str nu), .int .i64 ex, .string (str de)] 28) = y7 at *
  obtain ⟨go, hgg⟩ : ∃ go, go = w6.heap.size := ⟨_, rfl⟩
  rw [← hgg] at BO ⊢
  clear hgg hal
  go_wp2_with fail
  refine (hal9 _).mono ?_
  rintro r w8 ⟨rfl, hb⟩
  replace BN := BN.later hb
  replace BM := BM.later hb
  replace BO := BO.later hb
  replace BQ := BQ.later hb
  replace BW := BW.trans (hb.mono BW.size)
  clear hal9 hb
  have p0 := BN.cell 0 (v := .int .i64 k) rfl
  have p1 := BN.cell 1 (v := .bool ng) rfl
  have p2 := BN.cell 2 (v := .string (str nu)) rfl
  have p3 := BN.cell 3 (v := .int .i64 ex) rfl
  have p4 := BN.cell 4 (v := .string (str de)) rfl
  have m0 := BM.cell 0 (v := .int .i64 k) rfl
  have m1 := BM.cell 1 (v := .bool ng) rfl
  have m2 := BM.cell 2 (v := .string (str nu)) rfl
  have m3 := BM.cell 3 (v := .int .i64 ex) rfl
  have m4 := BM.cell 4 (v := .string (str de)) rfl
  have o0 := BO.cell 0 (v := .int .i64 k) rfl
  have o1 := BO.cell 1 (v := .bool ng) rfl
  have o2 := BO.cell 2 (v := .string (str nu)) rfl
  have o3 := BO.cell 3 (v := .int .i64 ex) rfl
  have o4 := BO.cell 4 (v := .string (str de)) rfl
  go_upto_region 7 with fail
  clear p0 p1 p2 p3 p4 m0 m1 m2 m3 m4 o0 o1 o2 o3 o4 BN BM BO
  have q2 := BQ.cell 2 (v := .string nuq) rfl
  have q4 := BQ.cell 4 (v := .string deq) rfl
  have f2 := BQ.frozen 2
  have f4 := BQ.frozen 4
  go_cut [] from 62 to 69 (fun wx => Bk wx (g + 1) 28 (numC kq nq CN xq CD) ∧ Below w.heap.size w wx)
  case first =>
    go_region_with (first | (go_at_call_of 11 nuq; refine (hcN _).mono ?_; rintro r wX ⟨rfl, rfl⟩) | (go_at_call 11; refine (hcD _).mono ?_; rintro r wY ⟨rfl, rfl⟩))
    all_goals (go_wp2_with fail)
    all_goals go_meet
    all_goals first | exact ⟨Bk.set (Bk.set BQ 2 (.string CN)) 4 (.string CD), Tn.below BW (((Tn.refl (g + 1) _).set 2 _).set 4 _) (by rw [HG.out]; omega) (Nat.le_refl _)⟩ | exact ⟨Bk.set (Bk.set BQ 2 (.string CN)) 4 (.string CD), Tn.below (below_drewN BW _) (((Tn.refl (g + 1) _).set 2 _).set 4 _) (by rw [HG.out]; omega) (Nat.le_refl _)⟩
  obtain ⟨BC, BV⟩ := hcut
  clear BQ BW q2 q4 f2 f4 hcN hcD hR hrt
  have c0 := BC.cell 0 (v := .int .i64 kq) rfl
  have c1' := BC.cell 1 (v := .bool nq) rfl
  have c2' := BC.cell 2 (v := .string CN) rfl
  have c3 := BC.cell 3 (v := .int .i64 xq) rfl
  have c4 := BC.cell 4 (v := .string CD) rfl
  have hCk := fun w => check9_any kq nq CN xq CD (by omega) (by omega) w
  have szN : CN.data.toList.length ≤ 300 := by rw [← Lib.size_eq]; omega
  have szD : CD.data.toList.length ≤ 300 := by rw [← Lib.size_eq]; omega
  by_cases hrq : rightB kq CN.data.toList xq CD.data.toList = true
  · obtain ⟨hkq, x0, x1⟩ := right_bd hrq
    have hTq := fun {w1 : World} (h : Below w.heap.size w w1) => text9_good kq nq CN xq CD (by omega) (by omega) hkq x0 x1 hrq (TL w1 h) (fun w' h' => TL w' (h.trans (h'.mono h.size)))
    have hPq := fun w => parse_reads (text_reads (ng := nq) hrq) (by have := tx_len (k := kq) (ng := nq) (num := CN.data.toList) (den := CD.data.toList) x0 x1 (Lib.itoa_length_le xq (by omega) (by omega)) szN szD; omega) w
    unfold nmA at hPq
    dsimp only at hPq
    rw [str_of, str_of] at hPq
    have hC0 : ∀ w, Calls Tryd.prog 12 #[.agg (numC kq nq CN xq CD)] w fun r w' => r = .returned (.int .i64 0) ∧ Below w.heap.size w w' := fun w => by
      have := hCk w
      rw [hrq, if_pos rfl] at this
      exact this
    generalize txL kq nq CN.data.toList xq CD.data.toList = TQ at *
    clear hCk hrq hkq x0 x1
    unfold numC at hC0 hTq
    go_wp2_with fail
    refine (hC0 _).mono ?_
    rintro r w9 ⟨rfl, hb⟩
    replace BC := BC.later hb
    replace BV := BV.trans (hb.mono BV.size)
    clear hC0 hb c0 c1' c2' c3 c4
    have c0 := BC.cell 0 (v := .int .i64 kq) rfl
    have c1' := BC.cell 1 (v := .bool nq) rfl
    have c2' := BC.cell 2 (v := .string CN) rfl
    have c3 := BC.cell 3 (v := .int .i64 xq) rfl
    have c4 := BC.cell 4 (v := .string CD) rfl
    go_wp2_with fail
    refine (hTq BV).mono ?_
    rintro r w10 ⟨rfl, hb⟩
    replace BC := BC.later hb
    replace BV := BV.trans (hb.mono BV.size)
    clear hTq hb c0 c1' c2' c3 c4
    go_wp2_with fail
    refine (hPq _).mono ?_
    rintro r w11 ⟨rfl, hb⟩
    replace BC := BC.later hb
    replace BV := BV.trans (hb.mono BV.size)
    clear hPq hb
    go_upto_region 13 with fail
    have BY := Bk.new w11 28 #[.int .i64 kq, .bool nq, .string CN, .int .i64 xq, .string CD]
    have hal : Below w11.heap.size w11 (w11.alloc (.cells #[.int .i64 kq, .bool nq, .string CN, .int .i64 xq, .string CD] 28)) := (Below.refl _ _).alloc (Nat.le_refl _) _
    replace BC := BC.later hal
    replace BV := BV.trans (hal.mono BV.size)
    generalize w11.alloc (.cells #[.int .i64 kq, .bool nq, .string CN, .int .i64 xq, .string CD] 28) = y12 at *
    obtain ⟨gq, hgg⟩ : ∃ gq, gq = w11.heap.size := ⟨_, rfl⟩
    rw [← hgg] at BY ⊢
    clear hgg hal
    have c0 := BC.cell 0 (v := .int .i64 kq) rfl
    have c1' := BC.cell 1 (v := .bool nq) rfl
    have c2' := BC.cell 2 (v := .string CN) rfl
    have c3 := BC.cell 3 (v := .int .i64 xq) rfl
    have c4 := BC.cell 4 (v := .string CD) rfl
    have d0 := BY.cell 0 (v := .int .i64 kq) rfl
    have d1 := BY.cell 1 (v := .bool nq) rfl
    have d2 := BY.cell 2 (v := .string CN) rfl
    have d3 := BY.cell 3 (v := .int .i64 xq) rfl
    have d4 := BY.cell 4 (v := .string CD) rfl
    go_wp2
    go_ret
    exact ⟨by first | rfl | simp, BV⟩
  · have hC0 : ∀ w, Calls Tryd.prog 12 #[.agg (numC kq nq CN xq CD)] w fun r w' => r = .returned (.int .i64 90) ∧ Below w.heap.size w w' := fun w => by
      have := hCk w
      rw [if_neg hrq] at this
      exact this
    have hTq := fun w => text9_bad kq nq CN xq CD (by omega) (by omega) (by simpa using hrq) w
    clear hCk hrq
    unfold numC at hC0 hTq
    go_wp2_with fail
    refine (hC0 _).mono ?_
    rintro r w9 ⟨rfl, hb⟩
    replace BC := BC.later hb
    replace BV := BV.trans (hb.mono BV.size)
    clear hC0 hb c0 c1' c2' c3 c4
    have c0 := BC.cell 0 (v := .int .i64 kq) rfl
    have c1' := BC.cell 1 (v := .bool nq) rfl
    have c2' := BC.cell 2 (v := .string CN) rfl
    have c3 := BC.cell 3 (v := .int .i64 xq) rfl
    have c4 := BC.cell 4 (v := .string CD) rfl
    go_wp2_with fail
    refine (hTq _).mono ?_
    rintro r w10 ⟨rfl, hb⟩
    replace BV := BV.trans (hb.mono BV.size)
    clear hTq hb c0 c1' c2' c3 c4
    go_wp2
    go_ret
    exact ⟨by first | rfl | simp, BV⟩
end Go.Proofs.YtiicphkpmdidaaaDoor

