import Derived.Below
import Derived.BigQuiet
import Derived.ChangeOld
import Derived.Deep.CutRange
import Derived.Deep.DeepCutAuto
import Derived.Deep.QuietTactic
import Derived.Deep.RegionHeld3
import Derived.Deep.RegionLaw
import Derived.Deep.RegionWith
import Derived.LaidEql
import Derived.Laws.AppendOwn
import Derived.Laws.BitsAllLaws
import Derived.Laws.CopyRow
import Derived.Laws.IdiomCopy
import Derived.Laws.IdiomRangeMap
import Derived.Laws.Rows
import Derived.Laws.StructEq
import Derived.LoopIn
import Derived.LoopNIn
import Derived.Maps.AppendAt
import Derived.OpenShut
import Derived.Orders
import Derived.OrdersIn
import Derived.OwnWalk
import Derived.OwnWalkIn
import Derived.ProofKit
import Derived.RangeFuncBound
import Derived.RangeFuncCalls
import Derived.RangeFuncLeaves
import Derived.RangeFuncNested
import Derived.Recover
import Derived.RowKitTokens
import Derived.Shelf.Abstract
import Derived.Shelf.RegionOpen
import Derived.ShutString
import Derived.StillTailTactics
import Derived.Stop.Asserts
import Derived.Tactics2
import Derived.TacticsIn
import Derived.TacticsInMore
import Derived.WalkKit
import Derived.WalkLawsBesides
import Derived.WalkSpells
import Derived.Test.YtgobnjeankjkjaaGreatDoorPm8
import Derived.Test.YtgobnjeankjkjaaGreatDoorPm16
import Derived.Test.YtgobnjeankjkjaaGreatDoorPm19
import Derived.Test.YtgobnjeankjkjaaGreatDoorPm20
import Derived.Test.YtgobnjeankjkjaaGreatDoorPm21
import Derived.Test.YtgobnjeankjkjaaGreatDoorPm22
/- Layer 17: the law's alive. -/
namespace Go.Proofs.YtgobnjeankjkjaaGreatDoor
open Go.ChangeShapes Go.WideShapes Go.ChangeAt Go.RowKit
open Ep Oc Tr Wk Mk
set_option linter.unusedVariables false
namespace Wk
/-- the point that alive writes -/
def T0 : Tree := (⟨1, [(4607182418800017408, 4611686018427387904)], []⟩, .nil)
theorem T0_ok : OkT T0 := ⟨⟨⟨by decide, by decide, by decide⟩, trivial, trivial⟩, by decide⟩
def bs0 : List UInt8 := mixB [true] 0 (ndsT T0)
theorem bs0_len : bs0.length = 21 := by decide +kernel
theorem bs0_read : parseS bs0 1 21 = .ok (T0, [true]) 21 := by kernel_rfl
theorem bs0_hex : hexL bs0 = [48, 49, 48, 49, 48, 48, 48, 48, 48, 48, 48, 48, 48, 48, 48, 48, 48, 48, 48, 48, 48, 48, 102, 48, 51, 102, 48, 48, 48, 48, 48, 48, 48, 48, 48, 48, 48, 48, 48, 48, 52, 48] := by decide +kernel
end Wk
set_option maxHeartbeats 3200000 in
set_option maxRecDepth 100000 in
theorem alive17_any {w : World} (hE : ErrVar w) : Calls Tryz.prog 11 #[] w fun e w' => e = .returned (.bool true) ∧ Below w.heap.size w w' := by
  obtain ⟨V1, hV1⟩ : ∃ V1, V1 = w.alloc (.cells #[.int .u64 4607182418800017408, .int .u64 4611686018427387904] 39) := ⟨_, rfl⟩
  obtain ⟨V, hV⟩ : ∃ V, V = V1.alloc (.cells #[.int .i64 1, .slice (some ⟨w.heap.size, 0, none⟩) 1 1, .slice none 0 0, .slice none 0 0] 31) := ⟨_, rfl⟩
  have hb1 : Below w.heap.size w V1 := by rw [hV1]; exact alloc_below _
  have hb2 : Below V1.heap.size V1 V := by rw [hV]; exact alloc_below _
  have hz1 : V1.heap.size = w.heap.size + 1 := by rw [hV1]; simp
  have hbV : Below w.heap.size w V := hb1.trans (hb2.mono (by omega))
  have gP : V.heap[w.heap.size]? = some (.cells #[.int .u64 4607182418800017408, .int .u64 4611686018427387904] 39 (0, 0)) := (hb2.block w.heap.size (by omega)).trans (by rw [hV1]; exact heap_alloc_new _ _)
  have gG : V.heap[w.heap.size + 1]? = some (.cells #[.int .i64 1, .slice (some ⟨w.heap.size, 0, none⟩) 1 1, .slice none 0 0, .slice none 0 0] 31 (0, 0)) := by rw [hV, ← hz1]; exact heap_alloc_new _ _
  have hT : TV (fun k => k < V.heap.size) V (.agg #[.int .i64 1, .slice (some ⟨w.heap.size, 0, none⟩) 1 1, .slice none 0 0, .slice none 0 0]) T0 := by
    refine tv_of (t := T0) (v1 := .slice (some ⟨w.heap.size, 0, none⟩) 1 1) (v2 := .slice none 0 0) (pa := none) (pc := 0) ⟨by decide, by decide⟩ ⟨by decide, _, 1, rfl, fun i p hi => ?_⟩ ⟨by decide, none, 0, rfl, fun i p hi => by cases hi⟩ ⟨by decide, by decide⟩ trivial
    have hi0 : i = 0 := by
      have := (List.getElem?_eq_some_iff.1 hi).1
      have e : T0.1.line.length = 1 := rfl
      omega
    subst hi0
    cases hi
    exact ⟨w.heap.size, 0, rfl, lt_of_block gP, ⟨by decide, by decide⟩, ⟨by decide, by decide⟩, cell_of gP 0, cell_of gP 1⟩
  have hPr := print_tree (fun k hk => hk) hT T0_ok true
  have HT := Wk.hidQ hT
  have HbV := Wk.hidQ hbV
  have HEV := Wk.hidQ (hE.later hbV)
  have HV : Hid ((w.alloc (.cells #[.int .u64 4607182418800017408, .int .u64 4611686018427387904] 39)).alloc (.cells #[.int .i64 1, .slice (some ⟨w.heap.size, 0, none⟩) 1 1, .slice none 0 0, .slice none 0 0] 31) = V) := by show _ = _; rw [hV, hV1]
  have HgG := Wk.hidQ gG
  have g0 := cell_of gG 0
  have g1 := cell_of gG 1
  have g2 := cell_of gG 2
  have g3 := cell_of gG 3
  simp only [List.getElem?_toArray, List.getElem?_cons_zero, List.getElem?_cons_succ] at g0 g1 g2 g3
  obtain ⟨B, hB⟩ : ∃ B, B = mixB [true] 0 (ndsT T0) := ⟨_, rfl⟩
  have HB : Hid (B = bs0) := hB
  rw [← hB] at hPr
  have hBl : B.length = 21 := by rw [HB.out]; exact bs0_len
  clear hV hV1 hb1 hb2 hbV gP gG hT hz1 hB hE
  go_enter Tryz.func11, Tryz.ntmps11
  go_upto_region 2 with (fail)
  rw [HV.out]
  go_wp2_with fail
  refine hPr.mono ?_
  rintro e W1 ⟨v, rfl, hO, hb1⟩
  clear hPr
  obtain ⟨a, c, rfl, hR⟩ := hO.row
  rw [hBl] at hR
  have HR := Wk.hidQ hR
  have Hb1 := Wk.hidQ hb1
  have hPa := parse17_any hR (by omega) (HEV.out.later hb1) (md := 1) (mb := 21) (D := 1) (lim := 21) (by decide) (by decide)
  rw [show (1 : Int).toNat = 1 from rfl, HB.out, bs0_read] at hPa
  have HG1 : Hid (W1.heap[w.heap.size + 1]? = some (.cells #[.int .i64 1, .slice (some ⟨w.heap.size, 0, none⟩) 1 1, .slice none 0 0, .slice none 0 0] 31 (0, 0))) := (hb1.block _ (lt_of_block HgG.out)).trans HgG.out
  clear hR hb1 hO g0 g1 g2 g3
  rw [hBl]
  clear hBl
  go_wp2_with fail
  refine hPa.mono ?_
  rintro e W2 ⟨u, rfl, hb2, hTu⟩
  clear hPa
  obtain ⟨a1, c1, a2, c2, a3, c3, eu, _⟩ := gm_slc hTu
  have eu' : u = .agg #[.int .i64 1, .slice a1 1 c1, .slice a2 0 c2, .slice a3 0 c3] := eu
  subst eu'
  have HTu : Hid (TV (fun i => W1.heap.size ≤ i ∧ i < W2.heap.size) W2 (.agg #[.int .i64 1, .slice a1 1 c1, .slice a2 0 c2, .slice a3 0 c3]) T0) := hTu
  have Hb2 := Wk.hidQ hb2
  obtain ⟨W3, hW3⟩ : ∃ W3, W3 = W2.alloc (.cells #[.int .i64 1, .slice a1 1 c1, .slice a2 0 c2, .slice a3 0 c3] 31) := ⟨_, rfl⟩
  have hb3 : Below W2.heap.size W2 W3 := by rw [hW3]; exact alloc_below _
  have gU : W3.heap[W2.heap.size]? = some (.cells #[.int .i64 1, .slice a1 1 c1, .slice a2 0 c2, .slice a3 0 c3] 31 (0, 0)) := by rw [hW3]; exact heap_alloc_new _ _
  have Hb13 : Hid (Below W1.heap.size W1 W3) := hb2.trans (hb3.mono hb2.size)
  have hHx := hex16_any (HR.out.later Hb13.out) (by omega)
  rw [HB.out, bs0_hex] at hHx
  have HW3 : Hid (W2.alloc (.cells #[.int .i64 1, .slice a1 1 c1, .slice a2 0 c2, .slice a3 0 c3] 31) = W3) := hW3.symm
  have HgU := Wk.hidQ gU
  have Hb3 := Wk.hidQ hb3
  clear hTu hb2 eu hW3 hb3 gU
  go_upto_region 4 with (fail)
  rw [HW3.out]
  go_wp2_with fail
  refine hHx.mono ?_
  rintro e W4 ⟨rfl, hb4⟩
  clear hHx
  have Hb4 : Hid (Below W3.heap.size W3 W4) := hb4
  have k1 := (hb4.block _ (by have := Hb13.out.size; have := lt_of_block HG1.out; omega)).trans ((Hb13.out.block _ (lt_of_block HG1.out)).trans HG1.out)
  have k2 := (hb4.block _ (lt_of_block HgU.out)).trans HgU.out
  have g0 := cell_of k1 0
  have g1 := cell_of k1 1
  have g2 := cell_of k1 2
  have g3 := cell_of k1 3
  have m0 := cell_of k2 0
  have m1 := cell_of k2 1
  have m2 := cell_of k2 2
  have m3 := cell_of k2 3
  simp only [List.getElem?_toArray, List.getElem?_cons_zero, List.getElem?_cons_succ] at g0 g1 g2 g3 m0 m1 m2 m3
  have hbV4 : Below V.heap.size V W4 := (Hb1.out.trans (Hb13.out.mono Hb1.out.size)).trans (hb4.mono (by have := Hb1.out.size; have := Hb13.out.size; omega))
  have hb24 : Below W2.heap.size W2 W4 := Hb3.out.trans (hb4.mono Hb3.out.size)
  have hEq := treeEq_same (w := W4) (S1 := fun k => k < V.heap.size) (S2 := fun i => W1.heap.size ≤ i ∧ i < W2.heap.size) (fun k hk => by have := hbV4.size; omega) (fun k hk => by have := hb24.size; omega) (HT.out.below (Kp.of_below hbV4 (fun k hk => hk))) (HTu.out.below (Kp.of_below hb24 (fun k hk => hk.2))) T0_ok
  have HbW4 : Hid (Below w.heap.size w W4) := HbV.out.trans (hbV4.mono HbV.out.size)
  clear k1 k2 hbV4 hb24 hb4
  go_wp2_with fail
  refine hEq.mono ?_
  rintro e W5 ⟨rfl, hb5⟩
  have Hb5 : Hid (Below w.heap.size w W5) := HbW4.out.trans (hb5.mono HbW4.out.size)
  clear hEq hb5 g0 g1 g2 g3 m0 m1 m2 m3
  go_wp2
  go_ret
  exact ⟨rfl, Hb5.out⟩
end Go.Proofs.YtgobnjeankjkjaaGreatDoor

/- Layer 17: limits: one level less, or one byte less (written by genwkl.py). -/
namespace Go.Proofs.YtgobnjeankjkjaaGreatDoor
open Go.ChangeShapes Go.WideShapes Go.ChangeAt Go.RowKit
open Ep Oc Tr Wk Mk
set_option linter.unusedVariables false
set_option maxHeartbeats 6400000 in
set_option maxRecDepth 100000 in
theorem limits_walk17 {w : World} {v : Value} {l : List Nde} {more : Int} (hN : NdsAt (· < w.heap.size) w v l) (hm0 : -9223372036854775808 ≤ more) (hm1 : more ≤ 9223372036854775807) (hE : ErrVar w) :
    Calls Tryz.prog 7 #[v, .int .i64 more] w fun e w' => e = .returned (.bool true) ∧ Below w.heap.size w w' := by
  obtain ⟨T, hT0⟩ : ∃ T, T = treeN l := ⟨_, rfl⟩
  have hGr := grown17_any hN
  rw [← hT0] at hGr
  have HN := Wk.hidQ hN
  have HE := Wk.hidQ hE
  have HM := Wk.hidQ (And.intro hm0 hm1)
  clear hN hE hT0 hm0 hm1
  go_enter Tryz.func7, Tryz.ntmps7
  go_wp2_with fail
  refine hGr.mono ?_
  rintro e W1 ⟨u, rfl, hTV, hOk, hb1⟩
  clear hGr
  obtain ⟨a1, c1, a2, c2, a3, c3, rfl, _⟩ := gm_slc hTV
  obtain ⟨K0, hK0⟩ : ∃ K0, K0 = T.1.kind := ⟨_, rfl⟩
  obtain ⟨n1, hn1⟩ : ∃ n1, n1 = T.1.line.length := ⟨_, rfl⟩
  obtain ⟨n2, hn2⟩ : ∃ n2, n2 = T.1.rings.length := ⟨_, rfl⟩
  obtain ⟨n3, hn3⟩ : ∃ n3, n3 = T.2.len := ⟨_, rfl⟩
  have HKn := Wk.hidQ (show K0 = T.1.kind ∧ n1 = T.1.line.length ∧ n2 = T.1.rings.length ∧ n3 = T.2.len from ⟨hK0, hn1, hn2, hn3⟩)
  rw [← hK0, ← hn1, ← hn2, ← hn3] at hTV ⊢
  clear hK0 hn1 hn2 hn3
  have HTV : Hid (TV (fun k => k < W1.heap.size) W1 (.agg #[.int .i64 K0, .slice a1 n1 c1, .slice a2 n2 c2, .slice a3 n3 c3]) T) := hTV.mono (fun k hk => hk.2)
  have HOk := Wk.hidQ hOk
  have HE1 : Hid (ErrVar W1) := HE.out.later hb1
  have B_w : Hid (Below w.heap.size w W1) := hb1
  clear hTV hOk hb1
  have B_W1 : Hid (Below W1.heap.size W1 W1) := Below.refl _ _
  obtain ⟨W2, hW2⟩ : ∃ W2, W2 = W1.alloc (.cells #[.int .i64 K0, .slice a1 n1 c1, .slice a2 n2 c2, .slice a3 n3 c3] 31) := ⟨_, rfl⟩
  have HW2 : Hid (W1.alloc (.cells #[.int .i64 K0, .slice a1 n1 c1, .slice a2 n2 c2, .slice a3 n3 c3] 31) = W2) := hW2.symm
  have hbW2 : Below W1.heap.size W1 W2 := by rw [hW2]; exact alloc_below _
  have GW2 : Hid (W2.heap[W1.heap.size]? = some (.cells #[.int .i64 K0, .slice a1 n1 c1, .slice a2 n2 c2, .slice a3 n3 c3] 31 (0, 0))) := by rw [hW2]; exact heap_alloc_new _ _
  replace B_w : Hid (Below w.heap.size w W2) := B_w.out.trans (hbW2.mono B_w.out.size)
  replace B_W1 : Hid (Below W1.heap.size W1 W2) := B_W1.out.trans (hbW2.mono B_W1.out.size)
  clear hW2 hbW2
  go_upto_region 2 with (fail)
  rw [HW2.out]
  have hAl := alive17_any (HE1.out.later B_W1.out)
  go_wp2_with fail
  refine hAl.mono ?_
  rintro e W3 ⟨rfl, hb3⟩
  clear hAl
  have B_W2 : Hid (Below W2.heap.size W2 W2) := Below.refl _ _
  replace B_w : Hid (Below w.heap.size w W3) := B_w.out.trans (hb3.mono B_w.out.size)
  replace B_W1 : Hid (Below W1.heap.size W1 W3) := B_W1.out.trans (hb3.mono B_W1.out.size)
  replace B_W2 : Hid (Below W2.heap.size W2 W3) := B_W2.out.trans (hb3.mono B_W2.out.size)
  clear hb3
  obtain ⟨M, hM⟩ : ∃ M, M = more % 1048576 := ⟨_, rfl⟩
  have hIn := fun w => into17_any (n := more) (top := 1048576) (by omega) (by omega) w
  rw [← hM] at hIn
  have hM0 : 0 ≤ M := by rw [hM]; exact Int.emod_nonneg _ (by omega)
  have hM1 : M < 1048576 := by rw [hM]; exact Int.emod_lt_of_pos _ (by omega)
  clear hM
  obtain ⟨B, hB⟩ : ∃ B, B = fB [false] 0 (fo1 T) := ⟨_, rfl⟩
  have HB := Wk.hidQ hB
  have hPr := print_tree (S := fun k => k < W1.heap.size) (fun k hk => by have := B_W1.out.size; omega) (HTV.out.below (Kp.of_below B_W1.out (fun k hk => hk))) HOk.out false
  rw [mix_tree, ← hB] at hPr
  clear hB
  have g5 := (B_W2.out.block _ (lt_of_block GW2.out)).trans GW2.out
  have x0 := cell_of g5 0
  have x1 := cell_of g5 1
  have x2 := cell_of g5 2
  have x3 := cell_of g5 3
  simp only [List.getElem?_toArray, List.getElem?_cons_zero, List.getElem?_cons_succ] at x0 x1 x2 x3
  clear g5
  go_wp2_with (go_at_call 14; refine (hIn _).mono ?_; rintro e wX ⟨rfl, rfl⟩)
  refine hPr.mono ?_
  rintro e W4 ⟨v4, rfl, hO, hb4⟩
  obtain ⟨a, c, rfl, hR⟩ := hO.row
  clear hPr hO hIn x0 x1 x2 x3
  replace B_w : Hid (Below w.heap.size w W4) := B_w.out.trans (hb4.mono B_w.out.size)
  replace B_W1 : Hid (Below W1.heap.size W1 W4) := B_W1.out.trans (hb4.mono B_W1.out.size)
  replace B_W2 : Hid (Below W2.heap.size W2 W4) := B_W2.out.trans (hb4.mono B_W2.out.size)
  clear hb4
  obtain ⟨N, hN0⟩ : ∃ N, N = B.length := ⟨_, rfl⟩
  have HN0 := Wk.hidQ hN0
  rw [← hN0] at hR ⊢
  clear hN0
  have HR := Wk.hidQ hR
  clear hR
  have B_W4 : Hid (Below W4.heap.size W4 W4) := Below.refl _ _
  by_cases hbig : 65536 < N
  · have d0 : decide ((65536 : Int) < (N : Int)) = true := by simp; omega
    go_wp2
    go_ret
    exact ⟨rfl, B_w.out⟩
  · have hN6 : N ≤ 65536 := by omega
    clear hbig
    have Hwf : Hid (Wf 0 (fo1 T)) := wf_tree HTV.out HOk.out
    have hNp : 1 ≤ N := by rw [HN0.out, HB.out]; have := fB_nine [false] (fo1 T) 0; have e : (fo1 T).len = 1 := rfl; omega
    obtain ⟨d, hd⟩ : ∃ d, d = dpF (fo1 T) := ⟨_, rfl⟩
    have Hd := Wk.hidQ hd
    have hd1 : 1 ≤ d := by rw [hd]; show 1 ≤ max (1 + dpF T.2) 0; omega
    have hd9 : d ≤ 256 := by rw [hd, ← dep_tree]; exact dep_le _ _ (fun it hi => (good_pre (fo1 T) 1 0 HOk.out.good it hi).1)
    have hDp := callsIn_wide.1 (depth_any (n := 0) (w := W4) (f := fo1 T) (((HTV.out.below (Kp.of_below B_W1.out (fun k hk => hk)))).mono (S' := fun k => k < W4.heap.size) (fun k hk => by have := B_W1.out.size; omega)) (by have := cnt_fsum (fo1 T); have := HOk.out.sum; omega) (fun it hi => by have := tot_fsum (fo1 T) 1 0 it hi; have := HOk.out.sum; omega) (by rw [fsum_pre]; have := HOk.out.sum; omega))
    rw [dep_tree, ← hd] at hDp
    clear hd
    have g5 := (B_W2.out.block _ (lt_of_block GW2.out)).trans GW2.out
    have x0 := cell_of g5 0
    have x1 := cell_of g5 1
    have x2 := cell_of g5 2
    have x3 := cell_of g5 3
    simp only [List.getElem?_toArray, List.getElem?_cons_zero, List.getElem?_cons_succ] at x0 x1 x2 x3
    clear g5
    have d0 : decide ((65536 : Int) < (N : Int)) = false := by simp; omega
    go_wp2_with fail
    refine hDp.mono ?_
    rintro e W5 ⟨rfl, hb5⟩
    clear hDp x0 x1 x2 x3 d0
    replace B_w : Hid (Below w.heap.size w W5) := B_w.out.trans (hb5.mono B_w.out.size)
    replace B_W1 : Hid (Below W1.heap.size W1 W5) := B_W1.out.trans (hb5.mono B_W1.out.size)
    replace B_W2 : Hid (Below W2.heap.size W2 W5) := B_W2.out.trans (hb5.mono B_W2.out.size)
    replace B_W4 : Hid (Below W4.heap.size W4 W5) := B_W4.out.trans (hb5.mono B_W4.out.size)
    clear hb5
    have HS1 : Hid (parseS B (min 256 ((d : Int) + M)).toNat (min 65536 ((N : Int) + M)).toNat = .ok (T, (List.range' 0 (fo1 T).cnt).map (orO [false])) (fB [false] 0 (fo1 T)).length) := by show _ = _; rw [HB.out]; exact parse_tree Hwf.out [false] (by rw [← Hd.out]; omega) (by rw [← HB.out, ← HN0.out]; omega)
    have w1 : wrap64 ((d : Int) + M) = (d : Int) + M := by unfold wrap64; omega
    have w2 : wrap64 ((N : Int) + M) = (N : Int) + M := by unfold wrap64; omega
    have hP1 := parse17_any (HR.out.later B_W4.out) (by omega) (HE1.out.later B_W1.out) (md := ((d : Int) + M)) (mb := ((N : Int) + M)) (D := min 256 ((d : Int) + M)) (lim := (min 65536 ((N : Int) + M)).toNat) (by omega) (by omega)
    rw [HS1.out] at hP1
    go_wp2_with fail
    refine hP1.mono ?_
    rintro e W6 ⟨u1, rfl, hbW6, hTu1⟩
    clear hP1
    obtain ⟨p11, q11, p12, q12, p13, q13, eu1, _⟩ := gm_slc hTu1
    subst eu1
    have HTu1 : Hid (TV (fun k => k < W6.heap.size) W6 (.agg #[.int .i64 K0, .slice p11 n1 q11, .slice p12 n2 q12, .slice p13 n3 q13]) T) := by obtain ⟨e0, e1, e2, e3⟩ := HKn.out; rw [e0, e1, e2, e3]; exact hTu1.mono (fun k hk => hk.2)
    clear hTu1
    replace B_w : Hid (Below w.heap.size w W6) := B_w.out.trans (hbW6.mono B_w.out.size)
    replace B_W1 : Hid (Below W1.heap.size W1 W6) := B_W1.out.trans (hbW6.mono B_W1.out.size)
    replace B_W2 : Hid (Below W2.heap.size W2 W6) := B_W2.out.trans (hbW6.mono B_W2.out.size)
    replace B_W4 : Hid (Below W4.heap.size W4 W6) := B_W4.out.trans (hbW6.mono B_W4.out.size)
    clear hbW6
    have B_W6 : Hid (Below W6.heap.size W6 W6) := Below.refl _ _
    obtain ⟨e0, e1, e2, e3⟩ := HKn.out
    simp only at e0 e1 e2 e3 ⊢
    rw [← e0, ← e1, ← e2, ← e3]
    clear e0 e1 e2 e3
    obtain ⟨X6, hX6⟩ : ∃ X6, X6 = W6.alloc (.cells #[.int .i64 K0, .slice p11 n1 q11, .slice p12 n2 q12, .slice p13 n3 q13] 31) := ⟨_, rfl⟩
    have HX6 : Hid (W6.alloc (.cells #[.int .i64 K0, .slice p11 n1 q11, .slice p12 n2 q12, .slice p13 n3 q13] 31) = X6) := hX6.symm
    have hbX6 : Below W6.heap.size W6 X6 := by rw [hX6]; exact alloc_below _
    have GX6 : Hid (X6.heap[W6.heap.size]? = some (.cells #[.int .i64 K0, .slice p11 n1 q11, .slice p12 n2 q12, .slice p13 n3 q13] 31 (0, 0))) := by rw [hX6]; exact heap_alloc_new _ _
    replace B_w : Hid (Below w.heap.size w X6) := B_w.out.trans (hbX6.mono B_w.out.size)
    replace B_W1 : Hid (Below W1.heap.size W1 X6) := B_W1.out.trans (hbX6.mono B_W1.out.size)
    replace B_W2 : Hid (Below W2.heap.size W2 X6) := B_W2.out.trans (hbX6.mono B_W2.out.size)
    replace B_W4 : Hid (Below W4.heap.size W4 X6) := B_W4.out.trans (hbX6.mono B_W4.out.size)
    replace B_W6 : Hid (Below W6.heap.size W6 X6) := B_W6.out.trans (hbX6.mono B_W6.out.size)
    clear hX6 hbX6
    go_upto_region 10 with (fail)
    rw [HX6.out]
    have B_X6 : Hid (Below X6.heap.size X6 X6) := Below.refl _ _
    have HS2 : Hid (parseS B ((d : Nat) : Int).toNat N = .ok (T, (List.range' 0 (fo1 T).cnt).map (orO [false])) (fB [false] 0 (fo1 T)).length) := by show _ = _; rw [HB.out]; exact parse_tree Hwf.out [false] (by rw [← Hd.out]; omega) (by rw [← HB.out, ← HN0.out]; omega)
    have hP2 := parse17_any (HR.out.later B_W4.out) (by omega) (HE1.out.later B_W1.out) (md := (d : Int)) (mb := (N : Int)) (D := (d : Int)) (lim := N) (by omega) (by omega)
    rw [HS2.out] at hP2
    go_wp2_with fail
    refine hP2.mono ?_
    rintro e W7 ⟨u2, rfl, hbW7, hTu2⟩
    clear hP2
    obtain ⟨p21, q21, p22, q22, p23, q23, eu2, _⟩ := gm_slc hTu2
    subst eu2
    have HTu2 : Hid (TV (fun k => k < W7.heap.size) W7 (.agg #[.int .i64 K0, .slice p21 n1 q21, .slice p22 n2 q22, .slice p23 n3 q23]) T) := by obtain ⟨e0, e1, e2, e3⟩ := HKn.out; rw [e0, e1, e2, e3]; exact hTu2.mono (fun k hk => hk.2)
    clear hTu2
    replace B_w : Hid (Below w.heap.size w W7) := B_w.out.trans (hbW7.mono B_w.out.size)
    replace B_W1 : Hid (Below W1.heap.size W1 W7) := B_W1.out.trans (hbW7.mono B_W1.out.size)
    replace B_W2 : Hid (Below W2.heap.size W2 W7) := B_W2.out.trans (hbW7.mono B_W2.out.size)
    replace B_W4 : Hid (Below W4.heap.size W4 W7) := B_W4.out.trans (hbW7.mono B_W4.out.size)
    replace B_W6 : Hid (Below W6.heap.size W6 W7) := B_W6.out.trans (hbW7.mono B_W6.out.size)
    replace B_X6 : Hid (Below X6.heap.size X6 W7) := B_X6.out.trans (hbW7.mono B_X6.out.size)
    clear hbW7
    have B_W7 : Hid (Below W7.heap.size W7 W7) := Below.refl _ _
    obtain ⟨e0, e1, e2, e3⟩ := HKn.out
    simp only at e0 e1 e2 e3 ⊢
    rw [← e0, ← e1, ← e2, ← e3]
    clear e0 e1 e2 e3
    obtain ⟨X7, hX7⟩ : ∃ X7, X7 = W7.alloc (.cells #[.int .i64 K0, .slice p21 n1 q21, .slice p22 n2 q22, .slice p23 n3 q23] 31) := ⟨_, rfl⟩
    have HX7 : Hid (W7.alloc (.cells #[.int .i64 K0, .slice p21 n1 q21, .slice p22 n2 q22, .slice p23 n3 q23] 31) = X7) := hX7.symm
    have hbX7 : Below W7.heap.size W7 X7 := by rw [hX7]; exact alloc_below _
    have GX7 : Hid (X7.heap[W7.heap.size]? = some (.cells #[.int .i64 K0, .slice p21 n1 q21, .slice p22 n2 q22, .slice p23 n3 q23] 31 (0, 0))) := by rw [hX7]; exact heap_alloc_new _ _
    replace B_w : Hid (Below w.heap.size w X7) := B_w.out.trans (hbX7.mono B_w.out.size)
    replace B_W1 : Hid (Below W1.heap.size W1 X7) := B_W1.out.trans (hbX7.mono B_W1.out.size)
    replace B_W2 : Hid (Below W2.heap.size W2 X7) := B_W2.out.trans (hbX7.mono B_W2.out.size)
    replace B_W4 : Hid (Below W4.heap.size W4 X7) := B_W4.out.trans (hbX7.mono B_W4.out.size)
    replace B_W6 : Hid (Below W6.heap.size W6 X7) := B_W6.out.trans (hbX7.mono B_W6.out.size)
    replace B_X6 : Hid (Below X6.heap.size X6 X7) := B_X6.out.trans (hbX7.mono B_X6.out.size)
    replace B_W7 : Hid (Below W7.heap.size W7 X7) := B_W7.out.trans (hbX7.mono B_W7.out.size)
    clear hX7 hbX7
    go_upto_region 11 with (fail)
    rw [HX7.out]
    have B_X7 : Hid (Below X7.heap.size X7 X7) := Below.refl _ _
    have HS3 : Hid (parseS B ((d : Nat) : Int).toNat (N - 1) = .bad (N - 1) 192) := by show _ = _; exact parse_long (by rw [← HN0.out]; omega)
    have w1 : wrap64 ((N : Int) - 1) = (N : Int) - 1 := by unfold wrap64; omega
    have hP3 := parse17_any (HR.out.later B_W4.out) (by omega) (HE1.out.later B_W1.out) (md := (d : Int)) (mb := ((N : Int) - 1)) (D := (d : Int)) (lim := (N - 1)) (by omega) (by omega)
    rw [HS3.out] at hP3
    go_wp2_with fail
    refine hP3.mono ?_
    rintro e W8 ⟨g3, rfl, hF3, hbW8⟩
    clear hP3
    have HF3 := Wk.hidQ hF3
    replace B_w : Hid (Below w.heap.size w W8) := B_w.out.trans (hbW8.mono B_w.out.size)
    replace B_W1 : Hid (Below W1.heap.size W1 W8) := B_W1.out.trans (hbW8.mono B_W1.out.size)
    replace B_W2 : Hid (Below W2.heap.size W2 W8) := B_W2.out.trans (hbW8.mono B_W2.out.size)
    replace B_W4 : Hid (Below W4.heap.size W4 W8) := B_W4.out.trans (hbW8.mono B_W4.out.size)
    replace B_W6 : Hid (Below W6.heap.size W6 W8) := B_W6.out.trans (hbW8.mono B_W6.out.size)
    replace B_X6 : Hid (Below X6.heap.size X6 W8) := B_X6.out.trans (hbW8.mono B_X6.out.size)
    replace B_W7 : Hid (Below W7.heap.size W7 W8) := B_W7.out.trans (hbW8.mono B_W7.out.size)
    replace B_X7 : Hid (Below X7.heap.size X7 W8) := B_X7.out.trans (hbW8.mono B_X7.out.size)
    clear hbW8 hF3
    have B_W8 : Hid (Below W8.heap.size W8 W8) := Below.refl _ _
    unfold zg
    obtain ⟨X8, hX8⟩ : ∃ X8, X8 = W8.alloc (.cells #[.int .i64 0, .slice none 0 0, .slice none 0 0, .slice none 0 0] 31) := ⟨_, rfl⟩
    have HX8 : Hid (W8.alloc (.cells #[.int .i64 0, .slice none 0 0, .slice none 0 0, .slice none 0 0] 31) = X8) := hX8.symm
    have hbX8 : Below W8.heap.size W8 X8 := by rw [hX8]; exact alloc_below _
    have GX8 : Hid (X8.heap[W8.heap.size]? = some (.cells #[.int .i64 0, .slice none 0 0, .slice none 0 0, .slice none 0 0] 31 (0, 0))) := by rw [hX8]; exact heap_alloc_new _ _
    replace B_w : Hid (Below w.heap.size w X8) := B_w.out.trans (hbX8.mono B_w.out.size)
    replace B_W1 : Hid (Below W1.heap.size W1 X8) := B_W1.out.trans (hbX8.mono B_W1.out.size)
    replace B_W2 : Hid (Below W2.heap.size W2 X8) := B_W2.out.trans (hbX8.mono B_W2.out.size)
    replace B_W4 : Hid (Below W4.heap.size W4 X8) := B_W4.out.trans (hbX8.mono B_W4.out.size)
    replace B_W6 : Hid (Below W6.heap.size W6 X8) := B_W6.out.trans (hbX8.mono B_W6.out.size)
    replace B_X6 : Hid (Below X6.heap.size X6 X8) := B_X6.out.trans (hbX8.mono B_X6.out.size)
    replace B_W7 : Hid (Below W7.heap.size W7 X8) := B_W7.out.trans (hbX8.mono B_W7.out.size)
    replace B_X7 : Hid (Below X7.heap.size X7 X8) := B_X7.out.trans (hbX8.mono B_X7.out.size)
    replace B_W8 : Hid (Below W8.heap.size W8 X8) := B_W8.out.trans (hbX8.mono B_W8.out.size)
    clear hX8 hbX8
    go_upto_region 12 with (fail)
    rw [HX8.out]
    obtain ⟨P4, HS4, hP9⟩ : ∃ P4, Hid (parseS B ((d : Int) - 1).toNat N = .bad P4 191) ∧ P4 < N := by
      obtain ⟨q, e1, e2⟩ := parse_deep Hwf.out [false] (n := ((d : Int) - 1).toNat) (lim := N) (by rw [← Hd.out]; omega) (by rw [← HB.out, ← HN0.out]; omega)
      rw [← HB.out] at e1 e2
      exact ⟨q, e1, by rw [HN0.out]; exact e2⟩
    have w1 : wrap64 ((d : Int) - 1) = (d : Int) - 1 := by unfold wrap64; omega
    have hP4 := parse17_any (HR.out.later B_W4.out) (by omega) (HE1.out.later B_W1.out) (md := ((d : Int) - 1)) (mb := (N : Int)) (D := ((d : Int) - 1)) (lim := N) (by omega) (by omega)
    rw [HS4.out] at hP4
    go_wp2_with fail
    refine hP4.mono ?_
    rintro e W9 ⟨g4, rfl, hF4, hbW9⟩
    clear hP4
    have HF4 := Wk.hidQ hF4
    replace B_w : Hid (Below w.heap.size w W9) := B_w.out.trans (hbW9.mono B_w.out.size)
    replace B_W1 : Hid (Below W1.heap.size W1 W9) := B_W1.out.trans (hbW9.mono B_W1.out.size)
    replace B_W2 : Hid (Below W2.heap.size W2 W9) := B_W2.out.trans (hbW9.mono B_W2.out.size)
    replace B_W4 : Hid (Below W4.heap.size W4 W9) := B_W4.out.trans (hbW9.mono B_W4.out.size)
    replace B_W6 : Hid (Below W6.heap.size W6 W9) := B_W6.out.trans (hbW9.mono B_W6.out.size)
    replace B_X6 : Hid (Below X6.heap.size X6 W9) := B_X6.out.trans (hbW9.mono B_X6.out.size)
    replace B_W7 : Hid (Below W7.heap.size W7 W9) := B_W7.out.trans (hbW9.mono B_W7.out.size)
    replace B_X7 : Hid (Below X7.heap.size X7 W9) := B_X7.out.trans (hbW9.mono B_X7.out.size)
    replace B_W8 : Hid (Below W8.heap.size W8 W9) := B_W8.out.trans (hbW9.mono B_W8.out.size)
    clear hbW9 hF4
    have B_W9 : Hid (Below W9.heap.size W9 W9) := Below.refl _ _
    unfold zg
    obtain ⟨X9, hX9⟩ : ∃ X9, X9 = W9.alloc (.cells #[.int .i64 0, .slice none 0 0, .slice none 0 0, .slice none 0 0] 31) := ⟨_, rfl⟩
    have HX9 : Hid (W9.alloc (.cells #[.int .i64 0, .slice none 0 0, .slice none 0 0, .slice none 0 0] 31) = X9) := hX9.symm
    have hbX9 : Below W9.heap.size W9 X9 := by rw [hX9]; exact alloc_below _
    have GX9 : Hid (X9.heap[W9.heap.size]? = some (.cells #[.int .i64 0, .slice none 0 0, .slice none 0 0, .slice none 0 0] 31 (0, 0))) := by rw [hX9]; exact heap_alloc_new _ _
    replace B_w : Hid (Below w.heap.size w X9) := B_w.out.trans (hbX9.mono B_w.out.size)
    replace B_W1 : Hid (Below W1.heap.size W1 X9) := B_W1.out.trans (hbX9.mono B_W1.out.size)
    replace B_W2 : Hid (Below W2.heap.size W2 X9) := B_W2.out.trans (hbX9.mono B_W2.out.size)
    replace B_W4 : Hid (Below W4.heap.size W4 X9) := B_W4.out.trans (hbX9.mono B_W4.out.size)
    replace B_W6 : Hid (Below W6.heap.size W6 X9) := B_W6.out.trans (hbX9.mono B_W6.out.size)
    replace B_X6 : Hid (Below X6.heap.size X6 X9) := B_X6.out.trans (hbX9.mono B_X6.out.size)
    replace B_W7 : Hid (Below W7.heap.size W7 X9) := B_W7.out.trans (hbX9.mono B_W7.out.size)
    replace B_X7 : Hid (Below X7.heap.size X7 X9) := B_X7.out.trans (hbX9.mono B_X7.out.size)
    replace B_W8 : Hid (Below W8.heap.size W8 X9) := B_W8.out.trans (hbX9.mono B_W8.out.size)
    replace B_W9 : Hid (Below W9.heap.size W9 X9) := B_W9.out.trans (hbX9.mono B_W9.out.size)
    clear hX9 hbX9
    go_upto_region 13 with (fail)
    rw [HX9.out]
    have B_X9 : Hid (Below X9.heap.size X9 X9) := Below.refl _ _
    have HS5 : Hid (parseS B ((d : Nat) : Int).toNat 0 = .bad 0 192) := by show _ = _; exact parse_long (by rw [← HN0.out]; omega)
    have w1 : wrap64 (-1 - M) = -1 - M := by unfold wrap64; omega
    have hP5 := parse17_any (HR.out.later B_W4.out) (by omega) (HE1.out.later B_W1.out) (md := (d : Int)) (mb := (-1 - M)) (D := (d : Int)) (lim := 0) (by omega) (by omega)
    rw [HS5.out] at hP5
    go_wp2_with fail
    refine hP5.mono ?_
    rintro e W10 ⟨g5, rfl, hF5, hbW10⟩
    clear hP5
    have HF5 := Wk.hidQ hF5
    replace B_w : Hid (Below w.heap.size w W10) := B_w.out.trans (hbW10.mono B_w.out.size)
    replace B_W1 : Hid (Below W1.heap.size W1 W10) := B_W1.out.trans (hbW10.mono B_W1.out.size)
    replace B_W2 : Hid (Below W2.heap.size W2 W10) := B_W2.out.trans (hbW10.mono B_W2.out.size)
    replace B_W4 : Hid (Below W4.heap.size W4 W10) := B_W4.out.trans (hbW10.mono B_W4.out.size)
    replace B_W6 : Hid (Below W6.heap.size W6 W10) := B_W6.out.trans (hbW10.mono B_W6.out.size)
    replace B_X6 : Hid (Below X6.heap.size X6 W10) := B_X6.out.trans (hbW10.mono B_X6.out.size)
    replace B_W7 : Hid (Below W7.heap.size W7 W10) := B_W7.out.trans (hbW10.mono B_W7.out.size)
    replace B_X7 : Hid (Below X7.heap.size X7 W10) := B_X7.out.trans (hbW10.mono B_X7.out.size)
    replace B_W8 : Hid (Below W8.heap.size W8 W10) := B_W8.out.trans (hbW10.mono B_W8.out.size)
    replace B_W9 : Hid (Below W9.heap.size W9 W10) := B_W9.out.trans (hbW10.mono B_W9.out.size)
    replace B_X9 : Hid (Below X9.heap.size X9 W10) := B_X9.out.trans (hbW10.mono B_X9.out.size)
    clear hbW10 hF5
    have B_W10 : Hid (Below W10.heap.size W10 W10) := Below.refl _ _
    unfold zg
    obtain ⟨X10, hX10⟩ : ∃ X10, X10 = W10.alloc (.cells #[.int .i64 0, .slice none 0 0, .slice none 0 0, .slice none 0 0] 31) := ⟨_, rfl⟩
    have HX10 : Hid (W10.alloc (.cells #[.int .i64 0, .slice none 0 0, .slice none 0 0, .slice none 0 0] 31) = X10) := hX10.symm
    have hbX10 : Below W10.heap.size W10 X10 := by rw [hX10]; exact alloc_below _
    have GX10 : Hid (X10.heap[W10.heap.size]? = some (.cells #[.int .i64 0, .slice none 0 0, .slice none 0 0, .slice none 0 0] 31 (0, 0))) := by rw [hX10]; exact heap_alloc_new _ _
    replace B_w : Hid (Below w.heap.size w X10) := B_w.out.trans (hbX10.mono B_w.out.size)
    replace B_W1 : Hid (Below W1.heap.size W1 X10) := B_W1.out.trans (hbX10.mono B_W1.out.size)
    replace B_W2 : Hid (Below W2.heap.size W2 X10) := B_W2.out.trans (hbX10.mono B_W2.out.size)
    replace B_W4 : Hid (Below W4.heap.size W4 X10) := B_W4.out.trans (hbX10.mono B_W4.out.size)
    replace B_W6 : Hid (Below W6.heap.size W6 X10) := B_W6.out.trans (hbX10.mono B_W6.out.size)
    replace B_X6 : Hid (Below X6.heap.size X6 X10) := B_X6.out.trans (hbX10.mono B_X6.out.size)
    replace B_W7 : Hid (Below W7.heap.size W7 X10) := B_W7.out.trans (hbX10.mono B_W7.out.size)
    replace B_X7 : Hid (Below X7.heap.size X7 X10) := B_X7.out.trans (hbX10.mono B_X7.out.size)
    replace B_W8 : Hid (Below W8.heap.size W8 X10) := B_W8.out.trans (hbX10.mono B_W8.out.size)
    replace B_W9 : Hid (Below W9.heap.size W9 X10) := B_W9.out.trans (hbX10.mono B_W9.out.size)
    replace B_X9 : Hid (Below X9.heap.size X9 X10) := B_X9.out.trans (hbX10.mono B_X9.out.size)
    replace B_W10 : Hid (Below W10.heap.size W10 X10) := B_W10.out.trans (hbX10.mono B_W10.out.size)
    clear hX10 hbX10
    go_upto_region 14 with (fail)
    rw [HX10.out]
    have HS6 : Hid (parseS B (-M).toNat N = .bad 0 191) := by show _ = _; rw [show (-M).toNat = 0 by omega, HB.out]; exact parse_zero Hwf.out [false] (by rw [← HB.out, ← HN0.out]; omega)
    have w1 : wrap64 (-M) = -M := by unfold wrap64; omega
    have hP6 := parse17_any (HR.out.later B_W4.out) (by omega) (HE1.out.later B_W1.out) (md := (-M)) (mb := (N : Int)) (D := (-M)) (lim := N) (by omega) (by omega)
    rw [HS6.out] at hP6
    go_wp2_with fail
    refine hP6.mono ?_
    rintro e W11 ⟨g6, rfl, hF6, hbW11⟩
    clear hP6
    have HF6 := Wk.hidQ hF6
    replace B_w : Hid (Below w.heap.size w W11) := B_w.out.trans (hbW11.mono B_w.out.size)
    replace B_W1 : Hid (Below W1.heap.size W1 W11) := B_W1.out.trans (hbW11.mono B_W1.out.size)
    replace B_W2 : Hid (Below W2.heap.size W2 W11) := B_W2.out.trans (hbW11.mono B_W2.out.size)
    replace B_W4 : Hid (Below W4.heap.size W4 W11) := B_W4.out.trans (hbW11.mono B_W4.out.size)
    replace B_W6 : Hid (Below W6.heap.size W6 W11) := B_W6.out.trans (hbW11.mono B_W6.out.size)
    replace B_X6 : Hid (Below X6.heap.size X6 W11) := B_X6.out.trans (hbW11.mono B_X6.out.size)
    replace B_W7 : Hid (Below W7.heap.size W7 W11) := B_W7.out.trans (hbW11.mono B_W7.out.size)
    replace B_X7 : Hid (Below X7.heap.size X7 W11) := B_X7.out.trans (hbW11.mono B_X7.out.size)
    replace B_W8 : Hid (Below W8.heap.size W8 W11) := B_W8.out.trans (hbW11.mono B_W8.out.size)
    replace B_W9 : Hid (Below W9.heap.size W9 W11) := B_W9.out.trans (hbW11.mono B_W9.out.size)
    replace B_X9 : Hid (Below X9.heap.size X9 W11) := B_X9.out.trans (hbW11.mono B_X9.out.size)
    replace B_W10 : Hid (Below W10.heap.size W10 W11) := B_W10.out.trans (hbW11.mono B_W10.out.size)
    clear hbW11 hF6
    have B_W11 : Hid (Below W11.heap.size W11 W11) := Below.refl _ _
    unfold zg
    obtain ⟨X11, hX11⟩ : ∃ X11, X11 = W11.alloc (.cells #[.int .i64 0, .slice none 0 0, .slice none 0 0, .slice none 0 0] 31) := ⟨_, rfl⟩
    have HX11 : Hid (W11.alloc (.cells #[.int .i64 0, .slice none 0 0, .slice none 0 0, .slice none 0 0] 31) = X11) := hX11.symm
    have hbX11 : Below W11.heap.size W11 X11 := by rw [hX11]; exact alloc_below _
    have GX11 : Hid (X11.heap[W11.heap.size]? = some (.cells #[.int .i64 0, .slice none 0 0, .slice none 0 0, .slice none 0 0] 31 (0, 0))) := by rw [hX11]; exact heap_alloc_new _ _
    replace B_w : Hid (Below w.heap.size w X11) := B_w.out.trans (hbX11.mono B_w.out.size)
    replace B_W1 : Hid (Below W1.heap.size W1 X11) := B_W1.out.trans (hbX11.mono B_W1.out.size)
    replace B_W2 : Hid (Below W2.heap.size W2 X11) := B_W2.out.trans (hbX11.mono B_W2.out.size)
    replace B_W4 : Hid (Below W4.heap.size W4 X11) := B_W4.out.trans (hbX11.mono B_W4.out.size)
    replace B_W6 : Hid (Below W6.heap.size W6 X11) := B_W6.out.trans (hbX11.mono B_W6.out.size)
    replace B_X6 : Hid (Below X6.heap.size X6 X11) := B_X6.out.trans (hbX11.mono B_X6.out.size)
    replace B_W7 : Hid (Below W7.heap.size W7 X11) := B_W7.out.trans (hbX11.mono B_W7.out.size)
    replace B_X7 : Hid (Below X7.heap.size X7 X11) := B_X7.out.trans (hbX11.mono B_X7.out.size)
    replace B_W8 : Hid (Below W8.heap.size W8 X11) := B_W8.out.trans (hbX11.mono B_W8.out.size)
    replace B_W9 : Hid (Below W9.heap.size W9 X11) := B_W9.out.trans (hbX11.mono B_W9.out.size)
    replace B_X9 : Hid (Below X9.heap.size X9 X11) := B_X9.out.trans (hbX11.mono B_X9.out.size)
    replace B_W10 : Hid (Below W10.heap.size W10 X11) := B_W10.out.trans (hbX11.mono B_W10.out.size)
    replace B_W11 : Hid (Below W11.heap.size W11 X11) := B_W11.out.trans (hbX11.mono B_W11.out.size)
    clear hX11 hbX11
    go_upto_region 15 with (fail)
    rw [HX11.out]
    have g5 := (B_W2.out.block _ (lt_of_block GW2.out)).trans GW2.out
    have x0 := cell_of g5 0
    have x1 := cell_of g5 1
    have x2 := cell_of g5 2
    have x3 := cell_of g5 3
    simp only [List.getElem?_toArray, List.getElem?_cons_zero, List.getElem?_cons_succ] at x0 x1 x2 x3
    clear g5
    have g6 := (B_X6.out.block _ (lt_of_block GX6.out)).trans GX6.out
    have y0 := cell_of g6 0
    have y1 := cell_of g6 1
    have y2 := cell_of g6 2
    have y3 := cell_of g6 3
    simp only [List.getElem?_toArray, List.getElem?_cons_zero, List.getElem?_cons_succ] at y0 y1 y2 y3
    clear g6
    have g7 := (B_X7.out.block _ (lt_of_block GX7.out)).trans GX7.out
    have z0 := cell_of g7 0
    have z1 := cell_of g7 1
    have z2 := cell_of g7 2
    have z3 := cell_of g7 3
    simp only [List.getElem?_toArray, List.getElem?_cons_zero, List.getElem?_cons_succ] at z0 z1 z2 z3
    clear g7
    have hQ1 := treeEq_same (w := X11) (S1 := fun k => k < W1.heap.size) (S2 := fun k => k < W6.heap.size) (fun k hk => by have := B_W1.out.size; omega) (fun k hk => by have := B_W6.out.size; omega) (HTV.out.below (Kp.of_below B_W1.out (fun k hk => hk))) (HTu1.out.below (Kp.of_below B_W6.out (fun k hk => hk))) HOk.out
    go_wp2_with fail
    refine hQ1.mono ?_
    rintro e W12 ⟨rfl, hb12⟩
    clear hQ1 x0 x1 x2 x3 y0 y1 y2 y3 z0 z1 z2 z3
    replace B_w : Hid (Below w.heap.size w W12) := B_w.out.trans (hb12.mono B_w.out.size)
    replace B_W1 : Hid (Below W1.heap.size W1 W12) := B_W1.out.trans (hb12.mono B_W1.out.size)
    replace B_W2 : Hid (Below W2.heap.size W2 W12) := B_W2.out.trans (hb12.mono B_W2.out.size)
    replace B_W4 : Hid (Below W4.heap.size W4 W12) := B_W4.out.trans (hb12.mono B_W4.out.size)
    replace B_W6 : Hid (Below W6.heap.size W6 W12) := B_W6.out.trans (hb12.mono B_W6.out.size)
    replace B_X6 : Hid (Below X6.heap.size X6 W12) := B_X6.out.trans (hb12.mono B_X6.out.size)
    replace B_W7 : Hid (Below W7.heap.size W7 W12) := B_W7.out.trans (hb12.mono B_W7.out.size)
    replace B_X7 : Hid (Below X7.heap.size X7 W12) := B_X7.out.trans (hb12.mono B_X7.out.size)
    replace B_W8 : Hid (Below W8.heap.size W8 W12) := B_W8.out.trans (hb12.mono B_W8.out.size)
    replace B_W9 : Hid (Below W9.heap.size W9 W12) := B_W9.out.trans (hb12.mono B_W9.out.size)
    replace B_X9 : Hid (Below X9.heap.size X9 W12) := B_X9.out.trans (hb12.mono B_X9.out.size)
    replace B_W10 : Hid (Below W10.heap.size W10 W12) := B_W10.out.trans (hb12.mono B_W10.out.size)
    replace B_W11 : Hid (Below W11.heap.size W11 W12) := B_W11.out.trans (hb12.mono B_W11.out.size)
    clear hb12
    have g5 := (B_W2.out.block _ (lt_of_block GW2.out)).trans GW2.out
    have x0 := cell_of g5 0
    have x1 := cell_of g5 1
    have x2 := cell_of g5 2
    have x3 := cell_of g5 3
    simp only [List.getElem?_toArray, List.getElem?_cons_zero, List.getElem?_cons_succ] at x0 x1 x2 x3
    clear g5
    have g7 := (B_X7.out.block _ (lt_of_block GX7.out)).trans GX7.out
    have z0 := cell_of g7 0
    have z1 := cell_of g7 1
    have z2 := cell_of g7 2
    have z3 := cell_of g7 3
    simp only [List.getElem?_toArray, List.getElem?_cons_zero, List.getElem?_cons_succ] at z0 z1 z2 z3
    clear g7
    have hQ2 := treeEq_same (w := W12) (S1 := fun k => k < W1.heap.size) (S2 := fun k => k < W7.heap.size) (fun k hk => by have := B_W1.out.size; omega) (fun k hk => by have := B_W7.out.size; omega) (HTV.out.below (Kp.of_below B_W1.out (fun k hk => hk))) (HTu2.out.below (Kp.of_below B_W7.out (fun k hk => hk))) HOk.out
    go_wp2_with fail
    refine hQ2.mono ?_
    rintro e W13 ⟨rfl, hb13⟩
    clear hQ2 x0 x1 x2 x3 z0 z1 z2 z3
    replace B_w : Hid (Below w.heap.size w W13) := B_w.out.trans (hb13.mono B_w.out.size)
    replace B_W1 : Hid (Below W1.heap.size W1 W13) := B_W1.out.trans (hb13.mono B_W1.out.size)
    replace B_W2 : Hid (Below W2.heap.size W2 W13) := B_W2.out.trans (hb13.mono B_W2.out.size)
    replace B_W4 : Hid (Below W4.heap.size W4 W13) := B_W4.out.trans (hb13.mono B_W4.out.size)
    replace B_W6 : Hid (Below W6.heap.size W6 W13) := B_W6.out.trans (hb13.mono B_W6.out.size)
    replace B_X6 : Hid (Below X6.heap.size X6 W13) := B_X6.out.trans (hb13.mono B_X6.out.size)
    replace B_W7 : Hid (Below W7.heap.size W7 W13) := B_W7.out.trans (hb13.mono B_W7.out.size)
    replace B_X7 : Hid (Below X7.heap.size X7 W13) := B_X7.out.trans (hb13.mono B_X7.out.size)
    replace B_W8 : Hid (Below W8.heap.size W8 W13) := B_W8.out.trans (hb13.mono B_W8.out.size)
    replace B_W9 : Hid (Below W9.heap.size W9 W13) := B_W9.out.trans (hb13.mono B_W9.out.size)
    replace B_X9 : Hid (Below X9.heap.size X9 W13) := B_X9.out.trans (hb13.mono B_X9.out.size)
    replace B_W10 : Hid (Below W10.heap.size W10 W13) := B_W10.out.trans (hb13.mono B_W10.out.size)
    replace B_W11 : Hid (Below W11.heap.size W11 W13) := B_W11.out.trans (hb13.mono B_W11.out.size)
    clear hb13
    have eN : (((N - 1 : Nat) : Nat) : Int) = (N : Int) - 1 := by omega
    have w1 : wrap64 ((N : Int) - 1) = (N : Int) - 1 := by unfold wrap64; omega
    have hQ3 := told_yes (HF3.out.later B_W8.out) (HE1.out.later B_W1.out) (by decide)
    rw [eN] at hQ3
    clear eN
    go_wp2_with fail
    refine hQ3.mono ?_
    rintro e W14 ⟨rfl, hbW14⟩
    clear hQ3
    replace B_w : Hid (Below w.heap.size w W14) := B_w.out.trans (hbW14.mono B_w.out.size)
    replace B_W1 : Hid (Below W1.heap.size W1 W14) := B_W1.out.trans (hbW14.mono B_W1.out.size)
    replace B_W2 : Hid (Below W2.heap.size W2 W14) := B_W2.out.trans (hbW14.mono B_W2.out.size)
    replace B_W4 : Hid (Below W4.heap.size W4 W14) := B_W4.out.trans (hbW14.mono B_W4.out.size)
    replace B_W6 : Hid (Below W6.heap.size W6 W14) := B_W6.out.trans (hbW14.mono B_W6.out.size)
    replace B_X6 : Hid (Below X6.heap.size X6 W14) := B_X6.out.trans (hbW14.mono B_X6.out.size)
    replace B_W7 : Hid (Below W7.heap.size W7 W14) := B_W7.out.trans (hbW14.mono B_W7.out.size)
    replace B_X7 : Hid (Below X7.heap.size X7 W14) := B_X7.out.trans (hbW14.mono B_X7.out.size)
    replace B_W8 : Hid (Below W8.heap.size W8 W14) := B_W8.out.trans (hbW14.mono B_W8.out.size)
    replace B_W9 : Hid (Below W9.heap.size W9 W14) := B_W9.out.trans (hbW14.mono B_W9.out.size)
    replace B_X9 : Hid (Below X9.heap.size X9 W14) := B_X9.out.trans (hbW14.mono B_X9.out.size)
    replace B_W10 : Hid (Below W10.heap.size W10 W14) := B_W10.out.trans (hbW14.mono B_W10.out.size)
    replace B_W11 : Hid (Below W11.heap.size W11 W14) := B_W11.out.trans (hbW14.mono B_W11.out.size)
    clear hbW14
    have hQ5 := told_yes (HF5.out.later B_W10.out) (HE1.out.later B_W1.out) (by decide)
    go_wp2_with fail
    refine hQ5.mono ?_
    rintro e W15 ⟨rfl, hbW15⟩
    clear hQ5
    replace B_w : Hid (Below w.heap.size w W15) := B_w.out.trans (hbW15.mono B_w.out.size)
    replace B_W1 : Hid (Below W1.heap.size W1 W15) := B_W1.out.trans (hbW15.mono B_W1.out.size)
    replace B_W2 : Hid (Below W2.heap.size W2 W15) := B_W2.out.trans (hbW15.mono B_W2.out.size)
    replace B_W4 : Hid (Below W4.heap.size W4 W15) := B_W4.out.trans (hbW15.mono B_W4.out.size)
    replace B_W6 : Hid (Below W6.heap.size W6 W15) := B_W6.out.trans (hbW15.mono B_W6.out.size)
    replace B_X6 : Hid (Below X6.heap.size X6 W15) := B_X6.out.trans (hbW15.mono B_X6.out.size)
    replace B_W7 : Hid (Below W7.heap.size W7 W15) := B_W7.out.trans (hbW15.mono B_W7.out.size)
    replace B_X7 : Hid (Below X7.heap.size X7 W15) := B_X7.out.trans (hbW15.mono B_X7.out.size)
    replace B_W8 : Hid (Below W8.heap.size W8 W15) := B_W8.out.trans (hbW15.mono B_W8.out.size)
    replace B_W9 : Hid (Below W9.heap.size W9 W15) := B_W9.out.trans (hbW15.mono B_W9.out.size)
    replace B_X9 : Hid (Below X9.heap.size X9 W15) := B_X9.out.trans (hbW15.mono B_X9.out.size)
    replace B_W10 : Hid (Below W10.heap.size W10 W15) := B_W10.out.trans (hbW15.mono B_W10.out.size)
    replace B_W11 : Hid (Below W11.heap.size W11 W15) := B_W11.out.trans (hbW15.mono B_W11.out.size)
    clear hbW15
    have hQ6 := told_yes (HF6.out.later B_W11.out) (HE1.out.later B_W1.out) (by decide)
    go_wp2_with fail
    refine hQ6.mono ?_
    rintro e W16 ⟨rfl, hbW16⟩
    clear hQ6
    replace B_w : Hid (Below w.heap.size w W16) := B_w.out.trans (hbW16.mono B_w.out.size)
    replace B_W1 : Hid (Below W1.heap.size W1 W16) := B_W1.out.trans (hbW16.mono B_W1.out.size)
    replace B_W2 : Hid (Below W2.heap.size W2 W16) := B_W2.out.trans (hbW16.mono B_W2.out.size)
    replace B_W4 : Hid (Below W4.heap.size W4 W16) := B_W4.out.trans (hbW16.mono B_W4.out.size)
    replace B_W6 : Hid (Below W6.heap.size W6 W16) := B_W6.out.trans (hbW16.mono B_W6.out.size)
    replace B_X6 : Hid (Below X6.heap.size X6 W16) := B_X6.out.trans (hbW16.mono B_X6.out.size)
    replace B_W7 : Hid (Below W7.heap.size W7 W16) := B_W7.out.trans (hbW16.mono B_W7.out.size)
    replace B_X7 : Hid (Below X7.heap.size X7 W16) := B_X7.out.trans (hbW16.mono B_X7.out.size)
    replace B_W8 : Hid (Below W8.heap.size W8 W16) := B_W8.out.trans (hbW16.mono B_W8.out.size)
    replace B_W9 : Hid (Below W9.heap.size W9 W16) := B_W9.out.trans (hbW16.mono B_W9.out.size)
    replace B_X9 : Hid (Below X9.heap.size X9 W16) := B_X9.out.trans (hbW16.mono B_X9.out.size)
    replace B_W10 : Hid (Below W10.heap.size W10 W16) := B_W10.out.trans (hbW16.mono B_W10.out.size)
    replace B_W11 : Hid (Below W11.heap.size W11 W16) := B_W11.out.trans (hbW16.mono B_W11.out.size)
    clear hbW16
    have g9 := (B_X9.out.block _ (lt_of_block GX9.out)).trans GX9.out
    have y0 := cell_of g9 0
    have y1 := cell_of g9 1
    have y2 := cell_of g9 2
    have y3 := cell_of g9 3
    simp only [List.getElem?_toArray, List.getElem?_cons_zero, List.getElem?_cons_succ] at y0 y1 y2 y3
    clear g9
    have hZ := zero_yes W16
    go_wp2_with fail
    refine hZ.mono ?_
    rintro e W17 ⟨rfl, hb17⟩
    clear hZ y0 y1 y2 y3
    replace B_w : Hid (Below w.heap.size w W17) := B_w.out.trans (hb17.mono B_w.out.size)
    replace B_W1 : Hid (Below W1.heap.size W1 W17) := B_W1.out.trans (hb17.mono B_W1.out.size)
    replace B_W2 : Hid (Below W2.heap.size W2 W17) := B_W2.out.trans (hb17.mono B_W2.out.size)
    replace B_W4 : Hid (Below W4.heap.size W4 W17) := B_W4.out.trans (hb17.mono B_W4.out.size)
    replace B_W6 : Hid (Below W6.heap.size W6 W17) := B_W6.out.trans (hb17.mono B_W6.out.size)
    replace B_X6 : Hid (Below X6.heap.size X6 W17) := B_X6.out.trans (hb17.mono B_X6.out.size)
    replace B_W7 : Hid (Below W7.heap.size W7 W17) := B_W7.out.trans (hb17.mono B_W7.out.size)
    replace B_X7 : Hid (Below X7.heap.size X7 W17) := B_X7.out.trans (hb17.mono B_X7.out.size)
    replace B_W8 : Hid (Below W8.heap.size W8 W17) := B_W8.out.trans (hb17.mono B_W8.out.size)
    replace B_W9 : Hid (Below W9.heap.size W9 W17) := B_W9.out.trans (hb17.mono B_W9.out.size)
    replace B_X9 : Hid (Below X9.heap.size X9 W17) := B_X9.out.trans (hb17.mono B_X9.out.size)
    replace B_W10 : Hid (Below W10.heap.size W10 W17) := B_W10.out.trans (hb17.mono B_W10.out.size)
    replace B_W11 : Hid (Below W11.heap.size W11 W17) := B_W11.out.trans (hb17.mono B_W11.out.size)
    clear hb17
    have hC := codeFault_any (HF4.out.later B_W9.out) (HE1.out.later B_W1.out)
    go_wp2_with fail
    refine hC.mono ?_
    rintro e W18 ⟨rfl, hb18⟩
    clear hC
    replace B_w : Hid (Below w.heap.size w W18) := B_w.out.trans (hb18.mono B_w.out.size)
    replace B_W1 : Hid (Below W1.heap.size W1 W18) := B_W1.out.trans (hb18.mono B_W1.out.size)
    replace B_W2 : Hid (Below W2.heap.size W2 W18) := B_W2.out.trans (hb18.mono B_W2.out.size)
    replace B_W4 : Hid (Below W4.heap.size W4 W18) := B_W4.out.trans (hb18.mono B_W4.out.size)
    replace B_W6 : Hid (Below W6.heap.size W6 W18) := B_W6.out.trans (hb18.mono B_W6.out.size)
    replace B_X6 : Hid (Below X6.heap.size X6 W18) := B_X6.out.trans (hb18.mono B_X6.out.size)
    replace B_W7 : Hid (Below W7.heap.size W7 W18) := B_W7.out.trans (hb18.mono B_W7.out.size)
    replace B_X7 : Hid (Below X7.heap.size X7 W18) := B_X7.out.trans (hb18.mono B_X7.out.size)
    replace B_W8 : Hid (Below W8.heap.size W8 W18) := B_W8.out.trans (hb18.mono B_W8.out.size)
    replace B_W9 : Hid (Below W9.heap.size W9 W18) := B_W9.out.trans (hb18.mono B_W9.out.size)
    replace B_X9 : Hid (Below X9.heap.size X9 W18) := B_X9.out.trans (hb18.mono B_X9.out.size)
    replace B_W10 : Hid (Below W10.heap.size W10 W18) := B_W10.out.trans (hb18.mono B_W10.out.size)
    replace B_W11 : Hid (Below W11.heap.size W11 W18) := B_W11.out.trans (hb18.mono B_W11.out.size)
    clear hb18
    have hC := placeFault_any (HF4.out.later B_W9.out) (HE1.out.later B_W1.out)
    have dp : decide ((0 : Int) ≤ ((P4 : Nat) : Int)) = true := by simp
    go_wp2_with fail
    refine hC.mono ?_
    rintro e W19 ⟨rfl, hb19⟩
    clear hC
    replace B_w : Hid (Below w.heap.size w W19) := B_w.out.trans (hb19.mono B_w.out.size)
    replace B_W1 : Hid (Below W1.heap.size W1 W19) := B_W1.out.trans (hb19.mono B_W1.out.size)
    replace B_W2 : Hid (Below W2.heap.size W2 W19) := B_W2.out.trans (hb19.mono B_W2.out.size)
    replace B_W4 : Hid (Below W4.heap.size W4 W19) := B_W4.out.trans (hb19.mono B_W4.out.size)
    replace B_W6 : Hid (Below W6.heap.size W6 W19) := B_W6.out.trans (hb19.mono B_W6.out.size)
    replace B_X6 : Hid (Below X6.heap.size X6 W19) := B_X6.out.trans (hb19.mono B_X6.out.size)
    replace B_W7 : Hid (Below W7.heap.size W7 W19) := B_W7.out.trans (hb19.mono B_W7.out.size)
    replace B_X7 : Hid (Below X7.heap.size X7 W19) := B_X7.out.trans (hb19.mono B_X7.out.size)
    replace B_W8 : Hid (Below W8.heap.size W8 W19) := B_W8.out.trans (hb19.mono B_W8.out.size)
    replace B_W9 : Hid (Below W9.heap.size W9 W19) := B_W9.out.trans (hb19.mono B_W9.out.size)
    replace B_X9 : Hid (Below X9.heap.size X9 W19) := B_X9.out.trans (hb19.mono B_X9.out.size)
    replace B_W10 : Hid (Below W10.heap.size W10 W19) := B_W10.out.trans (hb19.mono B_W10.out.size)
    replace B_W11 : Hid (Below W11.heap.size W11 W19) := B_W11.out.trans (hb19.mono B_W11.out.size)
    clear hb19
    have hC := placeFault_any (HF4.out.later B_W9.out) (HE1.out.later B_W1.out)
    have dq : decide (((P4 : Nat) : Int) < (N : Int)) = true := by simp; omega
    go_wp2_with fail
    refine hC.mono ?_
    rintro e W20 ⟨rfl, hb20⟩
    clear hC
    replace B_w : Hid (Below w.heap.size w W20) := B_w.out.trans (hb20.mono B_w.out.size)
    replace B_W1 : Hid (Below W1.heap.size W1 W20) := B_W1.out.trans (hb20.mono B_W1.out.size)
    replace B_W2 : Hid (Below W2.heap.size W2 W20) := B_W2.out.trans (hb20.mono B_W2.out.size)
    replace B_W4 : Hid (Below W4.heap.size W4 W20) := B_W4.out.trans (hb20.mono B_W4.out.size)
    replace B_W6 : Hid (Below W6.heap.size W6 W20) := B_W6.out.trans (hb20.mono B_W6.out.size)
    replace B_X6 : Hid (Below X6.heap.size X6 W20) := B_X6.out.trans (hb20.mono B_X6.out.size)
    replace B_W7 : Hid (Below W7.heap.size W7 W20) := B_W7.out.trans (hb20.mono B_W7.out.size)
    replace B_X7 : Hid (Below X7.heap.size X7 W20) := B_X7.out.trans (hb20.mono B_X7.out.size)
    replace B_W8 : Hid (Below W8.heap.size W8 W20) := B_W8.out.trans (hb20.mono B_W8.out.size)
    replace B_W9 : Hid (Below W9.heap.size W9 W20) := B_W9.out.trans (hb20.mono B_W9.out.size)
    replace B_X9 : Hid (Below X9.heap.size X9 W20) := B_X9.out.trans (hb20.mono B_X9.out.size)
    replace B_W10 : Hid (Below W10.heap.size W10 W20) := B_W10.out.trans (hb20.mono B_W10.out.size)
    replace B_W11 : Hid (Below W11.heap.size W11 W20) := B_W11.out.trans (hb20.mono B_W11.out.size)
    clear hb20
    go_wp2
    go_ret
    exact ⟨rfl, B_w.out⟩
end Go.Proofs.YtgobnjeankjkjaaGreatDoor

