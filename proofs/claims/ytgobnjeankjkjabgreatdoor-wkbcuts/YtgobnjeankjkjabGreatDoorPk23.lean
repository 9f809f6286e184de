import Derived.Below
import Derived.BigQuiet
import Derived.ChangeOld
import Derived.Deep.CutRange
import Derived.Deep.DeepCutAuto
import Derived.Deep.QuietTactic
import Derived.Deep.RegionHeld3
import Derived.Deep.RegionLaw
import Derived.Deep.RegionWith
import Derived.LaidEql
import Derived.Laws.AppendOwn
import Derived.Laws.BitsAllLaws
import Derived.Laws.CopyRow
import Derived.Laws.IdiomCopy
import Derived.Laws.IdiomRangeMap
import Derived.Laws.Rows
import Derived.Laws.StructEq
import Derived.LoopIn
import Derived.LoopNIn
import Derived.Maps.AppendAt
import Derived.OpenShut
import Derived.Orders
import Derived.OrdersIn
import Derived.OwnWalk
import Derived.OwnWalkIn
import Derived.ProofKit
import Derived.RangeFuncBound
import Derived.RangeFuncCalls
import Derived.RangeFuncLeaves
import Derived.RangeFuncNested
import Derived.Recover
import Derived.RowKitTokens
import Derived.Shelf.Abstract
import Derived.Shelf.RegionOpen
import Derived.ShutString
import Derived.StillTailTactics
import Derived.Stop.Asserts
import Derived.Tactics2
import Derived.TacticsIn
import Derived.TacticsInMore
import Derived.WalkKit
import Derived.WalkLawsBesides
import Derived.WalkSpells
import Derived.Test.YtgobnjeankjkjabGreatDoorPk6
import Derived.Test.YtgobnjeankjkjabGreatDoorPk8
import Derived.Test.YtgobnjeankjkjabGreatDoorPk16
import Derived.Test.YtgobnjeankjkjabGreatDoorPk19
import Derived.Test.YtgobnjeankjkjabGreatDoorPk20
import Derived.Test.YtgobnjeankjkjabGreatDoorPk21
import Derived.Test.YtgobnjeankjkjabGreatDoorPk22
/- Layer 17: the law's alive. -/
namespace Go.Proofs.YtgobnjeankjkjabGreatDoor
open Go.ChangeShapes Go.WideShapes Go.ChangeAt Go.RowKit
open Ep Oc Tr Wk Mk
set_option linter.unusedVariables false
namespace Wk
/-- the point that alive writes -/
def T0 : Tree := (⟨1, [(4607182418800017408, 4611686018427387904)], []⟩, .nil)
theorem T0_ok : OkT T0 := ⟨⟨⟨by decide, by decide, by decide⟩, trivial, trivial⟩, by decide⟩
def bs0 : List UInt8 := mixB [true] 0 (ndsT T0)
theorem bs0_len : bs0.length = 21 := by decide +kernel
theorem bs0_read : parseS bs0 1 21 = .ok (T0, [true]) 21 := by kernel_rfl
theorem bs0_hex : hexL bs0 = [48, 49, 48, 49, 48, 48, 48, 48, 48, 48, 48, 48, 48, 48, 48, 48, 48, 48, 48, 48, 48, 48, 102, 48, 51, 102, 48, 48, 48, 48, 48, 48, 48, 48, 48, 48, 48, 48, 48, 48, 52, 48] := by decide +kernel
end Wk
set_option maxHeartbeats 3200000 in
set_option maxRecDepth 100000 in
theorem alive17_any {w : World} (hE : ErrVar w) : Calls Tryz.prog 7 #[] w fun e w' => e = .returned (.bool true) ∧ Below w.heap.size w w' := by
  obtain ⟨V1, hV1⟩ : ∃ V1, V1 = w.alloc (.cells #[.int .u64 4607182418800017408, .int .u64 4611686018427387904] 63) := ⟨_, rfl⟩
  obtain ⟨V, hV⟩ : ∃ V, V = V1.alloc (.cells #[.int .i64 1, .slice (some ⟨w.heap.size, 0, none⟩) 1 1, .slice none 0 0, .slice none 0 0] 28) := ⟨_, rfl⟩
  have hb1 : Below w.heap.size w V1 := by rw [hV1]; exact alloc_below _
  have hb2 : Below V1.heap.size V1 V := by rw [hV]; exact alloc_below _
  have hz1 : V1.heap.size = w.heap.size + 1 := by rw [hV1]; simp
  have hbV : Below w.heap.size w V := hb1.trans (hb2.mono (by omega))
  have gP : V.heap[w.heap.size]? = some (.cells #[.int .u64 4607182418800017408, .int .u64 4611686018427387904] 63 (0, 0)) := (hb2.block w.heap.size (by omega)).trans (by rw [hV1]; exact heap_alloc_new _ _)
  have gG : V.heap[w.heap.size + 1]? = some (.cells #[.int .i64 1, .slice (some ⟨w.heap.size, 0, none⟩) 1 1, .slice none 0 0, .slice none 0 0] 28 (0, 0)) := by rw [hV, ← hz1]; exact heap_alloc_new _ _
  have hT : TV (fun k => k < V.heap.size) V (.agg #[.int .i64 1, .slice (some ⟨w.heap.size, 0, none⟩) 1 1, .slice none 0 0, .slice none 0 0]) T0 := by
    refine tv_of (t := T0) (v1 := .slice (some ⟨w.heap.size, 0, none⟩) 1 1) (v2 := .slice none 0 0) (pa := none) (pc := 0) ⟨by decide, by decide⟩ ⟨by decide, _, 1, rfl, fun i p hi => ?_⟩ ⟨by decide, none, 0, rfl, fun i p hi => by cases hi⟩ ⟨by decide, by decide⟩ trivial
    have hi0 : i = 0 := by
      have := (List.getElem?_eq_some_iff.1 hi).1
      have e : T0.1.line.length = 1 := rfl
      omega
    subst hi0
    cases hi
    exact ⟨w.heap.size, 0, rfl, lt_of_block gP, ⟨by decide, by decide⟩, ⟨by decide, by decide⟩, cell_of gP 0, cell_of gP 1⟩
  have hPr := print_tree (fun k hk => hk) hT T0_ok true
  have HT := Wk.hidQ hT
  have HbV := Wk.hidQ hbV
  have HEV := Wk.hidQ (hE.later hbV)
  have HV : Hid ((w.alloc (.cells #[.int .u64 4607182418800017408, .int .u64 4611686018427387904] 63)).alloc (.cells #[.int .i64 1, .slice (some ⟨w.heap.size, 0, none⟩) 1 1, .slice none 0 0, .slice none 0 0] 28) = V) := by show _ = _; rw [hV, hV1]
  have HgG := Wk.hidQ gG
  have g0 := cell_of gG 0
  have g1 := cell_of gG 1
  have g2 := cell_of gG 2
  have g3 := cell_of gG 3
  simp only [List.getElem?_toArray, List.getElem?_cons_zero, List.getElem?_cons_succ] at g0 g1 g2 g3
  obtain ⟨B, hB⟩ : ∃ B, B = mixB [true] 0 (ndsT T0) := ⟨_, rfl⟩
  have HB : Hid (B = bs0) := hB
  rw [← hB] at hPr
  have hBl : B.length = 21 := by rw [HB.out]; exact bs0_len
  clear hV hV1 hb1 hb2 hbV gP gG hT hz1 hB hE
  go_enter Tryz.func7, Tryz.ntmps7
  go_upto_region 2 with (fail)
  rw [HV.out]
  go_wp2_with fail
  refine hPr.mono ?_
  rintro e W1 ⟨v, rfl, hO, hb1⟩
  clear hPr
  obtain ⟨a, c, rfl, hR⟩ := hO.row
  rw [hBl] at hR
  have HR := Wk.hidQ hR
  have Hb1 := Wk.hidQ hb1
  have hPa := parse17_any hR (by omega) (HEV.out.later hb1) (md := 1) (mb := 21) (D := 1) (lim := 21) (by decide) (by decide)
  rw [show (1 : Int).toNat = 1 from rfl, HB.out, bs0_read] at hPa
  have HG1 : Hid (W1.heap[w.heap.size + 1]? = some (.cells #[.int .i64 1, .slice (some ⟨w.heap.size, 0, none⟩) 1 1, .slice none 0 0, .slice none 0 0] 28 (0, 0))) := (hb1.block _ (lt_of_block HgG.out)).trans HgG.out
  clear hR hb1 hO g0 g1 g2 g3
  rw [hBl]
  clear hBl
  go_wp2_with fail
  refine hPa.mono ?_
  rintro e W2 ⟨u, rfl, hb2, hTu⟩
  clear hPa
  obtain ⟨a1, c1, a2, c2, a3, c3, eu, _⟩ := gm_slc hTu
  have eu' : u = .agg #[.int .i64 1, .slice a1 1 c1, .slice a2 0 c2, .slice a3 0 c3] := eu
  subst eu'
  have HTu : Hid (TV (fun i => W1.heap.size ≤ i ∧ i < W2.heap.size) W2 (.agg #[.int .i64 1, .slice a1 1 c1, .slice a2 0 c2, .slice a3 0 c3]) T0) := hTu
  have Hb2 := Wk.hidQ hb2
  obtain ⟨W3, hW3⟩ : ∃ W3, W3 = W2.alloc (.cells #[.int .i64 1, .slice a1 1 c1, .slice a2 0 c2, .slice a3 0 c3] 28) := ⟨_, rfl⟩
  have hb3 : Below W2.heap.size W2 W3 := by rw [hW3]; exact alloc_below _
  have gU : W3.heap[W2.heap.size]? = some (.cells #[.int .i64 1, .slice a1 1 c1, .slice a2 0 c2, .slice a3 0 c3] 28 (0, 0)) := by rw [hW3]; exact heap_alloc_new _ _
  have Hb13 : Hid (Below W1.heap.size W1 W3) := hb2.trans (hb3.mono hb2.size)
  have hHx := hex16_any (HR.out.later Hb13.out) (by omega)
  rw [HB.out, bs0_hex] at hHx
  have HW3 : Hid (W2.alloc (.cells #[.int .i64 1, .slice a1 1 c1, .slice a2 0 c2, .slice a3 0 c3] 28) = W3) := hW3.symm
  have HgU := Wk.hidQ gU
  have Hb3 := Wk.hidQ hb3
  clear hTu hb2 eu hW3 hb3 gU
  go_upto_region 4 with (fail)
  rw [HW3.out]
  go_wp2_with fail
  refine hHx.mono ?_
  rintro e W4 ⟨rfl, hb4⟩
  clear hHx
  have Hb4 : Hid (Below W3.heap.size W3 W4) := hb4
  have k1 := (hb4.block _ (by have := Hb13.out.size; have := lt_of_block HG1.out; omega)).trans ((Hb13.out.block _ (lt_of_block HG1.out)).trans HG1.out)
  have k2 := (hb4.block _ (lt_of_block HgU.out)).trans HgU.out
  have g0 := cell_of k1 0
  have g1 := cell_of k1 1
  have g2 := cell_of k1 2
  have g3 := cell_of k1 3
  have m0 := cell_of k2 0
  have m1 := cell_of k2 1
  have m2 := cell_of k2 2
  have m3 := cell_of k2 3
  simp only [List.getElem?_toArray, List.getElem?_cons_zero, List.getElem?_cons_succ] at g0 g1 g2 g3 m0 m1 m2 m3
  have hbV4 : Below V.heap.size V W4 := (Hb1.out.trans (Hb13.out.mono Hb1.out.size)).trans (hb4.mono (by have := Hb1.out.size; have := Hb13.out.size; omega))
  have hb24 : Below W2.heap.size W2 W4 := Hb3.out.trans (hb4.mono Hb3.out.size)
  have hEq := treeEq_same (w := W4) (S1 := fun k => k < V.heap.size) (S2 := fun i => W1.heap.size ≤ i ∧ i < W2.heap.size) (fun k hk => by have := hbV4.size; omega) (fun k hk => by have := hb24.size; omega) (HT.out.below (Kp.of_below hbV4 (fun k hk => hk))) (HTu.out.below (Kp.of_below hb24 (fun k hk => hk.2))) T0_ok
  have HbW4 : Hid (Below w.heap.size w W4) := HbV.out.trans (hbV4.mono HbV.out.size)
  clear k1 k2 hbV4 hb24 hb4
  go_wp2_with fail
  refine hEq.mono ?_
  rintro e W5 ⟨rfl, hb5⟩
  have Hb5 : Hid (Below w.heap.size w W5) := HbW4.out.trans (hb5.mono HbW4.out.size)
  clear hEq hb5 g0 g1 g2 g3 m0 m1 m2 m3
  go_wp2
  go_ret
  exact ⟨rfl, Hb5.out⟩
end Go.Proofs.YtgobnjeankjkjabGreatDoor

/- Layer 17: cut, and with more behind (written by genwkcu.py). -/
namespace Go.Proofs.YtgobnjeankjkjabGreatDoor
open Go.ChangeShapes Go.WideShapes Go.ChangeAt Go.RowKit
open Ep Oc Tr Wk Mk
set_option linter.unusedVariables false
set_option maxHeartbeats 6400000 in
set_option maxRecDepth 100000 in
theorem cuts_walk17 {w : World} {v : Value} {l : List Nde} {at_ : Int} {a0 : Option Addr} {n0 c0 : Nat} {bl : List UInt8} (hN : NdsAt (· < w.heap.size) w v l) (hm0 : -9223372036854775808 ≤ at_) (hm1 : at_ ≤ 9223372036854775807) (hR0 : Rb w a0 n0 c0 bl) (hE : ErrVar w) :
    Calls Tryz.prog 3 #[v, .int .i64 at_, .slice a0 n0 c0] w fun e w' => e = .returned (.bool true) ∧ Below w.heap.size w w' := by
  obtain ⟨T, hT0⟩ : ∃ T, T = treeN l := ⟨_, rfl⟩
  have hGr := grown17_any hN
  rw [← hT0] at hGr
  have HE := Wk.hidQ hE
  have HRb := Wk.hidQ hR0
  have HM := Wk.hidQ (And.intro hm0 hm1)
  clear hN hE hT0 hm0 hm1 hR0
  go_enter Tryz.func3, Tryz.ntmps3
  go_wp2_with fail
  refine hGr.mono ?_
  rintro e W1 ⟨u, rfl, hTV, hOk, hb1⟩
  clear hGr
  obtain ⟨a1, c1, a2, c2, a3, c3, rfl, _⟩ := gm_slc hTV
  obtain ⟨K0, hK0⟩ : ∃ K0, K0 = T.1.kind := ⟨_, rfl⟩
  obtain ⟨n1, hn1⟩ : ∃ n1, n1 = T.1.line.length := ⟨_, rfl⟩
  obtain ⟨n2, hn2⟩ : ∃ n2, n2 = T.1.rings.length := ⟨_, rfl⟩
  obtain ⟨n3, hn3⟩ : ∃ n3, n3 = T.2.len := ⟨_, rfl⟩
  have HKn := Wk.hidQ (show K0 = T.1.kind ∧ n1 = T.1.line.length ∧ n2 = T.1.rings.length ∧ n3 = T.2.len from ⟨hK0, hn1, hn2, hn3⟩)
  rw [← hK0, ← hn1, ← hn2, ← hn3] at hTV ⊢
  clear hK0 hn1 hn2 hn3
  have HTV : Hid (TV (fun k => k < W1.heap.size) W1 (.agg #[.int .i64 K0, .slice a1 n1 c1, .slice a2 n2 c2, .slice a3 n3 c3]) T) := hTV.mono (fun k hk => hk.2)
  have HOk := Wk.hidQ hOk
  have HE1 : Hid (ErrVar W1) := HE.out.later hb1
  have B_w : Hid (Below w.heap.size w W1) := hb1
  clear hTV hOk hb1
  have B_W1 : Hid (Below W1.heap.size W1 W1) := Below.refl _ _
  obtain ⟨W2, hW2⟩ : ∃ W2, W2 = W1.alloc (.cells #[.int .i64 K0, .slice a1 n1 c1, .slice a2 n2 c2, .slice a3 n3 c3] 28) := ⟨_, rfl⟩
  have HW2 : Hid (W1.alloc (.cells #[.int .i64 K0, .slice a1 n1 c1, .slice a2 n2 c2, .slice a3 n3 c3] 28) = W2) := hW2.symm
  have hbW2 : Below W1.heap.size W1 W2 := by rw [hW2]; exact alloc_below _
  have GW2 : Hid (W2.heap[W1.heap.size]? = some (.cells #[.int .i64 K0, .slice a1 n1 c1, .slice a2 n2 c2, .slice a3 n3 c3] 28 (0, 0))) := by rw [hW2]; exact heap_alloc_new _ _
  replace B_w : Hid (Below w.heap.size w W2) := B_w.out.trans (hbW2.mono B_w.out.size)
  replace B_W1 : Hid (Below W1.heap.size W1 W2) := B_W1.out.trans (hbW2.mono B_W1.out.size)
  clear hW2 hbW2
  go_upto_region 2 with (fail)
  rw [HW2.out]
  have hAl := alive17_any (HE1.out.later B_W1.out)
  go_wp2_with fail
  refine hAl.mono ?_
  rintro e W3 ⟨rfl, hb3⟩
  clear hAl
  have B_W2 : Hid (Below W2.heap.size W2 W2) := Below.refl _ _
  replace B_w : Hid (Below w.heap.size w W3) := B_w.out.trans (hb3.mono B_w.out.size)
  replace B_W1 : Hid (Below W1.heap.size W1 W3) := B_W1.out.trans (hb3.mono B_W1.out.size)
  replace B_W2 : Hid (Below W2.heap.size W2 W3) := B_W2.out.trans (hb3.mono B_W2.out.size)
  clear hb3
  obtain ⟨b0, q0⟩ : ∃ b0, (at_.tmod 2 == 0) = b0 := ⟨_, rfl⟩
  obtain ⟨b1, q1⟩ : ∃ b1, (at_.tmod 3 == 0) = b1 := ⟨_, rfl⟩
  have g7 := (B_W2.out.block _ (lt_of_block GW2.out)).trans GW2.out
  have x0 := cell_of g7 0
  have x1 := cell_of g7 1
  have x2 := cell_of g7 2
  have x3 := cell_of g7 3
  simp only [List.getElem?_toArray, List.getElem?_cons_zero, List.getElem?_cons_succ] at x0 x1 x2 x3
  clear g7
  go_upto_region 4 with (fail)
  obtain ⟨V, hV⟩ : ∃ V, V = W3.alloc (.cells #[.bool b0, .bool b1] 4) := ⟨_, rfl⟩
  have HV : Hid (W3.alloc (.cells #[.bool b0, .bool b1] 4) = V) := hV.symm
  have hbV : Below W3.heap.size W3 V := by rw [hV]; exact alloc_below _
  have GV : Hid (V.heap[W3.heap.size]? = some (.cells #[.bool b0, .bool b1] 4 (0, 0))) := by rw [hV]; exact heap_alloc_new _ _
  replace B_w : Hid (Below w.heap.size w V) := B_w.out.trans (hbV.mono B_w.out.size)
  replace B_W1 : Hid (Below W1.heap.size W1 V) := B_W1.out.trans (hbV.mono B_W1.out.size)
  replace B_W2 : Hid (Below W2.heap.size W2 V) := B_W2.out.trans (hbV.mono B_W2.out.size)
  clear hV hbV
  obtain ⟨B, hB⟩ : ∃ B, B = fB [b0, b1] 0 (fo1 T) := ⟨_, rfl⟩
  have HB := Wk.hidQ hB
  have hMx := mixed_tree (w := V) (S := fun k => k < W1.heap.size) (fun k hk => by have := B_W1.out.size; omega) (HTV.out.below (Kp.of_below B_W1.out (fun k hk => hk))) HOk.out (oa := some ⟨W3.heap.size, 0, none⟩) (oc := 2) (os := [b0, b1]) (by simp) (fun i x hi => by
    have hlt := lt_of_block GV.out
    match i, hi with
    | 0, hi => cases hi; exact ⟨_, 0, rfl, hlt, cell_of GV.out 0⟩
    | 1, hi => cases hi; exact ⟨_, 0, rfl, hlt, cell_of GV.out 1⟩)
  rw [mix_tree, ← hB] at hMx
  clear hB
  go_wp2_with fail
  rw [HV.out]
  refine hMx.mono ?_
  rintro e W4 ⟨v4, rfl, hO, hb4⟩
  obtain ⟨a, c, rfl, hR⟩ := hO.row
  clear hMx hO x0 x1 x2 x3 q0 q1
  replace B_w : Hid (Below w.heap.size w W4) := B_w.out.trans (hb4.mono B_w.out.size)
  replace B_W1 : Hid (Below W1.heap.size W1 W4) := B_W1.out.trans (hb4.mono B_W1.out.size)
  replace B_W2 : Hid (Below W2.heap.size W2 W4) := B_W2.out.trans (hb4.mono B_W2.out.size)
  clear hb4
  obtain ⟨N, hN0⟩ : ∃ N, N = B.length := ⟨_, rfl⟩
  have HN0 := Wk.hidQ hN0
  rw [← hN0] at hR ⊢
  clear hN0
  have HR := Wk.hidQ hR
  clear hR
  have B_W4 : Hid (Below W4.heap.size W4 W4) := Below.refl _ _
  have hCu := cut17_any (HRb.out.later B_w.out)
  go_wp2_with fail
  refine hCu.mono ?_
  rintro e W5 ⟨v5, rfl, hO5, hb5⟩
  obtain ⟨a5, c5, rfl, hR5⟩ := hO5.row
  clear hCu hO5 hR5
  replace B_w : Hid (Below w.heap.size w W5) := B_w.out.trans (hb5.mono B_w.out.size)
  replace B_W1 : Hid (Below W1.heap.size W1 W5) := B_W1.out.trans (hb5.mono B_W1.out.size)
  replace B_W2 : Hid (Below W2.heap.size W2 W5) := B_W2.out.trans (hb5.mono B_W2.out.size)
  replace B_W4 : Hid (Below W4.heap.size W4 W5) := B_W4.out.trans (hb5.mono B_W4.out.size)
  clear hb5
  obtain ⟨M, hM0⟩ : ∃ M, M = (bl.take 1500).length := ⟨_, rfl⟩
  have HM0 := Wk.hidQ hM0
  have hM9 : M ≤ 1500 := by rw [hM0, List.length_take]; omega
  rw [← hM0]
  clear hM0
  have hN9 : N ≤ 49999000 := by
    have h := mix_take HOk.out [b0, b1] (ndsT T).length
    rw [List.take_length, mix_tree] at h
    rw [HN0.out, HB.out]
    exact h
  have w0 : wrap64 ((N : Int) + (M : Int)) = (N : Int) + (M : Int) := by unfold wrap64; omega
  by_cases hbig : 65536 < N + M
  · have d0 : decide ((65536 : Int) < (N : Int) + (M : Int)) = true := by simp; omega
    go_wp2
    go_ret
    exact ⟨rfl, B_w.out⟩
  · have hN6 : N + M ≤ 65536 := by omega
    clear hbig
    have Hwf : Hid (Wf 0 (fo1 T)) := wf_tree HTV.out HOk.out
    have hNp : 1 ≤ N := by rw [HN0.out, HB.out]; have := fB_nine [b0, b1] (fo1 T) 0; have e : (fo1 T).len = 1 := rfl; omega
    have Hd : Hid (dpF (fo1 T) ≤ 256) := by show _ ≤ _; rw [← dep_tree]; exact dep_le _ _ (fun it hi => (good_pre (fo1 T) 1 0 HOk.out.good it hi).1)
    obtain ⟨k, hk⟩ : ∃ k : Nat, (k : Int) = at_ % (N : Int) := ⟨(at_ % (N : Int)).toNat, by have := Int.emod_nonneg at_ (b := (N : Int)) (by omega); omega⟩
    have hkN : k < N := by have := Int.emod_lt_of_pos at_ (b := (N : Int)) (by omega); omega
    have hIn := fun w => into17_any (n := at_) (top := (N : Int)) (by omega) (by omega) w
    rw [← hk] at hIn
    clear hk
    have d0 : decide ((65536 : Int) < (N : Int) + (M : Int)) = false := by simp; omega
    have hcN : N ≤ c ∧ c ≤ 9223372036854775807 := HR.out.2
    obtain ⟨hcN, hc9⟩ := hcN
    have hRk : Hid (Rb W5 a k c (B.take k)) := (HR.out.later B_W4.out).take (by omega) (by omega) (by omega)
    obtain ⟨P6, C6, HS6, hC6, hP6⟩ : ∃ P6 C6, Hid (parseS (B.take k) 256 65536 = .bad P6 C6) ∧ (C6 = 160 ∨ C6 = 173) ∧ P6 ≤ k := by
      have h := geom_tree Hwf.out [b0, b1] Hd.out []
      rw [List.append_nil, ← HB.out] at h
      obtain ⟨q, c', e1, e2, e3⟩ := parse_cut h (K := k) (lim := 65536) (by rw [← HN0.out]; exact hkN) (by omega)
      exact ⟨q, c', e1, e2, e3⟩
    have hPa := parse17_any hRk.out (by omega) (HE1.out.later B_W1.out) (md := 256) (mb := 65536) (D := 256) (lim := 65536) (by decide) (by decide)
    rw [show (256 : Int).toNat = 256 from rfl, HS6.out] at hPa
    go_wp2_with (go_at_call 10; refine (hIn _).mono ?_; rintro e wX ⟨rfl, rfl⟩)
    refine hPa.mono ?_
    rintro e W6 ⟨g6, rfl, hF6, hb6⟩
    clear hPa hIn d0 w0
    have HF6 := Wk.hidQ hF6
    replace B_w : Hid (Below w.heap.size w W6) := B_w.out.trans (hb6.mono B_w.out.size)
    replace B_W1 : Hid (Below W1.heap.size W1 W6) := B_W1.out.trans (hb6.mono B_W1.out.size)
    replace B_W2 : Hid (Below W2.heap.size W2 W6) := B_W2.out.trans (hb6.mono B_W2.out.size)
    replace B_W4 : Hid (Below W4.heap.size W4 W6) := B_W4.out.trans (hb6.mono B_W4.out.size)
    clear hb6 hF6
    have B_W6 : Hid (Below W6.heap.size W6 W6) := Below.refl _ _
    unfold zg
    obtain ⟨X6, hX6⟩ : ∃ X6, X6 = W6.alloc (.cells #[.int .i64 0, .slice none 0 0, .slice none 0 0, .slice none 0 0] 28) := ⟨_, rfl⟩
    have HX6 : Hid (W6.alloc (.cells #[.int .i64 0, .slice none 0 0, .slice none 0 0, .slice none 0 0] 28) = X6) := hX6.symm
    have hbX6 : Below W6.heap.size W6 X6 := by rw [hX6]; exact alloc_below _
    have GX6 : Hid (X6.heap[W6.heap.size]? = some (.cells #[.int .i64 0, .slice none 0 0, .slice none 0 0, .slice none 0 0] 28 (0, 0))) := by rw [hX6]; exact heap_alloc_new _ _
    replace B_w : Hid (Below w.heap.size w X6) := B_w.out.trans (hbX6.mono B_w.out.size)
    replace B_W1 : Hid (Below W1.heap.size W1 X6) := B_W1.out.trans (hbX6.mono B_W1.out.size)
    replace B_W2 : Hid (Below W2.heap.size W2 X6) := B_W2.out.trans (hbX6.mono B_W2.out.size)
    replace B_W4 : Hid (Below W4.heap.size W4 X6) := B_W4.out.trans (hbX6.mono B_W4.out.size)
    replace B_W6 : Hid (Below W6.heap.size W6 X6) := B_W6.out.trans (hbX6.mono B_W6.out.size)
    clear hX6 hbX6
    go_upto_region 9 with (fail)
    rw [HX6.out]
    have B_X6 : Hid (Below X6.heap.size X6 X6) := Below.refl _ _
    have g6 := (B_X6.out.block _ (lt_of_block GX6.out)).trans GX6.out
    have y0 := cell_of g6 0
    have y1 := cell_of g6 1
    have y2 := cell_of g6 2
    have y3 := cell_of g6 3
    simp only [List.getElem?_toArray, List.getElem?_cons_zero, List.getElem?_cons_succ] at y0 y1 y2 y3
    clear g6
    have hZ := zero_yes X6
    go_wp2_with fail
    refine hZ.mono ?_
    rintro e W7 ⟨rfl, hb7⟩
    clear hZ y0 y1 y2 y3
    replace B_w : Hid (Below w.heap.size w W7) := B_w.out.trans (hb7.mono B_w.out.size)
    replace B_W1 : Hid (Below W1.heap.size W1 W7) := B_W1.out.trans (hb7.mono B_W1.out.size)
    replace B_W2 : Hid (Below W2.heap.size W2 W7) := B_W2.out.trans (hb7.mono B_W2.out.size)
    replace B_W4 : Hid (Below W4.heap.size W4 W7) := B_W4.out.trans (hb7.mono B_W4.out.size)
    replace B_W6 : Hid (Below W6.heap.size W6 W7) := B_W6.out.trans (hb7.mono B_W6.out.size)
    replace B_X6 : Hid (Below X6.heap.size X6 W7) := B_X6.out.trans (hb7.mono B_X6.out.size)
    clear hb7
    have dk0 : decide (((P6 : Nat) : Int) < 0) = false := by simp
    have dk1 : decide (((k : Nat) : Int) < ((P6 : Nat) : Int)) = false := by simp; omega
    have HBw7 := B_w
    rcases hC6 with hC6 | hC6
    · subst hC6
      have hC := codeFault_any (HF6.out.later B_W6.out) (HE1.out.later B_W1.out)
      go_wp2_with fail
      refine hC.mono ?_
      rintro e Y1 ⟨rfl, hbY1⟩
      clear hC
      replace B_w : Hid (Below w.heap.size w Y1) := B_w.out.trans (hbY1.mono B_w.out.size)
      replace B_W1 : Hid (Below W1.heap.size W1 Y1) := B_W1.out.trans (hbY1.mono B_W1.out.size)
      replace B_W2 : Hid (Below W2.heap.size W2 Y1) := B_W2.out.trans (hbY1.mono B_W2.out.size)
      replace B_W4 : Hid (Below W4.heap.size W4 Y1) := B_W4.out.trans (hbY1.mono B_W4.out.size)
      replace B_W6 : Hid (Below W6.heap.size W6 Y1) := B_W6.out.trans (hbY1.mono B_W6.out.size)
      replace B_X6 : Hid (Below X6.heap.size X6 Y1) := B_X6.out.trans (hbY1.mono B_X6.out.size)
      clear hbY1
      have hC := placeFault_any (HF6.out.later B_W6.out) (HE1.out.later B_W1.out)
      go_wp2_with fail
      refine hC.mono ?_
      rintro e Y2 ⟨rfl, hbY2⟩
      clear hC
      replace B_w : Hid (Below w.heap.size w Y2) := B_w.out.trans (hbY2.mono B_w.out.size)
      replace B_W1 : Hid (Below W1.heap.size W1 Y2) := B_W1.out.trans (hbY2.mono B_W1.out.size)
      replace B_W2 : Hid (Below W2.heap.size W2 Y2) := B_W2.out.trans (hbY2.mono B_W2.out.size)
      replace B_W4 : Hid (Below W4.heap.size W4 Y2) := B_W4.out.trans (hbY2.mono B_W4.out.size)
      replace B_W6 : Hid (Below W6.heap.size W6 Y2) := B_W6.out.trans (hbY2.mono B_W6.out.size)
      replace B_X6 : Hid (Below X6.heap.size X6 Y2) := B_X6.out.trans (hbY2.mono B_X6.out.size)
      clear hbY2
      have hC := placeFault_any (HF6.out.later B_W6.out) (HE1.out.later B_W1.out)
      go_wp2_with fail
      refine hC.mono ?_
      rintro e Y3 ⟨rfl, hbY3⟩
      clear hC
      replace B_w : Hid (Below w.heap.size w Y3) := B_w.out.trans (hbY3.mono B_w.out.size)
      replace B_W1 : Hid (Below W1.heap.size W1 Y3) := B_W1.out.trans (hbY3.mono B_W1.out.size)
      replace B_W2 : Hid (Below W2.heap.size W2 Y3) := B_W2.out.trans (hbY3.mono B_W2.out.size)
      replace B_W4 : Hid (Below W4.heap.size W4 Y3) := B_W4.out.trans (hbY3.mono B_W4.out.size)
      replace B_W6 : Hid (Below W6.heap.size W6 Y3) := B_W6.out.trans (hbY3.mono B_W6.out.size)
      replace B_X6 : Hid (Below X6.heap.size X6 Y3) := B_X6.out.trans (hbY3.mono B_X6.out.size)
      clear hbY3
      have Z_w : Hid (w.heap.size ≤ Y3.heap.size) := B_w.out.size
      have Z_W1 : Hid (W1.heap.size ≤ Y3.heap.size) := B_W1.out.size
      have Z_W2 : Hid (W2.heap.size ≤ Y3.heap.size) := B_W2.out.size
      have Z_W4 : Hid (W4.heap.size ≤ Y3.heap.size) := B_W4.out.size
      have Z_W6 : Hid (W6.heap.size ≤ Y3.heap.size) := B_W6.out.size
      have Z_X6 : Hid (X6.heap.size ≤ Y3.heap.size) := B_X6.out.size
      go_upto_region 11 with (fail)
      have B_Y3x : Hid (Below Y3.heap.size Y3 Y3) := Below.refl _ _
      have hO0 : Ob (Y3.alloc (.cells #[] 5)) Y3.heap.size (.slice (some ⟨Y3.heap.size, 0, none⟩) 0 0) [] := World.ownsRow_made Y3 #[] 0 (Nat.le_refl _) (Nat.zero_le _) rfl
      have hbZ : Below Y3.heap.size Y3 (Y3.alloc (.cells #[] 5)) := alloc_below _
      have hRz : Rb (Y3.alloc (.cells #[] 5)) a N c B := (HR.out.later B_W4.out).later hbZ
      have hsz : Y3.heap.size ≤ (Y3.alloc (.cells #[] 5)).heap.size := hbZ.size
      go_wp2_with (at_builtin; refine wpList_app8 rfl _ _ rfl (base := Y3.heap.size) (r := B) rfl hO0 rfl hRz (by rw [List.length_nil]; omega) hsz ?_; intro v8 w8 hO8 hg8 hk8; refine Hid.out ?_)
      unfold Hid
      rw [List.nil_append] at hO8
      have hbY : Below Y3.heap.size Y3 w8 := hO0.below hbZ (Nat.le_refl _) hg8
      replace B_Y3x : Hid (Below Y3.heap.size Y3 w8) := hbY
      clear hk8 hg8 hO0 hRz hsz hbZ
      replace B_w : Hid (Below w.heap.size w w8) := B_w.out.trans (hbY.mono B_w.out.size)
      replace B_W1 : Hid (Below W1.heap.size W1 w8) := B_W1.out.trans (hbY.mono B_W1.out.size)
      replace B_W2 : Hid (Below W2.heap.size W2 w8) := B_W2.out.trans (hbY.mono B_W2.out.size)
      replace B_W4 : Hid (Below W4.heap.size W4 w8) := B_W4.out.trans (hbY.mono B_W4.out.size)
      replace B_W6 : Hid (Below W6.heap.size W6 w8) := B_W6.out.trans (hbY.mono B_W6.out.size)
      replace B_X6 : Hid (Below X6.heap.size X6 w8) := B_X6.out.trans (hbY.mono B_X6.out.size)
      clear hbY
      have hleA : Y3.heap.size ≤ w8.heap.size := B_Y3x.out.size
      obtain ⟨a8, c8, e8, hR8⟩ := hO8.row
      rw [← HN0.out] at e8
      subst e8
      have HO8 := Wk.hidQ hO8
      clear hO8 hR8
      have hCu := cut17_any (HRb.out.later B_w.out)
      go_wp2_with fail
      refine hCu.mono ?_
      rintro e w9 ⟨v9, rfl, hO9, hb9⟩
      obtain ⟨a9, c9, rfl, hR9⟩ := hO9.row
      rw [← HM0.out] at hR9 ⊢
      clear hCu hO9
      have hO8' := HO8.out.later hb9
      replace B_w : Hid (Below w.heap.size w w9) := B_w.out.trans (hb9.mono B_w.out.size)
      replace B_W1 : Hid (Below W1.heap.size W1 w9) := B_W1.out.trans (hb9.mono B_W1.out.size)
      replace B_W2 : Hid (Below W2.heap.size W2 w9) := B_W2.out.trans (hb9.mono B_W2.out.size)
      replace B_W4 : Hid (Below W4.heap.size W4 w9) := B_W4.out.trans (hb9.mono B_W4.out.size)
      replace B_W6 : Hid (Below W6.heap.size W6 w9) := B_W6.out.trans (hb9.mono B_W6.out.size)
      replace B_X6 : Hid (Below X6.heap.size X6 w9) := B_X6.out.trans (hb9.mono B_X6.out.size)
      have hs9 := hb9.size
      clear hb9
      skip
      go_wp2_with (at_builtin; refine wpList_app8 rfl _ _ rfl (base := Y3.heap.size) (r := bl.take 1500) rfl hO8' rfl hR9 (by rw [← HN0.out]; omega) (Nat.le_trans hleA hs9) ?_; intro v10 w10 hO10 hg10 hk10; refine Hid.out ?_)
      unfold Hid
      have hb10 : Below Y3.heap.size w9 w10 := (Below.refl _ _).grown hg10 (Nat.le_trans hleA hs9) (fun r e => (hO8'.blk e).1)
      obtain ⟨a10, c10, rfl, hR10⟩ := hO10.row
      clear hO10 hk10 hO8' hR9 hs9
      replace B_w : Hid (Below w.heap.size w w10) := B_w.out.trans (hb10.mono Z_w.out)
      clear Z_w
      replace B_W1 : Hid (Below W1.heap.size W1 w10) := B_W1.out.trans (hb10.mono Z_W1.out)
      clear Z_W1
      replace B_W2 : Hid (Below W2.heap.size W2 w10) := B_W2.out.trans (hb10.mono Z_W2.out)
      clear Z_W2
      replace B_W4 : Hid (Below W4.heap.size W4 w10) := B_W4.out.trans (hb10.mono Z_W4.out)
      clear Z_W4
      replace B_W6 : Hid (Below W6.heap.size W6 w10) := B_W6.out.trans (hb10.mono Z_W6.out)
      clear Z_W6
      replace B_X6 : Hid (Below X6.heap.size X6 w10) := B_X6.out.trans (hb10.mono Z_X6.out)
      clear Z_X6
      clear hb10 hg10
      obtain ⟨L, hL⟩ : ∃ L, L = (B ++ bl.take 1500).length := ⟨_, rfl⟩
      rw [← hL] at hR10 ⊢
      have hLN : L = N + M := by rw [hL, List.length_append, ← HN0.out, ← HM0.out]
      have hL6 : L ≤ 65536 := by omega
      have HLN := Wk.hidQ hLN
      clear hL
      by_cases hM1 : M = 0
      · have dL : ((L : Int) == (N : Int)) = true := by simp; omega
        have HS : Hid (parseS (B ++ bl.take 1500) 256 65536 = .ok (T, (List.range' 0 (fo1 T).cnt).map (orO [b0, b1])) (fB [b0, b1] 0 (fo1 T)).length) := by
          have e : bl.take 1500 = [] := List.eq_nil_of_length_eq_zero (by rw [← HM0.out]; exact hM1)
          show _ = _
          rw [e, List.append_nil, HB.out]
          exact parse_tree Hwf.out [b0, b1] Hd.out (by rw [← HB.out, ← HN0.out]; omega)
        have hPc := parse17_any hR10 (by omega) (HE1.out.later B_W1.out) (md := 256) (mb := 65536) (D := 256) (lim := 65536) (by decide) (by decide)
        rw [show (256 : Int).toNat = 256 from rfl, HS.out] at hPc
        clear hR10 hLN hM1 HS
        go_wp2_with fail
        refine hPc.mono ?_
        rintro e W11 ⟨u1, rfl, hb11, hTu1⟩
        clear hPc
        obtain ⟨p1, q1, p2, q2, p3, q3, eu1, _⟩ := gm_slc hTu1
        subst eu1
        have HTu1 : Hid (TV (fun k => k < W11.heap.size) W11 (.agg #[.int .i64 K0, .slice p1 n1 q1, .slice p2 n2 q2, .slice p3 n3 q3]) T) := by obtain ⟨e0, e1, e2, e3⟩ := HKn.out; rw [e0, e1, e2, e3]; exact hTu1.mono (fun k hk => hk.2)
        clear hTu1
        replace B_w : Hid (Below w.heap.size w W11) := B_w.out.trans (hb11.mono B_w.out.size)
        replace B_W1 : Hid (Below W1.heap.size W1 W11) := B_W1.out.trans (hb11.mono B_W1.out.size)
        replace B_W2 : Hid (Below W2.heap.size W2 W11) := B_W2.out.trans (hb11.mono B_W2.out.size)
        replace B_W4 : Hid (Below W4.heap.size W4 W11) := B_W4.out.trans (hb11.mono B_W4.out.size)
        replace B_W6 : Hid (Below W6.heap.size W6 W11) := B_W6.out.trans (hb11.mono B_W6.out.size)
        replace B_X6 : Hid (Below X6.heap.size X6 W11) := B_X6.out.trans (hb11.mono B_X6.out.size)
        clear hb11
        have B_W11 : Hid (Below W11.heap.size W11 W11) := Below.refl _ _
        obtain ⟨e0, e1, e2, e3⟩ := HKn.out
        simp only at e0 e1 e2 e3 ⊢
        rw [← e0, ← e1, ← e2, ← e3]
        clear e0 e1 e2 e3
        obtain ⟨X11, hX11⟩ : ∃ X11, X11 = W11.alloc (.cells #[.int .i64 K0, .slice p1 n1 q1, .slice p2 n2 q2, .slice p3 n3 q3] 28) := ⟨_, rfl⟩
        have HX11 : Hid (W11.alloc (.cells #[.int .i64 K0, .slice p1 n1 q1, .slice p2 n2 q2, .slice p3 n3 q3] 28) = X11) := hX11.symm
        have hbX11 : Below W11.heap.size W11 X11 := by rw [hX11]; exact alloc_below _
        have GX11 : Hid (X11.heap[W11.heap.size]? = some (.cells #[.int .i64 K0, .slice p1 n1 q1, .slice p2 n2 q2, .slice p3 n3 q3] 28 (0, 0))) := by rw [hX11]; exact heap_alloc_new _ _
        replace B_w : Hid (Below w.heap.size w X11) := B_w.out.trans (hbX11.mono B_w.out.size)
        replace B_W1 : Hid (Below W1.heap.size W1 X11) := B_W1.out.trans (hbX11.mono B_W1.out.size)
        replace B_W2 : Hid (Below W2.heap.size W2 X11) := B_W2.out.trans (hbX11.mono B_W2.out.size)
        replace B_W4 : Hid (Below W4.heap.size W4 X11) := B_W4.out.trans (hbX11.mono B_W4.out.size)
        replace B_W6 : Hid (Below W6.heap.size W6 X11) := B_W6.out.trans (hbX11.mono B_W6.out.size)
        replace B_X6 : Hid (Below X6.heap.size X6 X11) := B_X6.out.trans (hbX11.mono B_X6.out.size)
        replace B_W11 : Hid (Below W11.heap.size W11 X11) := B_W11.out.trans (hbX11.mono B_W11.out.size)
        clear hX11 hbX11
        go_upto_region 13 with (fail)
        rw [HX11.out]
        have B_X11 : Hid (Below X11.heap.size X11 X11) := Below.refl _ _
        have g7 := (B_W2.out.block _ (lt_of_block GW2.out)).trans GW2.out
        have x0 := cell_of g7 0
        have x1 := cell_of g7 1
        have x2 := cell_of g7 2
        have x3 := cell_of g7 3
        simp only [List.getElem?_toArray, List.getElem?_cons_zero, List.getElem?_cons_succ] at x0 x1 x2 x3
        clear g7
        have g11 := (B_X11.out.block _ (lt_of_block GX11.out)).trans GX11.out
        have z0 := cell_of g11 0
        have z1 := cell_of g11 1
        have z2 := cell_of g11 2
        have z3 := cell_of g11 3
        simp only [List.getElem?_toArray, List.getElem?_cons_zero, List.getElem?_cons_succ] at z0 z1 z2 z3
        clear g11
        have hQ := treeEq_same (w := X11) (S1 := fun k => k < W1.heap.size) (S2 := fun k => k < W11.heap.size) (fun k hk => by have := B_W1.out.size; omega) (fun k hk => by have := B_W11.out.size; omega) (HTV.out.below (Kp.of_below B_W1.out (fun k hk => hk))) (HTu1.out.below (Kp.of_below B_W11.out (fun k hk => hk))) HOk.out
        go_wp2_with fail
        refine hQ.mono ?_
        rintro e W12 ⟨rfl, hb12⟩
        clear hQ x0 x1 x2 x3 z0 z1 z2 z3
        replace B_w : Hid (Below w.heap.size w W12) := B_w.out.trans (hb12.mono B_w.out.size)
        replace B_W1 : Hid (Below W1.heap.size W1 W12) := B_W1.out.trans (hb12.mono B_W1.out.size)
        replace B_W2 : Hid (Below W2.heap.size W2 W12) := B_W2.out.trans (hb12.mono B_W2.out.size)
        replace B_W4 : Hid (Below W4.heap.size W4 W12) := B_W4.out.trans (hb12.mono B_W4.out.size)
        replace B_W6 : Hid (Below W6.heap.size W6 W12) := B_W6.out.trans (hb12.mono B_W6.out.size)
        replace B_X6 : Hid (Below X6.heap.size X6 W12) := B_X6.out.trans (hb12.mono B_X6.out.size)
        replace B_W11 : Hid (Below W11.heap.size W11 W12) := B_W11.out.trans (hb12.mono B_W11.out.size)
        replace B_X11 : Hid (Below X11.heap.size X11 W12) := B_X11.out.trans (hb12.mono B_X11.out.size)
        clear hb12
        go_wp2
        go_ret
        exact ⟨rfl, B_w.out⟩
      · have dL : ((L : Int) == (N : Int)) = false := by simp; omega
        have HS : Hid (parseS (B ++ bl.take 1500) 256 65536 = .bad N 174) := by
          show _ = _
          rw [HN0.out, HB.out]
          exact parse_more Hwf.out [b0, b1] Hd.out (fun e => hM1 (by rw [HM0.out, e]; rfl)) (by rw [← HB.out, ← HN0.out, ← HM0.out]; omega)
        have hPc := parse17_any hR10 (by omega) (HE1.out.later B_W1.out) (md := 256) (mb := 65536) (D := 256) (lim := 65536) (by decide) (by decide)
        rw [show (256 : Int).toNat = 256 from rfl, HS.out] at hPc
        clear hR10 hLN hM1 HS
        go_wp2_with fail
        refine hPc.mono ?_
        rintro e W11 ⟨g11, rfl, hF11, hb11⟩
        clear hPc
        have HF11 := Wk.hidQ hF11
        clear hF11
        replace B_w : Hid (Below w.heap.size w W11) := B_w.out.trans (hb11.mono B_w.out.size)
        replace B_W1 : Hid (Below W1.heap.size W1 W11) := B_W1.out.trans (hb11.mono B_W1.out.size)
        replace B_W2 : Hid (Below W2.heap.size W2 W11) := B_W2.out.trans (hb11.mono B_W2.out.size)
        replace B_W4 : Hid (Below W4.heap.size W4 W11) := B_W4.out.trans (hb11.mono B_W4.out.size)
        replace B_W6 : Hid (Below W6.heap.size W6 W11) := B_W6.out.trans (hb11.mono B_W6.out.size)
        replace B_X6 : Hid (Below X6.heap.size X6 W11) := B_X6.out.trans (hb11.mono B_X6.out.size)
        clear hb11
        have B_W11 : Hid (Below W11.heap.size W11 W11) := Below.refl _ _
        unfold zg
        obtain ⟨X11, hX11⟩ : ∃ X11, X11 = W11.alloc (.cells #[.int .i64 0, .slice none 0 0, .slice none 0 0, .slice none 0 0] 28) := ⟨_, rfl⟩
        have HX11 : Hid (W11.alloc (.cells #[.int .i64 0, .slice none 0 0, .slice none 0 0, .slice none 0 0] 28) = X11) := hX11.symm
        have hbX11 : Below W11.heap.size W11 X11 := by rw [hX11]; exact alloc_below _
        have GX11 : Hid (X11.heap[W11.heap.size]? = some (.cells #[.int .i64 0, .slice none 0 0, .slice none 0 0, .slice none 0 0] 28 (0, 0))) := by rw [hX11]; exact heap_alloc_new _ _
        replace B_w : Hid (Below w.heap.size w X11) := B_w.out.trans (hbX11.mono B_w.out.size)
        replace B_W1 : Hid (Below W1.heap.size W1 X11) := B_W1.out.trans (hbX11.mono B_W1.out.size)
        replace B_W2 : Hid (Below W2.heap.size W2 X11) := B_W2.out.trans (hbX11.mono B_W2.out.size)
        replace B_W4 : Hid (Below W4.heap.size W4 X11) := B_W4.out.trans (hbX11.mono B_W4.out.size)
        replace B_W6 : Hid (Below W6.heap.size W6 X11) := B_W6.out.trans (hbX11.mono B_W6.out.size)
        replace B_X6 : Hid (Below X6.heap.size X6 X11) := B_X6.out.trans (hbX11.mono B_X6.out.size)
        replace B_W11 : Hid (Below W11.heap.size W11 X11) := B_W11.out.trans (hbX11.mono B_W11.out.size)
        clear hX11 hbX11
        go_upto_region 13 with (fail)
        rw [HX11.out]
        have B_X11 : Hid (Below X11.heap.size X11 X11) := Below.refl _ _
        have g11 := (B_X11.out.block _ (lt_of_block GX11.out)).trans GX11.out
        have z0 := cell_of g11 0
        have z1 := cell_of g11 1
        have z2 := cell_of g11 2
        have z3 := cell_of g11 3
        simp only [List.getElem?_toArray, List.getElem?_cons_zero, List.getElem?_cons_succ] at z0 z1 z2 z3
        clear g11
        have hZ := zero_yes X11
        go_wp2_with fail
        refine hZ.mono ?_
        rintro e W12 ⟨rfl, hb12⟩
        clear hZ z0 z1 z2 z3
        replace B_w : Hid (Below w.heap.size w W12) := B_w.out.trans (hb12.mono B_w.out.size)
        replace B_W1 : Hid (Below W1.heap.size W1 W12) := B_W1.out.trans (hb12.mono B_W1.out.size)
        replace B_W2 : Hid (Below W2.heap.size W2 W12) := B_W2.out.trans (hb12.mono B_W2.out.size)
        replace B_W4 : Hid (Below W4.heap.size W4 W12) := B_W4.out.trans (hb12.mono B_W4.out.size)
        replace B_W6 : Hid (Below W6.heap.size W6 W12) := B_W6.out.trans (hb12.mono B_W6.out.size)
        replace B_X6 : Hid (Below X6.heap.size X6 W12) := B_X6.out.trans (hb12.mono B_X6.out.size)
        replace B_W11 : Hid (Below W11.heap.size W11 W12) := B_W11.out.trans (hb12.mono B_W11.out.size)
        replace B_X11 : Hid (Below X11.heap.size X11 W12) := B_X11.out.trans (hb12.mono B_X11.out.size)
        clear hb12
        have hQ := told_yes (HF11.out.later B_W11.out) (HE1.out.later B_W1.out) (by decide)
        go_wp2_with fail
        refine hQ.mono ?_
        rintro e W13 ⟨rfl, hb13⟩
        clear hQ
        replace B_w : Hid (Below w.heap.size w W13) := B_w.out.trans (hb13.mono B_w.out.size)
        replace B_W1 : Hid (Below W1.heap.size W1 W13) := B_W1.out.trans (hb13.mono B_W1.out.size)
        replace B_W2 : Hid (Below W2.heap.size W2 W13) := B_W2.out.trans (hb13.mono B_W2.out.size)
        replace B_W4 : Hid (Below W4.heap.size W4 W13) := B_W4.out.trans (hb13.mono B_W4.out.size)
        replace B_W6 : Hid (Below W6.heap.size W6 W13) := B_W6.out.trans (hb13.mono B_W6.out.size)
        replace B_X6 : Hid (Below X6.heap.size X6 W13) := B_X6.out.trans (hb13.mono B_X6.out.size)
        replace B_W11 : Hid (Below W11.heap.size W11 W13) := B_W11.out.trans (hb13.mono B_W11.out.size)
        replace B_X11 : Hid (Below X11.heap.size X11 W13) := B_X11.out.trans (hb13.mono B_X11.out.size)
        clear hb13
        go_wp2
        go_ret
        exact ⟨rfl, B_w.out⟩
    · subst hC6
      have hC := codeFault_any (HF6.out.later B_W6.out) (HE1.out.later B_W1.out)
      go_wp2_with fail
      refine hC.mono ?_
      rintro e Y1 ⟨rfl, hbY1⟩
      clear hC
      replace B_w : Hid (Below w.heap.size w Y1) := B_w.out.trans (hbY1.mono B_w.out.size)
      replace B_W1 : Hid (Below W1.heap.size W1 Y1) := B_W1.out.trans (hbY1.mono B_W1.out.size)
      replace B_W2 : Hid (Below W2.heap.size W2 Y1) := B_W2.out.trans (hbY1.mono B_W2.out.size)
      replace B_W4 : Hid (Below W4.heap.size W4 Y1) := B_W4.out.trans (hbY1.mono B_W4.out.size)
      replace B_W6 : Hid (Below W6.heap.size W6 Y1) := B_W6.out.trans (hbY1.mono B_W6.out.size)
      replace B_X6 : Hid (Below X6.heap.size X6 Y1) := B_X6.out.trans (hbY1.mono B_X6.out.size)
      clear hbY1
      have hC := codeFault_any (HF6.out.later B_W6.out) (HE1.out.later B_W1.out)
      go_wp2_with fail
      refine hC.mono ?_
      rintro e Y2 ⟨rfl, hbY2⟩
      clear hC
      replace B_w : Hid (Below w.heap.size w Y2) := B_w.out.trans (hbY2.mono B_w.out.size)
      replace B_W1 : Hid (Below W1.heap.size W1 Y2) := B_W1.out.trans (hbY2.mono B_W1.out.size)
      replace B_W2 : Hid (Below W2.heap.size W2 Y2) := B_W2.out.trans (hbY2.mono B_W2.out.size)
      replace B_W4 : Hid (Below W4.heap.size W4 Y2) := B_W4.out.trans (hbY2.mono B_W4.out.size)
      replace B_W6 : Hid (Below W6.heap.size W6 Y2) := B_W6.out.trans (hbY2.mono B_W6.out.size)
      replace B_X6 : Hid (Below X6.heap.size X6 Y2) := B_X6.out.trans (hbY2.mono B_X6.out.size)
      clear hbY2
      have hC := placeFault_any (HF6.out.later B_W6.out) (HE1.out.later B_W1.out)
      go_wp2_with fail
      refine hC.mono ?_
      rintro e Y3 ⟨rfl, hbY3⟩
      clear hC
      replace B_w : Hid (Below w.heap.size w Y3) := B_w.out.trans (hbY3.mono B_w.out.size)
      replace B_W1 : Hid (Below W1.heap.size W1 Y3) := B_W1.out.trans (hbY3.mono B_W1.out.size)
      replace B_W2 : Hid (Below W2.heap.size W2 Y3) := B_W2.out.trans (hbY3.mono B_W2.out.size)
      replace B_W4 : Hid (Below W4.heap.size W4 Y3) := B_W4.out.trans (hbY3.mono B_W4.out.size)
      replace B_W6 : Hid (Below W6.heap.size W6 Y3) := B_W6.out.trans (hbY3.mono B_W6.out.size)
      replace B_X6 : Hid (Below X6.heap.size X6 Y3) := B_X6.out.trans (hbY3.mono B_X6.out.size)
      clear hbY3
      have hC := placeFault_any (HF6.out.later B_W6.out) (HE1.out.later B_W1.out)
      go_wp2_with fail
      refine hC.mono ?_
      rintro e Y4 ⟨rfl, hbY4⟩
      clear hC
      replace B_w : Hid (Below w.heap.size w Y4) := B_w.out.trans (hbY4.mono B_w.out.size)
      replace B_W1 : Hid (Below W1.heap.size W1 Y4) := B_W1.out.trans (hbY4.mono B_W1.out.size)
      replace B_W2 : Hid (Below W2.heap.size W2 Y4) := B_W2.out.trans (hbY4.mono B_W2.out.size)
      replace B_W4 : Hid (Below W4.heap.size W4 Y4) := B_W4.out.trans (hbY4.mono B_W4.out.size)
      replace B_W6 : Hid (Below W6.heap.size W6 Y4) := B_W6.out.trans (hbY4.mono B_W6.out.size)
      replace B_X6 : Hid (Below X6.heap.size X6 Y4) := B_X6.out.trans (hbY4.mono B_X6.out.size)
      clear hbY4
      have Z_w : Hid (w.heap.size ≤ Y4.heap.size) := B_w.out.size
      have Z_W1 : Hid (W1.heap.size ≤ Y4.heap.size) := B_W1.out.size
      have Z_W2 : Hid (W2.heap.size ≤ Y4.heap.size) := B_W2.out.size
      have Z_W4 : Hid (W4.heap.size ≤ Y4.heap.size) := B_W4.out.size
      have Z_W6 : Hid (W6.heap.size ≤ Y4.heap.size) := B_W6.out.size
      have Z_X6 : Hid (X6.heap.size ≤ Y4.heap.size) := B_X6.out.size
      go_upto_region 11 with (fail)
      have B_Y4x : Hid (Below Y4.heap.size Y4 Y4) := Below.refl _ _
      have hO0 : Ob (Y4.alloc (.cells #[] 5)) Y4.heap.size (.slice (some ⟨Y4.heap.size, 0, none⟩) 0 0) [] := World.ownsRow_made Y4 #[] 0 (Nat.le_refl _) (Nat.zero_le _) rfl
      have hbZ : Below Y4.heap.size Y4 (Y4.alloc (.cells #[] 5)) := alloc_below _
      have hRz : Rb (Y4.alloc (.cells #[] 5)) a N c B := (HR.out.later B_W4.out).later hbZ
      have hsz : Y4.heap.size ≤ (Y4.alloc (.cells #[] 5)).heap.size := hbZ.size
      go_wp2_with (at_builtin; refine wpList_app8 rfl _ _ rfl (base := Y4.heap.size) (r := B) rfl hO0 rfl hRz (by rw [List.length_nil]; omega) hsz ?_; intro v8 w8 hO8 hg8 hk8; refine Hid.out ?_)
      unfold Hid
      rw [List.nil_append] at hO8
      have hbY : Below Y4.heap.size Y4 w8 := hO0.below hbZ (Nat.le_refl _) hg8
      replace B_Y4x : Hid (Below Y4.heap.size Y4 w8) := hbY
      clear hk8 hg8 hO0 hRz hsz hbZ
      replace B_w : Hid (Below w.heap.size w w8) := B_w.out.trans (hbY.mono B_w.out.size)
      replace B_W1 : Hid (Below W1.heap.size W1 w8) := B_W1.out.trans (hbY.mono B_W1.out.size)
      replace B_W2 : Hid (Below W2.heap.size W2 w8) := B_W2.out.trans (hbY.mono B_W2.out.size)
      replace B_W4 : Hid (Below W4.heap.size W4 w8) := B_W4.out.trans (hbY.mono B_W4.out.size)
      replace B_W6 : Hid (Below W6.heap.size W6 w8) := B_W6.out.trans (hbY.mono B_W6.out.size)
      replace B_X6 : Hid (Below X6.heap.size X6 w8) := B_X6.out.trans (hbY.mono B_X6.out.size)
      clear hbY
      have hleB : Y4.heap.size ≤ w8.heap.size := B_Y4x.out.size
      obtain ⟨a8, c8, e8, hR8⟩ := hO8.row
      rw [← HN0.out] at e8
      subst e8
      have HO8 := Wk.hidQ hO8
      clear hO8 hR8
      have hCu := cut17_any (HRb.out.later B_w.out)
      go_wp2_with fail
      refine hCu.mono ?_
      rintro e w9 ⟨v9, rfl, hO9, hb9⟩
      obtain ⟨a9, c9, rfl, hR9⟩ := hO9.row
      rw [← HM0.out] at hR9 ⊢
      clear hCu hO9
      have hO8' := HO8.out.later hb9
      replace B_w : Hid (Below w.heap.size w w9) := B_w.out.trans (hb9.mono B_w.out.size)
      replace B_W1 : Hid (Below W1.heap.size W1 w9) := B_W1.out.trans (hb9.mono B_W1.out.size)
      replace B_W2 : Hid (Below W2.heap.size W2 w9) := B_W2.out.trans (hb9.mono B_W2.out.size)
      replace B_W4 : Hid (Below W4.heap.size W4 w9) := B_W4.out.trans (hb9.mono B_W4.out.size)
      replace B_W6 : Hid (Below W6.heap.size W6 w9) := B_W6.out.trans (hb9.mono B_W6.out.size)
      replace B_X6 : Hid (Below X6.heap.size X6 w9) := B_X6.out.trans (hb9.mono B_X6.out.size)
      have hs9 := hb9.size
      clear hb9
      skip
      go_wp2_with (at_builtin; refine wpList_app8 rfl _ _ rfl (base := Y4.heap.size) (r := bl.take 1500) rfl hO8' rfl hR9 (by rw [← HN0.out]; omega) (Nat.le_trans hleB hs9) ?_; intro v10 w10 hO10 hg10 hk10; refine Hid.out ?_)
      unfold Hid
      have hb10 : Below Y4.heap.size w9 w10 := (Below.refl _ _).grown hg10 (Nat.le_trans hleB hs9) (fun r e => (hO8'.blk e).1)
      obtain ⟨a10, c10, rfl, hR10⟩ := hO10.row
      clear hO10 hk10 hO8' hR9 hs9
      replace B_w : Hid (Below w.heap.size w w10) := B_w.out.trans (hb10.mono Z_w.out)
      clear Z_w
      replace B_W1 : Hid (Below W1.heap.size W1 w10) := B_W1.out.trans (hb10.mono Z_W1.out)
      clear Z_W1
      replace B_W2 : Hid (Below W2.heap.size W2 w10) := B_W2.out.trans (hb10.mono Z_W2.out)
      clear Z_W2
      replace B_W4 : Hid (Below W4.heap.size W4 w10) := B_W4.out.trans (hb10.mono Z_W4.out)
      clear Z_W4
      replace B_W6 : Hid (Below W6.heap.size W6 w10) := B_W6.out.trans (hb10.mono Z_W6.out)
      clear Z_W6
      replace B_X6 : Hid (Below X6.heap.size X6 w10) := B_X6.out.trans (hb10.mono Z_X6.out)
      clear Z_X6
      clear hb10 hg10
      obtain ⟨L, hL⟩ : ∃ L, L = (B ++ bl.take 1500).length := ⟨_, rfl⟩
      rw [← hL] at hR10 ⊢
      have hLN : L = N + M := by rw [hL, List.length_append, ← HN0.out, ← HM0.out]
      have hL6 : L ≤ 65536 := by omega
      have HLN := Wk.hidQ hLN
      clear hL
      by_cases hM1 : M = 0
      · have dL : ((L : Int) == (N : Int)) = true := by simp; omega
        have HS : Hid (parseS (B ++ bl.take 1500) 256 65536 = .ok (T, (List.range' 0 (fo1 T).cnt).map (orO [b0, b1])) (fB [b0, b1] 0 (fo1 T)).length) := by
          have e : bl.take 1500 = [] := List.eq_nil_of_length_eq_zero (by rw [← HM0.out]; exact hM1)
          show _ = _
          rw [e, List.append_nil, HB.out]
          exact parse_tree Hwf.out [b0, b1] Hd.out (by rw [← HB.out, ← HN0.out]; omega)
        have hPc := parse17_any hR10 (by omega) (HE1.out.later B_W1.out) (md := 256) (mb := 65536) (D := 256) (lim := 65536) (by decide) (by decide)
        rw [show (256 : Int).toNat = 256 from rfl, HS.out] at hPc
        clear hR10 hLN hM1 HS
        go_wp2_with fail
        refine hPc.mono ?_
        rintro e W11 ⟨u1, rfl, hb11, hTu1⟩
        clear hPc
        obtain ⟨p1, q1, p2, q2, p3, q3, eu1, _⟩ := gm_slc hTu1
        subst eu1
        have HTu1 : Hid (TV (fun k => k < W11.heap.size) W11 (.agg #[.int .i64 K0, .slice p1 n1 q1, .slice p2 n2 q2, .slice p3 n3 q3]) T) := by obtain ⟨e0, e1, e2, e3⟩ := HKn.out; rw [e0, e1, e2, e3]; exact hTu1.mono (fun k hk => hk.2)
        clear hTu1
        replace B_w : Hid (Below w.heap.size w W11) := B_w.out.trans (hb11.mono B_w.out.size)
        replace B_W1 : Hid (Below W1.heap.size W1 W11) := B_W1.out.trans (hb11.mono B_W1.out.size)
        replace B_W2 : Hid (Below W2.heap.size W2 W11) := B_W2.out.trans (hb11.mono B_W2.out.size)
        replace B_W4 : Hid (Below W4.heap.size W4 W11) := B_W4.out.trans (hb11.mono B_W4.out.size)
        replace B_W6 : Hid (Below W6.heap.size W6 W11) := B_W6.out.trans (hb11.mono B_W6.out.size)
        replace B_X6 : Hid (Below X6.heap.size X6 W11) := B_X6.out.trans (hb11.mono B_X6.out.size)
        clear hb11
        have B_W11 : Hid (Below W11.heap.size W11 W11) := Below.refl _ _
        obtain ⟨e0, e1, e2, e3⟩ := HKn.out
        simp only at e0 e1 e2 e3 ⊢
        rw [← e0, ← e1, ← e2, ← e3]
        clear e0 e1 e2 e3
        obtain ⟨X11, hX11⟩ : ∃ X11, X11 = W11.alloc (.cells #[.int .i64 K0, .slice p1 n1 q1, .slice p2 n2 q2, .slice p3 n3 q3] 28) := ⟨_, rfl⟩
        have HX11 : Hid (W11.alloc (.cells #[.int .i64 K0, .slice p1 n1 q1, .slice p2 n2 q2, .slice p3 n3 q3] 28) = X11) := hX11.symm
        have hbX11 : Below W11.heap.size W11 X11 := by rw [hX11]; exact alloc_below _
        have GX11 : Hid (X11.heap[W11.heap.size]? = some (.cells #[.int .i64 K0, .slice p1 n1 q1, .slice p2 n2 q2, .slice p3 n3 q3] 28 (0, 0))) := by rw [hX11]; exact heap_alloc_new _ _
        replace B_w : Hid (Below w.heap.size w X11) := B_w.out.trans (hbX11.mono B_w.out.size)
        replace B_W1 : Hid (Below W1.heap.size W1 X11) := B_W1.out.trans (hbX11.mono B_W1.out.size)
        replace B_W2 : Hid (Below W2.heap.size W2 X11) := B_W2.out.trans (hbX11.mono B_W2.out.size)
        replace B_W4 : Hid (Below W4.heap.size W4 X11) := B_W4.out.trans (hbX11.mono B_W4.out.size)
        replace B_W6 : Hid (Below W6.heap.size W6 X11) := B_W6.out.trans (hbX11.mono B_W6.out.size)
        replace B_X6 : Hid (Below X6.heap.size X6 X11) := B_X6.out.trans (hbX11.mono B_X6.out.size)
        replace B_W11 : Hid (Below W11.heap.size W11 X11) := B_W11.out.trans (hbX11.mono B_W11.out.size)
        clear hX11 hbX11
        go_upto_region 13 with (fail)
        rw [HX11.out]
        have B_X11 : Hid (Below X11.heap.size X11 X11) := Below.refl _ _
        have g7 := (B_W2.out.block _ (lt_of_block GW2.out)).trans GW2.out
        have x0 := cell_of g7 0
        have x1 := cell_of g7 1
        have x2 := cell_of g7 2
        have x3 := cell_of g7 3
        simp only [List.getElem?_toArray, List.getElem?_cons_zero, List.getElem?_cons_succ] at x0 x1 x2 x3
        clear g7
        have g11 := (B_X11.out.block _ (lt_of_block GX11.out)).trans GX11.out
        have z0 := cell_of g11 0
        have z1 := cell_of g11 1
        have z2 := cell_of g11 2
        have z3 := cell_of g11 3
        simp only [List.getElem?_toArray, List.getElem?_cons_zero, List.getElem?_cons_succ] at z0 z1 z2 z3
        clear g11
        have hQ := treeEq_same (w := X11) (S1 := fun k => k < W1.heap.size) (S2 := fun k => k < W11.heap.size) (fun k hk => by have := B_W1.out.size; omega) (fun k hk => by have := B_W11.out.size; omega) (HTV.out.below (Kp.of_below B_W1.out (fun k hk => hk))) (HTu1.out.below (Kp.of_below B_W11.out (fun k hk => hk))) HOk.out
        go_wp2_with fail
        refine hQ.mono ?_
        rintro e W12 ⟨rfl, hb12⟩
        clear hQ x0 x1 x2 x3 z0 z1 z2 z3
        replace B_w : Hid (Below w.heap.size w W12) := B_w.out.trans (hb12.mono B_w.out.size)
        replace B_W1 : Hid (Below W1.heap.size W1 W12) := B_W1.out.trans (hb12.mono B_W1.out.size)
        replace B_W2 : Hid (Below W2.heap.size W2 W12) := B_W2.out.trans (hb12.mono B_W2.out.size)
        replace B_W4 : Hid (Below W4.heap.size W4 W12) := B_W4.out.trans (hb12.mono B_W4.out.size)
        replace B_W6 : Hid (Below W6.heap.size W6 W12) := B_W6.out.trans (hb12.mono B_W6.out.size)
        replace B_X6 : Hid (Below X6.heap.size X6 W12) := B_X6.out.trans (hb12.mono B_X6.out.size)
        replace B_W11 : Hid (Below W11.heap.size W11 W12) := B_W11.out.trans (hb12.mono B_W11.out.size)
        replace B_X11 : Hid (Below X11.heap.size X11 W12) := B_X11.out.trans (hb12.mono B_X11.out.size)
        clear hb12
        go_wp2
        go_ret
        exact ⟨rfl, B_w.out⟩
      · have dL : ((L : Int) == (N : Int)) = false := by simp; omega
        have HS : Hid (parseS (B ++ bl.take 1500) 256 65536 = .bad N 174) := by
          show _ = _
          rw [HN0.out, HB.out]
          exact parse_more Hwf.out [b0, b1] Hd.out (fun e => hM1 (by rw [HM0.out, e]; rfl)) (by rw [← HB.out, ← HN0.out, ← HM0.out]; omega)
        have hPc := parse17_any hR10 (by omega) (HE1.out.later B_W1.out) (md := 256) (mb := 65536) (D := 256) (lim := 65536) (by decide) (by decide)
        rw [show (256 : Int).toNat = 256 from rfl, HS.out] at hPc
        clear hR10 hLN hM1 HS
        go_wp2_with fail
        refine hPc.mono ?_
        rintro e W11 ⟨g11, rfl, hF11, hb11⟩
        clear hPc
        have HF11 := Wk.hidQ hF11
        clear hF11
        replace B_w : Hid (Below w.heap.size w W11) := B_w.out.trans (hb11.mono B_w.out.size)
        replace B_W1 : Hid (Below W1.heap.size W1 W11) := B_W1.out.trans (hb11.mono B_W1.out.size)
        replace B_W2 : Hid (Below W2.heap.size W2 W11) := B_W2.out.trans (hb11.mono B_W2.out.size)
        replace B_W4 : Hid (Below W4.heap.size W4 W11) := B_W4.out.trans (hb11.mono B_W4.out.size)
        replace B_W6 : Hid (Below W6.heap.size W6 W11) := B_W6.out.trans (hb11.mono B_W6.out.size)
        replace B_X6 : Hid (Below X6.heap.size X6 W11) := B_X6.out.trans (hb11.mono B_X6.out.size)
        clear hb11
        have B_W11 : Hid (Below W11.heap.size W11 W11) := Below.refl _ _
        unfold zg
        obtain ⟨X11, hX11⟩ : ∃ X11, X11 = W11.alloc (.cells #[.int .i64 0, .slice none 0 0, .slice none 0 0, .slice none 0 0] 28) := ⟨_, rfl⟩
        have HX11 : Hid (W11.alloc (.cells #[.int .i64 0, .slice none 0 0, .slice none 0 0, .slice none 0 0] 28) = X11) := hX11.symm
        have hbX11 : Below W11.heap.size W11 X11 := by rw [hX11]; exact alloc_below _
        have GX11 : Hid (X11.heap[W11.heap.size]? = some (.cells #[.int .i64 0, .slice none 0 0, .slice none 0 0, .slice none 0 0] 28 (0, 0))) := by rw [hX11]; exact heap_alloc_new _ _
        replace B_w : Hid (Below w.heap.size w X11) := B_w.out.trans (hbX11.mono B_w.out.size)
        replace B_W1 : Hid (Below W1.heap.size W1 X11) := B_W1.out.trans (hbX11.mono B_W1.out.size)
        replace B_W2 : Hid (Below W2.heap.size W2 X11) := B_W2.out.trans (hbX11.mono B_W2.out.size)
        replace B_W4 : Hid (Below W4.heap.size W4 X11) := B_W4.out.trans (hbX11.mono B_W4.out.size)
        replace B_W6 : Hid (Below W6.heap.size W6 X11) := B_W6.out.trans (hbX11.mono B_W6.out.size)
        replace B_X6 : Hid (Below X6.heap.size X6 X11) := B_X6.out.trans (hbX11.mono B_X6.out.size)
        replace B_W11 : Hid (Below W11.heap.size W11 X11) := B_W11.out.trans (hbX11.mono B_W11.out.size)
        clear hX11 hbX11
        go_upto_region 13 with (fail)
        rw [HX11.out]
        have B_X11 : Hid (Below X11.heap.size X11 X11) := Below.refl _ _
        have g11 := (B_X11.out.block _ (lt_of_block GX11.out)).trans GX11.out
        have z0 := cell_of g11 0
        have z1 := cell_of g11 1
        have z2 := cell_of g11 2
        have z3 := cell_of g11 3
        simp only [List.getElem?_toArray, List.getElem?_cons_zero, List.getElem?_cons_succ] at z0 z1 z2 z3
        clear g11
        have hZ := zero_yes X11
        go_wp2_with fail
        refine hZ.mono ?_
        rintro e W12 ⟨rfl, hb12⟩
        clear hZ z0 z1 z2 z3
        replace B_w : Hid (Below w.heap.size w W12) := B_w.out.trans (hb12.mono B_w.out.size)
        replace B_W1 : Hid (Below W1.heap.size W1 W12) := B_W1.out.trans (hb12.mono B_W1.out.size)
        replace B_W2 : Hid (Below W2.heap.size W2 W12) := B_W2.out.trans (hb12.mono B_W2.out.size)
        replace B_W4 : Hid (Below W4.heap.size W4 W12) := B_W4.out.trans (hb12.mono B_W4.out.size)
        replace B_W6 : Hid (Below W6.heap.size W6 W12) := B_W6.out.trans (hb12.mono B_W6.out.size)
        replace B_X6 : Hid (Below X6.heap.size X6 W12) := B_X6.out.trans (hb12.mono B_X6.out.size)
        replace B_W11 : Hid (Below W11.heap.size W11 W12) := B_W11.out.trans (hb12.mono B_W11.out.size)
        replace B_X11 : Hid (Below X11.heap.size X11 W12) := B_X11.out.trans (hb12.mono B_X11.out.size)
        clear hb12
        have hQ := told_yes (HF11.out.later B_W11.out) (HE1.out.later B_W1.out) (by decide)
        go_wp2_with fail
        refine hQ.mono ?_
        rintro e W13 ⟨rfl, hb13⟩
        clear hQ
        replace B_w : Hid (Below w.heap.size w W13) := B_w.out.trans (hb13.mono B_w.out.size)
        replace B_W1 : Hid (Below W1.heap.size W1 W13) := B_W1.out.trans (hb13.mono B_W1.out.size)
        replace B_W2 : Hid (Below W2.heap.size W2 W13) := B_W2.out.trans (hb13.mono B_W2.out.size)
        replace B_W4 : Hid (Below W4.heap.size W4 W13) := B_W4.out.trans (hb13.mono B_W4.out.size)
        replace B_W6 : Hid (Below W6.heap.size W6 W13) := B_W6.out.trans (hb13.mono B_W6.out.size)
        replace B_X6 : Hid (Below X6.heap.size X6 W13) := B_X6.out.trans (hb13.mono B_X6.out.size)
        replace B_W11 : Hid (Below W11.heap.size W11 W13) := B_W11.out.trans (hb13.mono B_W11.out.size)
        replace B_X11 : Hid (Below X11.heap.size X11 W13) := B_X11.out.trans (hb13.mono B_X11.out.size)
        clear hb13
        go_wp2
        go_ret
        exact ⟨rfl, B_w.out⟩
end Go.Proofs.YtgobnjeankjkjabGreatDoor

