import Derived.Below
import Derived.BigQuiet
import Derived.ChangeOld
import Derived.Deep.CutRange
import Derived.Deep.DeepCutAuto
import Derived.Deep.QuietTactic
import Derived.Deep.RegionHeld3
import Derived.Deep.RegionLaw
import Derived.Deep.RegionWith
import Derived.LaidEql
import Derived.Laws.AppendOwn
import Derived.Laws.BitsAllLaws
import Derived.Laws.CopyRow
import Derived.Laws.IdiomCopy
import Derived.Laws.IdiomRangeMap
import Derived.Laws.Rows
import Derived.Laws.StructEq
import Derived.LoopIn
import Derived.LoopNIn
import Derived.Maps.AppendAt
import Derived.OpenShut
import Derived.Orders
import Derived.OrdersIn
import Derived.OwnWalk
import Derived.OwnWalkIn
import Derived.ProofKit
import Derived.RangeFuncBound
import Derived.RangeFuncCalls
import Derived.RangeFuncLeaves
import Derived.RangeFuncNested
import Derived.Recover
import Derived.RowKitTokens
import Derived.Shelf.Abstract
import Derived.Shelf.RegionOpen
import Derived.ShutString
import Derived.StillTailTactics
import Derived.Stop.Asserts
import Derived.Tactics2
import Derived.TacticsIn
import Derived.TacticsInMore
import Derived.WalkKit
import Derived.WalkLawsBesides
import Derived.WalkSpells
import Derived.Test.YtgobnjeankjkjaaGreatDoorPc8
import Derived.Test.YtgobnjeankjkjaaGreatDoorPc16
import Derived.Test.YtgobnjeankjkjaaGreatDoorPc20
import Derived.Test.YtgobnjeankjkjaaGreatDoorPc21
import Derived.Test.YtgobnjeankjkjaaGreatDoorPc22
/- Layer 17: the law's alive. -/
namespace Go.Proofs.YtgobnjeankjkjaaGreatDoor
open Go.ChangeShapes Go.WideShapes Go.ChangeAt Go.RowKit
open Ep Oc Tr Wk Mk
set_option linter.unusedVariables false
namespace Wk
/-- the point that alive writes -/
def T0 : Tree := (⟨1, [(4607182418800017408, 4611686018427387904)], []⟩, .nil)
theorem T0_ok : OkT T0 := ⟨⟨⟨by decide, by decide, by decide⟩, trivial, trivial⟩, by decide⟩
def bs0 : List UInt8 := mixB [true] 0 (ndsT T0)
theorem bs0_len : bs0.length = 21 := by decide +kernel
theorem bs0_read : parseS bs0 1 21 = .ok (T0, [true]) 21 := by kernel_rfl
theorem bs0_hex : hexL bs0 = [48, 49, 48, 49, 48, 48, 48, 48, 48, 48, 48, 48, 48, 48, 48, 48, 48, 48, 48, 48, 48, 48, 102, 48, 51, 102, 48, 48, 48, 48, 48, 48, 48, 48, 48, 48, 48, 48, 48, 48, 52, 48] := by decide +kernel
end Wk
set_option maxHeartbeats 3200000 in
set_option maxRecDepth 100000 in
theorem alive17_any {w : World} (hE : ErrVar w) : Calls Tryz.prog 11 #[] w fun e w' => e = .returned (.bool true) ∧ Below w.heap.size w w' := by
  obtain ⟨V1, hV1⟩ : ∃ V1, V1 = w.alloc (.cells #[.int .u64 4607182418800017408, .int .u64 4611686018427387904] 39) := ⟨_, rfl⟩
  obtain ⟨V, hV⟩ : ∃ V, V = V1.alloc (.cells #[.int .i64 1, .slice (some ⟨w.heap.size, 0, none⟩) 1 1, .slice none 0 0, .slice none 0 0] 31) := ⟨_, rfl⟩
  have hb1 : Below w.heap.size w V1 := by rw [hV1]; exact alloc_below _
  have hb2 : Below V1.heap.size V1 V := by rw [hV]; exact alloc_below _
  have hz1 : V1.heap.size = w.heap.size + 1 := by rw [hV1]; simp
  have hbV : Below w.heap.size w V := hb1.trans (hb2.mono (by omega))
  have gP : V.heap[w.heap.size]? = some (.cells #[.int .u64 4607182418800017408, .int .u64 4611686018427387904] 39 (0, 0)) := (hb2.block w.heap.size (by omega)).trans (by rw [hV1]; exact heap_alloc_new _ _)
  have gG : V.heap[w.heap.size + 1]? = some (.cells #[.int .i64 1, .slice (some ⟨w.heap.size, 0, none⟩) 1 1, .slice none 0 0, .slice none 0 0] 31 (0, 0)) := by rw [hV, ← hz1]; exact heap_alloc_new _ _
  have hT : TV (fun k => k < V.heap.size) V (.agg #[.int .i64 1, .slice (some ⟨w.heap.size, 0, none⟩) 1 1, .slice none 0 0, .slice none 0 0]) T0 := by
    refine tv_of (t := T0) (v1 := .slice (some ⟨w.heap.size, 0, none⟩) 1 1) (v2 := .slice none 0 0) (pa := none) (pc := 0) ⟨by decide, by decide⟩ ⟨by decide, _, 1, rfl, fun i p hi => ?_⟩ ⟨by decide, none, 0, rfl, fun i p hi => by cases hi⟩ ⟨by decide, by decide⟩ trivial
    have hi0 : i = 0 := by
      have := (List.getElem?_eq_some_iff.1 hi).1
      have e : T0.1.line.length = 1 := rfl
      omega
    subst hi0
    cases hi
    exact ⟨w.heap.size, 0, rfl, lt_of_block gP, ⟨by decide, by decide⟩, ⟨by decide, by decide⟩, cell_of gP 0, cell_of gP 1⟩
  have hPr := print_tree (fun k hk => hk) hT T0_ok true
  have HT := Wk.hidQ hT
  have HbV := Wk.hidQ hbV
  have HEV := Wk.hidQ (hE.later hbV)
  have HV : Hid ((w.alloc (.cells #[.int .u64 4607182418800017408, .int .u64 4611686018427387904] 39)).alloc (.cells #[.int .i64 1, .slice (some ⟨w.heap.size, 0, none⟩) 1 1, .slice none 0 0, .slice none 0 0] 31) = V) := by show _ = _; rw [hV, hV1]
  have HgG := Wk.hidQ gG
  have g0 := cell_of gG 0
  have g1 := cell_of gG 1
  have g2 := cell_of gG 2
  have g3 := cell_of gG 3
  simp only [List.getElem?_toArray, List.getElem?_cons_zero, List.getElem?_cons_succ] at g0 g1 g2 g3
  obtain ⟨B, hB⟩ : ∃ B, B = mixB [true] 0 (ndsT T0) := ⟨_, rfl⟩
  have HB : Hid (B = bs0) := hB
  rw [← hB] at hPr
  have hBl : B.length = 21 := by rw [HB.out]; exact bs0_len
  clear hV hV1 hb1 hb2 hbV gP gG hT hz1 hB hE
  go_enter Tryz.func11, Tryz.ntmps11
  go_upto_region 2 with (fail)
  rw [HV.out]
  go_wp2_with fail
  refine hPr.mono ?_
  rintro e W1 ⟨v, rfl, hO, hb1⟩
  clear hPr
  obtain ⟨a, c, rfl, hR⟩ := hO.row
  rw [hBl] at hR
  have HR := Wk.hidQ hR
  have Hb1 := Wk.hidQ hb1
  have hPa := parse17_any hR (by omega) (HEV.out.later hb1) (md := 1) (mb := 21) (D := 1) (lim := 21) (by decide) (by decide)
  rw [show (1 : Int).toNat = 1 from rfl, HB.out, bs0_read] at hPa
  have HG1 : Hid (W1.heap[w.heap.size + 1]? = some (.cells #[.int .i64 1, .slice (some ⟨w.heap.size, 0, none⟩) 1 1, .slice none 0 0, .slice none 0 0] 31 (0, 0))) := (hb1.block _ (lt_of_block HgG.out)).trans HgG.out
  clear hR hb1 hO g0 g1 g2 g3
  rw [hBl]
  clear hBl
  go_wp2_with fail
  refine hPa.mono ?_
  rintro e W2 ⟨u, rfl, hb2, hTu⟩
  clear hPa
  obtain ⟨a1, c1, a2, c2, a3, c3, eu, _⟩ := gm_slc hTu
  have eu' : u = .agg #[.int .i64 1, .slice a1 1 c1, .slice a2 0 c2, .slice a3 0 c3] := eu
  subst eu'
  have HTu : Hid (TV (fun i => W1.heap.size ≤ i ∧ i < W2.heap.size) W2 (.agg #[.int .i64 1, .slice a1 1 c1, .slice a2 0 c2, .slice a3 0 c3]) T0) := hTu
  have Hb2 := Wk.hidQ hb2
  obtain ⟨W3, hW3⟩ : ∃ W3, W3 = W2.alloc (.cells #[.int .i64 1, .slice a1 1 c1, .slice a2 0 c2, .slice a3 0 c3] 31) := ⟨_, rfl⟩
  have hb3 : Below W2.heap.size W2 W3 := by rw [hW3]; exact alloc_below _
  have gU : W3.heap[W2.heap.size]? = some (.cells #[.int .i64 1, .slice a1 1 c1, .slice a2 0 c2, .slice a3 0 c3] 31 (0, 0)) := by rw [hW3]; exact heap_alloc_new _ _
  have Hb13 : Hid (Below W1.heap.size W1 W3) := hb2.trans (hb3.mono hb2.size)
  have hHx := hex16_any (HR.out.later Hb13.out) (by omega)
  rw [HB.out, bs0_hex] at hHx
  have HW3 : Hid (W2.alloc (.cells #[.int .i64 1, .slice a1 1 c1, .slice a2 0 c2, .slice a3 0 c3] 31) = W3) := hW3.symm
  have HgU := Wk.hidQ gU
  have Hb3 := Wk.hidQ hb3
  clear hTu hb2 eu hW3 hb3 gU
  go_upto_region 4 with (fail)
  rw [HW3.out]
  go_wp2_with fail
  refine hHx.mono ?_
  rintro e W4 ⟨rfl, hb4⟩
  clear hHx
  have Hb4 : Hid (Below W3.heap.size W3 W4) := hb4
  have k1 := (hb4.block _ (by have := Hb13.out.size; have := lt_of_block HG1.out; omega)).trans ((Hb13.out.block _ (lt_of_block HG1.out)).trans HG1.out)
  have k2 := (hb4.block _ (lt_of_block HgU.out)).trans HgU.out
  have g0 := cell_of k1 0
  have g1 := cell_of k1 1
  have g2 := cell_of k1 2
  have g3 := cell_of k1 3
  have m0 := cell_of k2 0
  have m1 := cell_of k2 1
  have m2 := cell_of k2 2
  have m3 := cell_of k2 3
  simp only [List.getElem?_toArray, List.getElem?_cons_zero, List.getElem?_cons_succ] at g0 g1 g2 g3 m0 m1 m2 m3
  have hbV4 : Below V.heap.size V W4 := (Hb1.out.trans (Hb13.out.mono Hb1.out.size)).trans (hb4.mono (by have := Hb1.out.size; have := Hb13.out.size; omega))
  have hb24 : Below W2.heap.size W2 W4 := Hb3.out.trans (hb4.mono Hb3.out.size)
  have hEq := treeEq_same (w := W4) (S1 := fun k => k < V.heap.size) (S2 := fun i => W1.heap.size ≤ i ∧ i < W2.heap.size) (fun k hk => by have := hbV4.size; omega) (fun k hk => by have := hb24.size; omega) (HT.out.below (Kp.of_below hbV4 (fun k hk => hk))) (HTu.out.below (Kp.of_below hb24 (fun k hk => hk.2))) T0_ok
  have HbW4 : Hid (Below w.heap.size w W4) := HbV.out.trans (hbV4.mono HbV.out.size)
  clear k1 k2 hbV4 hb24 hb4
  go_wp2_with fail
  refine hEq.mono ?_
  rintro e W5 ⟨rfl, hb5⟩
  have Hb5 : Hid (Below w.heap.size w W5) := HbW4.out.trans (hb5.mono HbW4.out.size)
  clear hEq hb5 g0 g1 g2 g3 m0 m1 m2 m3
  go_wp2
  go_ret
  exact ⟨rfl, Hb5.out⟩
end Go.Proofs.YtgobnjeankjkjaaGreatDoor

/- Layer 17: coordinates that are not finite (written by genwkco.py). -/
namespace Go.Proofs.YtgobnjeankjkjaaGreatDoor
open Go.ChangeShapes Go.WideShapes Go.ChangeAt Go.RowKit
open Ep Oc Tr Wk Mk
set_option linter.unusedVariables false
set_option maxHeartbeats 6400000 in
set_option maxRecDepth 100000 in
theorem coords17_Atrue {w : World} {X Y : Nat} (hX : X < 18446744073709551616) (hY : Y < 18446744073709551616) (f1 : finB X = true) (f2 : finB Y = true) (hE : ErrVar w) :
    Calls Tryz.prog 3 #[.int .u64 (X : Int), .int .u64 (Y : Int), .bool true] w fun e w' => e = .returned (.bool true) ∧ Below w.heap.size w w' := by
  have B_w : Hid (Below w.heap.size w w) := Below.refl _ _
  have HE := Wk.hidQ hE
  clear hE
  go_enter Tryz.func3, Tryz.ntmps3
  obtain ⟨V1, hV1⟩ : ∃ V1, V1 = w.alloc (.cells #[.int .u8 1] 5) := ⟨_, rfl⟩
  have HV1 : Hid (w.alloc (.cells #[.int .u8 1] 5) = V1) := hV1.symm
  have hbV1 : Below w.heap.size w V1 := by rw [hV1]; exact alloc_below _
  have hRV1 : Rb V1 (some ⟨w.heap.size, 0, none⟩) 1 1 [1] := by rw [hV1]; exact rb_lone w 1
  replace B_w : Hid (Below w.heap.size w V1) := B_w.out.trans (hbV1.mono B_w.out.size)
  clear hV1 hbV1
  have hPu := put32_any (V := 1) (little := true) hRV1 (by omega) (by decide)
  rw [show ((1 : Nat) : Int) = 1 from rfl] at hPu
  go_wp2_with fail
  rw [HV1.out]
  refine hPu.mono ?_
  rintro e W2 ⟨vW2, rfl, hO, hbW2⟩
  obtain ⟨aW2, cW2, rfl, hRW2⟩ := hO.row
  clear hPu hO 
  obtain ⟨LW2, hLW2⟩ : ∃ L, L = ([1] ++ ord 4 1 true) := ⟨_, rfl⟩
  rw [← hLW2] at hRW2 ⊢
  have hlW2 : LW2.length = 5 := by rw [hLW2]; simp [ord_len]
  rw [hlW2] at hRW2 ⊢
  have HLW2 := Wk.hidQ hLW2
  have hlenLW2 : Hid (LW2.length = 5) := hlW2
  clear hLW2 hlW2
  replace B_w : Hid (Below w.heap.size w W2) := B_w.out.trans (hbW2.mono B_w.out.size)
  clear hbW2
  have hPu := put64_any (V := X) (little := true) hRW2 (by omega) (by rw [show (256 : Nat) ^ 8 = 18446744073709551616 by decide]; exact hX)
  go_wp2_with fail
  refine hPu.mono ?_
  rintro e W3 ⟨vW3, rfl, hO, hbW3⟩
  obtain ⟨aW3, cW3, rfl, hRW3⟩ := hO.row
  clear hPu hO hRW2
  obtain ⟨LW3, hLW3⟩ : ∃ L, L = (LW2 ++ ord 8 X true) := ⟨_, rfl⟩
  rw [← hLW3] at hRW3 ⊢
  have hlW3 : LW3.length = 13 := by rw [hLW3]; rw [List.length_append, hlenLW2.out, ord_len]
  rw [hlW3] at hRW3 ⊢
  have HLW3 := Wk.hidQ hLW3
  have hlenLW3 : Hid (LW3.length = 13) := hlW3
  clear hLW3 hlW3
  replace B_w : Hid (Below w.heap.size w W3) := B_w.out.trans (hbW3.mono B_w.out.size)
  clear hbW3
  have hPu := put64_any (V := Y) (little := true) hRW3 (by omega) (by rw [show (256 : Nat) ^ 8 = 18446744073709551616 by decide]; exact hY)
  go_wp2_with fail
  refine hPu.mono ?_
  rintro e W4 ⟨vW4, rfl, hO, hbW4⟩
  obtain ⟨aW4, cW4, rfl, hRW4⟩ := hO.row
  clear hPu hO hRW3
  obtain ⟨LW4, hLW4⟩ : ∃ L, L = (LW3 ++ ord 8 Y true) := ⟨_, rfl⟩
  rw [← hLW4] at hRW4 ⊢
  have hlW4 : LW4.length = 21 := by rw [hLW4]; rw [List.length_append, hlenLW3.out, ord_len]
  rw [hlW4] at hRW4 ⊢
  have HLW4 := Wk.hidQ hLW4
  have hlenLW4 : Hid (LW4.length = 21) := hlW4
  clear hLW4 hlW4
  replace B_w : Hid (Below w.heap.size w W4) := B_w.out.trans (hbW4.mono B_w.out.size)
  clear hbW4
  have HRp := Wk.hidQ hRW4
  clear hRW4
  have HLp : Hid (LW4 = pB true X Y) := by show _ = _; rw [HLW4.out, HLW3.out, HLW2.out]; rfl
  have B_W4 : Hid (Below W4.heap.size W4 W4) := Below.refl _ _
  obtain ⟨V5, hV5⟩ : ∃ V5, V5 = W4.alloc (.cells #[.int .u8 1] 5) := ⟨_, rfl⟩
  have HV5 : Hid (W4.alloc (.cells #[.int .u8 1] 5) = V5) := hV5.symm
  have hbV5 : Below W4.heap.size W4 V5 := by rw [hV5]; exact alloc_below _
  have hRV5 : Rb V5 (some ⟨W4.heap.size, 0, none⟩) 1 1 [1] := by rw [hV5]; exact rb_lone W4 1
  replace B_w : Hid (Below w.heap.size w V5) := B_w.out.trans (hbV5.mono B_w.out.size)
  replace B_W4 : Hid (Below W4.heap.size W4 V5) := B_W4.out.trans (hbV5.mono B_W4.out.size)
  clear hV5 hbV5
  have hPu := put32_any (V := 2) (little := true) hRV5 (by omega) (by decide)
  rw [show ((2 : Nat) : Int) = 2 from rfl] at hPu
  go_wp2_with fail
  rw [HV5.out]
  refine hPu.mono ?_
  rintro e W6 ⟨vW6, rfl, hO, hbW6⟩
  obtain ⟨aW6, cW6, rfl, hRW6⟩ := hO.row
  clear hPu hO 
  obtain ⟨LW6, hLW6⟩ : ∃ L, L = ([1] ++ ord 4 2 true) := ⟨_, rfl⟩
  rw [← hLW6] at hRW6 ⊢
  have hlW6 : LW6.length = 5 := by rw [hLW6]; simp [ord_len]
  rw [hlW6] at hRW6 ⊢
  have HLW6 := Wk.hidQ hLW6
  have hlenLW6 : Hid (LW6.length = 5) := hlW6
  clear hLW6 hlW6
  replace B_w : Hid (Below w.heap.size w W6) := B_w.out.trans (hbW6.mono B_w.out.size)
  replace B_W4 : Hid (Below W4.heap.size W4 W6) := B_W4.out.trans (hbW6.mono B_W4.out.size)
  clear hbW6
  have hPu := put32_any (V := 1) (little := true) hRW6 (by omega) (by decide)
  rw [show ((1 : Nat) : Int) = 1 from rfl] at hPu
  go_wp2_with fail
  refine hPu.mono ?_
  rintro e W7 ⟨vW7, rfl, hO, hbW7⟩
  obtain ⟨aW7, cW7, rfl, hRW7⟩ := hO.row
  clear hPu hO hRW6
  obtain ⟨LW7, hLW7⟩ : ∃ L, L = (LW6 ++ ord 4 1 true) := ⟨_, rfl⟩
  rw [← hLW7] at hRW7 ⊢
  have hlW7 : LW7.length = 9 := by rw [hLW7]; rw [List.length_append, hlenLW6.out, ord_len]
  rw [hlW7] at hRW7 ⊢
  have HLW7 := Wk.hidQ hLW7
  have hlenLW7 : Hid (LW7.length = 9) := hlW7
  clear hLW7 hlW7
  replace B_w : Hid (Below w.heap.size w W7) := B_w.out.trans (hbW7.mono B_w.out.size)
  replace B_W4 : Hid (Below W4.heap.size W4 W7) := B_W4.out.trans (hbW7.mono B_W4.out.size)
  clear hbW7
  have hPu := put64_any (V := X) (little := true) hRW7 (by omega) (by rw [show (256 : Nat) ^ 8 = 18446744073709551616 by decide]; exact hX)
  go_wp2_with fail
  refine hPu.mono ?_
  rintro e W8 ⟨vW8, rfl, hO, hbW8⟩
  obtain ⟨aW8, cW8, rfl, hRW8⟩ := hO.row
  clear hPu hO hRW7
  obtain ⟨LW8, hLW8⟩ : ∃ L, L = (LW7 ++ ord 8 X true) := ⟨_, rfl⟩
  rw [← hLW8] at hRW8 ⊢
  have hlW8 : LW8.length = 17 := by rw [hLW8]; rw [List.length_append, hlenLW7.out, ord_len]
  rw [hlW8] at hRW8 ⊢
  have HLW8 := Wk.hidQ hLW8
  have hlenLW8 : Hid (LW8.length = 17) := hlW8
  clear hLW8 hlW8
  replace B_w : Hid (Below w.heap.size w W8) := B_w.out.trans (hbW8.mono B_w.out.size)
  replace B_W4 : Hid (Below W4.heap.size W4 W8) := B_W4.out.trans (hbW8.mono B_W4.out.size)
  clear hbW8
  have hPu := put64_any (V := Y) (little := true) hRW8 (by omega) (by rw [show (256 : Nat) ^ 8 = 18446744073709551616 by decide]; exact hY)
  go_wp2_with fail
  refine hPu.mono ?_
  rintro e W9 ⟨vW9, rfl, hO, hbW9⟩
  obtain ⟨aW9, cW9, rfl, hRW9⟩ := hO.row
  clear hPu hO hRW8
  obtain ⟨LW9, hLW9⟩ : ∃ L, L = (LW8 ++ ord 8 Y true) := ⟨_, rfl⟩
  rw [← hLW9] at hRW9 ⊢
  have hlW9 : LW9.length = 25 := by rw [hLW9]; rw [List.length_append, hlenLW8.out, ord_len]
  rw [hlW9] at hRW9 ⊢
  have HLW9 := Wk.hidQ hLW9
  have hlenLW9 : Hid (LW9.length = 25) := hlW9
  clear hLW9 hlW9
  replace B_w : Hid (Below w.heap.size w W9) := B_w.out.trans (hbW9.mono B_w.out.size)
  replace B_W4 : Hid (Below W4.heap.size W4 W9) := B_W4.out.trans (hbW9.mono B_W4.out.size)
  clear hbW9
  have HRl := Wk.hidQ hRW9
  clear hRW9
  have HLl : Hid (LW9 = lB true X Y) := by show _ = _; rw [HLW9.out, HLW8.out, HLW7.out, HLW6.out]; rfl
  have B_W9 : Hid (Below W9.heap.size W9 W9) := Below.refl _ _
  have HS1 : Hid (parseS LW4 1 21 = .ok ((⟨1, [((X : Int), (Y : Int))], []⟩, .nil), [true]) 21) := by show _ = _; rw [HLp.out, pB_read hX hY, if_neg (fun q => by rw [fin_not_nan f1] at q; cases q.1), must_ok f1 f2]; rfl
  have HS2 : Hid (parseS LW9 1 25 = .ok ((⟨2, [((X : Int), (Y : Int))], []⟩, .nil), [true]) 25) := by show _ = _; rw [HLl.out, lB_read hX hY, must_ok f1 f2]; rfl
  have hPa := parse17_any (HRp.out.later B_W4.out) (by omega) (HE.out.later B_w.out) (md := 1) (mb := 21) (D := 1) (lim := 21) (by decide) (by decide)
  rw [show (1 : Int).toNat = 1 from rfl, HS1.out] at hPa
  go_wp2_with fail
  refine hPa.mono ?_
  rintro e W10 ⟨u1, rfl, hbW10, hTu⟩
  clear hPa
  obtain ⟨p1, q1, p21, q21, p31, q31, eu, hPt, _⟩ := gm_slc hTu
  have eu' : u1 = .agg #[.int .i64 1, .slice p1 1 q1, .slice p21 0 q21, .slice p31 0 q31] := eu
  subst eu'
  obtain ⟨b1, o1, epp, _, _, _, k01, k11⟩ := Pts.at_ (i := 0) (p := ((X : Int), (Y : Int))) hPt rfl
  subst epp
  have HC1 := Wk.hidQ (And.intro k01 k11)
  clear k01 k11
  clear hTu eu hPt
  replace B_w : Hid (Below w.heap.size w W10) := B_w.out.trans (hbW10.mono B_w.out.size)
  replace B_W4 : Hid (Below W4.heap.size W4 W10) := B_W4.out.trans (hbW10.mono B_W4.out.size)
  replace B_W9 : Hid (Below W9.heap.size W9 W10) := B_W9.out.trans (hbW10.mono B_W9.out.size)
  clear hbW10
  have B_W10 : Hid (Below W10.heap.size W10 W10) := Below.refl _ _
  obtain ⟨X10, hX10⟩ : ∃ X10, X10 = W10.alloc (.cells #[.int .i64 1, .slice (some ⟨b1, o1, none⟩) 1 q1, .slice p21 0 q21, .slice p31 0 q31] 31) := ⟨_, rfl⟩
  have HX10 : Hid (W10.alloc (.cells #[.int .i64 1, .slice (some ⟨b1, o1, none⟩) 1 q1, .slice p21 0 q21, .slice p31 0 q31] 31) = X10) := hX10.symm
  have hbX10 : Below W10.heap.size W10 X10 := by rw [hX10]; exact alloc_below _
  have GX10 : Hid (X10.heap[W10.heap.size]? = some (.cells #[.int .i64 1, .slice (some ⟨b1, o1, none⟩) 1 q1, .slice p21 0 q21, .slice p31 0 q31] 31 (0, 0))) := by rw [hX10]; exact heap_alloc_new _ _
  replace B_w : Hid (Below w.heap.size w X10) := B_w.out.trans (hbX10.mono B_w.out.size)
  replace B_W4 : Hid (Below W4.heap.size W4 X10) := B_W4.out.trans (hbX10.mono B_W4.out.size)
  replace B_W9 : Hid (Below W9.heap.size W9 X10) := B_W9.out.trans (hbX10.mono B_W9.out.size)
  replace B_W10 : Hid (Below W10.heap.size W10 X10) := B_W10.out.trans (hbX10.mono B_W10.out.size)
  clear hX10 hbX10
  go_upto_region 7 with (fail)
  rw [HX10.out]
  have B_X10 : Hid (Below X10.heap.size X10 X10) := Below.refl _ _
  have hPa := parse17_any (HRl.out.later B_W9.out) (by omega) (HE.out.later B_w.out) (md := 1) (mb := 25) (D := 1) (lim := 25) (by decide) (by decide)
  rw [show (1 : Int).toNat = 1 from rfl, HS2.out] at hPa
  go_wp2_with fail
  refine hPa.mono ?_
  rintro e W11 ⟨u2, rfl, hbW11, hTu⟩
  clear hPa
  obtain ⟨p2, q2, p22, q22, p32, q32, eu, hPt, _⟩ := gm_slc hTu
  have eu' : u2 = .agg #[.int .i64 2, .slice p2 1 q2, .slice p22 0 q22, .slice p32 0 q32] := eu
  subst eu'
  obtain ⟨b2, o2, epp, _, _, _, k02, k12⟩ := Pts.at_ (i := 0) (p := ((X : Int), (Y : Int))) hPt rfl
  subst epp
  have HC2 := Wk.hidQ (And.intro k02 k12)
  clear k02 k12
  clear hTu eu hPt
  replace B_w : Hid (Below w.heap.size w W11) := B_w.out.trans (hbW11.mono B_w.out.size)
  replace B_W4 : Hid (Below W4.heap.size W4 W11) := B_W4.out.trans (hbW11.mono B_W4.out.size)
  replace B_W9 : Hid (Below W9.heap.size W9 W11) := B_W9.out.trans (hbW11.mono B_W9.out.size)
  replace B_W10 : Hid (Below W10.heap.size W10 W11) := B_W10.out.trans (hbW11.mono B_W10.out.size)
  replace B_X10 : Hid (Below X10.heap.size X10 W11) := B_X10.out.trans (hbW11.mono B_X10.out.size)
  clear hbW11
  have B_W11 : Hid (Below W11.heap.size W11 W11) := Below.refl _ _
  obtain ⟨X11, hX11⟩ : ∃ X11, X11 = W11.alloc (.cells #[.int .i64 2, .slice (some ⟨b2, o2, none⟩) 1 q2, .slice p22 0 q22, .slice p32 0 q32] 31) := ⟨_, rfl⟩
  have HX11 : Hid (W11.alloc (.cells #[.int .i64 2, .slice (some ⟨b2, o2, none⟩) 1 q2, .slice p22 0 q22, .slice p32 0 q32] 31) = X11) := hX11.symm
  have hbX11 : Below W11.heap.size W11 X11 := by rw [hX11]; exact alloc_below _
  have GX11 : Hid (X11.heap[W11.heap.size]? = some (.cells #[.int .i64 2, .slice (some ⟨b2, o2, none⟩) 1 q2, .slice p22 0 q22, .slice p32 0 q32] 31 (0, 0))) := by rw [hX11]; exact heap_alloc_new _ _
  replace B_w : Hid (Below w.heap.size w X11) := B_w.out.trans (hbX11.mono B_w.out.size)
  replace B_W4 : Hid (Below W4.heap.size W4 X11) := B_W4.out.trans (hbX11.mono B_W4.out.size)
  replace B_W9 : Hid (Below W9.heap.size W9 X11) := B_W9.out.trans (hbX11.mono B_W9.out.size)
  replace B_W10 : Hid (Below W10.heap.size W10 X11) := B_W10.out.trans (hbX11.mono B_W10.out.size)
  replace B_X10 : Hid (Below X10.heap.size X10 X11) := B_X10.out.trans (hbX11.mono B_X10.out.size)
  replace B_W11 : Hid (Below W11.heap.size W11 X11) := B_W11.out.trans (hbX11.mono B_W11.out.size)
  clear hX11 hbX11
  go_upto_region 8 with (fail)
  rw [HX11.out]
  have B_X11 : Hid (Below X11.heap.size X11 X11) := Below.refl _ _
  have hAl := alive17_any (HE.out.later B_w.out)
  go_wp2_with fail
  refine hAl.mono ?_
  rintro e W12 ⟨rfl, hb12⟩
  clear hAl
  replace B_w : Hid (Below w.heap.size w W12) := B_w.out.trans (hb12.mono B_w.out.size)
  replace B_W4 : Hid (Below W4.heap.size W4 W12) := B_W4.out.trans (hb12.mono B_W4.out.size)
  replace B_W9 : Hid (Below W9.heap.size W9 W12) := B_W9.out.trans (hb12.mono B_W9.out.size)
  replace B_W10 : Hid (Below W10.heap.size W10 W12) := B_W10.out.trans (hb12.mono B_W10.out.size)
  replace B_X10 : Hid (Below X10.heap.size X10 W12) := B_X10.out.trans (hb12.mono B_X10.out.size)
  replace B_W11 : Hid (Below W11.heap.size W11 W12) := B_W11.out.trans (hb12.mono B_W11.out.size)
  replace B_X11 : Hid (Below X11.heap.size X11 W12) := B_X11.out.trans (hb12.mono B_X11.out.size)
  clear hb12
  have ux : Ar.U (X : Int) := by unfold Ar.U; omega
  have uy : Ar.U (Y : Int) := by unfold Ar.U; omega
  have hfx := Ar.field_and ux
  have hfy := Ar.field_and uy
  have hmx := Ar.size_bits ux
  have hmy := Ar.size_bits uy
  have dx := ef_fin hX
  have dy := ef_fin hY
  have ex := mg_nan hX
  have ey := mg_nan hY
  rw [f1] at dx
  rw [f2] at dy
  rw [fin_not_nan f1] at ex
  replace dx : (Ar.ef (X : Int) == 2047) = false := dx
  replace dy : (Ar.ef (Y : Int) == 2047) = false := dy
  generalize Ar.ef (X : Int) = EX at *
  generalize Ar.ef (Y : Int) = EY at *
  generalize Ar.mg (X : Int) = MX at *
  generalize Ar.mg (Y : Int) = MY at *
  clear ux uy
  have g10 := (B_X10.out.block _ (lt_of_block GX10.out)).trans GX10.out
  have y1 := cell_of g10 1
  have g11 := (B_X11.out.block _ (lt_of_block GX11.out)).trans GX11.out
  have z1 := cell_of g11 1
  simp only [List.getElem?_toArray, List.getElem?_cons_zero, List.getElem?_cons_succ] at y1 z1
  clear g10 g11
  obtain ⟨k0, k1⟩ := HC1.out
  obtain ⟨m0, m1⟩ := HC2.out
  simp only [Nat.zero_mul, Nat.add_zero] at k0 k1 m0 m1
  replace k0 := (B_W10.out.cell (p := ⟨b1, o1, none⟩) (cell_lt k0)).trans k0
  replace k1 := (B_W10.out.cell (p := ⟨b1, o1 + 1, none⟩) (cell_lt k1)).trans k1
  replace m0 := (B_W11.out.cell (p := ⟨b2, o2, none⟩) (cell_lt m0)).trans m0
  replace m1 := (B_W11.out.cell (p := ⟨b2, o2 + 1, none⟩) (cell_lt m1)).trans m1
  have hq : ∀ w, (binOp .eql 39 (.agg #[.int .u64 (X : Int), .int .u64 (Y : Int)]) (.agg #[.int .u64 (X : Int), .int .u64 (Y : Int)])).run Tryz.prog w = .ok (.bool true) w := fun w => by rw [run_eql_struct, pt_sameT]; rfl
  go_upto_region 16 with (fail)
  go_quiet (fail)
  go_wp2
  go_ret
  exact ⟨rfl, ⟨B_w.out.os, B_w.out.tape, B_w.out.output, B_w.out.size, B_w.out.block⟩⟩
set_option maxHeartbeats 6400000 in
set_option maxRecDepth 100000 in
theorem coords17_Btrue {w : World} {X Y : Nat} (hX : X < 18446744073709551616) (hY : Y < 18446744073709551616) (f1 : finB X = false) (f2 : finB Y = false) (nn : nanB X = true ∧ nanB Y = true) (hE : ErrVar w) :
    Calls Tryz.prog 3 #[.int .u64 (X : Int), .int .u64 (Y : Int), .bool true] w fun e w' => e = .returned (.bool true) ∧ Below w.heap.size w w' := by
  have B_w : Hid (Below w.heap.size w w) := Below.refl _ _
  have HE := Wk.hidQ hE
  clear hE
  go_enter Tryz.func3, Tryz.ntmps3
  obtain ⟨V1, hV1⟩ : ∃ V1, V1 = w.alloc (.cells #[.int .u8 1] 5) := ⟨_, rfl⟩
  have HV1 : Hid (w.alloc (.cells #[.int .u8 1] 5) = V1) := hV1.symm
  have hbV1 : Below w.heap.size w V1 := by rw [hV1]; exact alloc_below _
  have hRV1 : Rb V1 (some ⟨w.heap.size, 0, none⟩) 1 1 [1] := by rw [hV1]; exact rb_lone w 1
  replace B_w : Hid (Below w.heap.size w V1) := B_w.out.trans (hbV1.mono B_w.out.size)
  clear hV1 hbV1
  have hPu := put32_any (V := 1) (little := true) hRV1 (by omega) (by decide)
  rw [show ((1 : Nat) : Int) = 1 from rfl] at hPu
  go_wp2_with fail
  rw [HV1.out]
  refine hPu.mono ?_
  rintro e W2 ⟨vW2, rfl, hO, hbW2⟩
  obtain ⟨aW2, cW2, rfl, hRW2⟩ := hO.row
  clear hPu hO 
  obtain ⟨LW2, hLW2⟩ : ∃ L, L = ([1] ++ ord 4 1 true) := ⟨_, rfl⟩
  rw [← hLW2] at hRW2 ⊢
  have hlW2 : LW2.length = 5 := by rw [hLW2]; simp [ord_len]
  rw [hlW2] at hRW2 ⊢
  have HLW2 := Wk.hidQ hLW2
  have hlenLW2 : Hid (LW2.length = 5) := hlW2
  clear hLW2 hlW2
  replace B_w : Hid (Below w.heap.size w W2) := B_w.out.trans (hbW2.mono B_w.out.size)
  clear hbW2
  have hPu := put64_any (V := X) (little := true) hRW2 (by omega) (by rw [show (256 : Nat) ^ 8 = 18446744073709551616 by decide]; exact hX)
  go_wp2_with fail
  refine hPu.mono ?_
  rintro e W3 ⟨vW3, rfl, hO, hbW3⟩
  obtain ⟨aW3, cW3, rfl, hRW3⟩ := hO.row
  clear hPu hO hRW2
  obtain ⟨LW3, hLW3⟩ : ∃ L, L = (LW2 ++ ord 8 X true) := ⟨_, rfl⟩
  rw [← hLW3] at hRW3 ⊢
  have hlW3 : LW3.length = 13 := by rw [hLW3]; rw [List.length_append, hlenLW2.out, ord_len]
  rw [hlW3] at hRW3 ⊢
  have HLW3 := Wk.hidQ hLW3
  have hlenLW3 : Hid (LW3.length = 13) := hlW3
  clear hLW3 hlW3
  replace B_w : Hid (Below w.heap.size w W3) := B_w.out.trans (hbW3.mono B_w.out.size)
  clear hbW3
  have hPu := put64_any (V := Y) (little := true) hRW3 (by omega) (by rw [show (256 : Nat) ^ 8 = 18446744073709551616 by decide]; exact hY)
  go_wp2_with fail
  refine hPu.mono ?_
  rintro e W4 ⟨vW4, rfl, hO, hbW4⟩
  obtain ⟨aW4, cW4, rfl, hRW4⟩ := hO.row
  clear hPu hO hRW3
  obtain ⟨LW4, hLW4⟩ : ∃ L, L = (LW3 ++ ord 8 Y true) := ⟨_, rfl⟩
  rw [← hLW4] at hRW4 ⊢
  have hlW4 : LW4.length = 21 := by rw [hLW4]; rw [List.length_append, hlenLW3.out, ord_len]
  rw [hlW4] at hRW4 ⊢
  have HLW4 := Wk.hidQ hLW4
  have hlenLW4 : Hid (LW4.length = 21) := hlW4
  clear hLW4 hlW4
  replace B_w : Hid (Below w.heap.size w W4) := B_w.out.trans (hbW4.mono B_w.out.size)
  clear hbW4
  have HRp := Wk.hidQ hRW4
  clear hRW4
  have HLp : Hid (LW4 = pB true X Y) := by show _ = _; rw [HLW4.out, HLW3.out, HLW2.out]; rfl
  have B_W4 : Hid (Below W4.heap.size W4 W4) := Below.refl _ _
  obtain ⟨V5, hV5⟩ : ∃ V5, V5 = W4.alloc (.cells #[.int .u8 1] 5) := ⟨_, rfl⟩
  have HV5 : Hid (W4.alloc (.cells #[.int .u8 1] 5) = V5) := hV5.symm
  have hbV5 : Below W4.heap.size W4 V5 := by rw [hV5]; exact alloc_below _
  have hRV5 : Rb V5 (some ⟨W4.heap.size, 0, none⟩) 1 1 [1] := by rw [hV5]; exact rb_lone W4 1
  replace B_w : Hid (Below w.heap.size w V5) := B_w.out.trans (hbV5.mono B_w.out.size)
  replace B_W4 : Hid (Below W4.heap.size W4 V5) := B_W4.out.trans (hbV5.mono B_W4.out.size)
  clear hV5 hbV5
  have hPu := put32_any (V := 2) (little := true) hRV5 (by omega) (by decide)
  rw [show ((2 : Nat) : Int) = 2 from rfl] at hPu
  go_wp2_with fail
  rw [HV5.out]
  refine hPu.mono ?_
  rintro e W6 ⟨vW6, rfl, hO, hbW6⟩
  obtain ⟨aW6, cW6, rfl, hRW6⟩ := hO.row
  clear hPu hO 
  obtain ⟨LW6, hLW6⟩ : ∃ L, L = ([1] ++ ord 4 2 true) := ⟨_, rfl⟩
  rw [← hLW6] at hRW6 ⊢
  have hlW6 : LW6.length = 5 := by rw [hLW6]; simp [ord_len]
  rw [hlW6] at hRW6 ⊢
  have HLW6 := Wk.hidQ hLW6
  have hlenLW6 : Hid (LW6.length = 5) := hlW6
  clear hLW6 hlW6
  replace B_w : Hid (Below w.heap.size w W6) := B_w.out.trans (hbW6.mono B_w.out.size)
  replace B_W4 : Hid (Below W4.heap.size W4 W6) := B_W4.out.trans (hbW6.mono B_W4.out.size)
  clear hbW6
  have hPu := put32_any (V := 1) (little := true) hRW6 (by omega) (by decide)
  rw [show ((1 : Nat) : Int) = 1 from rfl] at hPu
  go_wp2_with fail
  refine hPu.mono ?_
  rintro e W7 ⟨vW7, rfl, hO, hbW7⟩
  obtain ⟨aW7, cW7, rfl, hRW7⟩ := hO.row
  clear hPu hO hRW6
  obtain ⟨LW7, hLW7⟩ : ∃ L, L = (LW6 ++ ord 4 1 true) := ⟨_, rfl⟩
  rw [← hLW7] at hRW7 ⊢
  have hlW7 : LW7.length = 9 := by rw [hLW7]; rw [List.length_append, hlenLW6.out, ord_len]
  rw [hlW7] at hRW7 ⊢
  have HLW7 := Wk.hidQ hLW7
  have hlenLW7 : Hid (LW7.length = 9) := hlW7
  clear hLW7 hlW7
  replace B_w : Hid (Below w.heap.size w W7) := B_w.out.trans (hbW7.mono B_w.out.size)
  replace B_W4 : Hid (Below W4.heap.size W4 W7) := B_W4.out.trans (hbW7.mono B_W4.out.size)
  clear hbW7
  have hPu := put64_any (V := X) (little := true) hRW7 (by omega) (by rw [show (256 : Nat) ^ 8 = 18446744073709551616 by decide]; exact hX)
  go_wp2_with fail
  refine hPu.mono ?_
  rintro e W8 ⟨vW8, rfl, hO, hbW8⟩
  obtain ⟨aW8, cW8, rfl, hRW8⟩ := hO.row
  clear hPu hO hRW7
  obtain ⟨LW8, hLW8⟩ : ∃ L, L = (LW7 ++ ord 8 X true) := ⟨_, rfl⟩
  rw [← hLW8] at hRW8 ⊢
  have hlW8 : LW8.length = 17 := by rw [hLW8]; rw [List.length_append, hlenLW7.out, ord_len]
  rw [hlW8] at hRW8 ⊢
  have HLW8 := Wk.hidQ hLW8
  have hlenLW8 : Hid (LW8.length = 17) := hlW8
  clear hLW8 hlW8
  replace B_w : Hid (Below w.heap.size w W8) := B_w.out.trans (hbW8.mono B_w.out.size)
  replace B_W4 : Hid (Below W4.heap.size W4 W8) := B_W4.out.trans (hbW8.mono B_W4.out.size)
  clear hbW8
  have hPu := put64_any (V := Y) (little := true) hRW8 (by omega) (by rw [show (256 : Nat) ^ 8 = 18446744073709551616 by decide]; exact hY)
  go_wp2_with fail
  refine hPu.mono ?_
  rintro e W9 ⟨vW9, rfl, hO, hbW9⟩
  obtain ⟨aW9, cW9, rfl, hRW9⟩ := hO.row
  clear hPu hO hRW8
  obtain ⟨LW9, hLW9⟩ : ∃ L, L = (LW8 ++ ord 8 Y true) := ⟨_, rfl⟩
  rw [← hLW9] at hRW9 ⊢
  have hlW9 : LW9.length = 25 := by rw [hLW9]; rw [List.length_append, hlenLW8.out, ord_len]
  rw [hlW9] at hRW9 ⊢
  have HLW9 := Wk.hidQ hLW9
  have hlenLW9 : Hid (LW9.length = 25) := hlW9
  clear hLW9 hlW9
  replace B_w : Hid (Below w.heap.size w W9) := B_w.out.trans (hbW9.mono B_w.out.size)
  replace B_W4 : Hid (Below W4.heap.size W4 W9) := B_W4.out.trans (hbW9.mono B_W4.out.size)
  clear hbW9
  have HRl := Wk.hidQ hRW9
  clear hRW9
  have HLl : Hid (LW9 = lB true X Y) := by show _ = _; rw [HLW9.out, HLW8.out, HLW7.out, HLW6.out]; rfl
  have B_W9 : Hid (Below W9.heap.size W9 W9) := Below.refl _ _
  have HS1 : Hid (parseS LW4 1 21 = .ok ((⟨1, [], []⟩, .nil), [true]) 21) := by show _ = _; rw [HLp.out, pB_read hX hY, if_pos nn]
  have HS2 : Hid (parseS LW9 1 25 = .bad 9 175) := by show _ = _; rw [HLl.out, lB_read hX hY, must_x f1]; rfl
  have hPa := parse17_any (HRp.out.later B_W4.out) (by omega) (HE.out.later B_w.out) (md := 1) (mb := 21) (D := 1) (lim := 21) (by decide) (by decide)
  rw [show (1 : Int).toNat = 1 from rfl, HS1.out] at hPa
  go_wp2_with fail
  refine hPa.mono ?_
  rintro e W10 ⟨u1, rfl, hbW10, hTu⟩
  clear hPa
  obtain ⟨p1, q1, p21, q21, p31, q31, eu, hPt, _⟩ := gm_slc hTu
  have eu' : u1 = .agg #[.int .i64 1, .slice p1 0 q1, .slice p21 0 q21, .slice p31 0 q31] := eu
  subst eu'
  clear hTu eu hPt
  replace B_w : Hid (Below w.heap.size w W10) := B_w.out.trans (hbW10.mono B_w.out.size)
  replace B_W4 : Hid (Below W4.heap.size W4 W10) := B_W4.out.trans (hbW10.mono B_W4.out.size)
  replace B_W9 : Hid (Below W9.heap.size W9 W10) := B_W9.out.trans (hbW10.mono B_W9.out.size)
  clear hbW10
  have B_W10 : Hid (Below W10.heap.size W10 W10) := Below.refl _ _
  obtain ⟨X10, hX10⟩ : ∃ X10, X10 = W10.alloc (.cells #[.int .i64 1, .slice p1 0 q1, .slice p21 0 q21, .slice p31 0 q31] 31) := ⟨_, rfl⟩
  have HX10 : Hid (W10.alloc (.cells #[.int .i64 1, .slice p1 0 q1, .slice p21 0 q21, .slice p31 0 q31] 31) = X10) := hX10.symm
  have hbX10 : Below W10.heap.size W10 X10 := by rw [hX10]; exact alloc_below _
  have GX10 : Hid (X10.heap[W10.heap.size]? = some (.cells #[.int .i64 1, .slice p1 0 q1, .slice p21 0 q21, .slice p31 0 q31] 31 (0, 0))) := by rw [hX10]; exact heap_alloc_new _ _
  replace B_w : Hid (Below w.heap.size w X10) := B_w.out.trans (hbX10.mono B_w.out.size)
  replace B_W4 : Hid (Below W4.heap.size W4 X10) := B_W4.out.trans (hbX10.mono B_W4.out.size)
  replace B_W9 : Hid (Below W9.heap.size W9 X10) := B_W9.out.trans (hbX10.mono B_W9.out.size)
  replace B_W10 : Hid (Below W10.heap.size W10 X10) := B_W10.out.trans (hbX10.mono B_W10.out.size)
  clear hX10 hbX10
  go_upto_region 7 with (fail)
  rw [HX10.out]
  have B_X10 : Hid (Below X10.heap.size X10 X10) := Below.refl _ _
  have hPa := parse17_any (HRl.out.later B_W9.out) (by omega) (HE.out.later B_w.out) (md := 1) (mb := 25) (D := 1) (lim := 25) (by decide) (by decide)
  rw [show (1 : Int).toNat = 1 from rfl, HS2.out] at hPa
  go_wp2_with fail
  refine hPa.mono ?_
  rintro e W11 ⟨g2, rfl, hF, hbW11⟩
  clear hPa
  have HF2 := Wk.hidQ hF
  clear hF
  replace B_w : Hid (Below w.heap.size w W11) := B_w.out.trans (hbW11.mono B_w.out.size)
  replace B_W4 : Hid (Below W4.heap.size W4 W11) := B_W4.out.trans (hbW11.mono B_W4.out.size)
  replace B_W9 : Hid (Below W9.heap.size W9 W11) := B_W9.out.trans (hbW11.mono B_W9.out.size)
  replace B_W10 : Hid (Below W10.heap.size W10 W11) := B_W10.out.trans (hbW11.mono B_W10.out.size)
  replace B_X10 : Hid (Below X10.heap.size X10 W11) := B_X10.out.trans (hbW11.mono B_X10.out.size)
  clear hbW11
  have B_W11 : Hid (Below W11.heap.size W11 W11) := Below.refl _ _
  unfold zg
  obtain ⟨X11, hX11⟩ : ∃ X11, X11 = W11.alloc (.cells #[.int .i64 0, .slice none 0 0, .slice none 0 0, .slice none 0 0] 31) := ⟨_, rfl⟩
  have HX11 : Hid (W11.alloc (.cells #[.int .i64 0, .slice none 0 0, .slice none 0 0, .slice none 0 0] 31) = X11) := hX11.symm
  have hbX11 : Below W11.heap.size W11 X11 := by rw [hX11]; exact alloc_below _
  have GX11 : Hid (X11.heap[W11.heap.size]? = some (.cells #[.int .i64 0, .slice none 0 0, .slice none 0 0, .slice none 0 0] 31 (0, 0))) := by rw [hX11]; exact heap_alloc_new _ _
  replace B_w : Hid (Below w.heap.size w X11) := B_w.out.trans (hbX11.mono B_w.out.size)
  replace B_W4 : Hid (Below W4.heap.size W4 X11) := B_W4.out.trans (hbX11.mono B_W4.out.size)
  replace B_W9 : Hid (Below W9.heap.size W9 X11) := B_W9.out.trans (hbX11.mono B_W9.out.size)
  replace B_W10 : Hid (Below W10.heap.size W10 X11) := B_W10.out.trans (hbX11.mono B_W10.out.size)
  replace B_X10 : Hid (Below X10.heap.size X10 X11) := B_X10.out.trans (hbX11.mono B_X10.out.size)
  replace B_W11 : Hid (Below W11.heap.size W11 X11) := B_W11.out.trans (hbX11.mono B_W11.out.size)
  clear hX11 hbX11
  go_upto_region 8 with (fail)
  rw [HX11.out]
  have B_X11 : Hid (Below X11.heap.size X11 X11) := Below.refl _ _
  have hAl := alive17_any (HE.out.later B_w.out)
  go_wp2_with fail
  refine hAl.mono ?_
  rintro e W12 ⟨rfl, hb12⟩
  clear hAl
  replace B_w : Hid (Below w.heap.size w W12) := B_w.out.trans (hb12.mono B_w.out.size)
  replace B_W4 : Hid (Below W4.heap.size W4 W12) := B_W4.out.trans (hb12.mono B_W4.out.size)
  replace B_W9 : Hid (Below W9.heap.size W9 W12) := B_W9.out.trans (hb12.mono B_W9.out.size)
  replace B_W10 : Hid (Below W10.heap.size W10 W12) := B_W10.out.trans (hb12.mono B_W10.out.size)
  replace B_X10 : Hid (Below X10.heap.size X10 W12) := B_X10.out.trans (hb12.mono B_X10.out.size)
  replace B_W11 : Hid (Below W11.heap.size W11 W12) := B_W11.out.trans (hb12.mono B_W11.out.size)
  replace B_X11 : Hid (Below X11.heap.size X11 W12) := B_X11.out.trans (hb12.mono B_X11.out.size)
  clear hb12
  have ux : Ar.U (X : Int) := by unfold Ar.U; omega
  have uy : Ar.U (Y : Int) := by unfold Ar.U; omega
  have hfx := Ar.field_and ux
  have hfy := Ar.field_and uy
  have hmx := Ar.size_bits ux
  have hmy := Ar.size_bits uy
  have dx := ef_fin hX
  have dy := ef_fin hY
  have ex := mg_nan hX
  have ey := mg_nan hY
  rw [f1] at dx
  rw [f2] at dy
  rw [nn.1] at ex
  rw [nn.2] at ey
  replace dx : (Ar.ef (X : Int) == 2047) = true := dx
  replace dy : (Ar.ef (Y : Int) == 2047) = true := dy
  generalize Ar.ef (X : Int) = EX at *
  generalize Ar.ef (Y : Int) = EY at *
  generalize Ar.mg (X : Int) = MX at *
  generalize Ar.mg (Y : Int) = MY at *
  clear ux uy
  have hTo := told_yes (HF2.out.later B_W11.out) (HE.out.later B_w.out) (by decide)
  skip
  go_wp2_with fail
  refine hTo.mono ?_
  rintro e W13 ⟨rfl, hb13⟩
  clear hTo
  replace B_w : Hid (Below w.heap.size w W13) := B_w.out.trans (hb13.mono B_w.out.size)
  replace B_W4 : Hid (Below W4.heap.size W4 W13) := B_W4.out.trans (hb13.mono B_W4.out.size)
  replace B_W9 : Hid (Below W9.heap.size W9 W13) := B_W9.out.trans (hb13.mono B_W9.out.size)
  replace B_W10 : Hid (Below W10.heap.size W10 W13) := B_W10.out.trans (hb13.mono B_W10.out.size)
  replace B_X10 : Hid (Below X10.heap.size X10 W13) := B_X10.out.trans (hb13.mono B_X10.out.size)
  replace B_W11 : Hid (Below W11.heap.size W11 W13) := B_W11.out.trans (hb13.mono B_W11.out.size)
  replace B_X11 : Hid (Below X11.heap.size X11 W13) := B_X11.out.trans (hb13.mono B_X11.out.size)
  clear hb13
  have g10 := (B_X10.out.block _ (lt_of_block GX10.out)).trans GX10.out
  have y0 := cell_of g10 0
  have y1 := cell_of g10 1
  simp only [List.getElem?_toArray, List.getElem?_cons_zero, List.getElem?_cons_succ] at y0 y1
  clear g10
  go_wp2
  go_ret
  exact ⟨rfl, B_w.out⟩
set_option maxHeartbeats 6400000 in
set_option maxRecDepth 100000 in
theorem coords17_Ctrue {w : World} {X Y : Nat} (hX : X < 18446744073709551616) (hY : Y < 18446744073709551616) (f1 : finB X = false) (nn : ¬ (nanB X = true ∧ nanB Y = true)) (hE : ErrVar w) :
    Calls Tryz.prog 3 #[.int .u64 (X : Int), .int .u64 (Y : Int), .bool true] w fun e w' => e = .returned (.bool true) ∧ Below w.heap.size w w' := by
  have B_w : Hid (Below w.heap.size w w) := Below.refl _ _
  have HE := Wk.hidQ hE
  clear hE
  go_enter Tryz.func3, Tryz.ntmps3
  obtain ⟨V1, hV1⟩ : ∃ V1, V1 = w.alloc (.cells #[.int .u8 1] 5) := ⟨_, rfl⟩
  have HV1 : Hid (w.alloc (.cells #[.int .u8 1] 5) = V1) := hV1.symm
  have hbV1 : Below w.heap.size w V1 := by rw [hV1]; exact alloc_below _
  have hRV1 : Rb V1 (some ⟨w.heap.size, 0, none⟩) 1 1 [1] := by rw [hV1]; exact rb_lone w 1
  replace B_w : Hid (Below w.heap.size w V1) := B_w.out.trans (hbV1.mono B_w.out.size)
  clear hV1 hbV1
  have hPu := put32_any (V := 1) (little := true) hRV1 (by omega) (by decide)
  rw [show ((1 : Nat) : Int) = 1 from rfl] at hPu
  go_wp2_with fail
  rw [HV1.out]
  refine hPu.mono ?_
  rintro e W2 ⟨vW2, rfl, hO, hbW2⟩
  obtain ⟨aW2, cW2, rfl, hRW2⟩ := hO.row
  clear hPu hO 
  obtain ⟨LW2, hLW2⟩ : ∃ L, L = ([1] ++ ord 4 1 true) := ⟨_, rfl⟩
  rw [← hLW2] at hRW2 ⊢
  have hlW2 : LW2.length = 5 := by rw [hLW2]; simp [ord_len]
  rw [hlW2] at hRW2 ⊢
  have HLW2 := Wk.hidQ hLW2
  have hlenLW2 : Hid (LW2.length = 5) := hlW2
  clear hLW2 hlW2
  replace B_w : Hid (Below w.heap.size w W2) := B_w.out.trans (hbW2.mono B_w.out.size)
  clear hbW2
  have hPu := put64_any (V := X) (little := true) hRW2 (by omega) (by rw [show (256 : Nat) ^ 8 = 18446744073709551616 by decide]; exact hX)
  go_wp2_with fail
  refine hPu.mono ?_
  rintro e W3 ⟨vW3, rfl, hO, hbW3⟩
  obtain ⟨aW3, cW3, rfl, hRW3⟩ := hO.row
  clear hPu hO hRW2
  obtain ⟨LW3, hLW3⟩ : ∃ L, L = (LW2 ++ ord 8 X true) := ⟨_, rfl⟩
  rw [← hLW3] at hRW3 ⊢
  have hlW3 : LW3.length = 13 := by rw [hLW3]; rw [List.length_append, hlenLW2.out, ord_len]
  rw [hlW3] at hRW3 ⊢
  have HLW3 := Wk.hidQ hLW3
  have hlenLW3 : Hid (LW3.length = 13) := hlW3
  clear hLW3 hlW3
  replace B_w : Hid (Below w.heap.size w W3) := B_w.out.trans (hbW3.mono B_w.out.size)
  clear hbW3
  have hPu := put64_any (V := Y) (little := true) hRW3 (by omega) (by rw [show (256 : Nat) ^ 8 = 18446744073709551616 by decide]; exact hY)
  go_wp2_with fail
  refine hPu.mono ?_
  rintro e W4 ⟨vW4, rfl, hO, hbW4⟩
  obtain ⟨aW4, cW4, rfl, hRW4⟩ := hO.row
  clear hPu hO hRW3
  obtain ⟨LW4, hLW4⟩ : ∃ L, L = (LW3 ++ ord 8 Y true) := ⟨_, rfl⟩
  rw [← hLW4] at hRW4 ⊢
  have hlW4 : LW4.length = 21 := by rw [hLW4]; rw [List.length_append, hlenLW3.out, ord_len]
  rw [hlW4] at hRW4 ⊢
  have HLW4 := Wk.hidQ hLW4
  have hlenLW4 : Hid (LW4.length = 21) := hlW4
  clear hLW4 hlW4
  replace B_w : Hid (Below w.heap.size w W4) := B_w.out.trans (hbW4.mono B_w.out.size)
  clear hbW4
  have HRp := Wk.hidQ hRW4
  clear hRW4
  have HLp : Hid (LW4 = pB true X Y) := by show _ = _; rw [HLW4.out, HLW3.out, HLW2.out]; rfl
  have B_W4 : Hid (Below W4.heap.size W4 W4) := Below.refl _ _
  obtain ⟨V5, hV5⟩ : ∃ V5, V5 = W4.alloc (.cells #[.int .u8 1] 5) := ⟨_, rfl⟩
  have HV5 : Hid (W4.alloc (.cells #[.int .u8 1] 5) = V5) := hV5.symm
  have hbV5 : Below W4.heap.size W4 V5 := by rw [hV5]; exact alloc_below _
  have hRV5 : Rb V5 (some ⟨W4.heap.size, 0, none⟩) 1 1 [1] := by rw [hV5]; exact rb_lone W4 1
  replace B_w : Hid (Below w.heap.size w V5) := B_w.out.trans (hbV5.mono B_w.out.size)
  replace B_W4 : Hid (Below W4.heap.size W4 V5) := B_W4.out.trans (hbV5.mono B_W4.out.size)
  clear hV5 hbV5
  have hPu := put32_any (V := 2) (little := true) hRV5 (by omega) (by decide)
  rw [show ((2 : Nat) : Int) = 2 from rfl] at hPu
  go_wp2_with fail
  rw [HV5.out]
  refine hPu.mono ?_
  rintro e W6 ⟨vW6, rfl, hO, hbW6⟩
  obtain ⟨aW6, cW6, rfl, hRW6⟩ := hO.row
  clear hPu hO 
  obtain ⟨LW6, hLW6⟩ : ∃ L, L = ([1] ++ ord 4 2 true) := ⟨_, rfl⟩
  rw [← hLW6] at hRW6 ⊢
  have hlW6 : LW6.length = 5 := by rw [hLW6]; simp [ord_len]
  rw [hlW6] at hRW6 ⊢
  have HLW6 := Wk.hidQ hLW6
  have hlenLW6 : Hid (LW6.length = 5) := hlW6
  clear hLW6 hlW6
  replace B_w : Hid (Below w.heap.size w W6) := B_w.out.trans (hbW6.mono B_w.out.size)
  replace B_W4 : Hid (Below W4.heap.size W4 W6) := B_W4.out.trans (hbW6.mono B_W4.out.size)
  clear hbW6
  have hPu := put32_any (V := 1) (little := true) hRW6 (by omega) (by decide)
  rw [show ((1 : Nat) : Int) = 1 from rfl] at hPu
  go_wp2_with fail
  refine hPu.mono ?_
  rintro e W7 ⟨vW7, rfl, hO, hbW7⟩
  obtain ⟨aW7, cW7, rfl, hRW7⟩ := hO.row
  clear hPu hO hRW6
  obtain ⟨LW7, hLW7⟩ : ∃ L, L = (LW6 ++ ord 4 1 true) := ⟨_, rfl⟩
  rw [← hLW7] at hRW7 ⊢
  have hlW7 : LW7.length = 9 := by rw [hLW7]; rw [List.length_append, hlenLW6.out, ord_len]
  rw [hlW7] at hRW7 ⊢
  have HLW7 := Wk.hidQ hLW7
  have hlenLW7 : Hid (LW7.length = 9) := hlW7
  clear hLW7 hlW7
  replace B_w : Hid (Below w.heap.size w W7) := B_w.out.trans (hbW7.mono B_w.out.size)
  replace B_W4 : Hid (Below W4.heap.size W4 W7) := B_W4.out.trans (hbW7.mono B_W4.out.size)
  clear hbW7
  have hPu := put64_any (V := X) (little := true) hRW7 (by omega) (by rw [show (256 : Nat) ^ 8 = 18446744073709551616 by decide]; exact hX)
  go_wp2_with fail
  refine hPu.mono ?_
  rintro e W8 ⟨vW8, rfl, hO, hbW8⟩
  obtain ⟨aW8, cW8, rfl, hRW8⟩ := hO.row
  clear hPu hO hRW7
  obtain ⟨LW8, hLW8⟩ : ∃ L, L = (LW7 ++ ord 8 X true) := ⟨_, rfl⟩
  rw [← hLW8] at hRW8 ⊢
  have hlW8 : LW8.length = 17 := by rw [hLW8]; rw [List.length_append, hlenLW7.out, ord_len]
  rw [hlW8] at hRW8 ⊢
  have HLW8 := Wk.hidQ hLW8
  have hlenLW8 : Hid (LW8.length = 17) := hlW8
  clear hLW8 hlW8
  replace B_w : Hid (Below w.heap.size w W8) := B_w.out.trans (hbW8.mono B_w.out.size)
  replace B_W4 : Hid (Below W4.heap.size W4 W8) := B_W4.out.trans (hbW8.mono B_W4.out.size)
  clear hbW8
  have hPu := put64_any (V := Y) (little := true) hRW8 (by omega) (by rw [show (256 : Nat) ^ 8 = 18446744073709551616 by decide]; exact hY)
  go_wp2_with fail
  refine hPu.mono ?_
  rintro e W9 ⟨vW9, rfl, hO, hbW9⟩
  obtain ⟨aW9, cW9, rfl, hRW9⟩ := hO.row
  clear hPu hO hRW8
  obtain ⟨LW9, hLW9⟩ : ∃ L, L = (LW8 ++ ord 8 Y true) := ⟨_, rfl⟩
  rw [← hLW9] at hRW9 ⊢
  have hlW9 : LW9.length = 25 := by rw [hLW9]; rw [List.length_append, hlenLW8.out, ord_len]
  rw [hlW9] at hRW9 ⊢
  have HLW9 := Wk.hidQ hLW9
  have hlenLW9 : Hid (LW9.length = 25) := hlW9
  clear hLW9 hlW9
  replace B_w : Hid (Below w.heap.size w W9) := B_w.out.trans (hbW9.mono B_w.out.size)
  replace B_W4 : Hid (Below W4.heap.size W4 W9) := B_W4.out.trans (hbW9.mono B_W4.out.size)
  clear hbW9
  have HRl := Wk.hidQ hRW9
  clear hRW9
  have HLl : Hid (LW9 = lB true X Y) := by show _ = _; rw [HLW9.out, HLW8.out, HLW7.out, HLW6.out]; rfl
  have B_W9 : Hid (Below W9.heap.size W9 W9) := Below.refl _ _
  have HS1 : Hid (parseS LW4 1 21 = .bad 5 175) := by show _ = _; rw [HLp.out, pB_read hX hY, if_neg nn, must_x f1]; rfl
  have HS2 : Hid (parseS LW9 1 25 = .bad 9 175) := by show _ = _; rw [HLl.out, lB_read hX hY, must_x f1]; rfl
  have hPa := parse17_any (HRp.out.later B_W4.out) (by omega) (HE.out.later B_w.out) (md := 1) (mb := 21) (D := 1) (lim := 21) (by decide) (by decide)
  rw [show (1 : Int).toNat = 1 from rfl, HS1.out] at hPa
  go_wp2_with fail
  refine hPa.mono ?_
  rintro e W10 ⟨g1, rfl, hF, hbW10⟩
  clear hPa
  have HF1 := Wk.hidQ hF
  clear hF
  replace B_w : Hid (Below w.heap.size w W10) := B_w.out.trans (hbW10.mono B_w.out.size)
  replace B_W4 : Hid (Below W4.heap.size W4 W10) := B_W4.out.trans (hbW10.mono B_W4.out.size)
  replace B_W9 : Hid (Below W9.heap.size W9 W10) := B_W9.out.trans (hbW10.mono B_W9.out.size)
  clear hbW10
  have B_W10 : Hid (Below W10.heap.size W10 W10) := Below.refl _ _
  unfold zg
  obtain ⟨X10, hX10⟩ : ∃ X10, X10 = W10.alloc (.cells #[.int .i64 0, .slice none 0 0, .slice none 0 0, .slice none 0 0] 31) := ⟨_, rfl⟩
  have HX10 : Hid (W10.alloc (.cells #[.int .i64 0, .slice none 0 0, .slice none 0 0, .slice none 0 0] 31) = X10) := hX10.symm
  have hbX10 : Below W10.heap.size W10 X10 := by rw [hX10]; exact alloc_below _
  have GX10 : Hid (X10.heap[W10.heap.size]? = some (.cells #[.int .i64 0, .slice none 0 0, .slice none 0 0, .slice none 0 0] 31 (0, 0))) := by rw [hX10]; exact heap_alloc_new _ _
  replace B_w : Hid (Below w.heap.size w X10) := B_w.out.trans (hbX10.mono B_w.out.size)
  replace B_W4 : Hid (Below W4.heap.size W4 X10) := B_W4.out.trans (hbX10.mono B_W4.out.size)
  replace B_W9 : Hid (Below W9.heap.size W9 X10) := B_W9.out.trans (hbX10.mono B_W9.out.size)
  replace B_W10 : Hid (Below W10.heap.size W10 X10) := B_W10.out.trans (hbX10.mono B_W10.out.size)
  clear hX10 hbX10
  go_upto_region 7 with (fail)
  rw [HX10.out]
  have B_X10 : Hid (Below X10.heap.size X10 X10) := Below.refl _ _
  have hPa := parse17_any (HRl.out.later B_W9.out) (by omega) (HE.out.later B_w.out) (md := 1) (mb := 25) (D := 1) (lim := 25) (by decide) (by decide)
  rw [show (1 : Int).toNat = 1 from rfl, HS2.out] at hPa
  go_wp2_with fail
  refine hPa.mono ?_
  rintro e W11 ⟨g2, rfl, hF, hbW11⟩
  clear hPa
  have HF2 := Wk.hidQ hF
  clear hF
  replace B_w : Hid (Below w.heap.size w W11) := B_w.out.trans (hbW11.mono B_w.out.size)
  replace B_W4 : Hid (Below W4.heap.size W4 W11) := B_W4.out.trans (hbW11.mono B_W4.out.size)
  replace B_W9 : Hid (Below W9.heap.size W9 W11) := B_W9.out.trans (hbW11.mono B_W9.out.size)
  replace B_W10 : Hid (Below W10.heap.size W10 W11) := B_W10.out.trans (hbW11.mono B_W10.out.size)
  replace B_X10 : Hid (Below X10.heap.size X10 W11) := B_X10.out.trans (hbW11.mono B_X10.out.size)
  clear hbW11
  have B_W11 : Hid (Below W11.heap.size W11 W11) := Below.refl _ _
  unfold zg
  obtain ⟨X11, hX11⟩ : ∃ X11, X11 = W11.alloc (.cells #[.int .i64 0, .slice none 0 0, .slice none 0 0, .slice none 0 0] 31) := ⟨_, rfl⟩
  have HX11 : Hid (W11.alloc (.cells #[.int .i64 0, .slice none 0 0, .slice none 0 0, .slice none 0 0] 31) = X11) := hX11.symm
  have hbX11 : Below W11.heap.size W11 X11 := by rw [hX11]; exact alloc_below _
  have GX11 : Hid (X11.heap[W11.heap.size]? = some (.cells #[.int .i64 0, .slice none 0 0, .slice none 0 0, .slice none 0 0] 31 (0, 0))) := by rw [hX11]; exact heap_alloc_new _ _
  replace B_w : Hid (Below w.heap.size w X11) := B_w.out.trans (hbX11.mono B_w.out.size)
  replace B_W4 : Hid (Below W4.heap.size W4 X11) := B_W4.out.trans (hbX11.mono B_W4.out.size)
  replace B_W9 : Hid (Below W9.heap.size W9 X11) := B_W9.out.trans (hbX11.mono B_W9.out.size)
  replace B_W10 : Hid (Below W10.heap.size W10 X11) := B_W10.out.trans (hbX11.mono B_W10.out.size)
  replace B_X10 : Hid (Below X10.heap.size X10 X11) := B_X10.out.trans (hbX11.mono B_X10.out.size)
  replace B_W11 : Hid (Below W11.heap.size W11 X11) := B_W11.out.trans (hbX11.mono B_W11.out.size)
  clear hX11 hbX11
  go_upto_region 8 with (fail)
  rw [HX11.out]
  have B_X11 : Hid (Below X11.heap.size X11 X11) := Below.refl _ _
  have hAl := alive17_any (HE.out.later B_w.out)
  go_wp2_with fail
  refine hAl.mono ?_
  rintro e W12 ⟨rfl, hb12⟩
  clear hAl
  replace B_w : Hid (Below w.heap.size w W12) := B_w.out.trans (hb12.mono B_w.out.size)
  replace B_W4 : Hid (Below W4.heap.size W4 W12) := B_W4.out.trans (hb12.mono B_W4.out.size)
  replace B_W9 : Hid (Below W9.heap.size W9 W12) := B_W9.out.trans (hb12.mono B_W9.out.size)
  replace B_W10 : Hid (Below W10.heap.size W10 W12) := B_W10.out.trans (hb12.mono B_W10.out.size)
  replace B_X10 : Hid (Below X10.heap.size X10 W12) := B_X10.out.trans (hb12.mono B_X10.out.size)
  replace B_W11 : Hid (Below W11.heap.size W11 W12) := B_W11.out.trans (hb12.mono B_W11.out.size)
  replace B_X11 : Hid (Below X11.heap.size X11 W12) := B_X11.out.trans (hb12.mono B_X11.out.size)
  clear hb12
  have ux : Ar.U (X : Int) := by unfold Ar.U; omega
  have uy : Ar.U (Y : Int) := by unfold Ar.U; omega
  have hfx := Ar.field_and ux
  have hfy := Ar.field_and uy
  have hmx := Ar.size_bits ux
  have hmy := Ar.size_bits uy
  have dx := ef_fin hX
  have dy := ef_fin hY
  have ex := mg_nan hX
  have ey := mg_nan hY
  rw [f1] at dx
  replace dx : (Ar.ef (X : Int) == 2047) = true := dx
  obtain ⟨F2, hF2⟩ : ∃ F2, F2 = finB Y := ⟨_, rfl⟩
  rw [← hF2] at dy
  clear hF2
  obtain ⟨NX, hNX⟩ : ∃ NX, NX = nanB X := ⟨_, rfl⟩
  obtain ⟨NY, hNY⟩ : ∃ NY, NY = nanB Y := ⟨_, rfl⟩
  have nn2 : ¬ (NX = true ∧ NY = true) := by rw [hNX, hNY]; exact nn
  rw [← hNX] at ex
  rw [← hNY] at ey
  clear hNX hNY nn
  generalize Ar.ef (X : Int) = EX at *
  generalize Ar.ef (Y : Int) = EY at *
  generalize Ar.mg (X : Int) = MX at *
  generalize Ar.mg (Y : Int) = MY at *
  clear ux uy
  cases F2 <;> cases NX <;> cases NY <;> (first | (exact absurd ⟨rfl, rfl⟩ nn2) | skip)
  all_goals
    have hTo := told_yes (HF2.out.later B_W11.out) (HE.out.later B_w.out) (by decide)
    skip
    go_wp2_with fail
    refine hTo.mono ?_
    rintro e W13 ⟨rfl, hb13⟩
    clear hTo
    replace B_w : Hid (Below w.heap.size w W13) := B_w.out.trans (hb13.mono B_w.out.size)
    replace B_W4 : Hid (Below W4.heap.size W4 W13) := B_W4.out.trans (hb13.mono B_W4.out.size)
    replace B_W9 : Hid (Below W9.heap.size W9 W13) := B_W9.out.trans (hb13.mono B_W9.out.size)
    replace B_W10 : Hid (Below W10.heap.size W10 W13) := B_W10.out.trans (hb13.mono B_W10.out.size)
    replace B_X10 : Hid (Below X10.heap.size X10 W13) := B_X10.out.trans (hb13.mono B_X10.out.size)
    replace B_W11 : Hid (Below W11.heap.size W11 W13) := B_W11.out.trans (hb13.mono B_W11.out.size)
    replace B_X11 : Hid (Below X11.heap.size X11 W13) := B_X11.out.trans (hb13.mono B_X11.out.size)
    clear hb13
    have hTo := told_yes (HF1.out.later B_W10.out) (HE.out.later B_w.out) (by decide)
    go_wp2_with fail
    refine hTo.mono ?_
    rintro e W14 ⟨rfl, hb14⟩
    clear hTo
    replace B_w : Hid (Below w.heap.size w W14) := B_w.out.trans (hb14.mono B_w.out.size)
    replace B_W4 : Hid (Below W4.heap.size W4 W14) := B_W4.out.trans (hb14.mono B_W4.out.size)
    replace B_W9 : Hid (Below W9.heap.size W9 W14) := B_W9.out.trans (hb14.mono B_W9.out.size)
    replace B_W10 : Hid (Below W10.heap.size W10 W14) := B_W10.out.trans (hb14.mono B_W10.out.size)
    replace B_X10 : Hid (Below X10.heap.size X10 W14) := B_X10.out.trans (hb14.mono B_X10.out.size)
    replace B_W11 : Hid (Below W11.heap.size W11 W14) := B_W11.out.trans (hb14.mono B_W11.out.size)
    replace B_X11 : Hid (Below X11.heap.size X11 W14) := B_X11.out.trans (hb14.mono B_X11.out.size)
    clear hb14
    go_wp2
    go_ret
    exact ⟨rfl, B_w.out⟩
set_option maxHeartbeats 6400000 in
set_option maxRecDepth 100000 in
theorem coords17_Dtrue {w : World} {X Y : Nat} (hX : X < 18446744073709551616) (hY : Y < 18446744073709551616) (f1 : finB X = true) (f2 : finB Y = false) (hE : ErrVar w) :
    Calls Tryz.prog 3 #[.int .u64 (X : Int), .int .u64 (Y : Int), .bool true] w fun e w' => e = .returned (.bool true) ∧ Below w.heap.size w w' := by
  have B_w : Hid (Below w.heap.size w w) := Below.refl _ _
  have HE := Wk.hidQ hE
  clear hE
  go_enter Tryz.func3, Tryz.ntmps3
  obtain ⟨V1, hV1⟩ : ∃ V1, V1 = w.alloc (.cells #[.int .u8 1] 5) := ⟨_, rfl⟩
  have HV1 : Hid (w.alloc (.cells #[.int .u8 1] 5) = V1) := hV1.symm
  have hbV1 : Below w.heap.size w V1 := by rw [hV1]; exact alloc_below _
  have hRV1 : Rb V1 (some ⟨w.heap.size, 0, none⟩) 1 1 [1] := by rw [hV1]; exact rb_lone w 1
  replace B_w : Hid (Below w.heap.size w V1) := B_w.out.trans (hbV1.mono B_w.out.size)
  clear hV1 hbV1
  have hPu := put32_any (V := 1) (little := true) hRV1 (by omega) (by decide)
  rw [show ((1 : Nat) : Int) = 1 from rfl] at hPu
  go_wp2_with fail
  rw [HV1.out]
  refine hPu.mono ?_
  rintro e W2 ⟨vW2, rfl, hO, hbW2⟩
  obtain ⟨aW2, cW2, rfl, hRW2⟩ := hO.row
  clear hPu hO 
  obtain ⟨LW2, hLW2⟩ : ∃ L, L = ([1] ++ ord 4 1 true) := ⟨_, rfl⟩
  rw [← hLW2] at hRW2 ⊢
  have hlW2 : LW2.length = 5 := by rw [hLW2]; simp [ord_len]
  rw [hlW2] at hRW2 ⊢
  have HLW2 := Wk.hidQ hLW2
  have hlenLW2 : Hid (LW2.length = 5) := hlW2
  clear hLW2 hlW2
  replace B_w : Hid (Below w.heap.size w W2) := B_w.out.trans (hbW2.mono B_w.out.size)
  clear hbW2
  have hPu := put64_any (V := X) (little := true) hRW2 (by omega) (by rw [show (256 : Nat) ^ 8 = 18446744073709551616 by decide]; exact hX)
  go_wp2_with fail
  refine hPu.mono ?_
  rintro e W3 ⟨vW3, rfl, hO, hbW3⟩
  obtain ⟨aW3, cW3, rfl, hRW3⟩ := hO.row
  clear hPu hO hRW2
  obtain ⟨LW3, hLW3⟩ : ∃ L, L = (LW2 ++ ord 8 X true) := ⟨_, rfl⟩
  rw [← hLW3] at hRW3 ⊢
  have hlW3 : LW3.length = 13 := by rw [hLW3]; rw [List.length_append, hlenLW2.out, ord_len]
  rw [hlW3] at hRW3 ⊢
  have HLW3 := Wk.hidQ hLW3
  have hlenLW3 : Hid (LW3.length = 13) := hlW3
  clear hLW3 hlW3
  replace B_w : Hid (Below w.heap.size w W3) := B_w.out.trans (hbW3.mono B_w.out.size)
  clear hbW3
  have hPu := put64_any (V := Y) (little := true) hRW3 (by omega) (by rw [show (256 : Nat) ^ 8 = 18446744073709551616 by decide]; exact hY)
  go_wp2_with fail
  refine hPu.mono ?_
  rintro e W4 ⟨vW4, rfl, hO, hbW4⟩
  obtain ⟨aW4, cW4, rfl, hRW4⟩ := hO.row
  clear hPu hO hRW3
  obtain ⟨LW4, hLW4⟩ : ∃ L, L = (LW3 ++ ord 8 Y true) := ⟨_, rfl⟩
  rw [← hLW4] at hRW4 ⊢
  have hlW4 : LW4.length = 21 := by rw [hLW4]; rw [List.length_append, hlenLW3.out, ord_len]
  rw [hlW4] at hRW4 ⊢
  have HLW4 := Wk.hidQ hLW4
  have hlenLW4 : Hid (LW4.length = 21) := hlW4
  clear hLW4 hlW4
  replace B_w : Hid (Below w.heap.size w W4) := B_w.out.trans (hbW4.mono B_w.out.size)
  clear hbW4
  have HRp := Wk.hidQ hRW4
  clear hRW4
  have HLp : Hid (LW4 = pB true X Y) := by show _ = _; rw [HLW4.out, HLW3.out, HLW2.out]; rfl
  have B_W4 : Hid (Below W4.heap.size W4 W4) := Below.refl _ _
  obtain ⟨V5, hV5⟩ : ∃ V5, V5 = W4.alloc (.cells #[.int .u8 1] 5) := ⟨_, rfl⟩
  have HV5 : Hid (W4.alloc (.cells #[.int .u8 1] 5) = V5) := hV5.symm
  have hbV5 : Below W4.heap.size W4 V5 := by rw [hV5]; exact alloc_below _
  have hRV5 : Rb V5 (some ⟨W4.heap.size, 0, none⟩) 1 1 [1] := by rw [hV5]; exact rb_lone W4 1
  replace B_w : Hid (Below w.heap.size w V5) := B_w.out.trans (hbV5.mono B_w.out.size)
  replace B_W4 : Hid (Below W4.heap.size W4 V5) := B_W4.out.trans (hbV5.mono B_W4.out.size)
  clear hV5 hbV5
  have hPu := put32_any (V := 2) (little := true) hRV5 (by omega) (by decide)
  rw [show ((2 : Nat) : Int) = 2 from rfl] at hPu
  go_wp2_with fail
  rw [HV5.out]
  refine hPu.mono ?_
  rintro e W6 ⟨vW6, rfl, hO, hbW6⟩
  obtain ⟨aW6, cW6, rfl, hRW6⟩ := hO.row
  clear hPu hO 
  obtain ⟨LW6, hLW6⟩ : ∃ L, L = ([1] ++ ord 4 2 true) := ⟨_, rfl⟩
  rw [← hLW6] at hRW6 ⊢
  have hlW6 : LW6.length = 5 := by rw [hLW6]; simp [ord_len]
  rw [hlW6] at hRW6 ⊢
  have HLW6 := Wk.hidQ hLW6
  have hlenLW6 : Hid (LW6.length = 5) := hlW6
  clear hLW6 hlW6
  replace B_w : Hid (Below w.heap.size w W6) := B_w.out.trans (hbW6.mono B_w.out.size)
  replace B_W4 : Hid (Below W4.heap.size W4 W6) := B_W4.out.trans (hbW6.mono B_W4.out.size)
  clear hbW6
  have hPu := put32_any (V := 1) (little := true) hRW6 (by omega) (by decide)
  rw [show ((1 : Nat) : Int) = 1 from rfl] at hPu
  go_wp2_with fail
  refine hPu.mono ?_
  rintro e W7 ⟨vW7, rfl, hO, hbW7⟩
  obtain ⟨aW7, cW7, rfl, hRW7⟩ := hO.row
  clear hPu hO hRW6
  obtain ⟨LW7, hLW7⟩ : ∃ L, L = (LW6 ++ ord 4 1 true) := ⟨_, rfl⟩
  rw [← hLW7] at hRW7 ⊢
  have hlW7 : LW7.length = 9 := by rw [hLW7]; rw [List.length_append, hlenLW6.out, ord_len]
  rw [hlW7] at hRW7 ⊢
  have HLW7 := Wk.hidQ hLW7
  have hlenLW7 : Hid (LW7.length = 9) := hlW7
  clear hLW7 hlW7
  replace B_w : Hid (Below w.heap.size w W7) := B_w.out.trans (hbW7.mono B_w.out.size)
  replace B_W4 : Hid (Below W4.heap.size W4 W7) := B_W4.out.trans (hbW7.mono B_W4.out.size)
  clear hbW7
  have hPu := put64_any (V := X) (little := true) hRW7 (by omega) (by rw [show (256 : Nat) ^ 8 = 18446744073709551616 by decide]; exact hX)
  go_wp2_with fail
  refine hPu.mono ?_
  rintro e W8 ⟨vW8, rfl, hO, hbW8⟩
  obtain ⟨aW8, cW8, rfl, hRW8⟩ := hO.row
  clear hPu hO hRW7
  obtain ⟨LW8, hLW8⟩ : ∃ L, L = (LW7 ++ ord 8 X true) := ⟨_, rfl⟩
  rw [← hLW8] at hRW8 ⊢
  have hlW8 : LW8.length = 17 := by rw [hLW8]; rw [List.length_append, hlenLW7.out, ord_len]
  rw [hlW8] at hRW8 ⊢
  have HLW8 := Wk.hidQ hLW8
  have hlenLW8 : Hid (LW8.length = 17) := hlW8
  clear hLW8 hlW8
  replace B_w : Hid (Below w.heap.size w W8) := B_w.out.trans (hbW8.mono B_w.out.size)
  replace B_W4 : Hid (Below W4.heap.size W4 W8) := B_W4.out.trans (hbW8.mono B_W4.out.size)
  clear hbW8
  have hPu := put64_any (V := Y) (little := true) hRW8 (by omega) (by rw [show (256 : Nat) ^ 8 = 18446744073709551616 by decide]; exact hY)
  go_wp2_with fail
  refine hPu.mono ?_
  rintro e W9 ⟨vW9, rfl, hO, hbW9⟩
  obtain ⟨aW9, cW9, rfl, hRW9⟩ := hO.row
  clear hPu hO hRW8
  obtain ⟨LW9, hLW9⟩ : ∃ L, L = (LW8 ++ ord 8 Y true) := ⟨_, rfl⟩
  rw [← hLW9] at hRW9 ⊢
  have hlW9 : LW9.length = 25 := by rw [hLW9]; rw [List.length_append, hlenLW8.out, ord_len]
  rw [hlW9] at hRW9 ⊢
  have HLW9 := Wk.hidQ hLW9
  have hlenLW9 : Hid (LW9.length = 25) := hlW9
  clear hLW9 hlW9
  replace B_w : Hid (Below w.heap.size w W9) := B_w.out.trans (hbW9.mono B_w.out.size)
  replace B_W4 : Hid (Below W4.heap.size W4 W9) := B_W4.out.trans (hbW9.mono B_W4.out.size)
  clear hbW9
  have HRl := Wk.hidQ hRW9
  clear hRW9
  have HLl : Hid (LW9 = lB true X Y) := by show _ = _; rw [HLW9.out, HLW8.out, HLW7.out, HLW6.out]; rfl
  have B_W9 : Hid (Below W9.heap.size W9 W9) := Below.refl _ _
  have HS1 : Hid (parseS LW4 1 21 = .bad 13 175) := by show _ = _; rw [HLp.out, pB_read hX hY, if_neg (fun q => by rw [fin_not_nan f1] at q; cases q.1), must_y f1 f2]; rfl
  have HS2 : Hid (parseS LW9 1 25 = .bad 17 175) := by show _ = _; rw [HLl.out, lB_read hX hY, must_y f1 f2]; rfl
  have hPa := parse17_any (HRp.out.later B_W4.out) (by omega) (HE.out.later B_w.out) (md := 1) (mb := 21) (D := 1) (lim := 21) (by decide) (by decide)
  rw [show (1 : Int).toNat = 1 from rfl, HS1.out] at hPa
  go_wp2_with fail
  refine hPa.mono ?_
  rintro e W10 ⟨g1, rfl, hF, hbW10⟩
  clear hPa
  have HF1 := Wk.hidQ hF
  clear hF
  replace B_w : Hid (Below w.heap.size w W10) := B_w.out.trans (hbW10.mono B_w.out.size)
  replace B_W4 : Hid (Below W4.heap.size W4 W10) := B_W4.out.trans (hbW10.mono B_W4.out.size)
  replace B_W9 : Hid (Below W9.heap.size W9 W10) := B_W9.out.trans (hbW10.mono B_W9.out.size)
  clear hbW10
  have B_W10 : Hid (Below W10.heap.size W10 W10) := Below.refl _ _
  unfold zg
  obtain ⟨X10, hX10⟩ : ∃ X10, X10 = W10.alloc (.cells #[.int .i64 0, .slice none 0 0, .slice none 0 0, .slice none 0 0] 31) := ⟨_, rfl⟩
  have HX10 : Hid (W10.alloc (.cells #[.int .i64 0, .slice none 0 0, .slice none 0 0, .slice none 0 0] 31) = X10) := hX10.symm
  have hbX10 : Below W10.heap.size W10 X10 := by rw [hX10]; exact alloc_below _
  have GX10 : Hid (X10.heap[W10.heap.size]? = some (.cells #[.int .i64 0, .slice none 0 0, .slice none 0 0, .slice none 0 0] 31 (0, 0))) := by rw [hX10]; exact heap_alloc_new _ _
  replace B_w : Hid (Below w.heap.size w X10) := B_w.out.trans (hbX10.mono B_w.out.size)
  replace B_W4 : Hid (Below W4.heap.size W4 X10) := B_W4.out.trans (hbX10.mono B_W4.out.size)
  replace B_W9 : Hid (Below W9.heap.size W9 X10) := B_W9.out.trans (hbX10.mono B_W9.out.size)
  replace B_W10 : Hid (Below W10.heap.size W10 X10) := B_W10.out.trans (hbX10.mono B_W10.out.size)
  clear hX10 hbX10
  go_upto_region 7 with (fail)
  rw [HX10.out]
  have B_X10 : Hid (Below X10.heap.size X10 X10) := Below.refl _ _
  have hPa := parse17_any (HRl.out.later B_W9.out) (by omega) (HE.out.later B_w.out) (md := 1) (mb := 25) (D := 1) (lim := 25) (by decide) (by decide)
  rw [show (1 : Int).toNat = 1 from rfl, HS2.out] at hPa
  go_wp2_with fail
  refine hPa.mono ?_
  rintro e W11 ⟨g2, rfl, hF, hbW11⟩
  clear hPa
  have HF2 := Wk.hidQ hF
  clear hF
  replace B_w : Hid (Below w.heap.size w W11) := B_w.out.trans (hbW11.mono B_w.out.size)
  replace B_W4 : Hid (Below W4.heap.size W4 W11) := B_W4.out.trans (hbW11.mono B_W4.out.size)
  replace B_W9 : Hid (Below W9.heap.size W9 W11) := B_W9.out.trans (hbW11.mono B_W9.out.size)
  replace B_W10 : Hid (Below W10.heap.size W10 W11) := B_W10.out.trans (hbW11.mono B_W10.out.size)
  replace B_X10 : Hid (Below X10.heap.size X10 W11) := B_X10.out.trans (hbW11.mono B_X10.out.size)
  clear hbW11
  have B_W11 : Hid (Below W11.heap.size W11 W11) := Below.refl _ _
  unfold zg
  obtain ⟨X11, hX11⟩ : ∃ X11, X11 = W11.alloc (.cells #[.int .i64 0, .slice none 0 0, .slice none 0 0, .slice none 0 0] 31) := ⟨_, rfl⟩
  have HX11 : Hid (W11.alloc (.cells #[.int .i64 0, .slice none 0 0, .slice none 0 0, .slice none 0 0] 31) = X11) := hX11.symm
  have hbX11 : Below W11.heap.size W11 X11 := by rw [hX11]; exact alloc_below _
  have GX11 : Hid (X11.heap[W11.heap.size]? = some (.cells #[.int .i64 0, .slice none 0 0, .slice none 0 0, .slice none 0 0] 31 (0, 0))) := by rw [hX11]; exact heap_alloc_new _ _
  replace B_w : Hid (Below w.heap.size w X11) := B_w.out.trans (hbX11.mono B_w.out.size)
  replace B_W4 : Hid (Below W4.heap.size W4 X11) := B_W4.out.trans (hbX11.mono B_W4.out.size)
  replace B_W9 : Hid (Below W9.heap.size W9 X11) := B_W9.out.trans (hbX11.mono B_W9.out.size)
  replace B_W10 : Hid (Below W10.heap.size W10 X11) := B_W10.out.trans (hbX11.mono B_W10.out.size)
  replace B_X10 : Hid (Below X10.heap.size X10 X11) := B_X10.out.trans (hbX11.mono B_X10.out.size)
  replace B_W11 : Hid (Below W11.heap.size W11 X11) := B_W11.out.trans (hbX11.mono B_W11.out.size)
  clear hX11 hbX11
  go_upto_region 8 with (fail)
  rw [HX11.out]
  have B_X11 : Hid (Below X11.heap.size X11 X11) := Below.refl _ _
  have hAl := alive17_any (HE.out.later B_w.out)
  go_wp2_with fail
  refine hAl.mono ?_
  rintro e W12 ⟨rfl, hb12⟩
  clear hAl
  replace B_w : Hid (Below w.heap.size w W12) := B_w.out.trans (hb12.mono B_w.out.size)
  replace B_W4 : Hid (Below W4.heap.size W4 W12) := B_W4.out.trans (hb12.mono B_W4.out.size)
  replace B_W9 : Hid (Below W9.heap.size W9 W12) := B_W9.out.trans (hb12.mono B_W9.out.size)
  replace B_W10 : Hid (Below W10.heap.size W10 W12) := B_W10.out.trans (hb12.mono B_W10.out.size)
  replace B_X10 : Hid (Below X10.heap.size X10 W12) := B_X10.out.trans (hb12.mono B_X10.out.size)
  replace B_W11 : Hid (Below W11.heap.size W11 W12) := B_W11.out.trans (hb12.mono B_W11.out.size)
  replace B_X11 : Hid (Below X11.heap.size X11 W12) := B_X11.out.trans (hb12.mono B_X11.out.size)
  clear hb12
  have ux : Ar.U (X : Int) := by unfold Ar.U; omega
  have uy : Ar.U (Y : Int) := by unfold Ar.U; omega
  have hfx := Ar.field_and ux
  have hfy := Ar.field_and uy
  have hmx := Ar.size_bits ux
  have hmy := Ar.size_bits uy
  have dx := ef_fin hX
  have dy := ef_fin hY
  have ex := mg_nan hX
  have ey := mg_nan hY
  rw [f1] at dx
  rw [f2] at dy
  rw [fin_not_nan f1] at ex
  replace dx : (Ar.ef (X : Int) == 2047) = false := dx
  replace dy : (Ar.ef (Y : Int) == 2047) = true := dy
  generalize Ar.ef (X : Int) = EX at *
  generalize Ar.ef (Y : Int) = EY at *
  generalize Ar.mg (X : Int) = MX at *
  generalize Ar.mg (Y : Int) = MY at *
  clear ux uy
  have hTo := told_yes (HF2.out.later B_W11.out) (HE.out.later B_w.out) (by decide)
  skip
  go_wp2_with fail
  refine hTo.mono ?_
  rintro e W13 ⟨rfl, hb13⟩
  clear hTo
  replace B_w : Hid (Below w.heap.size w W13) := B_w.out.trans (hb13.mono B_w.out.size)
  replace B_W4 : Hid (Below W4.heap.size W4 W13) := B_W4.out.trans (hb13.mono B_W4.out.size)
  replace B_W9 : Hid (Below W9.heap.size W9 W13) := B_W9.out.trans (hb13.mono B_W9.out.size)
  replace B_W10 : Hid (Below W10.heap.size W10 W13) := B_W10.out.trans (hb13.mono B_W10.out.size)
  replace B_X10 : Hid (Below X10.heap.size X10 W13) := B_X10.out.trans (hb13.mono B_X10.out.size)
  replace B_W11 : Hid (Below W11.heap.size W11 W13) := B_W11.out.trans (hb13.mono B_W11.out.size)
  replace B_X11 : Hid (Below X11.heap.size X11 W13) := B_X11.out.trans (hb13.mono B_X11.out.size)
  clear hb13
  have hTo := told_yes (HF1.out.later B_W10.out) (HE.out.later B_w.out) (by decide)
  go_wp2_with fail
  refine hTo.mono ?_
  rintro e W14 ⟨rfl, hb14⟩
  clear hTo
  replace B_w : Hid (Below w.heap.size w W14) := B_w.out.trans (hb14.mono B_w.out.size)
  replace B_W4 : Hid (Below W4.heap.size W4 W14) := B_W4.out.trans (hb14.mono B_W4.out.size)
  replace B_W9 : Hid (Below W9.heap.size W9 W14) := B_W9.out.trans (hb14.mono B_W9.out.size)
  replace B_W10 : Hid (Below W10.heap.size W10 W14) := B_W10.out.trans (hb14.mono B_W10.out.size)
  replace B_X10 : Hid (Below X10.heap.size X10 W14) := B_X10.out.trans (hb14.mono B_X10.out.size)
  replace B_W11 : Hid (Below W11.heap.size W11 W14) := B_W11.out.trans (hb14.mono B_W11.out.size)
  replace B_X11 : Hid (Below X11.heap.size X11 W14) := B_X11.out.trans (hb14.mono B_X11.out.size)
  clear hb14
  go_wp2
  go_ret
  exact ⟨rfl, B_w.out⟩
set_option maxHeartbeats 6400000 in
set_option maxRecDepth 100000 in
theorem coords17_Afalse {w : World} {X Y : Nat} (hX : X < 18446744073709551616) (hY : Y < 18446744073709551616) (f1 : finB X = true) (f2 : finB Y = true) (hE : ErrVar w) :
    Calls Tryz.prog 3 #[.int .u64 (X : Int), .int .u64 (Y : Int), .bool false] w fun e w' => e = .returned (.bool true) ∧ Below w.heap.size w w' := by
  have B_w : Hid (Below w.heap.size w w) := Below.refl _ _
  have HE := Wk.hidQ hE
  clear hE
  go_enter Tryz.func3, Tryz.ntmps3
  obtain ⟨V1, hV1⟩ : ∃ V1, V1 = w.alloc (.cells #[.int .u8 0] 5) := ⟨_, rfl⟩
  have HV1 : Hid (w.alloc (.cells #[.int .u8 0] 5) = V1) := hV1.symm
  have hbV1 : Below w.heap.size w V1 := by rw [hV1]; exact alloc_below _
  have hRV1 : Rb V1 (some ⟨w.heap.size, 0, none⟩) 1 1 [0] := by rw [hV1]; exact rb_lone w 0
  replace B_w : Hid (Below w.heap.size w V1) := B_w.out.trans (hbV1.mono B_w.out.size)
  clear hV1 hbV1
  have hPu := put32_any (V := 1) (little := false) hRV1 (by omega) (by decide)
  rw [show ((1 : Nat) : Int) = 1 from rfl] at hPu
  go_wp2_with fail
  rw [HV1.out]
  refine hPu.mono ?_
  rintro e W2 ⟨vW2, rfl, hO, hbW2⟩
  obtain ⟨aW2, cW2, rfl, hRW2⟩ := hO.row
  clear hPu hO 
  obtain ⟨LW2, hLW2⟩ : ∃ L, L = ([0] ++ ord 4 1 false) := ⟨_, rfl⟩
  rw [← hLW2] at hRW2 ⊢
  have hlW2 : LW2.length = 5 := by rw [hLW2]; simp [ord_len]
  rw [hlW2] at hRW2 ⊢
  have HLW2 := Wk.hidQ hLW2
  have hlenLW2 : Hid (LW2.length = 5) := hlW2
  clear hLW2 hlW2
  replace B_w : Hid (Below w.heap.size w W2) := B_w.out.trans (hbW2.mono B_w.out.size)
  clear hbW2
  have hPu := put64_any (V := X) (little := false) hRW2 (by omega) (by rw [show (256 : Nat) ^ 8 = 18446744073709551616 by decide]; exact hX)
  go_wp2_with fail
  refine hPu.mono ?_
  rintro e W3 ⟨vW3, rfl, hO, hbW3⟩
  obtain ⟨aW3, cW3, rfl, hRW3⟩ := hO.row
  clear hPu hO hRW2
  obtain ⟨LW3, hLW3⟩ : ∃ L, L = (LW2 ++ ord 8 X false) := ⟨_, rfl⟩
  rw [← hLW3] at hRW3 ⊢
  have hlW3 : LW3.length = 13 := by rw [hLW3]; rw [List.length_append, hlenLW2.out, ord_len]
  rw [hlW3] at hRW3 ⊢
  have HLW3 := Wk.hidQ hLW3
  have hlenLW3 : Hid (LW3.length = 13) := hlW3
  clear hLW3 hlW3
  replace B_w : Hid (Below w.heap.size w W3) := B_w.out.trans (hbW3.mono B_w.out.size)
  clear hbW3
  have hPu := put64_any (V := Y) (little := false) hRW3 (by omega) (by rw [show (256 : Nat) ^ 8 = 18446744073709551616 by decide]; exact hY)
  go_wp2_with fail
  refine hPu.mono ?_
  rintro e W4 ⟨vW4, rfl, hO, hbW4⟩
  obtain ⟨aW4, cW4, rfl, hRW4⟩ := hO.row
  clear hPu hO hRW3
  obtain ⟨LW4, hLW4⟩ : ∃ L, L = (LW3 ++ ord 8 Y false) := ⟨_, rfl⟩
  rw [← hLW4] at hRW4 ⊢
  have hlW4 : LW4.length = 21 := by rw [hLW4]; rw [List.length_append, hlenLW3.out, ord_len]
  rw [hlW4] at hRW4 ⊢
  have HLW4 := Wk.hidQ hLW4
  have hlenLW4 : Hid (LW4.length = 21) := hlW4
  clear hLW4 hlW4
  replace B_w : Hid (Below w.heap.size w W4) := B_w.out.trans (hbW4.mono B_w.out.size)
  clear hbW4
  have HRp := Wk.hidQ hRW4
  clear hRW4
  have HLp : Hid (LW4 = pB false X Y) := by show _ = _; rw [HLW4.out, HLW3.out, HLW2.out]; rfl
  have B_W4 : Hid (Below W4.heap.size W4 W4) := Below.refl _ _
  obtain ⟨V5, hV5⟩ : ∃ V5, V5 = W4.alloc (.cells #[.int .u8 0] 5) := ⟨_, rfl⟩
  have HV5 : Hid (W4.alloc (.cells #[.int .u8 0] 5) = V5) := hV5.symm
  have hbV5 : Below W4.heap.size W4 V5 := by rw [hV5]; exact alloc_below _
  have hRV5 : Rb V5 (some ⟨W4.heap.size, 0, none⟩) 1 1 [0] := by rw [hV5]; exact rb_lone W4 0
  replace B_w : Hid (Below w.heap.size w V5) := B_w.out.trans (hbV5.mono B_w.out.size)
  replace B_W4 : Hid (Below W4.heap.size W4 V5) := B_W4.out.trans (hbV5.mono B_W4.out.size)
  clear hV5 hbV5
  have hPu := put32_any (V := 2) (little := false) hRV5 (by omega) (by decide)
  rw [show ((2 : Nat) : Int) = 2 from rfl] at hPu
  go_wp2_with fail
  rw [HV5.out]
  refine hPu.mono ?_
  rintro e W6 ⟨vW6, rfl, hO, hbW6⟩
  obtain ⟨aW6, cW6, rfl, hRW6⟩ := hO.row
  clear hPu hO 
  obtain ⟨LW6, hLW6⟩ : ∃ L, L = ([0] ++ ord 4 2 false) := ⟨_, rfl⟩
  rw [← hLW6] at hRW6 ⊢
  have hlW6 : LW6.length = 5 := by rw [hLW6]; simp [ord_len]
  rw [hlW6] at hRW6 ⊢
  have HLW6 := Wk.hidQ hLW6
  have hlenLW6 : Hid (LW6.length = 5) := hlW6
  clear hLW6 hlW6
  replace B_w : Hid (Below w.heap.size w W6) := B_w.out.trans (hbW6.mono B_w.out.size)
  replace B_W4 : Hid (Below W4.heap.size W4 W6) := B_W4.out.trans (hbW6.mono B_W4.out.size)
  clear hbW6
  have hPu := put32_any (V := 1) (little := false) hRW6 (by omega) (by decide)
  rw [show ((1 : Nat) : Int) = 1 from rfl] at hPu
  go_wp2_with fail
  refine hPu.mono ?_
  rintro e W7 ⟨vW7, rfl, hO, hbW7⟩
  obtain ⟨aW7, cW7, rfl, hRW7⟩ := hO.row
  clear hPu hO hRW6
  obtain ⟨LW7, hLW7⟩ : ∃ L, L = (LW6 ++ ord 4 1 false) := ⟨_, rfl⟩
  rw [← hLW7] at hRW7 ⊢
  have hlW7 : LW7.length = 9 := by rw [hLW7]; rw [List.length_append, hlenLW6.out, ord_len]
  rw [hlW7] at hRW7 ⊢
  have HLW7 := Wk.hidQ hLW7
  have hlenLW7 : Hid (LW7.length = 9) := hlW7
  clear hLW7 hlW7
  replace B_w : Hid (Below w.heap.size w W7) := B_w.out.trans (hbW7.mono B_w.out.size)
  replace B_W4 : Hid (Below W4.heap.size W4 W7) := B_W4.out.trans (hbW7.mono B_W4.out.size)
  clear hbW7
  have hPu := put64_any (V := X) (little := false) hRW7 (by omega) (by rw [show (256 : Nat) ^ 8 = 18446744073709551616 by decide]; exact hX)
  go_wp2_with fail
  refine hPu.mono ?_
  rintro e W8 ⟨vW8, rfl, hO, hbW8⟩
  obtain ⟨aW8, cW8, rfl, hRW8⟩ := hO.row
  clear hPu hO hRW7
  obtain ⟨LW8, hLW8⟩ : ∃ L, L = (LW7 ++ ord 8 X false) := ⟨_, rfl⟩
  rw [← hLW8] at hRW8 ⊢
  have hlW8 : LW8.length = 17 := by rw [hLW8]; rw [List.length_append, hlenLW7.out, ord_len]
  rw [hlW8] at hRW8 ⊢
  have HLW8 := Wk.hidQ hLW8
  have hlenLW8 : Hid (LW8.length = 17) := hlW8
  clear hLW8 hlW8
  replace B_w : Hid (Below w.heap.size w W8) := B_w.out.trans (hbW8.mono B_w.out.size)
  replace B_W4 : Hid (Below W4.heap.size W4 W8) := B_W4.out.trans (hbW8.mono B_W4.out.size)
  clear hbW8
  have hPu := put64_any (V := Y) (little := false) hRW8 (by omega) (by rw [show (256 : Nat) ^ 8 = 18446744073709551616 by decide]; exact hY)
  go_wp2_with fail
  refine hPu.mono ?_
  rintro e W9 ⟨vW9, rfl, hO, hbW9⟩
  obtain ⟨aW9, cW9, rfl, hRW9⟩ := hO.row
  clear hPu hO hRW8
  obtain ⟨LW9, hLW9⟩ : ∃ L, L = (LW8 ++ ord 8 Y false) := ⟨_, rfl⟩
  rw [← hLW9] at hRW9 ⊢
  have hlW9 : LW9.length = 25 := by rw [hLW9]; rw [List.length_append, hlenLW8.out, ord_len]
  rw [hlW9] at hRW9 ⊢
  have HLW9 := Wk.hidQ hLW9
  have hlenLW9 : Hid (LW9.length = 25) := hlW9
  clear hLW9 hlW9
  replace B_w : Hid (Below w.heap.size w W9) := B_w.out.trans (hbW9.mono B_w.out.size)
  replace B_W4 : Hid (Below W4.heap.size W4 W9) := B_W4.out.trans (hbW9.mono B_W4.out.size)
  clear hbW9
  have HRl := Wk.hidQ hRW9
  clear hRW9
  have HLl : Hid (LW9 = lB false X Y) := by show _ = _; rw [HLW9.out, HLW8.out, HLW7.out, HLW6.out]; rfl
  have B_W9 : Hid (Below W9.heap.size W9 W9) := Below.refl _ _
  have HS1 : Hid (parseS LW4 1 21 = .ok ((⟨1, [((X : Int), (Y : Int))], []⟩, .nil), [false]) 21) := by show _ = _; rw [HLp.out, pB_read hX hY, if_neg (fun q => by rw [fin_not_nan f1] at q; cases q.1), must_ok f1 f2]; rfl
  have HS2 : Hid (parseS LW9 1 25 = .ok ((⟨2, [((X : Int), (Y : Int))], []⟩, .nil), [false]) 25) := by show _ = _; rw [HLl.out, lB_read hX hY, must_ok f1 f2]; rfl
  have hPa := parse17_any (HRp.out.later B_W4.out) (by omega) (HE.out.later B_w.out) (md := 1) (mb := 21) (D := 1) (lim := 21) (by decide) (by decide)
  rw [show (1 : Int).toNat = 1 from rfl, HS1.out] at hPa
  go_wp2_with fail
  refine hPa.mono ?_
  rintro e W10 ⟨u1, rfl, hbW10, hTu⟩
  clear hPa
  obtain ⟨p1, q1, p21, q21, p31, q31, eu, hPt, _⟩ := gm_slc hTu
  have eu' : u1 = .agg #[.int .i64 1, .slice p1 1 q1, .slice p21 0 q21, .slice p31 0 q31] := eu
  subst eu'
  obtain ⟨b1, o1, epp, _, _, _, k01, k11⟩ := Pts.at_ (i := 0) (p := ((X : Int), (Y : Int))) hPt rfl
  subst epp
  have HC1 := Wk.hidQ (And.intro k01 k11)
  clear k01 k11
  clear hTu eu hPt
  replace B_w : Hid (Below w.heap.size w W10) := B_w.out.trans (hbW10.mono B_w.out.size)
  replace B_W4 : Hid (Below W4.heap.size W4 W10) := B_W4.out.trans (hbW10.mono B_W4.out.size)
  replace B_W9 : Hid (Below W9.heap.size W9 W10) := B_W9.out.trans (hbW10.mono B_W9.out.size)
  clear hbW10
  have B_W10 : Hid (Below W10.heap.size W10 W10) := Below.refl _ _
  obtain ⟨X10, hX10⟩ : ∃ X10, X10 = W10.alloc (.cells #[.int .i64 1, .slice (some ⟨b1, o1, none⟩) 1 q1, .slice p21 0 q21, .slice p31 0 q31] 31) := ⟨_, rfl⟩
  have HX10 : Hid (W10.alloc (.cells #[.int .i64 1, .slice (some ⟨b1, o1, none⟩) 1 q1, .slice p21 0 q21, .slice p31 0 q31] 31) = X10) := hX10.symm
  have hbX10 : Below W10.heap.size W10 X10 := by rw [hX10]; exact alloc_below _
  have GX10 : Hid (X10.heap[W10.heap.size]? = some (.cells #[.int .i64 1, .slice (some ⟨b1, o1, none⟩) 1 q1, .slice p21 0 q21, .slice p31 0 q31] 31 (0, 0))) := by rw [hX10]; exact heap_alloc_new _ _
  replace B_w : Hid (Below w.heap.size w X10) := B_w.out.trans (hbX10.mono B_w.out.size)
  replace B_W4 : Hid (Below W4.heap.size W4 X10) := B_W4.out.trans (hbX10.mono B_W4.out.size)
  replace B_W9 : Hid (Below W9.heap.size W9 X10) := B_W9.out.trans (hbX10.mono B_W9.out.size)
  replace B_W10 : Hid (Below W10.heap.size W10 X10) := B_W10.out.trans (hbX10.mono B_W10.out.size)
  clear hX10 hbX10
  go_upto_region 7 with (fail)
  rw [HX10.out]
  have B_X10 : Hid (Below X10.heap.size X10 X10) := Below.refl _ _
  have hPa := parse17_any (HRl.out.later B_W9.out) (by omega) (HE.out.later B_w.out) (md := 1) (mb := 25) (D := 1) (lim := 25) (by decide) (by decide)
  rw [show (1 : Int).toNat = 1 from rfl, HS2.out] at hPa
  go_wp2_with fail
  refine hPa.mono ?_
  rintro e W11 ⟨u2, rfl, hbW11, hTu⟩
  clear hPa
  obtain ⟨p2, q2, p22, q22, p32, q32, eu, hPt, _⟩ := gm_slc hTu
  have eu' : u2 = .agg #[.int .i64 2, .slice p2 1 q2, .slice p22 0 q22, .slice p32 0 q32] := eu
  subst eu'
  obtain ⟨b2, o2, epp, _, _, _, k02, k12⟩ := Pts.at_ (i := 0) (p := ((X : Int), (Y : Int))) hPt rfl
  subst epp
  have HC2 := Wk.hidQ (And.intro k02 k12)
  clear k02 k12
  clear hTu eu hPt
  replace B_w : Hid (Below w.heap.size w W11) := B_w.out.trans (hbW11.mono B_w.out.size)
  replace B_W4 : Hid (Below W4.heap.size W4 W11) := B_W4.out.trans (hbW11.mono B_W4.out.size)
  replace B_W9 : Hid (Below W9.heap.size W9 W11) := B_W9.out.trans (hbW11.mono B_W9.out.size)
  replace B_W10 : Hid (Below W10.heap.size W10 W11) := B_W10.out.trans (hbW11.mono B_W10.out.size)
  replace B_X10 : Hid (Below X10.heap.size X10 W11) := B_X10.out.trans (hbW11.mono B_X10.out.size)
  clear hbW11
  have B_W11 : Hid (Below W11.heap.size W11 W11) := Below.refl _ _
  obtain ⟨X11, hX11⟩ : ∃ X11, X11 = W11.alloc (.cells #[.int .i64 2, .slice (some ⟨b2, o2, none⟩) 1 q2, .slice p22 0 q22, .slice p32 0 q32] 31) := ⟨_, rfl⟩
  have HX11 : Hid (W11.alloc (.cells #[.int .i64 2, .slice (some ⟨b2, o2, none⟩) 1 q2, .slice p22 0 q22, .slice p32 0 q32] 31) = X11) := hX11.symm
  have hbX11 : Below W11.heap.size W11 X11 := by rw [hX11]; exact alloc_below _
  have GX11 : Hid (X11.heap[W11.heap.size]? = some (.cells #[.int .i64 2, .slice (some ⟨b2, o2, none⟩) 1 q2, .slice p22 0 q22, .slice p32 0 q32] 31 (0, 0))) := by rw [hX11]; exact heap_alloc_new _ _
  replace B_w : Hid (Below w.heap.size w X11) := B_w.out.trans (hbX11.mono B_w.out.size)
  replace B_W4 : Hid (Below W4.heap.size W4 X11) := B_W4.out.trans (hbX11.mono B_W4.out.size)
  replace B_W9 : Hid (Below W9.heap.size W9 X11) := B_W9.out.trans (hbX11.mono B_W9.out.size)
  replace B_W10 : Hid (Below W10.heap.size W10 X11) := B_W10.out.trans (hbX11.mono B_W10.out.size)
  replace B_X10 : Hid (Below X10.heap.size X10 X11) := B_X10.out.trans (hbX11.mono B_X10.out.size)
  replace B_W11 : Hid (Below W11.heap.size W11 X11) := B_W11.out.trans (hbX11.mono B_W11.out.size)
  clear hX11 hbX11
  go_upto_region 8 with (fail)
  rw [HX11.out]
  have B_X11 : Hid (Below X11.heap.size X11 X11) := Below.refl _ _
  have hAl := alive17_any (HE.out.later B_w.out)
  go_wp2_with fail
  refine hAl.mono ?_
  rintro e W12 ⟨rfl, hb12⟩
  clear hAl
  replace B_w : Hid (Below w.heap.size w W12) := B_w.out.trans (hb12.mono B_w.out.size)
  replace B_W4 : Hid (Below W4.heap.size W4 W12) := B_W4.out.trans (hb12.mono B_W4.out.size)
  replace B_W9 : Hid (Below W9.heap.size W9 W12) := B_W9.out.trans (hb12.mono B_W9.out.size)
  replace B_W10 : Hid (Below W10.heap.size W10 W12) := B_W10.out.trans (hb12.mono B_W10.out.size)
  replace B_X10 : Hid (Below X10.heap.size X10 W12) := B_X10.out.trans (hb12.mono B_X10.out.size)
  replace B_W11 : Hid (Below W11.heap.size W11 W12) := B_W11.out.trans (hb12.mono B_W11.out.size)
  replace B_X11 : Hid (Below X11.heap.size X11 W12) := B_X11.out.trans (hb12.mono B_X11.out.size)
  clear hb12
  have ux : Ar.U (X : Int) := by unfold Ar.U; omega
  have uy : Ar.U (Y : Int) := by unfold Ar.U; omega
  have hfx := Ar.field_and ux
  have hfy := Ar.field_and uy
  have hmx := Ar.size_bits ux
  have hmy := Ar.size_bits uy
  have dx := ef_fin hX
  have dy := ef_fin hY
  have ex := mg_nan hX
  have ey := mg_nan hY
  rw [f1] at dx
  rw [f2] at dy
  rw [fin_not_nan f1] at ex
  replace dx : (Ar.ef (X : Int) == 2047) = false := dx
  replace dy : (Ar.ef (Y : Int) == 2047) = false := dy
  generalize Ar.ef (X : Int) = EX at *
  generalize Ar.ef (Y : Int) = EY at *
  generalize Ar.mg (X : Int) = MX at *
  generalize Ar.mg (Y : Int) = MY at *
  clear ux uy
  have g10 := (B_X10.out.block _ (lt_of_block GX10.out)).trans GX10.out
  have y1 := cell_of g10 1
  have g11 := (B_X11.out.block _ (lt_of_block GX11.out)).trans GX11.out
  have z1 := cell_of g11 1
  simp only [List.getElem?_toArray, List.getElem?_cons_zero, List.getElem?_cons_succ] at y1 z1
  clear g10 g11
  obtain ⟨k0, k1⟩ := HC1.out
  obtain ⟨m0, m1⟩ := HC2.out
  simp only [Nat.zero_mul, Nat.add_zero] at k0 k1 m0 m1
  replace k0 := (B_W10.out.cell (p := ⟨b1, o1, none⟩) (cell_lt k0)).trans k0
  replace k1 := (B_W10.out.cell (p := ⟨b1, o1 + 1, none⟩) (cell_lt k1)).trans k1
  replace m0 := (B_W11.out.cell (p := ⟨b2, o2, none⟩) (cell_lt m0)).trans m0
  replace m1 := (B_W11.out.cell (p := ⟨b2, o2 + 1, none⟩) (cell_lt m1)).trans m1
  have hq : ∀ w, (binOp .eql 39 (.agg #[.int .u64 (X : Int), .int .u64 (Y : Int)]) (.agg #[.int .u64 (X : Int), .int .u64 (Y : Int)])).run Tryz.prog w = .ok (.bool true) w := fun w => by rw [run_eql_struct, pt_sameT]; rfl
  go_upto_region 16 with (fail)
  go_quiet (fail)
  go_wp2
  go_ret
  exact ⟨rfl, ⟨B_w.out.os, B_w.out.tape, B_w.out.output, B_w.out.size, B_w.out.block⟩⟩
set_option maxHeartbeats 6400000 in
set_option maxRecDepth 100000 in
theorem coords17_Bfalse {w : World} {X Y : Nat} (hX : X < 18446744073709551616) (hY : Y < 18446744073709551616) (f1 : finB X = false) (f2 : finB Y = false) (nn : nanB X = true ∧ nanB Y = true) (hE : ErrVar w) :
    Calls Tryz.prog 3 #[.int .u64 (X : Int), .int .u64 (Y : Int), .bool false] w fun e w' => e = .returned (.bool true) ∧ Below w.heap.size w w' := by
  have B_w : Hid (Below w.heap.size w w) := Below.refl _ _
  have HE := Wk.hidQ hE
  clear hE
  go_enter Tryz.func3, Tryz.ntmps3
  obtain ⟨V1, hV1⟩ : ∃ V1, V1 = w.alloc (.cells #[.int .u8 0] 5) := ⟨_, rfl⟩
  have HV1 : Hid (w.alloc (.cells #[.int .u8 0] 5) = V1) := hV1.symm
  have hbV1 : Below w.heap.size w V1 := by rw [hV1]; exact alloc_below _
  have hRV1 : Rb V1 (some ⟨w.heap.size, 0, none⟩) 1 1 [0] := by rw [hV1]; exact rb_lone w 0
  replace B_w : Hid (Below w.heap.size w V1) := B_w.out.trans (hbV1.mono B_w.out.size)
  clear hV1 hbV1
  have hPu := put32_any (V := 1) (little := false) hRV1 (by omega) (by decide)
  rw [show ((1 : Nat) : Int) = 1 from rfl] at hPu
  go_wp2_with fail
  rw [HV1.out]
  refine hPu.mono ?_
  rintro e W2 ⟨vW2, rfl, hO, hbW2⟩
  obtain ⟨aW2, cW2, rfl, hRW2⟩ := hO.row
  clear hPu hO 
  obtain ⟨LW2, hLW2⟩ : ∃ L, L = ([0] ++ ord 4 1 false) := ⟨_, rfl⟩
  rw [← hLW2] at hRW2 ⊢
  have hlW2 : LW2.length = 5 := by rw [hLW2]; simp [ord_len]
  rw [hlW2] at hRW2 ⊢
  have HLW2 := Wk.hidQ hLW2
  have hlenLW2 : Hid (LW2.length = 5) := hlW2
  clear hLW2 hlW2
  replace B_w : Hid (Below w.heap.size w W2) := B_w.out.trans (hbW2.mono B_w.out.size)
  clear hbW2
  have hPu := put64_any (V := X) (little := false) hRW2 (by omega) (by rw [show (256 : Nat) ^ 8 = 18446744073709551616 by decide]; exact hX)
  go_wp2_with fail
  refine hPu.mono ?_
  rintro e W3 ⟨vW3, rfl, hO, hbW3⟩
  obtain ⟨aW3, cW3, rfl, hRW3⟩ := hO.row
  clear hPu hO hRW2
  obtain ⟨LW3, hLW3⟩ : ∃ L, L = (LW2 ++ ord 8 X false) := ⟨_, rfl⟩
  rw [← hLW3] at hRW3 ⊢
  have hlW3 : LW3.length = 13 := by rw [hLW3]; rw [List.length_append, hlenLW2.out, ord_len]
  rw [hlW3] at hRW3 ⊢
  have HLW3 := Wk.hidQ hLW3
  have hlenLW3 : Hid (LW3.length = 13) := hlW3
  clear hLW3 hlW3
  replace B_w : Hid (Below w.heap.size w W3) := B_w.out.trans (hbW3.mono B_w.out.size)
  clear hbW3
  have hPu := put64_any (V := Y) (little := false) hRW3 (by omega) (by rw [show (256 : Nat) ^ 8 = 18446744073709551616 by decide]; exact hY)
  go_wp2_with fail
  refine hPu.mono ?_
  rintro e W4 ⟨vW4, rfl, hO, hbW4⟩
  obtain ⟨aW4, cW4, rfl, hRW4⟩ := hO.row
  clear hPu hO hRW3
  obtain ⟨LW4, hLW4⟩ : ∃ L, L = (LW3 ++ ord 8 Y false) := ⟨_, rfl⟩
  rw [← hLW4] at hRW4 ⊢
  have hlW4 : LW4.length = 21 := by rw [hLW4]; rw [List.length_append, hlenLW3.out, ord_len]
  rw [hlW4] at hRW4 ⊢
  have HLW4 := Wk.hidQ hLW4
  have hlenLW4 : Hid (LW4.length = 21) := hlW4
  clear hLW4 hlW4
  replace B_w : Hid (Below w.heap.size w W4) := B_w.out.trans (hbW4.mono B_w.out.size)
  clear hbW4
  have HRp := Wk.hidQ hRW4
  clear hRW4
  have HLp : Hid (LW4 = pB false X Y) := by show _ = _; rw [HLW4.out, HLW3.out, HLW2.out]; rfl
  have B_W4 : Hid (Below W4.heap.size W4 W4) := Below.refl _ _
  obtain ⟨V5, hV5⟩ : ∃ V5, V5 = W4.alloc (.cells #[.int .u8 0] 5) := ⟨_, rfl⟩
  have HV5 : Hid (W4.alloc (.cells #[.int .u8 0] 5) = V5) := hV5.symm
  have hbV5 : Below W4.heap.size W4 V5 := by rw [hV5]; exact alloc_below _
  have hRV5 : Rb V5 (some ⟨W4.heap.size, 0, none⟩) 1 1 [0] := by rw [hV5]; exact rb_lone W4 0
  replace B_w : Hid (Below w.heap.size w V5) := B_w.out.trans (hbV5.mono B_w.out.size)
  replace B_W4 : Hid (Below W4.heap.size W4 V5) := B_W4.out.trans (hbV5.mono B_W4.out.size)
  clear hV5 hbV5
  have hPu := put32_any (V := 2) (little := false) hRV5 (by omega) (by decide)
  rw [show ((2 : Nat) : Int) = 2 from rfl] at hPu
  go_wp2_with fail
  rw [HV5.out]
  refine hPu.mono ?_
  rintro e W6 ⟨vW6, rfl, hO, hbW6⟩
  obtain ⟨aW6, cW6, rfl, hRW6⟩ := hO.row
  clear hPu hO 
  obtain ⟨LW6, hLW6⟩ : ∃ L, L = ([0] ++ ord 4 2 false) := ⟨_, rfl⟩
  rw [← hLW6] at hRW6 ⊢
  have hlW6 : LW6.length = 5 := by rw [hLW6]; simp [ord_len]
  rw [hlW6] at hRW6 ⊢
  have HLW6 := Wk.hidQ hLW6
  have hlenLW6 : Hid (LW6.length = 5) := hlW6
  clear hLW6 hlW6
  replace B_w : Hid (Below w.heap.size w W6) := B_w.out.trans (hbW6.mono B_w.out.size)
  replace B_W4 : Hid (Below W4.heap.size W4 W6) := B_W4.out.trans (hbW6.mono B_W4.out.size)
  clear hbW6
  have hPu := put32_any (V := 1) (little := false) hRW6 (by omega) (by decide)
  rw [show ((1 : Nat) : Int) = 1 from rfl] at hPu
  go_wp2_with fail
  refine hPu.mono ?_
  rintro e W7 ⟨vW7, rfl, hO, hbW7⟩
  obtain ⟨aW7, cW7, rfl, hRW7⟩ := hO.row
  clear hPu hO hRW6
  obtain ⟨LW7, hLW7⟩ : ∃ L, L = (LW6 ++ ord 4 1 false) := ⟨_, rfl⟩
  rw [← hLW7] at hRW7 ⊢
  have hlW7 : LW7.length = 9 := by rw [hLW7]; rw [List.length_append, hlenLW6.out, ord_len]
  rw [hlW7] at hRW7 ⊢
  have HLW7 := Wk.hidQ hLW7
  have hlenLW7 : Hid (LW7.length = 9) := hlW7
  clear hLW7 hlW7
  replace B_w : Hid (Below w.heap.size w W7) := B_w.out.trans (hbW7.mono B_w.out.size)
  replace B_W4 : Hid (Below W4.heap.size W4 W7) := B_W4.out.trans (hbW7.mono B_W4.out.size)
  clear hbW7
  have hPu := put64_any (V := X) (little := false) hRW7 (by omega) (by rw [show (256 : Nat) ^ 8 = 18446744073709551616 by decide]; exact hX)
  go_wp2_with fail
  refine hPu.mono ?_
  rintro e W8 ⟨vW8, rfl, hO, hbW8⟩
  obtain ⟨aW8, cW8, rfl, hRW8⟩ := hO.row
  clear hPu hO hRW7
  obtain ⟨LW8, hLW8⟩ : ∃ L, L = (LW7 ++ ord 8 X false) := ⟨_, rfl⟩
  rw [← hLW8] at hRW8 ⊢
  have hlW8 : LW8.length = 17 := by rw [hLW8]; rw [List.length_append, hlenLW7.out, ord_len]
  rw [hlW8] at hRW8 ⊢
  have HLW8 := Wk.hidQ hLW8
  have hlenLW8 : Hid (LW8.length = 17) := hlW8
  clear hLW8 hlW8
  replace B_w : Hid (Below w.heap.size w W8) := B_w.out.trans (hbW8.mono B_w.out.size)
  replace B_W4 : Hid (Below W4.heap.size W4 W8) := B_W4.out.trans (hbW8.mono B_W4.out.size)
  clear hbW8
  have hPu := put64_any (V := Y) (little := false) hRW8 (by omega) (by rw [show (256 : Nat) ^ 8 = 18446744073709551616 by decide]; exact hY)
  go_wp2_with fail
  refine hPu.mono ?_
  rintro e W9 ⟨vW9, rfl, hO, hbW9⟩
  obtain ⟨aW9, cW9, rfl, hRW9⟩ := hO.row
  clear hPu hO hRW8
  obtain ⟨LW9, hLW9⟩ : ∃ L, L = (LW8 ++ ord 8 Y false) := ⟨_, rfl⟩
  rw [← hLW9] at hRW9 ⊢
  have hlW9 : LW9.length = 25 := by rw [hLW9]; rw [List.length_append, hlenLW8.out, ord_len]
  rw [hlW9] at hRW9 ⊢
  have HLW9 := Wk.hidQ hLW9
  have hlenLW9 : Hid (LW9.length = 25) := hlW9
  clear hLW9 hlW9
  replace B_w : Hid (Below w.heap.size w W9) := B_w.out.trans (hbW9.mono B_w.out.size)
  replace B_W4 : Hid (Below W4.heap.size W4 W9) := B_W4.out.trans (hbW9.mono B_W4.out.size)
  clear hbW9
  have HRl := Wk.hidQ hRW9
  clear hRW9
  have HLl : Hid (LW9 = lB false X Y) := by show _ = _; rw [HLW9.out, HLW8.out, HLW7.out, HLW6.out]; rfl
  have B_W9 : Hid (Below W9.heap.size W9 W9) := Below.refl _ _
  have HS1 : Hid (parseS LW4 1 21 = .ok ((⟨1, [], []⟩, .nil), [false]) 21) := by show _ = _; rw [HLp.out, pB_read hX hY, if_pos nn]
  have HS2 : Hid (parseS LW9 1 25 = .bad 9 175) := by show _ = _; rw [HLl.out, lB_read hX hY, must_x f1]; rfl
  have hPa := parse17_any (HRp.out.later B_W4.out) (by omega) (HE.out.later B_w.out) (md := 1) (mb := 21) (D := 1) (lim := 21) (by decide) (by decide)
  rw [show (1 : Int).toNat = 1 from rfl, HS1.out] at hPa
  go_wp2_with fail
  refine hPa.mono ?_
  rintro e W10 ⟨u1, rfl, hbW10, hTu⟩
  clear hPa
  obtain ⟨p1, q1, p21, q21, p31, q31, eu, hPt, _⟩ := gm_slc hTu
  have eu' : u1 = .agg #[.int .i64 1, .slice p1 0 q1, .slice p21 0 q21, .slice p31 0 q31] := eu
  subst eu'
  clear hTu eu hPt
  replace B_w : Hid (Below w.heap.size w W10) := B_w.out.trans (hbW10.mono B_w.out.size)
  replace B_W4 : Hid (Below W4.heap.size W4 W10) := B_W4.out.trans (hbW10.mono B_W4.out.size)
  replace B_W9 : Hid (Below W9.heap.size W9 W10) := B_W9.out.trans (hbW10.mono B_W9.out.size)
  clear hbW10
  have B_W10 : Hid (Below W10.heap.size W10 W10) := Below.refl _ _
  obtain ⟨X10, hX10⟩ : ∃ X10, X10 = W10.alloc (.cells #[.int .i64 1, .slice p1 0 q1, .slice p21 0 q21, .slice p31 0 q31] 31) := ⟨_, rfl⟩
  have HX10 : Hid (W10.alloc (.cells #[.int .i64 1, .slice p1 0 q1, .slice p21 0 q21, .slice p31 0 q31] 31) = X10) := hX10.symm
  have hbX10 : Below W10.heap.size W10 X10 := by rw [hX10]; exact alloc_below _
  have GX10 : Hid (X10.heap[W10.heap.size]? = some (.cells #[.int .i64 1, .slice p1 0 q1, .slice p21 0 q21, .slice p31 0 q31] 31 (0, 0))) := by rw [hX10]; exact heap_alloc_new _ _
  replace B_w : Hid (Below w.heap.size w X10) := B_w.out.trans (hbX10.mono B_w.out.size)
  replace B_W4 : Hid (Below W4.heap.size W4 X10) := B_W4.out.trans (hbX10.mono B_W4.out.size)
  replace B_W9 : Hid (Below W9.heap.size W9 X10) := B_W9.out.trans (hbX10.mono B_W9.out.size)
  replace B_W10 : Hid (Below W10.heap.size W10 X10) := B_W10.out.trans (hbX10.mono B_W10.out.size)
  clear hX10 hbX10
  go_upto_region 7 with (fail)
  rw [HX10.out]
  have B_X10 : Hid (Below X10.heap.size X10 X10) := Below.refl _ _
  have hPa := parse17_any (HRl.out.later B_W9.out) (by omega) (HE.out.later B_w.out) (md := 1) (mb := 25) (D := 1) (lim := 25) (by decide) (by decide)
  rw [show (1 : Int).toNat = 1 from rfl, HS2.out] at hPa
  go_wp2_with fail
  refine hPa.mono ?_
  rintro e W11 ⟨g2, rfl, hF, hbW11⟩
  clear hPa
  have HF2 := Wk.hidQ hF
  clear hF
  replace B_w : Hid (Below w.heap.size w W11) := B_w.out.trans (hbW11.mono B_w.out.size)
  replace B_W4 : Hid (Below W4.heap.size W4 W11) := B_W4.out.trans (hbW11.mono B_W4.out.size)
  replace B_W9 : Hid (Below W9.heap.size W9 W11) := B_W9.out.trans (hbW11.mono B_W9.out.size)
  replace B_W10 : Hid (Below W10.heap.size W10 W11) := B_W10.out.trans (hbW11.mono B_W10.out.size)
  replace B_X10 : Hid (Below X10.heap.size X10 W11) := B_X10.out.trans (hbW11.mono B_X10.out.size)
  clear hbW11
  have B_W11 : Hid (Below W11.heap.size W11 W11) := Below.refl _ _
  unfold zg
  obtain ⟨X11, hX11⟩ : ∃ X11, X11 = W11.alloc (.cells #[.int .i64 0, .slice none 0 0, .slice none 0 0, .slice none 0 0] 31) := ⟨_, rfl⟩
  have HX11 : Hid (W11.alloc (.cells #[.int .i64 0, .slice none 0 0, .slice none 0 0, .slice none 0 0] 31) = X11) := hX11.symm
  have hbX11 : Below W11.heap.size W11 X11 := by rw [hX11]; exact alloc_below _
  have GX11 : Hid (X11.heap[W11.heap.size]? = some (.cells #[.int .i64 0, .slice none 0 0, .slice none 0 0, .slice none 0 0] 31 (0, 0))) := by rw [hX11]; exact heap_alloc_new _ _
  replace B_w : Hid (Below w.heap.size w X11) := B_w.out.trans (hbX11.mono B_w.out.size)
  replace B_W4 : Hid (Below W4.heap.size W4 X11) := B_W4.out.trans (hbX11.mono B_W4.out.size)
  replace B_W9 : Hid (Below W9.heap.size W9 X11) := B_W9.out.trans (hbX11.mono B_W9.out.size)
  replace B_W10 : Hid (Below W10.heap.size W10 X11) := B_W10.out.trans (hbX11.mono B_W10.out.size)
  replace B_X10 : Hid (Below X10.heap.size X10 X11) := B_X10.out.trans (hbX11.mono B_X10.out.size)
  replace B_W11 : Hid (Below W11.heap.size W11 X11) := B_W11.out.trans (hbX11.mono B_W11.out.size)
  clear hX11 hbX11
  go_upto_region 8 with (fail)
  rw [HX11.out]
  have B_X11 : Hid (Below X11.heap.size X11 X11) := Below.refl _ _
  have hAl := alive17_any (HE.out.later B_w.out)
  go_wp2_with fail
  refine hAl.mono ?_
  rintro e W12 ⟨rfl, hb12⟩
  clear hAl
  replace B_w : Hid (Below w.heap.size w W12) := B_w.out.trans (hb12.mono B_w.out.size)
  replace B_W4 : Hid (Below W4.heap.size W4 W12) := B_W4.out.trans (hb12.mono B_W4.out.size)
  replace B_W9 : Hid (Below W9.heap.size W9 W12) := B_W9.out.trans (hb12.mono B_W9.out.size)
  replace B_W10 : Hid (Below W10.heap.size W10 W12) := B_W10.out.trans (hb12.mono B_W10.out.size)
  replace B_X10 : Hid (Below X10.heap.size X10 W12) := B_X10.out.trans (hb12.mono B_X10.out.size)
  replace B_W11 : Hid (Below W11.heap.size W11 W12) := B_W11.out.trans (hb12.mono B_W11.out.size)
  replace B_X11 : Hid (Below X11.heap.size X11 W12) := B_X11.out.trans (hb12.mono B_X11.out.size)
  clear hb12
  have ux : Ar.U (X : Int) := by unfold Ar.U; omega
  have uy : Ar.U (Y : Int) := by unfold Ar.U; omega
  have hfx := Ar.field_and ux
  have hfy := Ar.field_and uy
  have hmx := Ar.size_bits ux
  have hmy := Ar.size_bits uy
  have dx := ef_fin hX
  have dy := ef_fin hY
  have ex := mg_nan hX
  have ey := mg_nan hY
  rw [f1] at dx
  rw [f2] at dy
  rw [nn.1] at ex
  rw [nn.2] at ey
  replace dx : (Ar.ef (X : Int) == 2047) = true := dx
  replace dy : (Ar.ef (Y : Int) == 2047) = true := dy
  generalize Ar.ef (X : Int) = EX at *
  generalize Ar.ef (Y : Int) = EY at *
  generalize Ar.mg (X : Int) = MX at *
  generalize Ar.mg (Y : Int) = MY at *
  clear ux uy
  have hTo := told_yes (HF2.out.later B_W11.out) (HE.out.later B_w.out) (by decide)
  skip
  go_wp2_with fail
  refine hTo.mono ?_
  rintro e W13 ⟨rfl, hb13⟩
  clear hTo
  replace B_w : Hid (Below w.heap.size w W13) := B_w.out.trans (hb13.mono B_w.out.size)
  replace B_W4 : Hid (Below W4.heap.size W4 W13) := B_W4.out.trans (hb13.mono B_W4.out.size)
  replace B_W9 : Hid (Below W9.heap.size W9 W13) := B_W9.out.trans (hb13.mono B_W9.out.size)
  replace B_W10 : Hid (Below W10.heap.size W10 W13) := B_W10.out.trans (hb13.mono B_W10.out.size)
  replace B_X10 : Hid (Below X10.heap.size X10 W13) := B_X10.out.trans (hb13.mono B_X10.out.size)
  replace B_W11 : Hid (Below W11.heap.size W11 W13) := B_W11.out.trans (hb13.mono B_W11.out.size)
  replace B_X11 : Hid (Below X11.heap.size X11 W13) := B_X11.out.trans (hb13.mono B_X11.out.size)
  clear hb13
  have g10 := (B_X10.out.block _ (lt_of_block GX10.out)).trans GX10.out
  have y0 := cell_of g10 0
  have y1 := cell_of g10 1
  simp only [List.getElem?_toArray, List.getElem?_cons_zero, List.getElem?_cons_succ] at y0 y1
  clear g10
  go_wp2
  go_ret
  exact ⟨rfl, B_w.out⟩
set_option maxHeartbeats 6400000 in
set_option maxRecDepth 100000 in
theorem coords17_Cfalse {w : World} {X Y : Nat} (hX : X < 18446744073709551616) (hY : Y < 18446744073709551616) (f1 : finB X = false) (nn : ¬ (nanB X = true ∧ nanB Y = true)) (hE : ErrVar w) :
    Calls Tryz.prog 3 #[.int .u64 (X : Int), .int .u64 (Y : Int), .bool false] w fun e w' => e = .returned (.bool true) ∧ Below w.heap.size w w' := by
  have B_w : Hid (Below w.heap.size w w) := Below.refl _ _
  have HE := Wk.hidQ hE
  clear hE
  go_enter Tryz.func3, Tryz.ntmps3
  obtain ⟨V1, hV1⟩ : ∃ V1, V1 = w.alloc (.cells #[.int .u8 0] 5) := ⟨_, rfl⟩
  have HV1 : Hid (w.alloc (.cells #[.int .u8 0] 5) = V1) := hV1.symm
  have hbV1 : Below w.heap.size w V1 := by rw [hV1]; exact alloc_below _
  have hRV1 : Rb V1 (some ⟨w.heap.size, 0, none⟩) 1 1 [0] := by rw [hV1]; exact rb_lone w 0
  replace B_w : Hid (Below w.heap.size w V1) := B_w.out.trans (hbV1.mono B_w.out.size)
  clear hV1 hbV1
  have hPu := put32_any (V := 1) (little := false) hRV1 (by omega) (by decide)
  rw [show ((1 : Nat) : Int) = 1 from rfl] at hPu
  go_wp2_with fail
  rw [HV1.out]
  refine hPu.mono ?_
  rintro e W2 ⟨vW2, rfl, hO, hbW2⟩
  obtain ⟨aW2, cW2, rfl, hRW2⟩ := hO.row
  clear hPu hO 
  obtain ⟨LW2, hLW2⟩ : ∃ L, L = ([0] ++ ord 4 1 false) := ⟨_, rfl⟩
  rw [← hLW2] at hRW2 ⊢
  have hlW2 : LW2.length = 5 := by rw [hLW2]; simp [ord_len]
  rw [hlW2] at hRW2 ⊢
  have HLW2 := Wk.hidQ hLW2
  have hlenLW2 : Hid (LW2.length = 5) := hlW2
  clear hLW2 hlW2
  replace B_w : Hid (Below w.heap.size w W2) := B_w.out.trans (hbW2.mono B_w.out.size)
  clear hbW2
  have hPu := put64_any (V := X) (little := false) hRW2 (by omega) (by rw [show (256 : Nat) ^ 8 = 18446744073709551616 by decide]; exact hX)
  go_wp2_with fail
  refine hPu.mono ?_
  rintro e W3 ⟨vW3, rfl, hO, hbW3⟩
  obtain ⟨aW3, cW3, rfl, hRW3⟩ := hO.row
  clear hPu hO hRW2
  obtain ⟨LW3, hLW3⟩ : ∃ L, L = (LW2 ++ ord 8 X false) := ⟨_, rfl⟩
  rw [← hLW3] at hRW3 ⊢
  have hlW3 : LW3.length = 13 := by rw [hLW3]; rw [List.length_append, hlenLW2.out, ord_len]
  rw [hlW3] at hRW3 ⊢
  have HLW3 := Wk.hidQ hLW3
  have hlenLW3 : Hid (LW3.length = 13) := hlW3
  clear hLW3 hlW3
  replace B_w : Hid (Below w.heap.size w W3) := B_w.out.trans (hbW3.mono B_w.out.size)
  clear hbW3
  have hPu := put64_any (V := Y) (little := false) hRW3 (by omega) (by rw [show (256 : Nat) ^ 8 = 18446744073709551616 by decide]; exact hY)
  go_wp2_with fail
  refine hPu.mono ?_
  rintro e W4 ⟨vW4, rfl, hO, hbW4⟩
  obtain ⟨aW4, cW4, rfl, hRW4⟩ := hO.row
  clear hPu hO hRW3
  obtain ⟨LW4, hLW4⟩ : ∃ L, L = (LW3 ++ ord 8 Y false) := ⟨_, rfl⟩
  rw [← hLW4] at hRW4 ⊢
  have hlW4 : LW4.length = 21 := by rw [hLW4]; rw [List.length_append, hlenLW3.out, ord_len]
  rw [hlW4] at hRW4 ⊢
  have HLW4 := Wk.hidQ hLW4
  have hlenLW4 : Hid (LW4.length = 21) := hlW4
  clear hLW4 hlW4
  replace B_w : Hid (Below w.heap.size w W4) := B_w.out.trans (hbW4.mono B_w.out.size)
  clear hbW4
  have HRp := Wk.hidQ hRW4
  clear hRW4
  have HLp : Hid (LW4 = pB false X Y) := by show _ = _; rw [HLW4.out, HLW3.out, HLW2.out]; rfl
  have B_W4 : Hid (Below W4.heap.size W4 W4) := Below.refl _ _
  obtain ⟨V5, hV5⟩ : ∃ V5, V5 = W4.alloc (.cells #[.int .u8 0] 5) := ⟨_, rfl⟩
  have HV5 : Hid (W4.alloc (.cells #[.int .u8 0] 5) = V5) := hV5.symm
  have hbV5 : Below W4.heap.size W4 V5 := by rw [hV5]; exact alloc_below _
  have hRV5 : Rb V5 (some ⟨W4.heap.size, 0, none⟩) 1 1 [0] := by rw [hV5]; exact rb_lone W4 0
  replace B_w : Hid (Below w.heap.size w V5) := B_w.out.trans (hbV5.mono B_w.out.size)
  replace B_W4 : Hid (Below W4.heap.size W4 V5) := B_W4.out.trans (hbV5.mono B_W4.out.size)
  clear hV5 hbV5
  have hPu := put32_any (V := 2) (little := false) hRV5 (by omega) (by decide)
  rw [show ((2 : Nat) : Int) = 2 from rfl] at hPu
  go_wp2_with fail
  rw [HV5.out]
  refine hPu.mono ?_
  rintro e W6 ⟨vW6, rfl, hO, hbW6⟩
  obtain ⟨aW6, cW6, rfl, hRW6⟩ := hO.row
  clear hPu hO 
  obtain ⟨LW6, hLW6⟩ : ∃ L, L = ([0] ++ ord 4 2 false) := ⟨_, rfl⟩
  rw [← hLW6] at hRW6 ⊢
  have hlW6 : LW6.length = 5 := by rw [hLW6]; simp [ord_len]
  rw [hlW6] at hRW6 ⊢
  have HLW6 := Wk.hidQ hLW6
  have hlenLW6 : Hid (LW6.length = 5) := hlW6
  clear hLW6 hlW6
  replace B_w : Hid (Below w.heap.size w W6) := B_w.out.trans (hbW6.mono B_w.out.size)
  replace B_W4 : Hid (Below W4.heap.size W4 W6) := B_W4.out.trans (hbW6.mono B_W4.out.size)
  clear hbW6
  have hPu := put32_any (V := 1) (little := false) hRW6 (by omega) (by decide)
  rw [show ((1 : Nat) : Int) = 1 from rfl] at hPu
  go_wp2_with fail
  refine hPu.mono ?_
  rintro e W7 ⟨vW7, rfl, hO, hbW7⟩
  obtain ⟨aW7, cW7, rfl, hRW7⟩ := hO.row
  clear hPu hO hRW6
  obtain ⟨LW7, hLW7⟩ : ∃ L, L = (LW6 ++ ord 4 1 false) := ⟨_, rfl⟩
  rw [← hLW7] at hRW7 ⊢
  have hlW7 : LW7.length = 9 := by rw [hLW7]; rw [List.length_append, hlenLW6.out, ord_len]
  rw [hlW7] at hRW7 ⊢
  have HLW7 := Wk.hidQ hLW7
  have hlenLW7 : Hid (LW7.length = 9) := hlW7
  clear hLW7 hlW7
  replace B_w : Hid (Below w.heap.size w W7) := B_w.out.trans (hbW7.mono B_w.out.size)
  replace B_W4 : Hid (Below W4.heap.size W4 W7) := B_W4.out.trans (hbW7.mono B_W4.out.size)
  clear hbW7
  have hPu := put64_any (V := X) (little := false) hRW7 (by omega) (by rw [show (256 : Nat) ^ 8 = 18446744073709551616 by decide]; exact hX)
  go_wp2_with fail
  refine hPu.mono ?_
  rintro e W8 ⟨vW8, rfl, hO, hbW8⟩
  obtain ⟨aW8, cW8, rfl, hRW8⟩ := hO.row
  clear hPu hO hRW7
  obtain ⟨LW8, hLW8⟩ : ∃ L, L = (LW7 ++ ord 8 X false) := ⟨_, rfl⟩
  rw [← hLW8] at hRW8 ⊢
  have hlW8 : LW8.length = 17 := by rw [hLW8]; rw [List.length_append, hlenLW7.out, ord_len]
  rw [hlW8] at hRW8 ⊢
  have HLW8 := Wk.hidQ hLW8
  have hlenLW8 : Hid (LW8.length = 17) := hlW8
  clear hLW8 hlW8
  replace B_w : Hid (Below w.heap.size w W8) := B_w.out.trans (hbW8.mono B_w.out.size)
  replace B_W4 : Hid (Below W4.heap.size W4 W8) := B_W4.out.trans (hbW8.mono B_W4.out.size)
  clear hbW8
  have hPu := put64_any (V := Y) (little := false) hRW8 (by omega) (by rw [show (256 : Nat) ^ 8 = 18446744073709551616 by decide]; exact hY)
  go_wp2_with fail
  refine hPu.mono ?_
  rintro e W9 ⟨vW9, rfl, hO, hbW9⟩
  obtain ⟨aW9, cW9, rfl, hRW9⟩ := hO.row
  clear hPu hO hRW8
  obtain ⟨LW9, hLW9⟩ : ∃ L, L = (LW8 ++ ord 8 Y false) := ⟨_, rfl⟩
  rw [← hLW9] at hRW9 ⊢
  have hlW9 : LW9.length = 25 := by rw [hLW9]; rw [List.length_append, hlenLW8.out, ord_len]
  rw [hlW9] at hRW9 ⊢
  have HLW9 := Wk.hidQ hLW9
  have hlenLW9 : Hid (LW9.length = 25) := hlW9
  clear hLW9 hlW9
  replace B_w : Hid (Below w.heap.size w W9) := B_w.out.trans (hbW9.mono B_w.out.size)
  replace B_W4 : Hid (Below W4.heap.size W4 W9) := B_W4.out.trans (hbW9.mono B_W4.out.size)
  clear hbW9
  have HRl := Wk.hidQ hRW9
  clear hRW9
  have HLl : Hid (LW9 = lB false X Y) := by show _ = _; rw [HLW9.out, HLW8.out, HLW7.out, HLW6.out]; rfl
  have B_W9 : Hid (Below W9.heap.size W9 W9) := Below.refl _ _
  have HS1 : Hid (parseS LW4 1 21 = .bad 5 175) := by show _ = _; rw [HLp.out, pB_read hX hY, if_neg nn, must_x f1]; rfl
  have HS2 : Hid (parseS LW9 1 25 = .bad 9 175) := by show _ = _; rw [HLl.out, lB_read hX hY, must_x f1]; rfl
  have hPa := parse17_any (HRp.out.later B_W4.out) (by omega) (HE.out.later B_w.out) (md := 1) (mb := 21) (D := 1) (lim := 21) (by decide) (by decide)
  rw [show (1 : Int).toNat = 1 from rfl, HS1.out] at hPa
  go_wp2_with fail
  refine hPa.mono ?_
  rintro e W10 ⟨g1, rfl, hF, hbW10⟩
  clear hPa
  have HF1 := Wk.hidQ hF
  clear hF
  replace B_w : Hid (Below w.heap.size w W10) := B_w.out.trans (hbW10.mono B_w.out.size)
  replace B_W4 : Hid (Below W4.heap.size W4 W10) := B_W4.out.trans (hbW10.mono B_W4.out.size)
  replace B_W9 : Hid (Below W9.heap.size W9 W10) := B_W9.out.trans (hbW10.mono B_W9.out.size)
  clear hbW10
  have B_W10 : Hid (Below W10.heap.size W10 W10) := Below.refl _ _
  unfold zg
  obtain ⟨X10, hX10⟩ : ∃ X10, X10 = W10.alloc (.cells #[.int .i64 0, .slice none 0 0, .slice none 0 0, .slice none 0 0] 31) := ⟨_, rfl⟩
  have HX10 : Hid (W10.alloc (.cells #[.int .i64 0, .slice none 0 0, .slice none 0 0, .slice none 0 0] 31) = X10) := hX10.symm
  have hbX10 : Below W10.heap.size W10 X10 := by rw [hX10]; exact alloc_below _
  have GX10 : Hid (X10.heap[W10.heap.size]? = some (.cells #[.int .i64 0, .slice none 0 0, .slice none 0 0, .slice none 0 0] 31 (0, 0))) := by rw [hX10]; exact heap_alloc_new _ _
  replace B_w : Hid (Below w.heap.size w X10) := B_w.out.trans (hbX10.mono B_w.out.size)
  replace B_W4 : Hid (Below W4.heap.size W4 X10) := B_W4.out.trans (hbX10.mono B_W4.out.size)
  replace B_W9 : Hid (Below W9.heap.size W9 X10) := B_W9.out.trans (hbX10.mono B_W9.out.size)
  replace B_W10 : Hid (Below W10.heap.size W10 X10) := B_W10.out.trans (hbX10.mono B_W10.out.size)
  clear hX10 hbX10
  go_upto_region 7 with (fail)
  rw [HX10.out]
  have B_X10 : Hid (Below X10.heap.size X10 X10) := Below.refl _ _
  have hPa := parse17_any (HRl.out.later B_W9.out) (by omega) (HE.out.later B_w.out) (md := 1) (mb := 25) (D := 1) (lim := 25) (by decide) (by decide)
  rw [show (1 : Int).toNat = 1 from rfl, HS2.out] at hPa
  go_wp2_with fail
  refine hPa.mono ?_
  rintro e W11 ⟨g2, rfl, hF, hbW11⟩
  clear hPa
  have HF2 := Wk.hidQ hF
  clear hF
  replace B_w : Hid (Below w.heap.size w W11) := B_w.out.trans (hbW11.mono B_w.out.size)
  replace B_W4 : Hid (Below W4.heap.size W4 W11) := B_W4.out.trans (hbW11.mono B_W4.out.size)
  replace B_W9 : Hid (Below W9.heap.size W9 W11) := B_W9.out.trans (hbW11.mono B_W9.out.size)
  replace B_W10 : Hid (Below W10.heap.size W10 W11) := B_W10.out.trans (hbW11.mono B_W10.out.size)
  replace B_X10 : Hid (Below X10.heap.size X10 W11) := B_X10.out.trans (hbW11.mono B_X10.out.size)
  clear hbW11
  have B_W11 : Hid (Below W11.heap.size W11 W11) := Below.refl _ _
  unfold zg
  obtain ⟨X11, hX11⟩ : ∃ X11, X11 = W11.alloc (.cells #[.int .i64 0, .slice none 0 0, .slice none 0 0, .slice none 0 0] 31) := ⟨_, rfl⟩
  have HX11 : Hid (W11.alloc (.cells #[.int .i64 0, .slice none 0 0, .slice none 0 0, .slice none 0 0] 31) = X11) := hX11.symm
  have hbX11 : Below W11.heap.size W11 X11 := by rw [hX11]; exact alloc_below _
  have GX11 : Hid (X11.heap[W11.heap.size]? = some (.cells #[.int .i64 0, .slice none 0 0, .slice none 0 0, .slice none 0 0] 31 (0, 0))) := by rw [hX11]; exact heap_alloc_new _ _
  replace B_w : Hid (Below w.heap.size w X11) := B_w.out.trans (hbX11.mono B_w.out.size)
  replace B_W4 : Hid (Below W4.heap.size W4 X11) := B_W4.out.trans (hbX11.mono B_W4.out.size)
  replace B_W9 : Hid (Below W9.heap.size W9 X11) := B_W9.out.trans (hbX11.mono B_W9.out.size)
  replace B_W10 : Hid (Below W10.heap.size W10 X11) := B_W10.out.trans (hbX11.mono B_W10.out.size)
  replace B_X10 : Hid (Below X10.heap.size X10 X11) := B_X10.out.trans (hbX11.mono B_X10.out.size)
  replace B_W11 : Hid (Below W11.heap.size W11 X11) := B_W11.out.trans (hbX11.mono B_W11.out.size)
  clear hX11 hbX11
  go_upto_region 8 with (fail)
  rw [HX11.out]
  have B_X11 : Hid (Below X11.heap.size X11 X11) := Below.refl _ _
  have hAl := alive17_any (HE.out.later B_w.out)
  go_wp2_with fail
  refine hAl.mono ?_
  rintro e W12 ⟨rfl, hb12⟩
  clear hAl
  replace B_w : Hid (Below w.heap.size w W12) := B_w.out.trans (hb12.mono B_w.out.size)
  replace B_W4 : Hid (Below W4.heap.size W4 W12) := B_W4.out.trans (hb12.mono B_W4.out.size)
  replace B_W9 : Hid (Below W9.heap.size W9 W12) := B_W9.out.trans (hb12.mono B_W9.out.size)
  replace B_W10 : Hid (Below W10.heap.size W10 W12) := B_W10.out.trans (hb12.mono B_W10.out.size)
  replace B_X10 : Hid (Below X10.heap.size X10 W12) := B_X10.out.trans (hb12.mono B_X10.out.size)
  replace B_W11 : Hid (Below W11.heap.size W11 W12) := B_W11.out.trans (hb12.mono B_W11.out.size)
  replace B_X11 : Hid (Below X11.heap.size X11 W12) := B_X11.out.trans (hb12.mono B_X11.out.size)
  clear hb12
  have ux : Ar.U (X : Int) := by unfold Ar.U; omega
  have uy : Ar.U (Y : Int) := by unfold Ar.U; omega
  have hfx := Ar.field_and ux
  have hfy := Ar.field_and uy
  have hmx := Ar.size_bits ux
  have hmy := Ar.size_bits uy
  have dx := ef_fin hX
  have dy := ef_fin hY
  have ex := mg_nan hX
  have ey := mg_nan hY
  rw [f1] at dx
  replace dx : (Ar.ef (X : Int) == 2047) = true := dx
  obtain ⟨F2, hF2⟩ : ∃ F2, F2 = finB Y := ⟨_, rfl⟩
  rw [← hF2] at dy
  clear hF2
  obtain ⟨NX, hNX⟩ : ∃ NX, NX = nanB X := ⟨_, rfl⟩
  obtain ⟨NY, hNY⟩ : ∃ NY, NY = nanB Y := ⟨_, rfl⟩
  have nn2 : ¬ (NX = true ∧ NY = true) := by rw [hNX, hNY]; exact nn
  rw [← hNX] at ex
  rw [← hNY] at ey
  clear hNX hNY nn
  generalize Ar.ef (X : Int) = EX at *
  generalize Ar.ef (Y : Int) = EY at *
  generalize Ar.mg (X : Int) = MX at *
  generalize Ar.mg (Y : Int) = MY at *
  clear ux uy
  cases F2 <;> cases NX <;> cases NY <;> (first | (exact absurd ⟨rfl, rfl⟩ nn2) | skip)
  all_goals
    have hTo := told_yes (HF2.out.later B_W11.out) (HE.out.later B_w.out) (by decide)
    skip
    go_wp2_with fail
    refine hTo.mono ?_
    rintro e W13 ⟨rfl, hb13⟩
    clear hTo
    replace B_w : Hid (Below w.heap.size w W13) := B_w.out.trans (hb13.mono B_w.out.size)
    replace B_W4 : Hid (Below W4.heap.size W4 W13) := B_W4.out.trans (hb13.mono B_W4.out.size)
    replace B_W9 : Hid (Below W9.heap.size W9 W13) := B_W9.out.trans (hb13.mono B_W9.out.size)
    replace B_W10 : Hid (Below W10.heap.size W10 W13) := B_W10.out.trans (hb13.mono B_W10.out.size)
    replace B_X10 : Hid (Below X10.heap.size X10 W13) := B_X10.out.trans (hb13.mono B_X10.out.size)
    replace B_W11 : Hid (Below W11.heap.size W11 W13) := B_W11.out.trans (hb13.mono B_W11.out.size)
    replace B_X11 : Hid (Below X11.heap.size X11 W13) := B_X11.out.trans (hb13.mono B_X11.out.size)
    clear hb13
    have hTo := told_yes (HF1.out.later B_W10.out) (HE.out.later B_w.out) (by decide)
    go_wp2_with fail
    refine hTo.mono ?_
    rintro e W14 ⟨rfl, hb14⟩
    clear hTo
    replace B_w : Hid (Below w.heap.size w W14) := B_w.out.trans (hb14.mono B_w.out.size)
    replace B_W4 : Hid (Below W4.heap.size W4 W14) := B_W4.out.trans (hb14.mono B_W4.out.size)
    replace B_W9 : Hid (Below W9.heap.size W9 W14) := B_W9.out.trans (hb14.mono B_W9.out.size)
    replace B_W10 : Hid (Below W10.heap.size W10 W14) := B_W10.out.trans (hb14.mono B_W10.out.size)
    replace B_X10 : Hid (Below X10.heap.size X10 W14) := B_X10.out.trans (hb14.mono B_X10.out.size)
    replace B_W11 : Hid (Below W11.heap.size W11 W14) := B_W11.out.trans (hb14.mono B_W11.out.size)
    replace B_X11 : Hid (Below X11.heap.size X11 W14) := B_X11.out.trans (hb14.mono B_X11.out.size)
    clear hb14
    go_wp2
    go_ret
    exact ⟨rfl, B_w.out⟩
set_option maxHeartbeats 6400000 in
set_option maxRecDepth 100000 in
theorem coords17_Dfalse {w : World} {X Y : Nat} (hX : X < 18446744073709551616) (hY : Y < 18446744073709551616) (f1 : finB X = true) (f2 : finB Y = false) (hE : ErrVar w) :
    Calls Tryz.prog 3 #[.int .u64 (X : Int), .int .u64 (Y : Int), .bool false] w fun e w' => e = .returned (.bool true) ∧ Below w.heap.size w w' := by
  have B_w : Hid (Below w.heap.size w w) := Below.refl _ _
  have HE := Wk.hidQ hE
  clear hE
  go_enter Tryz.func3, Tryz.ntmps3
  obtain ⟨V1, hV1⟩ : ∃ V1, V1 = w.alloc (.cells #[.int .u8 0] 5) := ⟨_, rfl⟩
  have HV1 : Hid (w.alloc (.cells #[.int .u8 0] 5) = V1) := hV1.symm
  have hbV1 : Below w.heap.size w V1 := by rw [hV1]; exact alloc_below _
  have hRV1 : Rb V1 (some ⟨w.heap.size, 0, none⟩) 1 1 [0] := by rw [hV1]; exact rb_lone w 0
  replace B_w : Hid (Below w.heap.size w V1) := B_w.out.trans (hbV1.mono B_w.out.size)
  clear hV1 hbV1
  have hPu := put32_any (V := 1) (little := false) hRV1 (by omega) (by decide)
  rw [show ((1 : Nat) : Int) = 1 from rfl] at hPu
  go_wp2_with fail
  rw [HV1.out]
  refine hPu.mono ?_
  rintro e W2 ⟨vW2, rfl, hO, hbW2⟩
  obtain ⟨aW2, cW2, rfl, hRW2⟩ := hO.row
  clear hPu hO 
  obtain ⟨LW2, hLW2⟩ : ∃ L, L = ([0] ++ ord 4 1 false) := ⟨_, rfl⟩
  rw [← hLW2] at hRW2 ⊢
  have hlW2 : LW2.length = 5 := by rw [hLW2]; simp [ord_len]
  rw [hlW2] at hRW2 ⊢
  have HLW2 := Wk.hidQ hLW2
  have hlenLW2 : Hid (LW2.length = 5) := hlW2
  clear hLW2 hlW2
  replace B_w : Hid (Below w.heap.size w W2) := B_w.out.trans (hbW2.mono B_w.out.size)
  clear hbW2
  have hPu := put64_any (V := X) (little := false) hRW2 (by omega) (by rw [show (256 : Nat) ^ 8 = 18446744073709551616 by decide]; exact hX)
  go_wp2_with fail
  refine hPu.mono ?_
  rintro e W3 ⟨vW3, rfl, hO, hbW3⟩
  obtain ⟨aW3, cW3, rfl, hRW3⟩ := hO.row
  clear hPu hO hRW2
  obtain ⟨LW3, hLW3⟩ : ∃ L, L = (LW2 ++ ord 8 X false) := ⟨_, rfl⟩
  rw [← hLW3] at hRW3 ⊢
  have hlW3 : LW3.length = 13 := by rw [hLW3]; rw [List.length_append, hlenLW2.out, ord_len]
  rw [hlW3] at hRW3 ⊢
  have HLW3 := Wk.hidQ hLW3
  have hlenLW3 : Hid (LW3.length = 13) := hlW3
  clear hLW3 hlW3
  replace B_w : Hid (Below w.heap.size w W3) := B_w.out.trans (hbW3.mono B_w.out.size)
  clear hbW3
  have hPu := put64_any (V := Y) (little := false) hRW3 (by omega) (by rw [show (256 : Nat) ^ 8 = 18446744073709551616 by decide]; exact hY)
  go_wp2_with fail
  refine hPu.mono ?_
  rintro e W4 ⟨vW4, rfl, hO, hbW4⟩
  obtain ⟨aW4, cW4, rfl, hRW4⟩ := hO.row
  clear hPu hO hRW3
  obtain ⟨LW4, hLW4⟩ : ∃ L, L = (LW3 ++ ord 8 Y false) := ⟨_, rfl⟩
  rw [← hLW4] at hRW4 ⊢
  have hlW4 : LW4.length = 21 := by rw [hLW4]; rw [List.length_append, hlenLW3.out, ord_len]
  rw [hlW4] at hRW4 ⊢
  have HLW4 := Wk.hidQ hLW4
  have hlenLW4 : Hid (LW4.length = 21) := hlW4
  clear hLW4 hlW4
  replace B_w : Hid (Below w.heap.size w W4) := B_w.out.trans (hbW4.mono B_w.out.size)
  clear hbW4
  have HRp := Wk.hidQ hRW4
  clear hRW4
  have HLp : Hid (LW4 = pB false X Y) := by show _ = _; rw [HLW4.out, HLW3.out, HLW2.out]; rfl
  have B_W4 : Hid (Below W4.heap.size W4 W4) := Below.refl _ _
  obtain ⟨V5, hV5⟩ : ∃ V5, V5 = W4.alloc (.cells #[.int .u8 0] 5) := ⟨_, rfl⟩
  have HV5 : Hid (W4.alloc (.cells #[.int .u8 0] 5) = V5) := hV5.symm
  have hbV5 : Below W4.heap.size W4 V5 := by rw [hV5]; exact alloc_below _
  have hRV5 : Rb V5 (some ⟨W4.heap.size, 0, none⟩) 1 1 [0] := by rw [hV5]; exact rb_lone W4 0
  replace B_w : Hid (Below w.heap.size w V5) := B_w.out.trans (hbV5.mono B_w.out.size)
  replace B_W4 : Hid (Below W4.heap.size W4 V5) := B_W4.out.trans (hbV5.mono B_W4.out.size)
  clear hV5 hbV5
  have hPu := put32_any (V := 2) (little := false) hRV5 (by omega) (by decide)
  rw [show ((2 : Nat) : Int) = 2 from rfl] at hPu
  go_wp2_with fail
  rw [HV5.out]
  refine hPu.mono ?_
  rintro e W6 ⟨vW6, rfl, hO, hbW6⟩
  obtain ⟨aW6, cW6, rfl, hRW6⟩ := hO.row
  clear hPu hO 
  obtain ⟨LW6, hLW6⟩ : ∃ L, L = ([0] ++ ord 4 2 false) := ⟨_, rfl⟩
  rw [← hLW6] at hRW6 ⊢
  have hlW6 : LW6.length = 5 := by rw [hLW6]; simp [ord_len]
  rw [hlW6] at hRW6 ⊢
  have HLW6 := Wk.hidQ hLW6
  have hlenLW6 : Hid (LW6.length = 5) := hlW6
  clear hLW6 hlW6
  replace B_w : Hid (Below w.heap.size w W6) := B_w.out.trans (hbW6.mono B_w.out.size)
  replace B_W4 : Hid (Below W4.heap.size W4 W6) := B_W4.out.trans (hbW6.mono B_W4.out.size)
  clear hbW6
  have hPu := put32_any (V := 1) (little := false) hRW6 (by omega) (by decide)
  rw [show ((1 : Nat) : Int) = 1 from rfl] at hPu
  go_wp2_with fail
  refine hPu.mono ?_
  rintro e W7 ⟨vW7, rfl, hO, hbW7⟩
  obtain ⟨aW7, cW7, rfl, hRW7⟩ := hO.row
  clear hPu hO hRW6
  obtain ⟨LW7, hLW7⟩ : ∃ L, L = (LW6 ++ ord 4 1 false) := ⟨_, rfl⟩
  rw [← hLW7] at hRW7 ⊢
  have hlW7 : LW7.length = 9 := by rw [hLW7]; rw [List.length_append, hlenLW6.out, ord_len]
  rw [hlW7] at hRW7 ⊢
  have HLW7 := Wk.hidQ hLW7
  have hlenLW7 : Hid (LW7.length = 9) := hlW7
  clear hLW7 hlW7
  replace B_w : Hid (Below w.heap.size w W7) := B_w.out.trans (hbW7.mono B_w.out.size)
  replace B_W4 : Hid (Below W4.heap.size W4 W7) := B_W4.out.trans (hbW7.mono B_W4.out.size)
  clear hbW7
  have hPu := put64_any (V := X) (little := false) hRW7 (by omega) (by rw [show (256 : Nat) ^ 8 = 18446744073709551616 by decide]; exact hX)
  go_wp2_with fail
  refine hPu.mono ?_
  rintro e W8 ⟨vW8, rfl, hO, hbW8⟩
  obtain ⟨aW8, cW8, rfl, hRW8⟩ := hO.row
  clear hPu hO hRW7
  obtain ⟨LW8, hLW8⟩ : ∃ L, L = (LW7 ++ ord 8 X false) := ⟨_, rfl⟩
  rw [← hLW8] at hRW8 ⊢
  have hlW8 : LW8.length = 17 := by rw [hLW8]; rw [List.length_append, hlenLW7.out, ord_len]
  rw [hlW8] at hRW8 ⊢
  have HLW8 := Wk.hidQ hLW8
  have hlenLW8 : Hid (LW8.length = 17) := hlW8
  clear hLW8 hlW8
  replace B_w : Hid (Below w.heap.size w W8) := B_w.out.trans (hbW8.mono B_w.out.size)
  replace B_W4 : Hid (Below W4.heap.size W4 W8) := B_W4.out.trans (hbW8.mono B_W4.out.size)
  clear hbW8
  have hPu := put64_any (V := Y) (little := false) hRW8 (by omega) (by rw [show (256 : Nat) ^ 8 = 18446744073709551616 by decide]; exact hY)
  go_wp2_with fail
  refine hPu.mono ?_
  rintro e W9 ⟨vW9, rfl, hO, hbW9⟩
  obtain ⟨aW9, cW9, rfl, hRW9⟩ := hO.row
  clear hPu hO hRW8
  obtain ⟨LW9, hLW9⟩ : ∃ L, L = (LW8 ++ ord 8 Y false) := ⟨_, rfl⟩
  rw [← hLW9] at hRW9 ⊢
  have hlW9 : LW9.length = 25 := by rw [hLW9]; rw [List.length_append, hlenLW8.out, ord_len]
  rw [hlW9] at hRW9 ⊢
  have HLW9 := Wk.hidQ hLW9
  have hlenLW9 : Hid (LW9.length = 25) := hlW9
  clear hLW9 hlW9
  replace B_w : Hid (Below w.heap.size w W9) := B_w.out.trans (hbW9.mono B_w.out.size)
  replace B_W4 : Hid (Below W4.heap.size W4 W9) := B_W4.out.trans (hbW9.mono B_W4.out.size)
  clear hbW9
  have HRl := Wk.hidQ hRW9
  clear hRW9
  have HLl : Hid (LW9 = lB false X Y) := by show _ = _; rw [HLW9.out, HLW8.out, HLW7.out, HLW6.out]; rfl
  have B_W9 : Hid (Below W9.heap.size W9 W9) := Below.refl _ _
  have HS1 : Hid (parseS LW4 1 21 = .bad 13 175) := by show _ = _; rw [HLp.out, pB_read hX hY, if_neg (fun q => by rw [fin_not_nan f1] at q; cases q.1), must_y f1 f2]; rfl
  have HS2 : Hid (parseS LW9 1 25 = .bad 17 175) := by show _ = _; rw [HLl.out, lB_read hX hY, must_y f1 f2]; rfl
  have hPa := parse17_any (HRp.out.later B_W4.out) (by omega) (HE.out.later B_w.out) (md := 1) (mb := 21) (D := 1) (lim := 21) (by decide) (by decide)
  rw [show (1 : Int).toNat = 1 from rfl, HS1.out] at hPa
  go_wp2_with fail
  refine hPa.mono ?_
  rintro e W10 ⟨g1, rfl, hF, hbW10⟩
  clear hPa
  have HF1 := Wk.hidQ hF
  clear hF
  replace B_w : Hid (Below w.heap.size w W10) := B_w.out.trans (hbW10.mono B_w.out.size)
  replace B_W4 : Hid (Below W4.heap.size W4 W10) := B_W4.out.trans (hbW10.mono B_W4.out.size)
  replace B_W9 : Hid (Below W9.heap.size W9 W10) := B_W9.out.trans (hbW10.mono B_W9.out.size)
  clear hbW10
  have B_W10 : Hid (Below W10.heap.size W10 W10) := Below.refl _ _
  unfold zg
  obtain ⟨X10, hX10⟩ : ∃ X10, X10 = W10.alloc (.cells #[.int .i64 0, .slice none 0 0, .slice none 0 0, .slice none 0 0] 31) := ⟨_, rfl⟩
  have HX10 : Hid (W10.alloc (.cells #[.int .i64 0, .slice none 0 0, .slice none 0 0, .slice none 0 0] 31) = X10) := hX10.symm
  have hbX10 : Below W10.heap.size W10 X10 := by rw [hX10]; exact alloc_below _
  have GX10 : Hid (X10.heap[W10.heap.size]? = some (.cells #[.int .i64 0, .slice none 0 0, .slice none 0 0, .slice none 0 0] 31 (0, 0))) := by rw [hX10]; exact heap_alloc_new _ _
  replace B_w : Hid (Below w.heap.size w X10) := B_w.out.trans (hbX10.mono B_w.out.size)
  replace B_W4 : Hid (Below W4.heap.size W4 X10) := B_W4.out.trans (hbX10.mono B_W4.out.size)
  replace B_W9 : Hid (Below W9.heap.size W9 X10) := B_W9.out.trans (hbX10.mono B_W9.out.size)
  replace B_W10 : Hid (Below W10.heap.size W10 X10) := B_W10.out.trans (hbX10.mono B_W10.out.size)
  clear hX10 hbX10
  go_upto_region 7 with (fail)
  rw [HX10.out]
  have B_X10 : Hid (Below X10.heap.size X10 X10) := Below.refl _ _
  have hPa := parse17_any (HRl.out.later B_W9.out) (by omega) (HE.out.later B_w.out) (md := 1) (mb := 25) (D := 1) (lim := 25) (by decide) (by decide)
  rw [show (1 : Int).toNat = 1 from rfl, HS2.out] at hPa
  go_wp2_with fail
  refine hPa.mono ?_
  rintro e W11 ⟨g2, rfl, hF, hbW11⟩
  clear hPa
  have HF2 := Wk.hidQ hF
  clear hF
  replace B_w : Hid (Below w.heap.size w W11) := B_w.out.trans (hbW11.mono B_w.out.size)
  replace B_W4 : Hid (Below W4.heap.size W4 W11) := B_W4.out.trans (hbW11.mono B_W4.out.size)
  replace B_W9 : Hid (Below W9.heap.size W9 W11) := B_W9.out.trans (hbW11.mono B_W9.out.size)
  replace B_W10 : Hid (Below W10.heap.size W10 W11) := B_W10.out.trans (hbW11.mono B_W10.out.size)
  replace B_X10 : Hid (Below X10.heap.size X10 W11) := B_X10.out.trans (hbW11.mono B_X10.out.size)
  clear hbW11
  have B_W11 : Hid (Below W11.heap.size W11 W11) := Below.refl _ _
  unfold zg
  obtain ⟨X11, hX11⟩ : ∃ X11, X11 = W11.alloc (.cells #[.int .i64 0, .slice none 0 0, .slice none 0 0, .slice none 0 0] 31) := ⟨_, rfl⟩
  have HX11 : Hid (W11.alloc (.cells #[.int .i64 0, .slice none 0 0, .slice none 0 0, .slice none 0 0] 31) = X11) := hX11.symm
  have hbX11 : Below W11.heap.size W11 X11 := by rw [hX11]; exact alloc_below _
  have GX11 : Hid (X11.heap[W11.heap.size]? = some (.cells #[.int .i64 0, .slice none 0 0, .slice none 0 0, .slice none 0 0] 31 (0, 0))) := by rw [hX11]; exact heap_alloc_new _ _
  replace B_w : Hid (Below w.heap.size w X11) := B_w.out.trans (hbX11.mono B_w.out.size)
  replace B_W4 : Hid (Below W4.heap.size W4 X11) := B_W4.out.trans (hbX11.mono B_W4.out.size)
  replace B_W9 : Hid (Below W9.heap.size W9 X11) := B_W9.out.trans (hbX11.mono B_W9.out.size)
  replace B_W10 : Hid (Below W10.heap.size W10 X11) := B_W10.out.trans (hbX11.mono B_W10.out.size)
  replace B_X10 : Hid (Below X10.heap.size X10 X11) := B_X10.out.trans (hbX11.mono B_X10.out.size)
  replace B_W11 : Hid (Below W11.heap.size W11 X11) := B_W11.out.trans (hbX11.mono B_W11.out.size)
  clear hX11 hbX11
  go_upto_region 8 with (fail)
  rw [HX11.out]
  have B_X11 : Hid (Below X11.heap.size X11 X11) := Below.refl _ _
  have hAl := alive17_any (HE.out.later B_w.out)
  go_wp2_with fail
  refine hAl.mono ?_
  rintro e W12 ⟨rfl, hb12⟩
  clear hAl
  replace B_w : Hid (Below w.heap.size w W12) := B_w.out.trans (hb12.mono B_w.out.size)
  replace B_W4 : Hid (Below W4.heap.size W4 W12) := B_W4.out.trans (hb12.mono B_W4.out.size)
  replace B_W9 : Hid (Below W9.heap.size W9 W12) := B_W9.out.trans (hb12.mono B_W9.out.size)
  replace B_W10 : Hid (Below W10.heap.size W10 W12) := B_W10.out.trans (hb12.mono B_W10.out.size)
  replace B_X10 : Hid (Below X10.heap.size X10 W12) := B_X10.out.trans (hb12.mono B_X10.out.size)
  replace B_W11 : Hid (Below W11.heap.size W11 W12) := B_W11.out.trans (hb12.mono B_W11.out.size)
  replace B_X11 : Hid (Below X11.heap.size X11 W12) := B_X11.out.trans (hb12.mono B_X11.out.size)
  clear hb12
  have ux : Ar.U (X : Int) := by unfold Ar.U; omega
  have uy : Ar.U (Y : Int) := by unfold Ar.U; omega
  have hfx := Ar.field_and ux
  have hfy := Ar.field_and uy
  have hmx := Ar.size_bits ux
  have hmy := Ar.size_bits uy
  have dx := ef_fin hX
  have dy := ef_fin hY
  have ex := mg_nan hX
  have ey := mg_nan hY
  rw [f1] at dx
  rw [f2] at dy
  rw [fin_not_nan f1] at ex
  replace dx : (Ar.ef (X : Int) == 2047) = false := dx
  replace dy : (Ar.ef (Y : Int) == 2047) = true := dy
  generalize Ar.ef (X : Int) = EX at *
  generalize Ar.ef (Y : Int) = EY at *
  generalize Ar.mg (X : Int) = MX at *
  generalize Ar.mg (Y : Int) = MY at *
  clear ux uy
  have hTo := told_yes (HF2.out.later B_W11.out) (HE.out.later B_w.out) (by decide)
  skip
  go_wp2_with fail
  refine hTo.mono ?_
  rintro e W13 ⟨rfl, hb13⟩
  clear hTo
  replace B_w : Hid (Below w.heap.size w W13) := B_w.out.trans (hb13.mono B_w.out.size)
  replace B_W4 : Hid (Below W4.heap.size W4 W13) := B_W4.out.trans (hb13.mono B_W4.out.size)
  replace B_W9 : Hid (Below W9.heap.size W9 W13) := B_W9.out.trans (hb13.mono B_W9.out.size)
  replace B_W10 : Hid (Below W10.heap.size W10 W13) := B_W10.out.trans (hb13.mono B_W10.out.size)
  replace B_X10 : Hid (Below X10.heap.size X10 W13) := B_X10.out.trans (hb13.mono B_X10.out.size)
  replace B_W11 : Hid (Below W11.heap.size W11 W13) := B_W11.out.trans (hb13.mono B_W11.out.size)
  replace B_X11 : Hid (Below X11.heap.size X11 W13) := B_X11.out.trans (hb13.mono B_X11.out.size)
  clear hb13
  have hTo := told_yes (HF1.out.later B_W10.out) (HE.out.later B_w.out) (by decide)
  go_wp2_with fail
  refine hTo.mono ?_
  rintro e W14 ⟨rfl, hb14⟩
  clear hTo
  replace B_w : Hid (Below w.heap.size w W14) := B_w.out.trans (hb14.mono B_w.out.size)
  replace B_W4 : Hid (Below W4.heap.size W4 W14) := B_W4.out.trans (hb14.mono B_W4.out.size)
  replace B_W9 : Hid (Below W9.heap.size W9 W14) := B_W9.out.trans (hb14.mono B_W9.out.size)
  replace B_W10 : Hid (Below W10.heap.size W10 W14) := B_W10.out.trans (hb14.mono B_W10.out.size)
  replace B_X10 : Hid (Below X10.heap.size X10 W14) := B_X10.out.trans (hb14.mono B_X10.out.size)
  replace B_W11 : Hid (Below W11.heap.size W11 W14) := B_W11.out.trans (hb14.mono B_W11.out.size)
  replace B_X11 : Hid (Below X11.heap.size X11 W14) := B_X11.out.trans (hb14.mono B_X11.out.size)
  clear hb14
  go_wp2
  go_ret
  exact ⟨rfl, B_w.out⟩
theorem coords_walk17 {w : World} {x y : Int} {b2 : Bool} (hx : 0 ≤ x ∧ x < 18446744073709551616) (hy : 0 ≤ y ∧ y < 18446744073709551616) (hE : ErrVar w) :
    Calls Tryz.prog 3 #[.int .u64 x, .int .u64 y, .bool b2] w fun e w' => e = .returned (.bool true) ∧ Below w.heap.size w w' := by
  obtain ⟨X, rfl⟩ : ∃ X : Nat, x = (X : Int) := ⟨x.toNat, by omega⟩
  obtain ⟨Y, rfl⟩ : ∃ Y : Nat, y = (Y : Int) := ⟨y.toNat, by omega⟩
  have hX : X < 18446744073709551616 := by omega
  have hY : Y < 18446744073709551616 := by omega
  have nf : ∀ Z : Nat, nanB Z = true → finB Z = false := fun Z h => by
    cases e : finB Z with
    | false => rfl
    | true => rw [fin_not_nan e] at h; cases h
  by_cases f1 : finB X = true
  · by_cases f2 : finB Y = true
    · cases b2
      · exact coords17_Afalse hX hY f1 f2 hE
      · exact coords17_Atrue hX hY f1 f2 hE
    · have f2 : finB Y = false := by simpa using f2
      cases b2
      · exact coords17_Dfalse hX hY f1 f2 hE
      · exact coords17_Dtrue hX hY f1 f2 hE
  · have f1 : finB X = false := by simpa using f1
    by_cases nn : nanB X = true ∧ nanB Y = true
    · cases b2
      · exact coords17_Bfalse hX hY f1 (nf Y nn.2) nn hE
      · exact coords17_Btrue hX hY f1 (nf Y nn.2) nn hE
    · cases b2
      · exact coords17_Cfalse hX hY f1 nn hE
      · exact coords17_Ctrue hX hY f1 nn hE
end Go.Proofs.YtgobnjeankjkjaaGreatDoor

