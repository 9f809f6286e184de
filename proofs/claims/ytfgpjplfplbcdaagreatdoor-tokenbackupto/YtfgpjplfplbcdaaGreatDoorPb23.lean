import Derived.Deep.RegionWith
import Derived.Below
import Derived.BigQuiet
import Derived.ChangeOld
import Derived.Deep.CutRange
import Derived.Deep.LoopGhost
import Derived.Deep.QuietTactic
import Derived.Deep.RegionHeld3
import Derived.Deep.WholeRow
import Derived.KernelRfl
import Derived.LaidEql
import Derived.Laws.AppendOwn
import Derived.Laws.BitsAllLaws
import Derived.Laws.CopyRow
import Derived.Laws.EntriesVeiled
import Derived.Laws.Externs
import Derived.Laws.IdiomCopy
import Derived.Laws.IdiomRangeMap
import Derived.Laws.RangeString
import Derived.Laws.ResultCell
import Derived.Laws.Runes
import Derived.Laws.Strings3
import Derived.Lib.AsciiSet
import Derived.Lib.AtoiErrMem
import Derived.Lib.BufferRead
import Derived.Lib.Bytealg
import Derived.Lib.ConvBytes
import Derived.Lib.IndexBytes
import Derived.Lib.Strings
import Derived.Lib.TrimByte
import Derived.Lib.Walk
import Derived.OpenShut
import Derived.OwnWalk
import Derived.ProofKit
import Derived.RowKitTokens
import Derived.Shelf.Strconv.Clone
import Derived.Shelf.Strings.OnBuilder
import Derived.ShutString
import Derived.Stop.Asserts
import Derived.WalkKit
import Derived.WalkLawsBesides
import Derived.WalkSpells
import Derived.Test.YtfgpjplfplbcdaaGreatDoorPb19
import Derived.Test.YtfgpjplfplbcdaaGreatDoorPb22
/- Layer 18: the document's reader. -/
namespace Go.Proofs.YtfgpjplfplbcdaaGreatDoor
open Go.ChangeShapes Go.WideShapes Go.ChangeAt Go.RowKit
open Lx Tk
set_option linter.unusedVariables false
theorem below_via {a W1 W2 wX : World} (hX : Below W2.heap.size W2 wX) (h : Below a.heap.size a W1) (e : W2.heap = W1.heap) (eo : W2.os = W1.os) (et : W2.tape = W1.tape) (ep : W2.output = W1.output) : Below a.heap.size a wX := by
  have h2 : Below a.heap.size a W2 := ⟨eo.trans h.os, et.trans h.tape, ep.trans h.output, by rw [e]; exact h.size, fun i hi => by rw [e]; exact h.block i hi⟩
  exact h2.trans (hX.mono h2.size)
namespace Tk
def RrS (w : World) (g : Nat) (s : ByteArray) (k : Nat) : Prop := k ≤ s.size ∧ Bk w g 99 #[.string s, .int .i64 (k : Int)]
theorem RrS.later {w w' : World} {g k : Nat} {s : ByteArray} (h : RrS w g s k) (hb : Below w.heap.size w w') : RrS w' g s k := ⟨h.1, h.2.later hb⟩
theorem RrS.tn {w w' : World} {g k x : Nat} {s : ByteArray} (h : RrS w g s k) (hT : Tn x w w') (hx : g ≠ x) : RrS w' g s k := ⟨h.1, Bk.tn9 h.2 hT hx⟩
/-- what the document's Next answers -/
def RnR (w : World) (g : Nat) (s : ByteArray) (k : Nat) (e : Ending) (w' : World) : Prop :=
  e = .returned (.tuple #[.agg (ctA k (cutR (s.data.toList.drop k))), .int .i64 (ctC0 (cutR (s.data.toList.drop k))), .int .i64 (ctW k (cutR (s.data.toList.drop k)))]) ∧ RrS w' g s (nxK k (cutR (s.data.toList.drop k))) ∧ Tn g w w'
end Tk
set_option maxRecDepth 100000 in
theorem rnew18_any (s : ByteArray) (w : World) :
    Calls Tryz.prog 32 #[.string s] w fun e w' => e = .returned (.pointer (some ⟨w.heap.size, 0, none⟩)) ∧ RrS w' w.heap.size s 0 ∧ Below w.heap.size w w' := by
  have b := Bk.new w 99 #[.string s, .int .i64 ((0 : Nat) : Int)]
  go_enter Tryz.func32, Tryz.ntmps32
  go_wp2
  go_ret
  exact ⟨rfl, ⟨Nat.zero_le _, b⟩, (Below.refl _ w).alloc (Nat.le_refl _) _⟩
set_option maxHeartbeats 3200000 in
set_option maxRecDepth 100000 in
theorem rnext18_any {w : World} {g k : Nat} {s : ByteArray} (hs : s.size ≤ 2000000) (h : RrS w g s k) :
    Calls Tryz.prog 33 #[.pointer (some ⟨g, 0, none⟩)] w (RnR w g s k) := by
  obtain ⟨hk, hB⟩ := h
  have hgl := hB.lt
  have cA := fun w => at18_any s k hs hk w
  unfold AtR at cA
  obtain ⟨b1, b2, b3, b5, b8, b6, b4, b7, b9, eA⟩ := ctA_form k (cutR (s.data.toList.drop k))
  have hle := nxK_le hk
  unfold RnR
  rw [eA] at cA ⊢
  have b0 := Bk.new w 32 zero9
  have hb0 : Below w.heap.size w (w.alloc (.cells zero9 32)) := (Below.refl _ w).alloc (Nat.le_refl _) _
  have hB0 := hB.later hb0
  have hcl : ∀ wX, Below (w.alloc (.cells zero9 32)).heap.size (w.alloc (.cells zero9 32)) wX → Bk wX g 99 #[.string s, .int .i64 (k : Int)] ∧ Bk wX w.heap.size 32 zero9 ∧ Below w.heap.size w wX := fun wX h => ⟨hB0.later h, b0.later h, hb0.trans (h.mono hb0.size)⟩
  have p0 : w.cell? ⟨g, 0, none⟩ = some (.string s) := hB.cell 0 rfl
  have p1 : w.cell? ⟨g, 1, none⟩ = some (.int .i64 (k : Int)) := hB.cell 1 rfl
  have ne1 : ¬ g = w.heap.size := by omega
  have ne2 : ¬ w.heap.size = g := by omega
  have hA5 : Bk ((w.alloc (.cells zero9 32)).alloc (.cells zero9 32)) (w.heap.size + 1) 32 zero9 := by
    have := Bk.new (w.alloc (.cells zero9 32)) 32 zero9
    rwa [alloc_size18] at this
  have hA0 : Below w.heap.size w ((w.alloc (.cells zero9 32)).alloc (.cells zero9 32)) := below_more hb0 _
  have hAB := hB.later hA0
  have hA2 : Bk ((w.alloc (.cells zero9 32)).alloc (.cells zero9 32)) w.heap.size 32 zero9 := Bk.more b0 _
  have HA : Hid (Bk ((w.alloc (.cells zero9 32)).alloc (.cells zero9 32)) (w.heap.size + 1) 32 zero9 ∧ Below w.heap.size w ((w.alloc (.cells zero9 32)).alloc (.cells zero9 32)) ∧ Bk ((w.alloc (.cells zero9 32)).alloc (.cells zero9 32)) g 99 #[.string s, .int .i64 (k : Int)] ∧ Bk ((w.alloc (.cells zero9 32)).alloc (.cells zero9 32)) w.heap.size 32 zero9) := ⟨hA5, hA0, hAB, hA2⟩
  have HB : Hid (Bk (w.alloc (.cells zero9 32)) g 99 #[.string s, .int .i64 (k : Int)] ∧ Bk (w.alloc (.cells zero9 32)) w.heap.size 32 zero9 ∧ Below w.heap.size w (w.alloc (.cells zero9 32))) := ⟨hB0, b0, hb0⟩
  clear hB b0 hb0 hB0 hA5 hA0 hAB hA2 hcl
  by_cases hkd : (cutR (s.data.toList.drop k)).kind = -1
  · have e1 : ctC0 (cutR (s.data.toList.drop k)) = 180 := if_pos hkd
    have e4 : nxK k (cutR (s.data.toList.drop k)) = k := if_pos hkd
    rw [e1] at cA ⊢
    rw [e4]
    generalize ctW k (cutR (s.data.toList.drop k)) = P at *
    clear e1 e4 hkd eA hle
    go_enter Tryz.func33, Tryz.ntmps33
    go_wp2_with fail
    go_region_with (go_at_call 44; refine (cA _).mono ?_; rintro e wX ⟨rfl, hbX⟩; (try (have B5 : Bk wX (w.heap.size + 1) 32 zero9 := Bk.later (by exact HA.out.1) hbX; have v0 := B5.cell 0 rfl; have h0 := B5.frozen 0; have v1 := B5.cell 1 rfl; have h1 := B5.frozen 1; have v2 := B5.cell 2 rfl; have h2 := B5.frozen 2; have v3 := B5.cell 3 rfl; have h3 := B5.frozen 3; have v4 := B5.cell 4 rfl; have h4 := B5.frozen 4; have v5 := B5.cell 5 rfl; have h5 := B5.frozen 5; have v6 := B5.cell 6 rfl; have h6 := B5.frozen 6; have v7 := B5.cell 7 rfl; have h7 := B5.frozen 7; have v8 := B5.cell 8 rfl; have h8 := B5.frozen 8)))
    all_goals clear cA
    all_goals first
    | (have hA := HA.out
       have B5 : Bk wX (w.heap.size + 1) 32 zero9 := Bk.later (by exact hA.1) hbX
       have B2 : Bk wX w.heap.size 32 zero9 := Bk.later (by exact hA.2.2.2) hbX
       have BR : Bk wX g 99 #[.string s, .int .i64 (k : Int)] := Bk.later (by exact hA.2.2.1) hbX
       have hbB := below_via hbX hA.2.1 rfl rfl rfl rfl
       have hlt := B5.lt
       have C5 := Bk.all9 B5 (.int .i64 b1) (.int .i64 b2) (.int .i64 b3) (.string b4) (.int .i64 b5) (.bool b6) (.string b7) (.int .i64 b8) (.string b9)
       have hT5 := Tn.all9 wX (w.heap.size + 1) (.int .i64 b1) (.int .i64 b2) (.int .i64 b3) (.string b4) (.int .i64 b5) (.bool b6) (.string b7) (.int .i64 b8) (.string b9)
       have C2 := Bk.tn9 B2 hT5 (by omega)
       have CR := Bk.tn9 BR hT5 (by omega)
       have hbC := Tn.below hbB hT5 (by omega) (Nat.le_refl _)
       clear v0 h0 v1 h1 v2 h2 v3 h3 v4 h4 v5 h5 v6 h6 v7 h7 v8 h8 B5 B2 BR hbB hbX hT5 hlt hA HA HB
       generalize ((((((((wX.setCell ⟨w.heap.size + 1, 0, none⟩ (.int .i64 b1)).setCell ⟨w.heap.size + 1, 1, none⟩ (.int .i64 b2)).setCell ⟨w.heap.size + 1, 2, none⟩ (.int .i64 b3)).setCell ⟨w.heap.size + 1, 3, none⟩ (.string b4)).setCell ⟨w.heap.size + 1, 4, none⟩ (.int .i64 b5)).setCell ⟨w.heap.size + 1, 5, none⟩ (.bool b6)).setCell ⟨w.heap.size + 1, 6, none⟩ (.string b7)).setCell ⟨w.heap.size + 1, 7, none⟩ (.int .i64 b8)).setCell ⟨w.heap.size + 1, 8, none⟩ (.string b9) = W at *
       obtain ⟨T5, hT5⟩ : ∃ T5, T5 = w.heap.size + 1 := ⟨_, rfl⟩
       rw [← hT5] at C5 ⊢
       have hne : T5 ≠ w.heap.size := by omega
       have hne' : w.heap.size ≠ T5 := by omega
       have hgT : g ≠ T5 := by omega
       clear hT5
       have y0 : W.cell? ⟨T5, 0, none⟩ = some (.int .i64 b1) := C5.cell 0 rfl
       have y1 : W.cell? ⟨T5, 1, none⟩ = some (.int .i64 b2) := C5.cell 1 rfl
       have y2 : W.cell? ⟨T5, 2, none⟩ = some (.int .i64 b3) := C5.cell 2 rfl
       have y3 : W.cell? ⟨T5, 3, none⟩ = some (.string b4) := C5.cell 3 rfl
       have y4 : W.cell? ⟨T5, 4, none⟩ = some (.int .i64 b5) := C5.cell 4 rfl
       have y5 : W.cell? ⟨T5, 5, none⟩ = some (.bool b6) := C5.cell 5 rfl
       have y6 : W.cell? ⟨T5, 6, none⟩ = some (.string b7) := C5.cell 6 rfl
       have y7 : W.cell? ⟨T5, 7, none⟩ = some (.int .i64 b8) := C5.cell 7 rfl
       have y8 : W.cell? ⟨T5, 8, none⟩ = some (.string b9) := C5.cell 8 rfl
       have z0 := C2.cell 0 rfl
       have f0 := C2.frozen 0
       have z1 := C2.cell 1 rfl
       have f1 := C2.frozen 1
       have z2 := C2.cell 2 rfl
       have f2 := C2.frozen 2
       have z3 := C2.cell 3 rfl
       have f3 := C2.frozen 3
       have z4 := C2.cell 4 rfl
       have f4 := C2.frozen 4
       have z5 := C2.cell 5 rfl
       have f5 := C2.frozen 5
       have z6 := C2.cell 6 rfl
       have f6 := C2.frozen 6
       have z7 := C2.cell 7 rfl
       have f7 := C2.frozen 7
       have z8 := C2.cell 8 rfl
       have f8 := C2.frozen 8
       have HC2 : Hid _ := C2
       have HCR : Hid _ := CR
       clear C5 C2 CR p0 p1
       go_wp2
       have hT9 := Tn.all9 W w.heap.size (.int .i64 b1) (.int .i64 b2) (.int .i64 b3) (.string b4) (.int .i64 b5) (.bool b6) (.string b7) (.int .i64 b8) (.string b9)
       refine bodyPost_ret (results_c2 rfl _ _ w.heap.size 32 _ _ rfl (Bk.all9 HC2.out _ _ _ _ _ _ _ _ _) Tryz.underlying32 rfl (by kernel_rfl)) rfl ⟨rfl, ⟨hk, Bk.tn9 HCR.out hT9 (by omega)⟩, ?_⟩
       exact Tn.of_below (Tn.below hbC hT9 (Nat.le_refl _) (Nat.le_refl _)))
    | (have hB := HB.out
       have B2 : Bk wX w.heap.size 32 zero9 := Bk.later (by exact hB.2.1) hbX
       have BR : Bk wX g 99 #[.string s, .int .i64 (k : Int)] := Bk.later (by exact hB.1) hbX
       have hbB := below_via hbX hB.2.2 rfl rfl rfl rfl
       have hlt2 := B2.lt
       have hltR := BR.lt
       have C5 := Bk.new wX 32 #[.int .i64 b1, .int .i64 b2, .int .i64 b3, .string b4, .int .i64 b5, .bool b6, .string b7, .int .i64 b8, .string b9]
       have C2 := Bk.more B2 (.cells #[.int .i64 b1, .int .i64 b2, .int .i64 b3, .string b4, .int .i64 b5, .bool b6, .string b7, .int .i64 b8, .string b9] 32)
       have CR := Bk.more BR (.cells #[.int .i64 b1, .int .i64 b2, .int .i64 b3, .string b4, .int .i64 b5, .bool b6, .string b7, .int .i64 b8, .string b9] 32)
       have hbC := below_more hbB (.cells #[.int .i64 b1, .int .i64 b2, .int .i64 b3, .string b4, .int .i64 b5, .bool b6, .string b7, .int .i64 b8, .string b9] 32)
       clear B2 BR hbB hbX hB HA HB
       generalize wX.alloc (.cells #[.int .i64 b1, .int .i64 b2, .int .i64 b3, .string b4, .int .i64 b5, .bool b6, .string b7, .int .i64 b8, .string b9] 32) = W at *
       obtain ⟨T5, hT5⟩ : ∃ T5, T5 = wX.heap.size := ⟨_, rfl⟩
       rw [← hT5] at C5 ⊢
       have hne : T5 ≠ w.heap.size := by omega
       have hne' : w.heap.size ≠ T5 := by omega
       have hgT : g ≠ T5 := by omega
       clear hT5
       have y0 : W.cell? ⟨T5, 0, none⟩ = some (.int .i64 b1) := C5.cell 0 rfl
       have y1 : W.cell? ⟨T5, 1, none⟩ = some (.int .i64 b2) := C5.cell 1 rfl
       have y2 : W.cell? ⟨T5, 2, none⟩ = some (.int .i64 b3) := C5.cell 2 rfl
       have y3 : W.cell? ⟨T5, 3, none⟩ = some (.string b4) := C5.cell 3 rfl
       have y4 : W.cell? ⟨T5, 4, none⟩ = some (.int .i64 b5) := C5.cell 4 rfl
       have y5 : W.cell? ⟨T5, 5, none⟩ = some (.bool b6) := C5.cell 5 rfl
       have y6 : W.cell? ⟨T5, 6, none⟩ = some (.string b7) := C5.cell 6 rfl
       have y7 : W.cell? ⟨T5, 7, none⟩ = some (.int .i64 b8) := C5.cell 7 rfl
       have y8 : W.cell? ⟨T5, 8, none⟩ = some (.string b9) := C5.cell 8 rfl
       have z0 := C2.cell 0 rfl
       have f0 := C2.frozen 0
       have z1 := C2.cell 1 rfl
       have f1 := C2.frozen 1
       have z2 := C2.cell 2 rfl
       have f2 := C2.frozen 2
       have z3 := C2.cell 3 rfl
       have f3 := C2.frozen 3
       have z4 := C2.cell 4 rfl
       have f4 := C2.frozen 4
       have z5 := C2.cell 5 rfl
       have f5 := C2.frozen 5
       have z6 := C2.cell 6 rfl
       have f6 := C2.frozen 6
       have z7 := C2.cell 7 rfl
       have f7 := C2.frozen 7
       have z8 := C2.cell 8 rfl
       have f8 := C2.frozen 8
       have HC2 : Hid _ := C2
       have HCR : Hid _ := CR
       clear C5 C2 CR p0 p1
       go_wp2
       have hT9 := Tn.all9 W w.heap.size (.int .i64 b1) (.int .i64 b2) (.int .i64 b3) (.string b4) (.int .i64 b5) (.bool b6) (.string b7) (.int .i64 b8) (.string b9)
       refine bodyPost_ret (results_c2 rfl _ _ w.heap.size 32 _ _ rfl (Bk.all9 HC2.out _ _ _ _ _ _ _ _ _) Tryz.underlying32 rfl (by kernel_rfl)) rfl ⟨rfl, ⟨hk, Bk.tn9 HCR.out hT9 (by omega)⟩, ?_⟩
       exact Tn.of_below (Tn.below hbC hT9 (Nat.le_refl _) (Nat.le_refl _)))
  · have e1 : ctC0 (cutR (s.data.toList.drop k)) = 0 := if_neg hkd
    have e4 : nxK k (cutR (s.data.toList.drop k)) = k + (cutR (s.data.toList.drop k)).to := if_neg hkd
    have e5 := ctA_to hkd eA
    rw [e4] at hle
    rw [e1] at cA ⊢
    rw [e4]
    subst e5
    generalize ctW k (cutR (s.data.toList.drop k)) = P at *
    generalize k + (cutR (s.data.toList.drop k)).to = KK at *
    clear e1 e4 hkd eA
    go_enter Tryz.func33, Tryz.ntmps33
    go_wp2_with fail
    go_region_with (go_at_call 44; refine (cA _).mono ?_; rintro e wX ⟨rfl, hbX⟩; (try (have B5 : Bk wX (w.heap.size + 1) 32 zero9 := Bk.later (by exact HA.out.1) hbX; have v0 := B5.cell 0 rfl; have h0 := B5.frozen 0; have v1 := B5.cell 1 rfl; have h1 := B5.frozen 1; have v2 := B5.cell 2 rfl; have h2 := B5.frozen 2; have v3 := B5.cell 3 rfl; have h3 := B5.frozen 3; have v4 := B5.cell 4 rfl; have h4 := B5.frozen 4; have v5 := B5.cell 5 rfl; have h5 := B5.frozen 5; have v6 := B5.cell 6 rfl; have h6 := B5.frozen 6; have v7 := B5.cell 7 rfl; have h7 := B5.frozen 7; have v8 := B5.cell 8 rfl; have h8 := B5.frozen 8)))
    all_goals clear cA
    all_goals first
    | (have hA := HA.out
       have B5 : Bk wX (w.heap.size + 1) 32 zero9 := Bk.later (by exact hA.1) hbX
       have B2 : Bk wX w.heap.size 32 zero9 := Bk.later (by exact hA.2.2.2) hbX
       have BR : Bk wX g 99 #[.string s, .int .i64 (k : Int)] := Bk.later (by exact hA.2.2.1) hbX
       have hbB := below_via hbX hA.2.1 rfl rfl rfl rfl
       have hlt := B5.lt
       have C5 := Bk.all9 B5 (.int .i64 b1) (.int .i64 b2) (.int .i64 (KK : Int)) (.string b4) (.int .i64 b5) (.bool b6) (.string b7) (.int .i64 b8) (.string b9)
       have hT5 := Tn.all9 wX (w.heap.size + 1) (.int .i64 b1) (.int .i64 b2) (.int .i64 (KK : Int)) (.string b4) (.int .i64 b5) (.bool b6) (.string b7) (.int .i64 b8) (.string b9)
       have C2 := Bk.tn9 B2 hT5 (by omega)
       have CR := Bk.tn9 BR hT5 (by omega)
       have hbC := Tn.below hbB hT5 (by omega) (Nat.le_refl _)
       clear v0 h0 v1 h1 v2 h2 v3 h3 v4 h4 v5 h5 v6 h6 v7 h7 v8 h8 B5 B2 BR hbB hbX hT5 hlt hA HA HB
       generalize ((((((((wX.setCell ⟨w.heap.size + 1, 0, none⟩ (.int .i64 b1)).setCell ⟨w.heap.size + 1, 1, none⟩ (.int .i64 b2)).setCell ⟨w.heap.size + 1, 2, none⟩ (.int .i64 (KK : Int))).setCell ⟨w.heap.size + 1, 3, none⟩ (.string b4)).setCell ⟨w.heap.size + 1, 4, none⟩ (.int .i64 b5)).setCell ⟨w.heap.size + 1, 5, none⟩ (.bool b6)).setCell ⟨w.heap.size + 1, 6, none⟩ (.string b7)).setCell ⟨w.heap.size + 1, 7, none⟩ (.int .i64 b8)).setCell ⟨w.heap.size + 1, 8, none⟩ (.string b9) = W at *
       obtain ⟨T5, hT5⟩ : ∃ T5, T5 = w.heap.size + 1 := ⟨_, rfl⟩
       rw [← hT5] at C5 ⊢
       have hne : T5 ≠ w.heap.size := by omega
       have hne' : w.heap.size ≠ T5 := by omega
       have hgT : g ≠ T5 := by omega
       clear hT5
       have y0 : W.cell? ⟨T5, 0, none⟩ = some (.int .i64 b1) := C5.cell 0 rfl
       have y1 : W.cell? ⟨T5, 1, none⟩ = some (.int .i64 b2) := C5.cell 1 rfl
       have y2 : W.cell? ⟨T5, 2, none⟩ = some (.int .i64 (KK : Int)) := C5.cell 2 rfl
       have y3 : W.cell? ⟨T5, 3, none⟩ = some (.string b4) := C5.cell 3 rfl
       have y4 : W.cell? ⟨T5, 4, none⟩ = some (.int .i64 b5) := C5.cell 4 rfl
       have y5 : W.cell? ⟨T5, 5, none⟩ = some (.bool b6) := C5.cell 5 rfl
       have y6 : W.cell? ⟨T5, 6, none⟩ = some (.string b7) := C5.cell 6 rfl
       have y7 : W.cell? ⟨T5, 7, none⟩ = some (.int .i64 b8) := C5.cell 7 rfl
       have y8 : W.cell? ⟨T5, 8, none⟩ = some (.string b9) := C5.cell 8 rfl
       have z0 := C2.cell 0 rfl
       have f0 := C2.frozen 0
       have z1 := C2.cell 1 rfl
       have f1 := C2.frozen 1
       have z2 := C2.cell 2 rfl
       have f2 := C2.frozen 2
       have z3 := C2.cell 3 rfl
       have f3 := C2.frozen 3
       have z4 := C2.cell 4 rfl
       have f4 := C2.frozen 4
       have z5 := C2.cell 5 rfl
       have f5 := C2.frozen 5
       have z6 := C2.cell 6 rfl
       have f6 := C2.frozen 6
       have z7 := C2.cell 7 rfl
       have f7 := C2.frozen 7
       have z8 := C2.cell 8 rfl
       have f8 := C2.frozen 8
       have r1 : W.cell? ⟨g, 1, none⟩ = some (.int .i64 (k : Int)) := CR.cell 1 rfl
       have rf1 := CR.frozen 1
       have HC2 : Hid _ := C2
       have HCR : Hid _ := CR
       clear C5 C2 CR p0 p1
       go_wp2
       have hTr : Tn g W (W.setCell ⟨g, 1, none⟩ (.int .i64 (KK : Int))) := (Tn.refl g W).set 1 _
       have D2 : Bk (W.setCell ⟨g, 1, none⟩ (.int .i64 (KK : Int))) w.heap.size 32 zero9 := Bk.tn9 HC2.out hTr (by omega)
       have DR : Bk (W.setCell ⟨g, 1, none⟩ (.int .i64 (KK : Int))) g 99 #[.string s, .int .i64 (KK : Int)] := Bk.set HCR.out 1 _
       have hT9 := Tn.all9 (W.setCell ⟨g, 1, none⟩ (.int .i64 (KK : Int))) w.heap.size (.int .i64 b1) (.int .i64 b2) (.int .i64 (KK : Int)) (.string b4) (.int .i64 b5) (.bool b6) (.string b7) (.int .i64 b8) (.string b9)
       refine bodyPost_ret (results_c2 rfl _ _ w.heap.size 32 _ _ rfl (Bk.all9 D2 _ _ _ _ _ _ _ _ _) Tryz.underlying32 rfl (by kernel_rfl)) rfl ⟨rfl, ⟨hle, Bk.tn9 DR hT9 (by omega)⟩, ?_⟩
       have hsz := hTr.size
       have hszC := hbC.size
       refine ⟨hT9.os.trans (hTr.os.trans hbC.os), hT9.tape.trans (hTr.tape.trans hbC.tape), hT9.output.trans (hTr.output.trans hbC.output), Nat.le_trans hszC (Nat.le_trans hsz hT9.size), fun i hi hne2 => ?_⟩
       rw [hT9.block i (by omega) (by omega), hTr.block i (by omega) hne2, hbC.block i hi])
    | (have hB := HB.out
       have B2 : Bk wX w.heap.size 32 zero9 := Bk.later (by exact hB.2.1) hbX
       have BR : Bk wX g 99 #[.string s, .int .i64 (k : Int)] := Bk.later (by exact hB.1) hbX
       have hbB := below_via hbX hB.2.2 rfl rfl rfl rfl
       have hlt2 := B2.lt
       have hltR := BR.lt
       have C5 := Bk.new wX 32 #[.int .i64 b1, .int .i64 b2, .int .i64 (KK : Int), .string b4, .int .i64 b5, .bool b6, .string b7, .int .i64 b8, .string b9]
       have C2 := Bk.more B2 (.cells #[.int .i64 b1, .int .i64 b2, .int .i64 (KK : Int), .string b4, .int .i64 b5, .bool b6, .string b7, .int .i64 b8, .string b9] 32)
       have CR := Bk.more BR (.cells #[.int .i64 b1, .int .i64 b2, .int .i64 (KK : Int), .string b4, .int .i64 b5, .bool b6, .string b7, .int .i64 b8, .string b9] 32)
       have hbC := below_more hbB (.cells #[.int .i64 b1, .int .i64 b2, .int .i64 (KK : Int), .string b4, .int .i64 b5, .bool b6, .string b7, .int .i64 b8, .string b9] 32)
       clear B2 BR hbB hbX hB HA HB
       generalize wX.alloc (.cells #[.int .i64 b1, .int .i64 b2, .int .i64 (KK : Int), .string b4, .int .i64 b5, .bool b6, .string b7, .int .i64 b8, .string b9] 32) = W at *
       obtain ⟨T5, hT5⟩ : ∃ T5, T5 = wX.heap.size := ⟨_, rfl⟩
       rw [← hT5] at C5 ⊢
       have hne : T5 ≠ w.heap.size := by omega
       have hne' : w.heap.size ≠ T5 := by omega
       have hgT : g ≠ T5 := by omega
       clear hT5
       have y0 : W.cell? ⟨T5, 0, none⟩ = some (.int .i64 b1) := C5.cell 0 rfl
       have y1 : W.cell? ⟨T5, 1, none⟩ = some (.int .i64 b2) := C5.cell 1 rfl
       have y2 : W.cell? ⟨T5, 2, none⟩ = some (.int .i64 (KK : Int)) := C5.cell 2 rfl
       have y3 : W.cell? ⟨T5, 3, none⟩ = some (.string b4) := C5.cell 3 rfl
       have y4 : W.cell? ⟨T5, 4, none⟩ = some (.int .i64 b5) := C5.cell 4 rfl
       have y5 : W.cell? ⟨T5, 5, none⟩ = some (.bool b6) := C5.cell 5 rfl
       have y6 : W.cell? ⟨T5, 6, none⟩ = some (.string b7) := C5.cell 6 rfl
       have y7 : W.cell? ⟨T5, 7, none⟩ = some (.int .i64 b8) := C5.cell 7 rfl
       have y8 : W.cell? ⟨T5, 8, none⟩ = some (.string b9) := C5.cell 8 rfl
       have z0 := C2.cell 0 rfl
       have f0 := C2.frozen 0
       have z1 := C2.cell 1 rfl
       have f1 := C2.frozen 1
       have z2 := C2.cell 2 rfl
       have f2 := C2.frozen 2
       have z3 := C2.cell 3 rfl
       have f3 := C2.frozen 3
       have z4 := C2.cell 4 rfl
       have f4 := C2.frozen 4
       have z5 := C2.cell 5 rfl
       have f5 := C2.frozen 5
       have z6 := C2.cell 6 rfl
       have f6 := C2.frozen 6
       have z7 := C2.cell 7 rfl
       have f7 := C2.frozen 7
       have z8 := C2.cell 8 rfl
       have f8 := C2.frozen 8
       have r1 : W.cell? ⟨g, 1, none⟩ = some (.int .i64 (k : Int)) := CR.cell 1 rfl
       have rf1 := CR.frozen 1
       have HC2 : Hid _ := C2
       have HCR : Hid _ := CR
       clear C5 C2 CR p0 p1
       go_wp2
       have hTr : Tn g W (W.setCell ⟨g, 1, none⟩ (.int .i64 (KK : Int))) := (Tn.refl g W).set 1 _
       have D2 : Bk (W.setCell ⟨g, 1, none⟩ (.int .i64 (KK : Int))) w.heap.size 32 zero9 := Bk.tn9 HC2.out hTr (by omega)
       have DR : Bk (W.setCell ⟨g, 1, none⟩ (.int .i64 (KK : Int))) g 99 #[.string s, .int .i64 (KK : Int)] := Bk.set HCR.out 1 _
       have hT9 := Tn.all9 (W.setCell ⟨g, 1, none⟩ (.int .i64 (KK : Int))) w.heap.size (.int .i64 b1) (.int .i64 b2) (.int .i64 (KK : Int)) (.string b4) (.int .i64 b5) (.bool b6) (.string b7) (.int .i64 b8) (.string b9)
       refine bodyPost_ret (results_c2 rfl _ _ w.heap.size 32 _ _ rfl (Bk.all9 D2 _ _ _ _ _ _ _ _ _) Tryz.underlying32 rfl (by kernel_rfl)) rfl ⟨rfl, ⟨hle, Bk.tn9 DR hT9 (by omega)⟩, ?_⟩
       have hsz := hTr.size
       have hszC := hbC.size
       refine ⟨hT9.os.trans (hTr.os.trans hbC.os), hT9.tape.trans (hTr.tape.trans hbC.tape), hT9.output.trans (hTr.output.trans hbC.output), Nat.le_trans hszC (Nat.le_trans hsz hT9.size), fun i hi hne2 => ?_⟩
       rw [hT9.block i (by omega) (by omega), hTr.block i (by omega) hne2, hbC.block i hi])
end Go.Proofs.YtfgpjplfplbcdaaGreatDoor

