/- Layer 17: Parse, Orders. -/
import Derived.Test.YtinagjljebbceaaDoorWkJ
namespace Go.Proofs.YtinagjljebbceaaDoor
open Go.ChangeShapes Go.WideShapes Go.ChangeAt Go.RowKit
open Ep Oc Tr Wk
set_option linter.unusedVariables false
def Ppa (w : World) (r : Rs (Tree × List Bool)) (e : Ending) (w' : World) : Prop :=
  match r with
  | .ok tb k => ∃ u, e = .returned (.tuple #[u, .nilIface]) ∧ Below w.heap.size w w' ∧ TV (fun i => w.heap.size ≤ i ∧ i < w'.heap.size) w' u tb.1
  | .bad p c => ∃ g, e = .returned (.tuple #[zg, .iface 111 (.pointer (some ⟨g, 0, none⟩))]) ∧ FaultAt w' g (p : Int) (c : Int) ∧ Below w.heap.size w w'
def Por (w : World) (r : Rs (Tree × List Bool)) (e : Ending) (w' : World) : Prop :=
  match r with
  | .ok tb k => ∃ ov, e = .returned (.tuple #[ov, .nilIface]) ∧ Below w.heap.size w w' ∧ Bo w' w.heap.size ov tb.2
  | .bad p c => ∃ g, e = .returned (.tuple #[.slice none 0 0, .iface 111 (.pointer (some ⟨g, 0, none⟩))]) ∧ FaultAt w' g (p : Int) (c : Int) ∧ Below w.heap.size w w'
theorem Wk.hidQ {p : Prop} (h : p) : Hid p := h
set_option maxHeartbeats 3200000 in
set_option maxRecDepth 100000 in
theorem parse17_any {w : World} {a : Option Addr} {n c : Nat} {l : List UInt8} (h : Rb w a n c l) (hn : n ≤ 100000000) (hE : ErrVar w) {md mb D : Int} {lim : Nat} (hD0 : D = min 256 md) (hlim : max 0 (min 65536 mb) = (lim : Int)) :
    Calls Tryd.prog 15 #[.slice a n c, .int .i64 md, .int .i64 mb] w (Ppa w (parseS l D.toNat lim)) := by
  obtain ⟨W, hW0⟩ : ∃ W, W = w.alloc (.cells #[.int .i64 0, .slice none 0 0, .slice none 0 0, .slice none 0 0] 26) := ⟨_, rfl⟩
  have hbW : Below w.heap.size w W := by rw [hW0]; exact alloc_below _
  have HW : Hid (w.alloc (.cells #[.int .i64 0, .slice none 0 0, .slice none 0 0, .slice none 0 0] 26) = W) := hW0.symm
  obtain ⟨R, hR0⟩ : ∃ R, R = w.heap.size := ⟨_, rfl⟩
  have HR0 : Hid (R = w.heap.size) := hR0
  have gz : W.heap[R]? = some (.cells #[.int .i64 0, .slice none 0 0, .slice none 0 0, .slice none 0 0] 26 (0, 0)) := by rw [hW0, hR0]; exact heap_alloc_new _ _
  have hlRW : R < W.heap.size := lt_of_block gz
  have hRd := read_any (h.later hbW) hn (hE.later hbW) hD0 hlim
  clear hW0 hR0 h hE hD0 hlim
  go_enter Tryd.func15, Tryd.ntmps15
  go_upto_region 1 with (fail)
  rw [HW.out, ← HR0.out]
  cases hp : parseS l D.toNat lim with
  | bad p cc =>
    rw [hp] at hRd
    go_wp2_with fail
    refine hRd.mono ?_
    rintro e w2 ⟨gf, rfl, hF, hb2⟩
    simp only [zg]
    have gz2 := (hb2.block _ (lt_of_block gz)).trans gz
    have HF := Wk.hidQ hF
    obtain ⟨wA, hwA⟩ : ∃ wA, wA = w2.alloc (.cells #[.int .i64 0, .slice none 0 0, .slice none 0 0, .slice none 0 0] 26) := ⟨_, rfl⟩
    have hbA : Below w2.heap.size w2 wA := by rw [hwA]; exact alloc_below _
    have gB : wA.heap[w2.heap.size]? = some (.cells #[.int .i64 0, .slice none 0 0, .slice none 0 0, .slice none 0 0] 26 (0, 0)) := by rw [hwA]; exact heap_alloc_new _ _
    have gzA := (hbA.block _ (lt_of_block gz2)).trans gz2
    have hlt2 : R < w2.heap.size := lt_of_block gz2
    obtain ⟨B2, hB2⟩ : ∃ B, B = w2.heap.size := ⟨_, rfl⟩
    have HB2 : Hid (w2.heap.size = B2) := hB2.symm
    rw [← hB2] at gB
    have HWA : Hid (w2.alloc (.cells #[.int .i64 0, .slice none 0 0, .slice none 0 0, .slice none 0 0] 26) = wA) := hwA.symm
    clear hwA hRd gz gz2 hF hB2
    have m0 := cell_of gB 0
    have m1 := cell_of gB 1
    have m2 := cell_of gB 2
    have m3 := cell_of gB 3
    have q0 := cell_of gzA 0
    have q1 := cell_of gzA 1
    have q2 := cell_of gzA 2
    have q3 := cell_of gzA 3
    simp only [List.getElem?_toArray, List.getElem?_cons_zero, List.getElem?_cons_succ] at m0 m1 m2 m3 q0 q1 q2 q3
    have z0 : wA.frozen? ⟨R, 0, none⟩ = false := by simp [World.frozen?, gzA]
    have z1 : wA.frozen? ⟨R, 1, none⟩ = false := by simp [World.frozen?, gzA]
    have z2 : wA.frozen? ⟨R, 2, none⟩ = false := by simp [World.frozen?, gzA]
    have z3 : wA.frozen? ⟨R, 3, none⟩ = false := by simp [World.frozen?, gzA]
    go_upto_region 2 with (fail)
    rw [HWA.out, HB2.out]
    go_wp2
    obtain ⟨w9, hw9⟩ : ∃ w9, w9 = ((((wA.setCell ⟨R, 0, none⟩ (.int .i64 0)).setCell ⟨R, 1, none⟩ (.slice none 0 0)).setCell ⟨R, 2, none⟩ (.slice none 0 0)).setCell ⟨R, 3, none⟩ (.slice none 0 0)) := ⟨_, rfl⟩
    have hI9 : In R (R + 1) wA w9 := by rw [hw9]; exact ((((In.refl _ _ _).set1 0 _).set1 1 _).set1 2 _).set1 3 _
    have b9 : w9.heap[R]? = some (.cells #[.int .i64 0, .slice none 0 0, .slice none 0 0, .slice none 0 0] 26 (0, 0)) := by rw [hw9]; exact set4_block gzA _ _ _ _
    rw [← hw9]
    have r0 := cell_of b9 0
    have r1 := cell_of b9 1
    have r2 := cell_of b9 2
    have r3 := cell_of b9 3
    simp only [List.getElem?_toArray, List.getElem?_cons_zero, List.getElem?_cons_succ] at r0 r1 r2 r3
    have hR0 := HR0.out
    have hsW := hbW.size
    have hBA : Below W.heap.size W wA := hb2.trans (hbA.mono hb2.size)
    have hBf : Below w.heap.size w w9 := below_inn (hbW.trans (hBA.mono hbW.size)) hI9 (by omega) (by omega)
    have hF9 : FaultAt w9 gf (p : Int) (cc : Int) := ((HF.out.later hbA).inn hI9 ((HF.out.later hbA).ne_gm gzA))
    refine bodyPost_ret (v := .tuple #[zg, .iface 111 (.pointer (some ⟨gf, 0, none⟩))]) (by simp [results, Tryd.results15, go_sem, r0, r1, r2, r3, zg]) rfl ?_
    unfold Ppa
    rw [hp]
    exact ⟨gf, rfl, hF9, hBf⟩
  | ok tb k =>
    rw [hp] at hRd
    obtain ⟨t, bs⟩ := tb
    go_wp2_with fail
    refine hRd.mono ?_
    rintro e w2 ⟨u, ov, rfl, hb2, hBo, hT⟩
    have HT : Hid (TV (fun i => W.heap.size ≤ i ∧ i < w2.heap.size) w2 u t) := hT
    obtain ⟨v1, v2, pa, pc, hu, hk9, hP1, hR1, hl9, hf9⟩ := HT.out.parts
    obtain ⟨a1, d1, e1⟩ := hP1.slc
    obtain ⟨a2, d2, e2⟩ := hR1.slc
    rw [e1, e2] at hu
    subst hu
    clear hT hP1 hR1 hl9 hf9 e1 e2 hk9 hBo
    generalize hK0 : t.1.kind = K0 at *
    generalize hL1 : t.1.line.length = L1 at *
    generalize hL2 : t.1.rings.length = L2 at *
    generalize hL3 : t.2.len = L3 at *
    clear hK0 hL1 hL2 hL3
    have gz2 := (hb2.block _ (lt_of_block gz)).trans gz
    have hF : True := trivial
    have HF := Wk.hidQ hF
    obtain ⟨wA, hwA⟩ : ∃ wA, wA = w2.alloc (.cells #[.int .i64 K0, .slice a1 L1 d1, .slice a2 L2 d2, .slice pa L3 pc] 26) := ⟨_, rfl⟩
    have hbA : Below w2.heap.size w2 wA := by rw [hwA]; exact alloc_below _
    have gB : wA.heap[w2.heap.size]? = some (.cells #[.int .i64 K0, .slice a1 L1 d1, .slice a2 L2 d2, .slice pa L3 pc] 26 (0, 0)) := by rw [hwA]; exact heap_alloc_new _ _
    have gzA := (hbA.block _ (lt_of_block gz2)).trans gz2
    have hlt2 : R < w2.heap.size := lt_of_block gz2
    obtain ⟨B2, hB2⟩ : ∃ B, B = w2.heap.size := ⟨_, rfl⟩
    have HB2 : Hid (w2.heap.size = B2) := hB2.symm
    rw [← hB2] at gB
    have HWA : Hid (w2.alloc (.cells #[.int .i64 K0, .slice a1 L1 d1, .slice a2 L2 d2, .slice pa L3 pc] 26) = wA) := hwA.symm
    clear hwA hRd gz gz2 hF hB2
    have m0 := cell_of gB 0
    have m1 := cell_of gB 1
    have m2 := cell_of gB 2
    have m3 := cell_of gB 3
    have q0 := cell_of gzA 0
    have q1 := cell_of gzA 1
    have q2 := cell_of gzA 2
    have q3 := cell_of gzA 3
    simp only [List.getElem?_toArray, List.getElem?_cons_zero, List.getElem?_cons_succ] at m0 m1 m2 m3 q0 q1 q2 q3
    have z0 : wA.frozen? ⟨R, 0, none⟩ = false := by simp [World.frozen?, gzA]
    have z1 : wA.frozen? ⟨R, 1, none⟩ = false := by simp [World.frozen?, gzA]
    have z2 : wA.frozen? ⟨R, 2, none⟩ = false := by simp [World.frozen?, gzA]
    have z3 : wA.frozen? ⟨R, 3, none⟩ = false := by simp [World.frozen?, gzA]
    go_upto_region 2 with (fail)
    rw [HWA.out, HB2.out]
    go_wp2
    obtain ⟨w9, hw9⟩ : ∃ w9, w9 = ((((wA.setCell ⟨R, 0, none⟩ (.int .i64 K0)).setCell ⟨R, 1, none⟩ (.slice a1 L1 d1)).setCell ⟨R, 2, none⟩ (.slice a2 L2 d2)).setCell ⟨R, 3, none⟩ (.slice pa L3 pc)) := ⟨_, rfl⟩
    have hI9 : In R (R + 1) wA w9 := by rw [hw9]; exact ((((In.refl _ _ _).set1 0 _).set1 1 _).set1 2 _).set1 3 _
    have b9 : w9.heap[R]? = some (.cells #[.int .i64 K0, .slice a1 L1 d1, .slice a2 L2 d2, .slice pa L3 pc] 26 (0, 0)) := by rw [hw9]; exact set4_block gzA _ _ _ _
    rw [← hw9]
    have r0 := cell_of b9 0
    have r1 := cell_of b9 1
    have r2 := cell_of b9 2
    have r3 := cell_of b9 3
    simp only [List.getElem?_toArray, List.getElem?_cons_zero, List.getElem?_cons_succ] at r0 r1 r2 r3
    have hR0 := HR0.out
    have hsW := hbW.size
    have hBA : Below W.heap.size W wA := hb2.trans (hbA.mono hb2.size)
    have hBf : Below w.heap.size w w9 := below_inn (hbW.trans (hBA.mono hbW.size)) hI9 (by omega) (by omega)
    refine bodyPost_ret (v := .tuple #[.agg #[.int .i64 K0, .slice a1 L1 d1, .slice a2 L2 d2, .slice pa L3 pc], .nilIface]) (by simp [results, Tryd.results15, go_sem, r0, r1, r2, r3]) rfl ?_
    have hlR : R < W.heap.size := hlRW
    unfold Ppa
    rw [hp]
    refine ⟨_, rfl, hBf, (HT.out.below (w' := w9) ⟨by have := hI9.size; have := hbA.size; omega, fun i hi => ?_⟩).mono (fun i hi => ⟨by have := hi.1; omega, by have := hi.2; have := hI9.size; have := hbA.size; omega⟩)⟩
    exact (hI9.block i (by have := hi.2; have := hbA.size; omega) (by have := hi.1; omega)).trans (hbA.block i hi.2)
set_option maxHeartbeats 3200000 in
set_option maxRecDepth 100000 in
theorem orders17_any {w : World} {a : Option Addr} {n c : Nat} {l : List UInt8} (h : Rb w a n c l) (hn : n ≤ 100000000) (hE : ErrVar w) :
    Calls Tryd.prog 18 #[.slice a n c] w (Por w (parseS l 256 65536)) := by
  have hRd := read_any h hn hE (md := 256) (mb := 65536) (D := 256) (lim := 65536) (by decide) (by decide)
  rw [show (256 : Int).toNat = 256 from rfl] at hRd
  clear h hE
  cases hp : parseS l 256 65536 with
  | bad p cc =>
    rw [hp] at hRd
    go_enter Tryd.func18, Tryd.ntmps18
    go_wp2_with fail
    refine hRd.mono ?_
    rintro e w2 ⟨gf, rfl, hF, hb2⟩
    simp only [zg]
    have hF2 := Wk.hidQ (hF.later (alloc_below (.cells #[.int .i64 0, .slice none 0 0, .slice none 0 0, .slice none 0 0] 26)))
    have hB2 : Below w.heap.size w (w2.alloc (.cells #[.int .i64 0, .slice none 0 0, .slice none 0 0, .slice none 0 0] 26)) := hb2.alloc hb2.size _
    clear hRd hF hb2
    go_wp2
    refine bodyPost_ret (v := .tuple #[.slice none 0 0, .iface 111 (.pointer (some ⟨gf, 0, none⟩))]) (by simp [results, Tryd.results18, go_sem]) rfl ?_
    exact ⟨gf, rfl, hF2.out, hB2⟩
  | ok tb k =>
    rw [hp] at hRd
    obtain ⟨t, bs⟩ := tb
    go_enter Tryd.func18, Tryd.ntmps18
    go_wp2_with fail
    refine hRd.mono ?_
    rintro e w2 ⟨u, ov, rfl, hb2, hBo, hT⟩
    have HT : Hid (TV (fun i => w.heap.size ≤ i ∧ i < w2.heap.size) w2 u t) := hT
    obtain ⟨v1, v2, pa, pc, hu, hk9, hP1, hR1, hl9, hf9⟩ := HT.out.parts
    obtain ⟨a1, d1, e1⟩ := hP1.slc
    obtain ⟨a2, d2, e2⟩ := hR1.slc
    rw [e1, e2] at hu
    subst hu
    clear hT hP1 hR1 hl9 hf9 e1 e2 hk9
    generalize hK0 : t.1.kind = K0 at *
    generalize hL1 : t.1.line.length = L1 at *
    generalize hL2 : t.1.rings.length = L2 at *
    generalize hL3 : t.2.len = L3 at *
    clear hK0 hL1 hL2 hL3
    have hB2 : Below w.heap.size w (w2.alloc (.cells #[.int .i64 K0, .slice a1 L1 d1, .slice a2 L2 d2, .slice pa L3 pc] 26)) := hb2.alloc hb2.size _
    have HBo : Hid (Bo (w2.alloc (.cells #[.int .i64 K0, .slice a1 L1 d1, .slice a2 L2 d2, .slice pa L3 pc] 26)) w.heap.size ov bs) := hBo.keep (fun b hb => (alloc_below _).block b (hBo.blk hb).2.1)
    clear hRd hBo hb2
    go_wp2
    refine bodyPost_ret (v := .tuple #[ov, .nilIface]) (by simp [results, Tryd.results18, go_sem]) rfl ?_
    exact ⟨ov, rfl, hB2, HBo.out⟩
end Go.Proofs.YtinagjljebbceaaDoor
