/- Layer 17: the document's Parse and Orders. -/
import Derived.Test.YtinagjljebbceaaDoorWkRh
namespace Go.Proofs.YtinagjljebbceaaDoor
open Go.ChangeShapes Go.WideShapes Go.ChangeAt Go.RowKit
open Ep Oc Tr Wk
set_option linter.unusedVariables false
def Rpa (w : World) (r : Rs (Tree × List Bool)) (e : Ending) (w' : World) : Prop :=
  Below w.heap.size w w' ∧ match r with
  | .ok tb k => ∃ u, e = .returned (.tuple #[u, .int .i64 0, .int .i64 (-1)]) ∧ TV (fun i => w.heap.size ≤ i ∧ i < w'.heap.size) w' u tb.1
  | .bad p cc => e = .returned (.tuple #[.agg #[.int .i64 0, .slice none 0 0, .slice none 0 0, .slice none 0 0], .int .i64 (cc : Int), .int .i64 (p : Int)]) ∧ (cc : Int) ≠ 0
def Ror (w : World) (r : Rs (Tree × List Bool)) (e : Ending) (w' : World) : Prop :=
  Below w.heap.size w w' ∧ match r with
  | .ok tb k => ∃ ov b, e = .returned (.tuple #[ov, .int .i64 0, .int .i64 (-1)]) ∧ Bo w' b ov tb.2
  | .bad p cc => e = .returned (.tuple #[.slice none 0 0, .int .i64 (cc : Int), .int .i64 (p : Int)]) ∧ (cc : Int) ≠ 0
set_option maxHeartbeats 6400000 in
set_option maxRecDepth 100000 in
theorem rparse17_any {w : World} {a : Option Addr} {n c : Nat} {D : Int} {md mb : Int} {r : Rs (Tree × List Bool)}
    (hWh : ∀ w1, Below w.heap.size w w1 → Calls Tryd.prog 28 #[.slice a n c, .int .i64 md, .int .i64 mb] w1 fun e w' => ∃ u g, e = .returned (.tuple #[u, .pointer (some ⟨g, 0, none⟩)]) ∧ Rwh w1 a n c D r u g w') :
    Calls Tryd.prog 14 #[.slice a n c, .int .i64 md, .int .i64 mb] w (Rpa w r) := by
  obtain ⟨W, hW0⟩ : ∃ W, W = w.alloc (.cells #[.int .i64 0, .slice none 0 0, .slice none 0 0, .slice none 0 0] 26) := ⟨_, rfl⟩
  have HW : Hid (w.alloc (.cells #[.int .i64 0, .slice none 0 0, .slice none 0 0, .slice none 0 0] 26) = W) := hW0.symm
  have hbW : Below w.heap.size w W := by rw [hW0]; exact alloc_below _
  obtain ⟨R, hR0⟩ : ∃ R, R = w.heap.size := ⟨_, rfl⟩
  have HR0 : Hid (R = w.heap.size) := hR0
  have gz : W.heap[R]? = some (.cells #[.int .i64 0, .slice none 0 0, .slice none 0 0, .slice none 0 0] 26 (0, 0)) := by rw [hW0, hR0]; exact heap_alloc_new _ _
  have hWh1 := hWh W hbW
  clear hW0 hR0 hWh
  go_enter Tryd.func14, Tryd.ntmps14
  go_upto_region 1 with (fail)
  rw [HW.out, ← HR0.out]
  go_wp2_with fail
  refine hWh1.mono ?_
  rintro e w2 ⟨u, g, rfl, hb2, w0, k, cd, pl, v, os, hS2, hw0, hm⟩
  clear hWh1
  cases r with
  | bad p cc =>
    obtain ⟨rfl, hcc, rfl, rfl⟩ := hm
    have t0 : ((cc : Int) != 0) = true := by simpa using hcc
    go_upto_region 2 with (fail)
    obtain ⟨w3, hw3⟩ : ∃ w3, w3 = w2.alloc (.cells #[.int .i64 0, .slice none 0 0, .slice none 0 0, .slice none 0 0] 26) := ⟨_, rfl⟩
    have hb3 : Below w2.heap.size w2 w3 := by rw [hw3]; exact alloc_below _
    rw [← hw3]
    clear hw3
    have hS3 := hS2.later hb3
    have hB3 := hb2.trans (hb3.mono hb2.size)
    have gz3 := (hB3.block _ (lt_of_block gz)).trans gz
    obtain ⟨y0, y1, y2, y3, y4, y5⟩ := hS3.cells
    have q0 := cell_of gz3 0
    have q1 := cell_of gz3 1
    have q2 := cell_of gz3 2
    have q3 := cell_of gz3 3
    simp only [List.getElem?_toArray, List.getElem?_cons_zero, List.getElem?_cons_succ] at q0 q1 q2 q3
    have z0 : w3.frozen? ⟨R, 0, none⟩ = false := by simp [World.frozen?, gz3]
    have z1 : w3.frozen? ⟨R, 1, none⟩ = false := by simp [World.frozen?, gz3]
    have z2 : w3.frozen? ⟨R, 2, none⟩ = false := by simp [World.frozen?, gz3]
    have z3 : w3.frozen? ⟨R, 3, none⟩ = false := by simp [World.frozen?, gz3]
    have HG3 := hidT gz3
    have HB3 := hidT hB3
    have gR : g ≠ R := fun e => by have := hS3.blk; rw [e, gz3] at this; cases this
    have nR : ¬ R = g := fun e => gR e.symm
    clear gz3 hB3 hS3 hb3 hb2 gz hS2
    go_upto_region 3 with (fail)
    go_region
    all_goals
      go_wp2
      obtain ⟨w8, hw8⟩ : ∃ w8, w8 = ((((w3.setCell ⟨R, 0, none⟩ (.int .i64 0)).setCell ⟨R, 1, none⟩ (.slice none 0 0)).setCell ⟨R, 2, none⟩ (.slice none 0 0)).setCell ⟨R, 3, none⟩ (.slice none 0 0)) := ⟨_, rfl⟩
      have hI8 : In R (R + 1) w3 w8 := by rw [hw8]; exact ((((In.refl _ _ _).set1 0 _).set1 1 _).set1 2 _).set1 3 _
      have b8 : w8.heap[R]? = some (.cells #[.int .i64 0, .slice none 0 0, .slice none 0 0, .slice none 0 0] 26 (0, 0)) := by rw [hw8]; exact set4_block HG3.out _ _ _ _
      rw [← hw8]
      obtain ⟨w9, hw9⟩ : ∃ w9, w9 = w8.drew := ⟨_, rfl⟩
      rw [← hw9]
      have hI9 : In R (R + 1) w3 w9 := by rw [hw9]; exact ⟨hI8.os, hI8.tape, hI8.output, hI8.size, hI8.block⟩
      have b9 : w9.heap[R]? = some (.cells #[.int .i64 0, .slice none 0 0, .slice none 0 0, .slice none 0 0] 26 (0, 0)) := by rw [hw9]; exact b8
      have r0 := cell_of b9 0
      have r1 := cell_of b9 1
      have r2 := cell_of b9 2
      have r3 := cell_of b9 3
      simp only [List.getElem?_toArray, List.getElem?_cons_zero, List.getElem?_cons_succ] at r0 r1 r2 r3
      have hR0 := HR0.out
      have hsW := hbW.size
      have hBf : Below w.heap.size w w9 := below_inn (hbW.trans (HB3.out.mono hbW.size)) hI9 (by omega) (by omega)
      refine bodyPost_ret (v := .tuple #[.agg #[.int .i64 0, .slice none 0 0, .slice none 0 0, .slice none 0 0], .int .i64 (cc : Int), .int .i64 (p : Int)]) (by simp [results, Tryd.results14, go_sem, r0, r1, r2, r3]) rfl ?_
      exact ⟨hBf, rfl, hcc⟩
  | ok tb k' =>
    obtain ⟨rfl, rfl, hT⟩ := hm
    have HT : Hid (TV (fun i => W.heap.size ≤ i ∧ i < w2.heap.size) w2 u tb.1) := hT
    obtain ⟨K, a1, n1, c1, a2, n2, c2, a3, n3, c3, rfl⟩ := agg_of hT
    clear hT
    go_upto_region 2 with (fail)
    obtain ⟨w3, hw3⟩ : ∃ w3, w3 = w2.alloc (.cells #[.int .i64 K, .slice a1 n1 c1, .slice a2 n2 c2, .slice a3 n3 c3] 26) := ⟨_, rfl⟩
    have hb3 : Below w2.heap.size w2 w3 := by rw [hw3]; exact alloc_below _
    have g10 : w3.heap[w2.heap.size]? = some (.cells #[.int .i64 K, .slice a1 n1 c1, .slice a2 n2 c2, .slice a3 n3 c3] 26 (0, 0)) := by rw [hw3]; exact heap_alloc_new _ _
    rw [← hw3]
    clear hw3
    obtain ⟨B9, hB9⟩ : ∃ B, B = w2.heap.size := ⟨_, rfl⟩
    rw [← hB9] at g10 ⊢
    have HB9 : Hid (B9 = w2.heap.size) := hB9
    clear hB9
    have hS3 := hS2.later hb3
    have hB3 := hb2.trans (hb3.mono hb2.size)
    have gz3 := (hB3.block _ (lt_of_block gz)).trans gz
    have HT3 : Hid (TV (fun i => W.heap.size ≤ i ∧ i < w2.heap.size) w3 (.agg #[.int .i64 K, .slice a1 n1 c1, .slice a2 n2 c2, .slice a3 n3 c3]) tb.1) := HT.out.below (Kp.of_below hb3 (fun i hi => hi.2))
    have m0 := cell_of g10 0
    have m1 := cell_of g10 1
    have m2 := cell_of g10 2
    have m3 := cell_of g10 3
    simp only [List.getElem?_toArray, List.getElem?_cons_zero, List.getElem?_cons_succ] at m0 m1 m2 m3
    have HRW : Hid (R < W.heap.size) := lt_of_block gz
    have HS3 := hidT hb3.size
    obtain ⟨y0, y1, y2, y3, y4, y5⟩ := hS3.cells
    have q0 := cell_of gz3 0
    have q1 := cell_of gz3 1
    have q2 := cell_of gz3 2
    have q3 := cell_of gz3 3
    simp only [List.getElem?_toArray, List.getElem?_cons_zero, List.getElem?_cons_succ] at q0 q1 q2 q3
    have z0 : w3.frozen? ⟨R, 0, none⟩ = false := by simp [World.frozen?, gz3]
    have z1 : w3.frozen? ⟨R, 1, none⟩ = false := by simp [World.frozen?, gz3]
    have z2 : w3.frozen? ⟨R, 2, none⟩ = false := by simp [World.frozen?, gz3]
    have z3 : w3.frozen? ⟨R, 3, none⟩ = false := by simp [World.frozen?, gz3]
    have HG3 := hidT gz3
    have HB3 := hidT hB3
    have gR : g ≠ R := fun e => by have := hS3.blk; rw [e, gz3] at this; cases this
    have nR : ¬ R = g := fun e => gR e.symm
    clear gz3 hB3 hS3 hb3 hb2 gz hS2
    go_wp2
    obtain ⟨w8, hw8⟩ : ∃ w8, w8 = ((((w3.setCell ⟨R, 0, none⟩ (.int .i64 K)).setCell ⟨R, 1, none⟩ (.slice a1 n1 c1)).setCell ⟨R, 2, none⟩ (.slice a2 n2 c2)).setCell ⟨R, 3, none⟩ (.slice a3 n3 c3)) := ⟨_, rfl⟩
    have hI8 : In R (R + 1) w3 w8 := by rw [hw8]; exact ((((In.refl _ _ _).set1 0 _).set1 1 _).set1 2 _).set1 3 _
    have b8 : w8.heap[R]? = some (.cells #[.int .i64 K, .slice a1 n1 c1, .slice a2 n2 c2, .slice a3 n3 c3] 26 (0, 0)) := by rw [hw8]; exact set4_block HG3.out _ _ _ _
    rw [← hw8]
    obtain ⟨w9, hw9⟩ : ∃ w9, w9 = w8 := ⟨_, rfl⟩
    rw [← hw9] at hI8 b8 ⊢
    have hI9 := hI8
    have b9 := b8
    have r0 := cell_of b9 0
    have r1 := cell_of b9 1
    have r2 := cell_of b9 2
    have r3 := cell_of b9 3
    simp only [List.getElem?_toArray, List.getElem?_cons_zero, List.getElem?_cons_succ] at r0 r1 r2 r3
    have hR0 := HR0.out
    have hsW := hbW.size
    have hBf : Below w.heap.size w w9 := below_inn (hbW.trans (HB3.out.mono hbW.size)) hI9 (by omega) (by omega)
    refine bodyPost_ret (v := .tuple #[.agg #[.int .i64 K, .slice a1 n1 c1, .slice a2 n2 c2, .slice a3 n3 c3], .int .i64 0, .int .i64 (-1)]) (by simp [results, Tryd.results14, go_sem, r0, r1, r2, r3]) rfl ?_
    have q1 := HRW.out
    have q2 := HS3.out
    refine ⟨hBf, _, rfl, (HT3.out.below (w' := w9) ⟨hI9.size, fun i hi => hI9.block i (by have := hi.2; omega) (by have := hi.1; omega)⟩).mono (fun i hi => ⟨by have := hi.1; omega, by have := hi.2; have := hI9.size; omega⟩)⟩
set_option maxHeartbeats 6400000 in
set_option maxRecDepth 100000 in
theorem rorders17_any {w : World} {a : Option Addr} {n c : Nat} {r : Rs (Tree × List Bool)}
    (hWh : Calls Tryd.prog 28 #[.slice a n c, .int .i64 256, .int .i64 65536] w fun e w' => ∃ u g, e = .returned (.tuple #[u, .pointer (some ⟨g, 0, none⟩)]) ∧ Rwh w a n c 256 r u g w') :
    Calls Tryd.prog 17 #[.slice a n c] w (Ror w r) := by
  go_enter Tryd.func17, Tryd.ntmps17
  go_wp2_with fail
  refine hWh.mono ?_
  rintro e w2 ⟨u, g, rfl, hb2, w0, k, cd, pl, v, os, hS2, hw0, hm⟩
  clear hWh
  cases r with
  | bad p cc =>
    obtain ⟨rfl, hcc, rfl, rfl⟩ := hm
    have t0 : ((cc : Int) != 0) = true := by simpa using hcc
    go_upto_region 2 with (fail)
    obtain ⟨w3, hw3⟩ : ∃ w3, w3 = w2.alloc (.cells #[.int .i64 0, .slice none 0 0, .slice none 0 0, .slice none 0 0] 26) := ⟨_, rfl⟩
    have hb3 : Below w2.heap.size w2 w3 := by rw [hw3]; exact alloc_below _
    rw [← hw3]
    clear hw3
    have hB3 := hb2.trans (hb3.mono hb2.size)
    obtain ⟨y0, y1, y2, y3, y4, y5⟩ := (hS2.later hb3).cells
    clear hS2 hb2 hb3
    go_wp2
    go_quiet (fail)
    have hB4 := below_drewN hB3 nq
    clear hB3
    go_wp2
    refine bodyPost_ret (v := .tuple #[.slice none 0 0, .int .i64 (cc : Int), .int .i64 (p : Int)]) (by simp [results, Tryd.results17, go_sem]) rfl ?_
    exact ⟨hB4, rfl, hcc⟩
  | ok tb k' =>
    obtain ⟨rfl, rfl, hT⟩ := hm
    obtain ⟨K, a1, n1, c1, a2, n2, c2, a3, n3, c3, rfl⟩ := agg_of hT
    go_upto_region 2 with (fail)
    obtain ⟨w3, hw3⟩ : ∃ w3, w3 = w2.alloc (.cells #[.int .i64 K, .slice a1 n1 c1, .slice a2 n2 c2, .slice a3 n3 c3] 26) := ⟨_, rfl⟩
    have hb3 : Below w2.heap.size w2 w3 := by rw [hw3]; exact alloc_below _
    rw [← hw3]
    clear hw3 hT
    have hB3 := hb2.trans (hb3.mono hb2.size)
    have hS3 := hS2.later hb3
    obtain ⟨y0, y1, y2, y3, y4, y5⟩ := hS3.cells
    have HBo := hidT hS3.row
    obtain ⟨va, vc, rfl, _⟩ := HBo.out.slice
    clear hS2 hS3 hb2 hb3
    go_wp2
    refine bodyPost_ret (v := .tuple #[.slice va tb.2.length vc, .int .i64 0, .int .i64 (-1)]) (by simp [results, Tryd.results17, go_sem]) rfl ?_
    exact ⟨hB3, _, _, rfl, HBo.out⟩
end Go.Proofs.YtinagjljebbceaaDoor
