/- Layer 17: the document's Parse and Orders. -/
import Derived.Test.YtinagjljebbceaaDoorWkRg
namespace Go.Proofs.YtinagjljebbceaaDoor
open Go.ChangeShapes Go.WideShapes Go.ChangeAt Go.RowKit
open Ep Oc Tr Wk
set_option linter.unusedVariables false
theorem hidT {p : Prop} (h : p) : Hid p := h
/-- what the document's whole walk comes to -/
def Rwh (w : World) (a : Option Addr) (n c : Nat) (D : Int) (r : Rs (Tree × List Bool)) (u : Value) (g : Nat) (w' : World) : Prop :=
  Below w.heap.size w w' ∧ ∃ (w0 : World) (k : Nat) (cd pl : Int) (v : Value) (os : List Bool), RkS w0 w' g a n c D k cd pl v os ∧ w.heap.size ≤ w0.heap.size ∧ match r with
    | .ok tb k' => cd = 0 ∧ os = tb.2 ∧ TV (fun i => w.heap.size ≤ i ∧ i < w'.heap.size) w' u tb.1
    | .bad p cc => cd = (cc : Int) ∧ (cc : Int) ≠ 0 ∧ pl = (p : Int) ∧ u = .agg #[.int .i64 0, .slice none 0 0, .slice none 0 0, .slice none 0 0]
theorem agg_of {S : Nat → Prop} {w : World} {v : Value} {t : Tree} (h : TV S w v t) : ∃ K a1 n1 c1 a2 n2 c2 a3 n3 c3, v = .agg #[.int .i64 K, .slice a1 n1 c1, .slice a2 n2 c2, .slice a3 n3 c3] := by
  obtain ⟨v1, v2, pa, pc, rfl, hk9, hP1, hR1, hl9, hf9⟩ := h.parts
  obtain ⟨a1, d1, rfl⟩ := hP1.slc
  obtain ⟨a2, d2, rfl⟩ := hR1.slc
  exact ⟨_, _, _, _, _, _, _, _, _, _, rfl⟩
theorem wh_end {w w0 w8 w9 : World} {g R : Nat} {a : Option Addr} {n c : Nat} {D : Int} {k : Nat} {cd pl : Int} {v : Value} {os : List Bool} (h : RkS w0 w8 g a n c D k cd pl v os) (hI : In R (R + 1) w8 w9) (hR : R ≠ g) (hb : Below w.heap.size w w0) (hv : v.ownBlock ≠ some R) (hwR : w.heap.size ≤ R := by omega) : RkS w w9 g a n c D k cd pl v os := by
  have hs := hb.size
  refine ⟨below_inn (hb.trans (h.bel.mono hs)) hI (by omega) (by omega), (hI.block g h.lt (by omega)).trans h.blk, ?_, by have := h.lo; omega⟩
  have hr := h.row.keep (w' := w9) (fun b e => hI.block b (h.row.blk e).2.1 (by
    have : b ≠ R := fun q => hv (by rw [e, q])
    omega))
  rcases hr with q | ⟨g', cap, cur, h1, h2, h3⟩
  · exact Or.inl q
  · exact Or.inr ⟨g', cap, cur, h1, by omega, h3⟩
set_option maxHeartbeats 6400000 in
set_option maxRecDepth 100000 in
theorem rwhole_any {w : World} {a : Option Addr} {n c : Nat} {l : List UInt8} (h : Rb w a n c l) (hn : n ≤ 65536) {md mb D : Int} {lim : Nat} (hD0 : D = min 256 md) (hlim : max 0 (min 65536 mb) = (lim : Int))
    (hG : ∀ {w0 w1 : World} {g : Nat}, Rb w0 a n c l → RkS w0 w1 g a n c D 0 0 0 (.slice none 0 0) [] → Calls Tryd.prog 49 #[.pointer (some ⟨g, 0, none⟩), .int .i64 0, .int .i64 1] w1 (Rge w0 w1 g a n c D 0 (.slice none 0 0) [] (geomS l D.toNat 0 0))) :
    Calls Tryd.prog 28 #[.slice a n c, .int .i64 md, .int .i64 mb] w fun e w' => ∃ u g, e = .returned (.tuple #[u, .pointer (some ⟨g, 0, none⟩)]) ∧ Rwh w a n c D (parseS l D.toNat lim) u g w' := by
  have HL : Hid (l.length = n) := h.len
  have hc9 := h.2
  have hD9 : D ≤ 256 := by omega
  have HD := hidT hD0
  clear hD0
  obtain ⟨W, hW0⟩ : ∃ W, W = w.alloc (.cells #[.int .i64 0, .slice none 0 0, .slice none 0 0, .slice none 0 0] 26) := ⟨_, rfl⟩
  have HW : Hid (w.alloc (.cells #[.int .i64 0, .slice none 0 0, .slice none 0 0, .slice none 0 0] 26) = W) := hW0.symm
  have hbW : Below w.heap.size w W := by rw [hW0]; exact alloc_below _
  obtain ⟨R, hR0⟩ : ∃ R, R = w.heap.size := ⟨_, rfl⟩
  have HR0 : Hid (R = w.heap.size) := hR0
  have gz : W.heap[R]? = some (.cells #[.int .i64 0, .slice none 0 0, .slice none 0 0, .slice none 0 0] 26 (0, 0)) := by rw [hW0, hR0]; exact heap_alloc_new _ _
  have hrW := h.later hbW
  obtain ⟨W1, hW1⟩ : ∃ W1, W1 = W.alloc (.cells #[.slice a n c, .int .i64 0, .int .i64 D, .int .i64 0, .int .i64 0, .slice none 0 0] 80) := ⟨_, rfl⟩
  have hb1 : Below W.heap.size W W1 := by rw [hW1]; exact alloc_below _
  have hS1 : RkS W W1 W.heap.size a n c D 0 0 0 (.slice none 0 0) [] := ⟨hb1, by rw [hW1]; exact heap_alloc_new _ _, Or.inl ⟨rfl, rfl⟩, Nat.le_refl _⟩
  have HW1 : Hid (W.alloc (.cells #[.slice a n c, .int .i64 0, .int .i64 D, .int .i64 0, .int .i64 0, .slice none 0 0] 80) = W1) := hW1.symm
  clear hW0 hR0 h hW1
  go_enter Tryd.func28, Tryd.ntmps28
  go_upto_region 1 with (fail)
  rw [HW.out, ← HR0.out]
  go_cut [8] from 11 to 15 (fun x wx => x = .pointer (some ⟨W.heap.size, 0, none⟩) ∧ wx = W1)
  case first =>
    by_cases hmd : 256 ≤ md
    · have hDe : D = 256 := by rw [HD.out]; omega
      subst hDe
      go_wp2
      all_goals
        first
          | omega
          | (go_meet
             exact ⟨rfl, HW1.out⟩)
    · have hDe : D = md := by rw [HD.out]; omega
      subst hDe
      go_wp2
      all_goals
        first
          | omega
          | (go_meet
             exact ⟨rfl, HW1.out⟩)
  case rest =>
  obtain ⟨rfl, hwc⟩ := hcut
  rw [hwc]
  clear hwc wc
  go_upto_region 2 with (fail)
  go_cut [9] from 16 to 18 (fun x wx => x = .int .i64 (lim : Int) ∧ wx = W1)
  case first =>
    go_wp2
    all_goals
      go_meet
      exact ⟨by rw [← hlim]; congr 1; omega, rfl⟩
  case rest =>
  obtain ⟨rfl, hwc⟩ := hcut
  rw [hwc]
  clear hwc wc
  have HLim := hidT hlim
  clear hlim
  obtain ⟨g, hg0⟩ : ∃ g, g = W.heap.size := ⟨_, rfl⟩
  rw [← hg0] at hS1 ⊢
  have HG0 : Hid (g = W.heap.size) := hg0
  have hRg : R ≠ g ∧ R < W.heap.size := ⟨by have := lt_of_block gz; omega, lt_of_block gz⟩
  clear hg0
  by_cases hbig : lim < n
  · have t1 : decide ((n : Int) > (lim : Int)) = true := by simp; omega
    have HA : Hid (parseS l D.toNat lim = .bad lim 192) := by show parseS _ _ _ = _; unfold parseS; rw [if_pos (by rw [HL.out]; exact hbig)]
    have hF := rfault_any hS1 (lim : Int) 192
    clear hS1
    go_wp2_with fail
    refine hF.mono ?_
    rintro e w2 ⟨rfl, hS2, hC2⟩
    clear hF
    have gzX := (hS2.bel.block _ (lt_of_block gz)).trans gz
    obtain ⟨c0, x1, x2, x3, x4, x5⟩ := hS2.cells
    have q0 := cell_of gzX 0
    have q1 := cell_of gzX 1
    have q2 := cell_of gzX 2
    have q3 := cell_of gzX 3
    simp only [List.getElem?_toArray, List.getElem?_cons_zero, List.getElem?_cons_succ] at q0 q1 q2 q3
    have z0 : w2.frozen? ⟨R, 0, none⟩ = false := by simp [World.frozen?, gzX]
    have z1 : w2.frozen? ⟨R, 1, none⟩ = false := by simp [World.frozen?, gzX]
    have z2 : w2.frozen? ⟨R, 2, none⟩ = false := by simp [World.frozen?, gzX]
    have z3 : w2.frozen? ⟨R, 3, none⟩ = false := by simp [World.frozen?, gzX]
    have HSX := hidT hS2
    have HGX := hidT gzX
    clear hS2 gzX
    go_wp2
    obtain ⟨w9, hw9⟩ : ∃ w9, w9 = ((((w2.setCell ⟨R, 0, none⟩ (.int .i64 0)).setCell ⟨R, 1, none⟩ (.slice none 0 0)).setCell ⟨R, 2, none⟩ (.slice none 0 0)).setCell ⟨R, 3, none⟩ (.slice none 0 0)) := ⟨_, rfl⟩
    have hI9 : In R (R + 1) w2 w9 := by rw [hw9]; exact ((((In.refl _ _ _).set1 0 _).set1 1 _).set1 2 _).set1 3 _
    have b9 : w9.heap[R]? = some (.cells #[.int .i64 0, .slice none 0 0, .slice none 0 0, .slice none 0 0] 26 (0, 0)) := by rw [hw9]; exact set4_block HGX.out _ _ _ _
    rw [← hw9]
    have r0 := cell_of b9 0
    have r1 := cell_of b9 1
    have r2 := cell_of b9 2
    have r3 := cell_of b9 3
    simp only [List.getElem?_toArray, List.getElem?_cons_zero, List.getElem?_cons_succ] at r0 r1 r2 r3
    refine bodyPost_ret (v := .tuple #[.agg #[.int .i64 0, .slice none 0 0, .slice none 0 0, .slice none 0 0], .pointer (some ⟨g, 0, none⟩)]) (by simp [results, Tryd.results28, go_sem, r0, r1, r2, r3]) rfl ?_
    have hR0 := HR0.out
    have hsW := hbW.size
    have s9 := hI9.size
    have hBf : Below w.heap.size w w9 := below_inn (hbW.trans (HSX.out.bel.mono hbW.size)) hI9 (by omega) (by omega)
    have hvR := fun e => (HSX.out.row.blk (g := R) e).1
    have hS9 := wh_end HSX.out hI9 hRg.1 hbW (fun e => by have := hvR e; have := hRg.2; omega)
    refine ⟨_, g, rfl, hBf, w, _, _, _, _, _, hS9, Nat.le_refl _, ?_⟩
    rw [HA.out]
    exact ⟨rfl, by first | decide | exact hcc, rfl, rfl⟩
  · have t1 : decide ((n : Int) > (lim : Int)) = false := by simp; omega
    have HA : Hid (parseS l D.toNat lim = (geomS l D.toNat 0 0).bind fun r k => if k < n then .bad k 174 else .ok r k) := by
      show parseS _ _ _ = _
      unfold parseS
      rw [if_neg (by rw [HL.out]; exact hbig), HL.out]
    have hGe := hG hrW hS1
    clear hG hS1
    cases hg : geomS l D.toNat 0 0 with
    | bad p cc =>
      rw [hg] at hGe
      have HA2 : Hid (parseS l D.toNat lim = .bad p cc) := by show _ = _; rw [HA.out, hg]; rfl
      clear hg HA
      have HA := HA2
      go_wp2_with fail
      refine hGe.mono ?_
      rintro e w2 ⟨K, a1, n1, c1, a2, n2, c2, a3, n3, c3, k2, v2, os2, rfl, hS2, hcc, hC2, hv2⟩
      clear hGe
      have t0 : ((cc : Int) == 0) = false := by simpa using hcc
      have t0' : ((cc : Int) != 0) = true := by simpa using hcc
      go_upto_region 7 with (fail)
      obtain ⟨w3, hw3⟩ : ∃ w3, w3 = w2.alloc (.cells #[.int .i64 K, .slice a1 n1 c1, .slice a2 n2 c2, .slice a3 n3 c3] 26) := ⟨_, rfl⟩
      have hb3 : Below w2.heap.size w2 w3 := by rw [hw3]; exact alloc_below _
      have g10 : w3.heap[w2.heap.size]? = some (.cells #[.int .i64 K, .slice a1 n1 c1, .slice a2 n2 c2, .slice a3 n3 c3] 26 (0, 0)) := by rw [hw3]; exact heap_alloc_new _ _
      have hS3 := hS2.later hb3
      rw [← hw3]
      obtain ⟨B9, hB9⟩ : ∃ B, B = w2.heap.size := ⟨_, rfl⟩
      rw [← hB9] at g10 ⊢
      have HB9 : Hid (B9 = w2.heap.size) := hB9
      clear hw3 hB9
      have gzX := (hS3.bel.block _ (lt_of_block gz)).trans gz
      obtain ⟨c0, x1, x2, x3, x4, x5⟩ := hS3.cells
      have q0 := cell_of gzX 0
      have q1 := cell_of gzX 1
      have q2 := cell_of gzX 2
      have q3 := cell_of gzX 3
      simp only [List.getElem?_toArray, List.getElem?_cons_zero, List.getElem?_cons_succ] at q0 q1 q2 q3
      have z0 : w3.frozen? ⟨R, 0, none⟩ = false := by simp [World.frozen?, gzX]
      have z1 : w3.frozen? ⟨R, 1, none⟩ = false := by simp [World.frozen?, gzX]
      have z2 : w3.frozen? ⟨R, 2, none⟩ = false := by simp [World.frozen?, gzX]
      have z3 : w3.frozen? ⟨R, 3, none⟩ = false := by simp [World.frozen?, gzX]
      have HSX := hidT hS3
      have HGX := hidT gzX
      clear hS3 gzX
      go_wp2
      obtain ⟨w9, hw9⟩ : ∃ w9, w9 = ((((w3.setCell ⟨R, 0, none⟩ (.int .i64 0)).setCell ⟨R, 1, none⟩ (.slice none 0 0)).setCell ⟨R, 2, none⟩ (.slice none 0 0)).setCell ⟨R, 3, none⟩ (.slice none 0 0)) := ⟨_, rfl⟩
      have hI9 : In R (R + 1) w3 w9 := by rw [hw9]; exact ((((In.refl _ _ _).set1 0 _).set1 1 _).set1 2 _).set1 3 _
      have b9 : w9.heap[R]? = some (.cells #[.int .i64 0, .slice none 0 0, .slice none 0 0, .slice none 0 0] 26 (0, 0)) := by rw [hw9]; exact set4_block HGX.out _ _ _ _
      rw [← hw9]
      have r0 := cell_of b9 0
      have r1 := cell_of b9 1
      have r2 := cell_of b9 2
      have r3 := cell_of b9 3
      simp only [List.getElem?_toArray, List.getElem?_cons_zero, List.getElem?_cons_succ] at r0 r1 r2 r3
      refine bodyPost_ret (v := .tuple #[.agg #[.int .i64 0, .slice none 0 0, .slice none 0 0, .slice none 0 0], .pointer (some ⟨g, 0, none⟩)]) (by simp [results, Tryd.results28, go_sem, r0, r1, r2, r3]) rfl ?_
      have hR0 := HR0.out
      have hsW := hbW.size
      have s9 := hI9.size
      have hBf : Below w.heap.size w w9 := below_inn (hbW.trans (HSX.out.bel.mono hbW.size)) hI9 (by omega) (by omega)
      have hvR := fun e => (HSX.out.row.blk (g := R) e).1
      have hS9 := wh_end HSX.out hI9 hRg.1 hbW (fun e => by have := hvR e; have := hRg.2; omega)
      refine ⟨_, g, rfl, hBf, w, _, _, _, _, _, hS9, Nat.le_refl _, ?_⟩
      rw [HA.out]
      exact ⟨rfl, by first | decide | exact hcc, rfl, rfl⟩
    | ok tb k7 =>
      rw [hg] at hGe
      obtain ⟨t, bs⟩ := tb
      go_wp2_with fail
      refine hGe.mono ?_
      rintro e w2 ⟨u, v2, rfl, hS2, hC2, hv2, hT⟩
      clear hGe
      have HT : Hid (TV (fun i => W1.heap.size ≤ i ∧ i < w2.heap.size ∧ v2.ownBlock ≠ some i) w2 u t) := hT
      obtain ⟨K, a1, n1, c1, a2, n2, c2, a3, n3, c3, rfl⟩ := agg_of hT
      clear hT
      go_upto_region 7 with (fail)
      obtain ⟨w3, hw3⟩ : ∃ w3, w3 = w2.alloc (.cells #[.int .i64 K, .slice a1 n1 c1, .slice a2 n2 c2, .slice a3 n3 c3] 26) := ⟨_, rfl⟩
      have hb3 : Below w2.heap.size w2 w3 := by rw [hw3]; exact alloc_below _
      have g10 : w3.heap[w2.heap.size]? = some (.cells #[.int .i64 K, .slice a1 n1 c1, .slice a2 n2 c2, .slice a3 n3 c3] 26 (0, 0)) := by rw [hw3]; exact heap_alloc_new _ _
      have hS3 := hS2.later hb3
      rw [← hw3]
      obtain ⟨B9, hB9⟩ : ∃ B, B = w2.heap.size := ⟨_, rfl⟩
      rw [← hB9] at g10 ⊢
      have HB9 : Hid (B9 = w2.heap.size) := hB9
      clear hw3 hB9
      have HT3 : Hid (TV (fun i => W1.heap.size ≤ i ∧ i < w2.heap.size ∧ v2.ownBlock ≠ some i) w3 (.agg #[.int .i64 K, .slice a1 n1 c1, .slice a2 n2 c2, .slice a3 n3 c3]) t) := HT.out.below (Kp.of_below hb3 (fun i hi => hi.2.1))
      by_cases hkn : k7 < n
      · have HA2 : Hid (parseS l D.toNat lim = .bad k7 174) := by show _ = _; rw [HA.out, hg, bind_ok, if_pos hkn]
        clear HA hg
        have HA := HA2
        have t2 : decide ((k7 : Int) < (n : Int)) = true := by simp; omega
        have hF := rfault_any hS3 (k7 : Int) 174
        have q3 := hS3.cells
        obtain ⟨c0, c1', c2', c3', c4', c5'⟩ := q3
        clear hS3
        go_wp2_with fail
        refine hF.mono ?_
        rintro e w4 ⟨rfl, hS4, hC4⟩
        clear hF c0 c1' c2' c3' c4' c5'
        have gzX := (hS4.bel.block _ (lt_of_block gz)).trans gz
        obtain ⟨c0, x1, x2, x3, x4, x5⟩ := hS4.cells
        have q0 := cell_of gzX 0
        have q1 := cell_of gzX 1
        have q2 := cell_of gzX 2
        have q3 := cell_of gzX 3
        simp only [List.getElem?_toArray, List.getElem?_cons_zero, List.getElem?_cons_succ] at q0 q1 q2 q3
        have z0 : w4.frozen? ⟨R, 0, none⟩ = false := by simp [World.frozen?, gzX]
        have z1 : w4.frozen? ⟨R, 1, none⟩ = false := by simp [World.frozen?, gzX]
        have z2 : w4.frozen? ⟨R, 2, none⟩ = false := by simp [World.frozen?, gzX]
        have z3 : w4.frozen? ⟨R, 3, none⟩ = false := by simp [World.frozen?, gzX]
        have HSX := hidT hS4
        have HGX := hidT gzX
        clear hS4 gzX
        go_wp2
        obtain ⟨w9, hw9⟩ : ∃ w9, w9 = ((((w4.setCell ⟨R, 0, none⟩ (.int .i64 0)).setCell ⟨R, 1, none⟩ (.slice none 0 0)).setCell ⟨R, 2, none⟩ (.slice none 0 0)).setCell ⟨R, 3, none⟩ (.slice none 0 0)) := ⟨_, rfl⟩
        have hI9 : In R (R + 1) w4 w9 := by rw [hw9]; exact ((((In.refl _ _ _).set1 0 _).set1 1 _).set1 2 _).set1 3 _
        have b9 : w9.heap[R]? = some (.cells #[.int .i64 0, .slice none 0 0, .slice none 0 0, .slice none 0 0] 26 (0, 0)) := by rw [hw9]; exact set4_block HGX.out _ _ _ _
        rw [← hw9]
        have r0 := cell_of b9 0
        have r1 := cell_of b9 1
        have r2 := cell_of b9 2
        have r3 := cell_of b9 3
        simp only [List.getElem?_toArray, List.getElem?_cons_zero, List.getElem?_cons_succ] at r0 r1 r2 r3
        refine bodyPost_ret (v := .tuple #[.agg #[.int .i64 0, .slice none 0 0, .slice none 0 0, .slice none 0 0], .pointer (some ⟨g, 0, none⟩)]) (by simp [results, Tryd.results28, go_sem, r0, r1, r2, r3]) rfl ?_
        have hR0 := HR0.out
        have hsW := hbW.size
        have s9 := hI9.size
        have hBf : Below w.heap.size w w9 := below_inn (hbW.trans (HSX.out.bel.mono hbW.size)) hI9 (by omega) (by omega)
        have hvR := fun e => (HSX.out.row.blk (g := R) e).1
        have hS9 := wh_end HSX.out hI9 hRg.1 hbW (fun e => by have := hvR e; have := hRg.2; omega)
        refine ⟨_, g, rfl, hBf, w, _, _, _, _, _, hS9, Nat.le_refl _, ?_⟩
        rw [HA.out]
        exact ⟨rfl, by first | decide | exact hcc, rfl, rfl⟩
      · have HA2 : Hid (parseS l D.toNat lim = .ok (t, bs) k7) := by show _ = _; rw [HA.out, hg, bind_ok, if_neg hkn]
        clear HA hg
        have HA := HA2
        have t2 : decide ((k7 : Int) < (n : Int)) = false := by simp; omega
        have gzX := (hS3.bel.block _ (lt_of_block gz)).trans gz
        obtain ⟨c0, x1, x2, x3, x4, x5⟩ := hS3.cells
        have q0 := cell_of gzX 0
        have q1 := cell_of gzX 1
        have q2 := cell_of gzX 2
        have q3 := cell_of gzX 3
        have m0 := cell_of g10 0
        have m1 := cell_of g10 1
        have m2 := cell_of g10 2
        have m3 := cell_of g10 3
        simp only [List.getElem?_toArray, List.getElem?_cons_zero, List.getElem?_cons_succ] at m0 m1 m2 m3
        simp only [List.getElem?_toArray, List.getElem?_cons_zero, List.getElem?_cons_succ] at q0 q1 q2 q3
        have z0 : w3.frozen? ⟨R, 0, none⟩ = false := by simp [World.frozen?, gzX]
        have z1 : w3.frozen? ⟨R, 1, none⟩ = false := by simp [World.frozen?, gzX]
        have z2 : w3.frozen? ⟨R, 2, none⟩ = false := by simp [World.frozen?, gzX]
        have z3 : w3.frozen? ⟨R, 3, none⟩ = false := by simp [World.frozen?, gzX]
        have HSX := hidT hS3
        have HGX := hidT gzX
        clear hS3 gzX
        go_wp2
        obtain ⟨w9, hw9⟩ : ∃ w9, w9 = ((((w3.setCell ⟨R, 0, none⟩ (.int .i64 K)).setCell ⟨R, 1, none⟩ (.slice a1 n1 c1)).setCell ⟨R, 2, none⟩ (.slice a2 n2 c2)).setCell ⟨R, 3, none⟩ (.slice a3 n3 c3)) := ⟨_, rfl⟩
        have hI9 : In R (R + 1) w3 w9 := by rw [hw9]; exact ((((In.refl _ _ _).set1 0 _).set1 1 _).set1 2 _).set1 3 _
        have b9 : w9.heap[R]? = some (.cells #[.int .i64 K, .slice a1 n1 c1, .slice a2 n2 c2, .slice a3 n3 c3] 26 (0, 0)) := by rw [hw9]; exact set4_block HGX.out _ _ _ _
        rw [← hw9]
        have r0 := cell_of b9 0
        have r1 := cell_of b9 1
        have r2 := cell_of b9 2
        have r3 := cell_of b9 3
        simp only [List.getElem?_toArray, List.getElem?_cons_zero, List.getElem?_cons_succ] at r0 r1 r2 r3
        refine bodyPost_ret (v := .tuple #[.agg #[.int .i64 K, .slice a1 n1 c1, .slice a2 n2 c2, .slice a3 n3 c3], .pointer (some ⟨g, 0, none⟩)]) (by simp [results, Tryd.results28, go_sem, r0, r1, r2, r3]) rfl ?_
        have hR0 := HR0.out
        have hsW := hbW.size
        have s9 := hI9.size
        have hBf : Below w.heap.size w w9 := below_inn (hbW.trans (HSX.out.bel.mono hbW.size)) hI9 (by omega) (by omega)
        have hvR := fun e => (HSX.out.row.blk (g := R) e).1
        have hS9 := wh_end HSX.out hI9 hRg.1 hbW (fun e => by have := hvR e; have := hRg.2; omega)
        have hs3 := hb3.size
        have hC2s := hC2.size
        have hs1 := hb1.size
        refine ⟨_, g, rfl, hBf, w, _, _, _, _, _, hS9, Nat.le_refl _, ?_⟩
        rw [HA.out]
        refine ⟨rfl, by simp, (HT3.out.below (w' := w9) ⟨s9, fun i hi => hI9.block i (by have := hi.2.1; omega) (by have := hi.1; have := hRg.2; omega)⟩).mono (fun i hi => ⟨by have := hi.1; omega, by have := hi.2.1; omega⟩)⟩
end Go.Proofs.YtinagjljebbceaaDoor
