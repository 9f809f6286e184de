import Derived.Tactics2
import Derived.Below
import Derived.BigQuiet
import Derived.ChangeOld
import Derived.Deep.DeepCutAuto
import Derived.Deep.QuietTactic
import Derived.Deep.RegionHeld3
import Derived.Deep.RegionLaw
import Derived.Deep.RegionWith
import Derived.LaidEql
import Derived.Laws.AppendOwn
import Derived.Laws.BitsAllLaws
import Derived.Laws.CopyRow
import Derived.Laws.IdiomCopy
import Derived.Laws.IdiomRangeMap
import Derived.Laws.Rows
import Derived.Laws.StructEq
import Derived.Maps.AppendAt
import Derived.OpenShut
import Derived.Orders
import Derived.OwnWalk
import Derived.ProofKit
import Derived.Recover
import Derived.RowKitTokens
import Derived.ShutString
import Derived.Stop.Asserts
import Derived.WalkKit
import Derived.WalkLawsBesides
import Derived.WalkSpells
import Derived.Test.YtgobnjeankjkjaaGreatDoorPb16
import Derived.Test.YtgobnjeankjkjaaGreatDoorPb18
/- Layer 17: bytes as a tree, whole. -/
namespace Go.Proofs.YtgobnjeankjkjaaGreatDoor
open Go.ChangeShapes Go.WideShapes Go.ChangeAt Go.RowKit
open Ep Oc Tr Wk
set_option linter.unusedVariables false
def zg : Value := .agg #[.int .i64 0, .slice none 0 0, .slice none 0 0, .slice none 0 0]
/-- what read tells -/
def Prd (w : World) (r : Rs (Tree × List Bool)) (e : Ending) (w' : World) : Prop :=
  match r with
  | .ok tb k => ∃ u ov, e = .returned (.tuple #[u, ov, .nilIface]) ∧ Below w.heap.size w w' ∧ Bo w' w.heap.size ov tb.2 ∧ TV (fun i => w.heap.size ≤ i ∧ i < w'.heap.size) w' u tb.1
  | .bad p c => ∃ g, e = .returned (.tuple #[zg, .slice none 0 0, .iface 114 (.pointer (some ⟨g, 0, none⟩))]) ∧ FaultAt w' g (p : Int) (c : Int) ∧ Below w.heap.size w w'
theorem hideP {p : Prop} (h : p) : Hid p := h
theorem set1_block {w : World} {b : Nat} {t : TypeId} {f : Nat × Nat} {x : Value} (h : w.heap[b]? = some (.cells #[x] t f)) (y : Value) : (w.setCell ⟨b, 0, none⟩ y).heap[b]? = some (.cells #[y] t f) := by
  simp [World.setCell, Array.getElem?_modify, h]
theorem FaultAt.ne_bx {w : World} {f b : Nat} {p e : Int} {t : TypeId} (h : FaultAt w f p e) (hb : Bx w b t .nilIface) : f ≠ b := by
  rintro rfl
  have := h.1
  rw [hb.cell] at this
  cases this
theorem FaultAt.ne_gm {w : World} {f b : Nat} {p e : Int} {t : TypeId} {q : Nat × Nat} {x0 x2 x3 : Value} {a1 : Option Addr} {n1 c1 : Nat} (h : FaultAt w f p e) (hb : w.heap[b]? = some (.cells #[x0, .slice a1 n1 c1, x2, x3] t q)) : f ≠ b := by
  rintro rfl
  have := h.2
  rw [cell_of hb 1] at this
  cases this
set_option maxHeartbeats 3200000 in
set_option maxRecDepth 100000 in
theorem read_any {w : World} {a : Option Addr} {n c : Nat} {l : List UInt8} (h : Rb w a n c l) (hn : n ≤ 100000000) (hE : ErrVar w) {md mb D : Int} {lim : Nat} (hD0 : D = min 256 md) (hlim : max 0 (min 65536 mb) = (lim : Int)) :
    Calls Tryz.prog 32 #[.slice a n c, .int .i64 md, .int .i64 mb] w (Prd w (parseS l D.toNat lim)) := by
  have hmf : ∀ (fn : Fn) (first cap : Array Value) (w : World), (Instr.makeFunc fn first cap).run Tryz.prog w = .ok (.func fn first cap) w := fun _ _ _ _ => rfl
  have HL : Hid (l.length = n) := h.len
  have hD9 : D ≤ 256 := by omega
  have HD : Hid (D = min 256 md) := hD0
  clear hD0
  have hc9 := h.2
  obtain ⟨W, hW0⟩ : ∃ W, W = (w.alloc (.cells #[.int .i64 0, .slice none 0 0, .slice none 0 0, .slice none 0 0] 31)).alloc (.cells #[.nilIface] 33) := ⟨_, rfl⟩
  have hbW : Below w.heap.size w W := by rw [hW0]; exact (alloc_below _).alloc (by simp) _
  have HW : Hid ((w.alloc (.cells #[.int .i64 0, .slice none 0 0, .slice none 0 0, .slice none 0 0] 31)).alloc (.cells #[.nilIface] 33) = W) := hW0.symm
  obtain ⟨R, hR0⟩ : ∃ R, R = w.heap.size := ⟨_, rfl⟩
  have HR0 : Hid (R = w.heap.size) := hR0
  have gz : W.heap[R]? = some (.cells #[.int .i64 0, .slice none 0 0, .slice none 0 0, .slice none 0 0] 31 (0, 0)) := by
    rw [hW0, hR0]
    exact ((alloc_below _).block _ (by simp)).trans (heap_alloc_new _ _)
  have g1 : Bx W (R + 1) 33 .nilIface := by
    rw [hW0, hR0]
    have := Bx.new (w.alloc (.cells #[.int .i64 0, .slice none 0 0, .slice none 0 0, .slice none 0 0] 31)) 33 .nilIface
    simpa using this
  have hEW := hE.later hbW
  have hrW := h.later hbW
  clear hW0 hR0 h
  have c0 := cell_of gz 0
  have c1 := cell_of gz 1
  have c2 := cell_of gz 2
  have c3 := cell_of gz 3
  simp only [List.getElem?_toArray, List.getElem?_cons_zero, List.getElem?_cons_succ] at c0 c1 c2 c3
  have z0 : W.frozen? ⟨R, 0, none⟩ = false := by simp [World.frozen?, gz]
  have z1 : W.frozen? ⟨R, 1, none⟩ = false := by simp [World.frozen?, gz]
  have z2 : W.frozen? ⟨R, 2, none⟩ = false := by simp [World.frozen?, gz]
  have z3 : W.frozen? ⟨R, 3, none⟩ = false := by simp [World.frozen?, gz]
  go_enter_defers Tryz.func32, Tryz.ntmps32
  go_upto_region 1 with (fail)
  rw [HW.out, ← HR0.out]
  go_cut [9] from 12 to 14 (fun x wx => x = .int .i64 (lim : Int) ∧ wx = W)
  case first =>
    go_wp2
    all_goals
      go_meet
      exact ⟨by rw [← hlim]; congr 1; omega, rfl⟩
  case rest =>
  obtain ⟨rfl, hwc⟩ := hcut
  rw [hwc]
  clear hwc wc
  have HLim : Hid (max 0 (min 65536 mb) = (lim : Int)) := hlim
  clear hlim
  by_cases hbig : lim < n
  · have t1 : decide ((n : Int) > (lim : Int)) = true := by simp; omega
    have HA : Hid (parseS l D.toNat lim = .bad lim 192) := by show parseS _ _ _ = _; unfold parseS; rw [if_pos (by rw [HL.out]; exact hbig)]
    have HG1 := g1
    go_wp2_with fail
    refine (wrapF_any (lim : Int) 192 _).mono ?_
    rintro e w2 ⟨gf, rfl, hF, hb2⟩
    have gz2 := (hb2.block _ (lt_of_block gz)).trans gz
    have g12 := g1.later hb2
    clear c0 c1 c2 c3 z0 z1 z2 z3
    have c0 := cell_of gz2 0
    have c1 := cell_of gz2 1
    have c2 := cell_of gz2 2
    have c3 := cell_of gz2 3
    simp only [List.getElem?_toArray, List.getElem?_cons_zero, List.getElem?_cons_succ] at c0 c1 c2 c3
    have z0 : w2.frozen? ⟨R, 0, none⟩ = false := by simp [World.frozen?, gz2]
    have z1 : w2.frozen? ⟨R, 1, none⟩ = false := by simp [World.frozen?, gz2]
    have z2 : w2.frozen? ⟨R, 2, none⟩ = false := by simp [World.frozen?, gz2]
    have z3 : w2.frozen? ⟨R, 3, none⟩ = false := by simp [World.frozen?, gz2]
    have e1 := g12.cell
    have y1 : w2.frozen? ⟨R + 1, 0, none⟩ = false := by have := g12; unfold Bx at this; simp [World.frozen?, this]
    have nR : ¬ R + 1 = R := by omega
    have nR2 : ¬ R = R + 1 := by omega
    have HGZ := gz2
    have HG12 := g12
    have HF := hideP hF
    have HB2 := hideP hb2
    clear gz g1 gz2 g12 hb2 hF
    go_wp2
    obtain ⟨w8, hw8⟩ : ∃ w8, w8 = ((((w2.setCell ⟨R, 0, none⟩ (.int .i64 0)).setCell ⟨R, 1, none⟩ (.slice none 0 0)).setCell ⟨R, 2, none⟩ (.slice none 0 0)).setCell ⟨R, 3, none⟩ (.slice none 0 0)) := ⟨_, rfl⟩
    have hI8 : In R (R + 1) w2 w8 := by rw [hw8]; exact ((((In.refl _ _ _).set1 0 _).set1 1 _).set1 2 _).set1 3 _
    have b8 : w8.heap[R]? = some (.cells #[.int .i64 0, .slice none 0 0, .slice none 0 0, .slice none 0 0] 31 (0, 0)) := by rw [hw8]; exact set4_block HGZ _ _ _ _
    rw [← hw8]
    have b81 : Bx w8 (R + 1) 33 .nilIface := (hI8.block _ HG12.lt (by omega)).trans HG12
    obtain ⟨w9, hw9⟩ : ∃ w9, w9 = w8.setCell ⟨R + 1, 0, none⟩ (.iface 114 (.pointer (some ⟨gf, 0, none⟩))) := ⟨_, rfl⟩
    have hI9 : In (R + 1) (R + 1 + 1) w8 w9 := by rw [hw9]; exact (In.refl _ _ _).set1 0 _
    have b91 : Bx w9 (R + 1) 33 (.iface 114 (.pointer (some ⟨gf, 0, none⟩))) := by rw [hw9]; exact set1_block b81 _
    rw [← hw9]
    have b9 := (hI9.block _ (lt_of_block b8) (by omega)).trans b8
    have r0 := cell_of b9 0
    have r1 := cell_of b9 1
    have r2 := cell_of b9 2
    have r3 := cell_of b9 3
    have r4 := b91.cell
    simp only [List.getElem?_toArray, List.getElem?_cons_zero, List.getElem?_cons_succ] at r0 r1 r2 r3
    have hF9 := (HF.out.inn hI8 (HF.out.ne_gm HGZ)).inn hI9 ((HF.out.inn hI8 (HF.out.ne_gm HGZ)).ne_bx b81)
    have hR0 := HR0.out
    have hBf : Below w.heap.size w w9 := below_inn (below_inn (hbW.trans (HB2.out.mono hbW.size)) hI8 (by omega) (by omega)) hI9 (by omega) (by omega)
    refine ⟨.tuple #[zg, .slice none 0 0, .iface 114 (.pointer (some ⟨gf, 0, none⟩))], by simp [results, Tryz.results32, go_sem, r0, r1, r2, r3, r4, zg], ?_⟩
    unfold Prd
    rw [HA.out]
    exact ⟨gf, rfl, hF9, hBf⟩
  · have t1 : decide ((n : Int) > (lim : Int)) = false := by simp; omega
    have hl6 : l.length ≤ 65536 := by rw [HL.out]; have := HLim.out; omega
    have HA : Hid (parseS l D.toNat lim = (geomS l D.toNat 0 0).bind fun r k => if k < n then .bad k 174 else .ok r k) := by
      show parseS _ _ _ = _
      unfold parseS
      rw [if_neg (by rw [HL.out]; exact hbig), HL.out]
    clear c0 c1 c2 c3 z0 z1 z2 z3
    have hNR := newReader_any hrW hn
    go_upto_region 5 with (fail)
    go_cut [10] from 23 to 27 (fun x wx => ∃ gw gr, x = .pointer (some ⟨gw, 0, none⟩) ∧ Hid (WkS W wx gw gr D l 0 (.slice none 0 0) []))
    case first =>
      go_wp2_with fail
      refine hNR.mono ?_
      rintro e w2 ⟨gr, rfl, hRd, hgr, hb2⟩
      clear hNR
      have hbx : Below W.heap.size W (w2.alloc (.cells #[.pointer (some ⟨gr, 0, none⟩), .int .i64 D, .slice none 0 0] 123)) := hb2.trans ((alloc_below _).mono hb2.size)
      have HS : Hid (WkS W (w2.alloc (.cells #[.pointer (some ⟨gr, 0, none⟩), .int .i64 D, .slice none 0 0] 123)) w2.heap.size gr D l 0 (.slice none 0 0) []) := ⟨hbx, hRd.later (alloc_below _), S3.new _ _ _ _ _, Or.inl ⟨rfl, rfl⟩, hgr, hb2.size⟩
      clear hb2 hRd hbx
      by_cases hmd : 256 ≤ md
      · have hDe : D = 256 := by rw [HD.out]; omega
        subst hDe
        go_wp2
        all_goals
          first
            | omega
            | (go_meet
               exact ⟨_, gr, rfl, HS⟩)
      · have hDe : D = md := by rw [HD.out]; omega
        subst hDe
        go_wp2
        all_goals
          first
            | omega
            | (go_meet
               exact ⟨_, gr, rfl, HS⟩)
    case rest =>
    obtain ⟨gw, gr, rfl, HS⟩ := hcut
    clear hNR
    have HSz : Hid (W.heap.size ≤ wc.heap.size) := HS.out.bel.size
    have hGe : Calls Tryz.prog 54 #[.pointer (some ⟨gw, 0, none⟩), .int .i64 0, .int .i64 1] wc (Pge W wc gw gr D l (.slice none 0 0) [] (geomS l D.toNat 0 0)) := geom17 hl6 hEW hD9 D.toNat 0 1 (by omega) (by omega) HS.out (Nat.le_refl _)
    cases hg : geomS l D.toNat 0 0 with
    | bad p cc =>
      rw [hg] at hGe
      have HR : Hid (parseS l D.toNat lim = .bad p cc) := by show _ = _; rw [HA.out, hg]; rfl
      clear hg
      go_wp2_with fail
      refine hGe.mono ?_
      rintro e w3 ⟨hf, hb3⟩
      rw [flw_of hf]
      clear hGe HS
      go_wp2
      have gzX := (hb3.block _ (lt_of_block gz)).trans gz
      have g1X := g1.later hb3
      have hcX := g1X.cell
      have hzX : w3.frozen? ⟨R + 1, 0, none⟩ = false := by have := g1X; unfold Bx at this; simp [World.frozen?, this]
      refine leaves_cons (f := 51) (args := #[.pointer (some ⟨R + 1, 0, none⟩)]) (by simp) (by simp [go_sem]) ?_
      refine (read1_panic (R + 1) p cc [] w3 hcX hzX).mono ?_
      rintro e u9 w9 ⟨gf, rfl, rfl, hF9, r4, hI9⟩
      have b9 := (hI9.block _ (lt_of_block gzX) (by omega)).trans gzX
      have r0 := cell_of b9 0
      have r1 := cell_of b9 1
      have r2 := cell_of b9 2
      have r3 := cell_of b9 3
      simp only [List.getElem?_toArray, List.getElem?_cons_zero, List.getElem?_cons_succ] at r0 r1 r2 r3
      have hR0 := HR0.out
      have hBf : Below w.heap.size w w9 := below_inn (hbW.trans (hb3.mono hbW.size)) hI9 (by omega) (by omega)
      have hPr : Prd w (parseS l D.toNat lim) (.returned (.tuple #[zg, .slice none 0 0, .iface 114 (.pointer (some ⟨gf, 0, none⟩))])) w9 := by
        unfold Prd
        rw [HR.out]
        exact ⟨gf, rfl, hF9, hBf⟩
      simp [Leaves, settle, results, Tryz.results32, go_sem, r0, r1, r2, r3, r4]
      exact hPr
    | ok tb k7 =>
      rw [hg] at hGe
      go_wp2_with fail
      refine hGe.mono ?_
      rintro e w3 ⟨u, ov, rfl, hS3, hC3, hov, hT3⟩
      clear hGe HS
      obtain ⟨t, bs⟩ := tb
      have HT : Hid (TV (fun i => wc.heap.size ≤ i ∧ i < w3.heap.size ∧ ov.ownBlock ≠ some i) w3 u t) := hT3
      obtain ⟨v1, v2, pa, pc, hu, hk9, hP1, hR1, hl9, hf9⟩ := HT.out.parts
      obtain ⟨a1, d1, e1⟩ := hP1.slc
      obtain ⟨a2, d2, e2⟩ := hR1.slc
      rw [e1, e2] at hu
      subst hu
      have hS3' : WkS W w3 gw gr D l k7 ov bs := hS3
      have hWc : W.heap.size ≤ wc.heap.size := by have := HSz.out; exact this
      clear hT3 hP1 hR1 hl9 hf9 e1 e2 hk9 hS3
      generalize hK0 : t.1.kind = K0 at *
      generalize hL1 : t.1.line.length = L1 at *
      generalize hL2 : t.1.rings.length = L2 at *
      generalize hL3 : t.2.len = L3 at *
      clear hK0 hL1 hL2 hL3
      go_upto_region 7 with (fail)
      obtain ⟨W4, hW4⟩ : ∃ W4, W4 = w3.alloc (.cells #[.int .i64 K0, .slice a1 L1 d1, .slice a2 L2 d2, .slice pa L3 pc] 31) := ⟨_, rfl⟩
      have hb4 : Below w3.heap.size w3 W4 := by rw [hW4]; exact alloc_below _
      have gR : W4.heap[w3.heap.size]? = some (.cells #[.int .i64 K0, .slice a1 L1 d1, .slice a2 L2 d2, .slice pa L3 pc] 31 (0, 0)) := by rw [hW4]; exact heap_alloc_new _ _
      rw [← hW4]
      obtain ⟨bR, hbR⟩ : ∃ b, b = w3.heap.size := ⟨_, rfl⟩
      rw [← hbR] at gR ⊢
      have HbR : Hid (bR = w3.heap.size) := hbR
      have hS4 := hS3'.later hb4
      have HT4 : Hid (TV (fun i => wc.heap.size ≤ i ∧ i < w3.heap.size ∧ ov.ownBlock ≠ some i) W4 (.agg #[.int .i64 K0, .slice a1 L1 d1, .slice a2 L2 d2, .slice pa L3 pc]) t) := HT.out.below (Kp.of_below hb4 (fun i hi => hi.2.1))
      have hLf := left16_any hS4.rd
      rw [HL.out] at hLf
      have hk7 : k7 ≤ n := by have := hS4.le; rw [HL.out] at this; exact this
      obtain ⟨c0, c1, c2⟩ := hS4.wk.cells
      have hs4 := hb4.size
      have hw3s : wc.heap.size ≤ w3.heap.size := hC3.size
      clear hW4 hb4 hS3' HT hbR
      by_cases hkn : k7 < n
      · have HR : Hid (parseS l D.toNat lim = .bad k7 174) := by show _ = _; rw [HA.out, hg, bind_ok, if_pos hkn]
        obtain ⟨Q, hQ⟩ : ∃ Q, Q = n - k7 := ⟨_, rfl⟩
        rw [← hQ] at hLf
        have hQp : 0 < Q := by omega
        have hQ0 : decide ((Q : Int) > 0) = true := by simp; omega
        have hQ1 : decide (0 < Q) = true := by simp; omega
        clear hg hQ
        go_wp2_with fail
        refine hLf.mono ?_
        rintro e w5 ⟨rfl, dq, rfl⟩
        clear hLf
        obtain ⟨V, hV⟩ : ∃ V, V = W4.drewN dq := ⟨_, rfl⟩
        have hbd : Below W4.heap.size W4 V := by rw [hV]; exact below_drewN (Below.refl _ _) dq
        rw [← hV]
        clear hV
        have hS5 := hS4.later hbd
        have hA5 := at16_any hS5.rd
        clear c0 c1 c2
        obtain ⟨c0, c1, c2⟩ := hS5.wk.cells
        have hbe := hS5.bel
        clear hS4 hS5 hbd
        go_wp2_with fail
        refine hA5.mono ?_
        rintro e w6 ⟨rfl, rfl⟩
        clear hA5 c0 c1 c2
        go_wp2_with fail
        refine (giveUp_any k7 174 _).mono ?_
        rintro e w6 ⟨hf, hw6⟩
        rw [flw_of hf]
        subst hw6
        go_wp2
        have gzX := (hbe.block _ (lt_of_block gz)).trans gz
        have g1X := g1.later hbe
        have hcX := g1X.cell
        have hzX : w6.frozen? ⟨R + 1, 0, none⟩ = false := by have := g1X; unfold Bx at this; simp [World.frozen?, this]
        refine leaves_cons (f := 51) (args := #[.pointer (some ⟨R + 1, 0, none⟩)]) (by simp) (by simp [go_sem]) ?_
        refine (read1_panic (R + 1) k7 174 [] w6 hcX hzX).mono ?_
        rintro e u9 w9 ⟨gf, rfl, rfl, hF9, r4, hI9⟩
        have b9 := (hI9.block _ (lt_of_block gzX) (by omega)).trans gzX
        have r0 := cell_of b9 0
        have r1 := cell_of b9 1
        have r2 := cell_of b9 2
        have r3 := cell_of b9 3
        simp only [List.getElem?_toArray, List.getElem?_cons_zero, List.getElem?_cons_succ] at r0 r1 r2 r3
        have hR0 := HR0.out
        have hBf : Below w.heap.size w w9 := below_inn (hbW.trans (hbe.mono hbW.size)) hI9 (by omega) (by omega)
        have hPr : Prd w (parseS l D.toNat lim) (.returned (.tuple #[zg, .slice none 0 0, .iface 114 (.pointer (some ⟨gf, 0, none⟩))])) w9 := by
          unfold Prd
          rw [HR.out]
          exact ⟨gf, rfl, hF9, hBf⟩
        simp [Leaves, settle, results, Tryz.results32, go_sem, r0, r1, r2, r3, r4]
        exact hPr
      · have HR : Hid (parseS l D.toNat lim = .ok (t, bs) k7) := by show _ = _; rw [HA.out, hg, bind_ok, if_neg hkn]
        have hq0 : n - k7 = 0 := by omega
        rw [hq0] at hLf
        clear hg
        go_wp2_with fail
        refine hLf.mono ?_
        rintro e w5 ⟨rfl, dq, rfl⟩
        clear hLf
        obtain ⟨V, hV⟩ : ∃ V, V = W4.drewN dq := ⟨_, rfl⟩
        have hbd : Below W4.heap.size W4 V := by rw [hV]; exact below_drewN (Below.refl _ _) dq
        rw [← hV]
        clear hV c0 c1 c2
        have hS5 := hS4.later hbd
        have gR5 := (hbd.block _ (lt_of_block gR)).trans gR
        have gz5 := (hS5.bel.block _ (lt_of_block gz)).trans gz
        have g15 := g1.later hS5.bel
        have hlv : ov.ownBlock ≠ some R ∧ ov.ownBlock ≠ some (R + 1) ∧ R < W.heap.size ∧ R + 1 < W.heap.size := ⟨fun e => by have := (hS5.row.blk e).1; have := lt_of_block gz; omega, fun e => by have := (hS5.row.blk e).1; have := g1.lt; omega, lt_of_block gz, g1.lt⟩
        obtain ⟨oa, oc, hov9, _⟩ := hS5.row.slice
        subst hov9
        obtain ⟨c0, c1, c2⟩ := hS5.wk.cells
        have m0 := cell_of gR5 0
        have m1 := cell_of gR5 1
        have m2 := cell_of gR5 2
        have m3 := cell_of gR5 3
        have q0 := cell_of gz5 0
        have q1 := cell_of gz5 1
        have q2 := cell_of gz5 2
        have q3 := cell_of gz5 3
        simp only [List.getElem?_toArray, List.getElem?_cons_zero, List.getElem?_cons_succ] at m0 m1 m2 m3 q0 q1 q2 q3
        have q4 := g15.cell
        have z0 : V.frozen? ⟨R, 0, none⟩ = false := by simp [World.frozen?, gz5]
        have z1 : V.frozen? ⟨R, 1, none⟩ = false := by simp [World.frozen?, gz5]
        have z2 : V.frozen? ⟨R, 2, none⟩ = false := by simp [World.frozen?, gz5]
        have z3 : V.frozen? ⟨R, 3, none⟩ = false := by simp [World.frozen?, gz5]
        have z4 : V.frozen? ⟨R + 1, 0, none⟩ = false := by have := g15; unfold Bx at this; simp [World.frozen?, this]
        have hlo1 := hS5.lo
        have hlo2 := hS5.lo2
        have n1 : ¬ R + 1 = R := by omega
        have n2 : ¬ R = R + 1 := by omega
        have n3 : ¬ gw = R := by omega
        have n4 : ¬ R = gw := by omega
        have n5 : ¬ gw = R + 1 := by omega
        have n6 : ¬ R + 1 = gw := by omega
        have n7 : ¬ bR = R := by have := HbR.out; omega
        have n8 : ¬ R = bR := by have := HbR.out; omega
        have n9 : ¬ bR = R + 1 := by have := HbR.out; omega
        have n10 : ¬ R + 1 = bR := by have := HbR.out; omega
        have HS5 := hideP hS5
        have HG5 := hideP gz5
        have HG1 := hideP g15
        have HT5 : Hid (TV (fun i => wc.heap.size ≤ i ∧ i < w3.heap.size ∧ (Value.slice oa bs.length oc).ownBlock ≠ some i) V (.agg #[.int .i64 K0, .slice a1 L1 d1, .slice a2 L2 d2, .slice pa L3 pc]) t) := HT4.out.below (Kp.of_below hbd (fun i hi => by have := hi.2.1; omega))
        have hVs : W4.heap.size ≤ V.heap.size := hbd.size
        clear hS4 hS5 gR gR5 gz5 g15 hbd
        go_upto_region 9 with (fail)
        go_region
        go_wp2
        obtain ⟨w8, hw8⟩ : ∃ w8, w8 = ((((V.setCell ⟨R, 0, none⟩ (.int .i64 K0)).setCell ⟨R, 1, none⟩ (.slice a1 L1 d1)).setCell ⟨R, 2, none⟩ (.slice a2 L2 d2)).setCell ⟨R, 3, none⟩ (.slice pa L3 pc)) := ⟨_, rfl⟩
        have hI8 : In R (R + 1) V w8 := by rw [hw8]; exact ((((In.refl _ _ _).set1 0 _).set1 1 _).set1 2 _).set1 3 _
        have b8 : w8.heap[R]? = some (.cells #[.int .i64 K0, .slice a1 L1 d1, .slice a2 L2 d2, .slice pa L3 pc] 31 (0, 0)) := by rw [hw8]; exact set4_block HG5.out _ _ _ _
        rw [← hw8]
        have b81 : Bx w8 (R + 1) 33 .nilIface := (hI8.block _ HG1.out.lt (by omega)).trans HG1.out
        obtain ⟨w9, hw9⟩ : ∃ w9, w9 = (w8.setCell ⟨R + 1, 0, none⟩ .nilIface).drew := ⟨_, rfl⟩
        have hI9 : In (R + 1) (R + 1 + 1) w8 w9 := by
          have : In (R + 1) (R + 1 + 1) w8 (w8.setCell ⟨R + 1, 0, none⟩ .nilIface) := (In.refl _ _ _).set1 0 _
          rw [hw9]
          exact ⟨this.os, this.tape, this.output, this.size, this.block⟩
        have b91 : Bx w9 (R + 1) 33 .nilIface := by
          have := set1_block b81 .nilIface
          rw [hw9]
          exact this
        rw [← hw9]
        have b9 := (hI9.block _ (lt_of_block b8) (by omega)).trans b8
        have hzX : w9.frozen? ⟨R + 1, 0, none⟩ = false := by have := b91; unfold Bx at this; simp [World.frozen?, this]
        refine leaves_cons (f := 51) (args := #[.pointer (some ⟨R + 1, 0, none⟩)]) (by simp) (by simp [go_sem]) ?_
        refine (read1_idle (R + 1) w9 b91.cell hzX).mono ?_
        rintro e y9 wF ⟨rfl, rfl, r4, hIF⟩
        have bF := (hIF.block _ (lt_of_block b9) (by omega)).trans b9
        have r0 := cell_of bF 0
        have r1 := cell_of bF 1
        have r2 := cell_of bF 2
        have r3 := cell_of bF 3
        simp only [List.getElem?_toArray, List.getElem?_cons_zero, List.getElem?_cons_succ] at r0 r1 r2 r3
        have hR0 := HR0.out
        have s8 := hI8.size
        have s9 := hI9.size
        have sF := hIF.size
        have hsV : W4.heap.size ≤ V.heap.size := hVs
        have hkeep : ∀ k, k < V.heap.size → k ≠ R → k ≠ R + 1 → wF.heap[k]? = V.heap[k]? := fun k h1 h2 h3 => (hIF.block k (by omega) (by omega)).trans ((hI9.block k (by omega) (by omega)).trans (hI8.block k h1 (by omega)))
        have hBf : Below w.heap.size w wF := below_inn (below_inn (below_inn (hbW.trans (HS5.out.bel.mono hbW.size)) hI8 (by omega) (by omega)) hI9 (by omega) (by omega)) hIF (by omega) (by omega)
        have hW2 : w.heap.size ≤ W.heap.size := hbW.size
        have hPr : Prd w (parseS l D.toNat lim) (.returned (.tuple #[.agg #[.int .i64 K0, .slice a1 L1 d1, .slice a2 L2 d2, .slice pa L3 pc], .slice oa bs.length oc, .nilIface])) wF := by
          unfold Prd
          rw [HR.out]
          refine ⟨_, _, rfl, hBf, ?_, ?_⟩
          · have hrow := HS5.out.row.keep (w' := wF) (fun b hb => hkeep b (HS5.out.row.blk hb).2.1 (fun q => hlv.1 (by rw [hb, q])) (fun q => hlv.2.1 (by rw [hb, q])))
            rcases hrow with q | ⟨g, cap, cur, h1, h2, h3⟩
            · exact Or.inl q
            · exact Or.inr ⟨g, cap, cur, h1, by omega, h3⟩
          · refine (HT5.out.below (w' := wF) ⟨by omega, fun i hi => hkeep i (by have := hi.2.1; omega) (by have := hi.1; omega) (by have := hi.1; omega)⟩).mono (fun i hi => ⟨by have := hi.1; omega, by have := hi.2.1; omega⟩)
        simp [Leaves, settle, results, Tryz.results32, go_sem, r0, r1, r2, r3, r4]
        exact hPr
end Go.Proofs.YtgobnjeankjkjaaGreatDoor

/- Layer 17: Parse, Orders. -/
namespace Go.Proofs.YtgobnjeankjkjaaGreatDoor
open Go.ChangeShapes Go.WideShapes Go.ChangeAt Go.RowKit
open Ep Oc Tr Wk
set_option linter.unusedVariables false
def Ppa (w : World) (r : Rs (Tree × List Bool)) (e : Ending) (w' : World) : Prop :=
  match r with
  | .ok tb k => ∃ u, e = .returned (.tuple #[u, .nilIface]) ∧ Below w.heap.size w w' ∧ TV (fun i => w.heap.size ≤ i ∧ i < w'.heap.size) w' u tb.1
  | .bad p c => ∃ g, e = .returned (.tuple #[zg, .iface 114 (.pointer (some ⟨g, 0, none⟩))]) ∧ FaultAt w' g (p : Int) (c : Int) ∧ Below w.heap.size w w'
def Por (w : World) (r : Rs (Tree × List Bool)) (e : Ending) (w' : World) : Prop :=
  match r with
  | .ok tb k => ∃ ov, e = .returned (.tuple #[ov, .nilIface]) ∧ Below w.heap.size w w' ∧ Bo w' w.heap.size ov tb.2
  | .bad p c => ∃ g, e = .returned (.tuple #[.slice none 0 0, .iface 114 (.pointer (some ⟨g, 0, none⟩))]) ∧ FaultAt w' g (p : Int) (c : Int) ∧ Below w.heap.size w w'
theorem Wk.hidQ {p : Prop} (h : p) : Hid p := h
set_option maxHeartbeats 3200000 in
set_option maxRecDepth 100000 in
theorem parse17_any {w : World} {a : Option Addr} {n c : Nat} {l : List UInt8} (h : Rb w a n c l) (hn : n ≤ 100000000) (hE : ErrVar w) {md mb D : Int} {lim : Nat} (hD0 : D = min 256 md) (hlim : max 0 (min 65536 mb) = (lim : Int)) :
    Calls Tryz.prog 10 #[.slice a n c, .int .i64 md, .int .i64 mb] w (Ppa w (parseS l D.toNat lim)) := by
  obtain ⟨W, hW0⟩ : ∃ W, W = w.alloc (.cells #[.int .i64 0, .slice none 0 0, .slice none 0 0, .slice none 0 0] 31) := ⟨_, rfl⟩
  have hbW : Below w.heap.size w W := by rw [hW0]; exact alloc_below _
  have HW : Hid (w.alloc (.cells #[.int .i64 0, .slice none 0 0, .slice none 0 0, .slice none 0 0] 31) = W) := hW0.symm
  obtain ⟨R, hR0⟩ : ∃ R, R = w.heap.size := ⟨_, rfl⟩
  have HR0 : Hid (R = w.heap.size) := hR0
  have gz : W.heap[R]? = some (.cells #[.int .i64 0, .slice none 0 0, .slice none 0 0, .slice none 0 0] 31 (0, 0)) := by rw [hW0, hR0]; exact heap_alloc_new _ _
  have hlRW : R < W.heap.size := lt_of_block gz
  have hRd := read_any (h.later hbW) hn (hE.later hbW) hD0 hlim
  clear hW0 hR0 h hE hD0 hlim
  go_enter Tryz.func10, Tryz.ntmps10
  go_upto_region 1 with (fail)
  rw [HW.out, ← HR0.out]
  cases hp : parseS l D.toNat lim with
  | bad p cc =>
    rw [hp] at hRd
    go_wp2_with fail
    refine hRd.mono ?_
    rintro e w2 ⟨gf, rfl, hF, hb2⟩
    simp only [zg]
    have gz2 := (hb2.block _ (lt_of_block gz)).trans gz
    have HF := Wk.hidQ hF
    obtain ⟨wA, hwA⟩ : ∃ wA, wA = w2.alloc (.cells #[.int .i64 0, .slice none 0 0, .slice none 0 0, .slice none 0 0] 31) := ⟨_, rfl⟩
    have hbA : Below w2.heap.size w2 wA := by rw [hwA]; exact alloc_below _
    have gB : wA.heap[w2.heap.size]? = some (.cells #[.int .i64 0, .slice none 0 0, .slice none 0 0, .slice none 0 0] 31 (0, 0)) := by rw [hwA]; exact heap_alloc_new _ _
    have gzA := (hbA.block _ (lt_of_block gz2)).trans gz2
    have hlt2 : R < w2.heap.size := lt_of_block gz2
    obtain ⟨B2, hB2⟩ : ∃ B, B = w2.heap.size := ⟨_, rfl⟩
    have HB2 : Hid (w2.heap.size = B2) := hB2.symm
    rw [← hB2] at gB
    have HWA : Hid (w2.alloc (.cells #[.int .i64 0, .slice none 0 0, .slice none 0 0, .slice none 0 0] 31) = wA) := hwA.symm
    clear hwA hRd gz gz2 hF hB2
    have m0 := cell_of gB 0
    have m1 := cell_of gB 1
    have m2 := cell_of gB 2
    have m3 := cell_of gB 3
    have q0 := cell_of gzA 0
    have q1 := cell_of gzA 1
    have q2 := cell_of gzA 2
    have q3 := cell_of gzA 3
    simp only [List.getElem?_toArray, List.getElem?_cons_zero, List.getElem?_cons_succ] at m0 m1 m2 m3 q0 q1 q2 q3
    have z0 : wA.frozen? ⟨R, 0, none⟩ = false := by simp [World.frozen?, gzA]
    have z1 : wA.frozen? ⟨R, 1, none⟩ = false := by simp [World.frozen?, gzA]
    have z2 : wA.frozen? ⟨R, 2, none⟩ = false := by simp [World.frozen?, gzA]
    have z3 : wA.frozen? ⟨R, 3, none⟩ = false := by simp [World.frozen?, gzA]
    go_upto_region 2 with (fail)
    rw [HWA.out, HB2.out]
    go_wp2
    obtain ⟨w9, hw9⟩ : ∃ w9, w9 = ((((wA.setCell ⟨R, 0, none⟩ (.int .i64 0)).setCell ⟨R, 1, none⟩ (.slice none 0 0)).setCell ⟨R, 2, none⟩ (.slice none 0 0)).setCell ⟨R, 3, none⟩ (.slice none 0 0)) := ⟨_, rfl⟩
    have hI9 : In R (R + 1) wA w9 := by rw [hw9]; exact ((((In.refl _ _ _).set1 0 _).set1 1 _).set1 2 _).set1 3 _
    have b9 : w9.heap[R]? = some (.cells #[.int .i64 0, .slice none 0 0, .slice none 0 0, .slice none 0 0] 31 (0, 0)) := by rw [hw9]; exact set4_block gzA _ _ _ _
    rw [← hw9]
    have r0 := cell_of b9 0
    have r1 := cell_of b9 1
    have r2 := cell_of b9 2
    have r3 := cell_of b9 3
    simp only [List.getElem?_toArray, List.getElem?_cons_zero, List.getElem?_cons_succ] at r0 r1 r2 r3
    have hR0 := HR0.out
    have hsW := hbW.size
    have hBA : Below W.heap.size W wA := hb2.trans (hbA.mono hb2.size)
    have hBf : Below w.heap.size w w9 := below_inn (hbW.trans (hBA.mono hbW.size)) hI9 (by omega) (by omega)
    have hF9 : FaultAt w9 gf (p : Int) (cc : Int) := ((HF.out.later hbA).inn hI9 ((HF.out.later hbA).ne_gm gzA))
    refine bodyPost_ret (v := .tuple #[zg, .iface 114 (.pointer (some ⟨gf, 0, none⟩))]) (by simp [results, Tryz.results10, go_sem, r0, r1, r2, r3, zg]) rfl ?_
    unfold Ppa
    rw [hp]
    exact ⟨gf, rfl, hF9, hBf⟩
  | ok tb k =>
    rw [hp] at hRd
    obtain ⟨t, bs⟩ := tb
    go_wp2_with fail
    refine hRd.mono ?_
    rintro e w2 ⟨u, ov, rfl, hb2, hBo, hT⟩
    have HT : Hid (TV (fun i => W.heap.size ≤ i ∧ i < w2.heap.size) w2 u t) := hT
    obtain ⟨v1, v2, pa, pc, hu, hk9, hP1, hR1, hl9, hf9⟩ := HT.out.parts
    obtain ⟨a1, d1, e1⟩ := hP1.slc
    obtain ⟨a2, d2, e2⟩ := hR1.slc
    rw [e1, e2] at hu
    subst hu
    clear hT hP1 hR1 hl9 hf9 e1 e2 hk9 hBo
    generalize hK0 : t.1.kind = K0 at *
    generalize hL1 : t.1.line.length = L1 at *
    generalize hL2 : t.1.rings.length = L2 at *
    generalize hL3 : t.2.len = L3 at *
    clear hK0 hL1 hL2 hL3
    have gz2 := (hb2.block _ (lt_of_block gz)).trans gz
    have hF : True := trivial
    have HF := Wk.hidQ hF
    obtain ⟨wA, hwA⟩ : ∃ wA, wA = w2.alloc (.cells #[.int .i64 K0, .slice a1 L1 d1, .slice a2 L2 d2, .slice pa L3 pc] 31) := ⟨_, rfl⟩
    have hbA : Below w2.heap.size w2 wA := by rw [hwA]; exact alloc_below _
    have gB : wA.heap[w2.heap.size]? = some (.cells #[.int .i64 K0, .slice a1 L1 d1, .slice a2 L2 d2, .slice pa L3 pc] 31 (0, 0)) := by rw [hwA]; exact heap_alloc_new _ _
    have gzA := (hbA.block _ (lt_of_block gz2)).trans gz2
    have hlt2 : R < w2.heap.size := lt_of_block gz2
    obtain ⟨B2, hB2⟩ : ∃ B, B = w2.heap.size := ⟨_, rfl⟩
    have HB2 : Hid (w2.heap.size = B2) := hB2.symm
    rw [← hB2] at gB
    have HWA : Hid (w2.alloc (.cells #[.int .i64 K0, .slice a1 L1 d1, .slice a2 L2 d2, .slice pa L3 pc] 31) = wA) := hwA.symm
    clear hwA hRd gz gz2 hF hB2
    have m0 := cell_of gB 0
    have m1 := cell_of gB 1
    have m2 := cell_of gB 2
    have m3 := cell_of gB 3
    have q0 := cell_of gzA 0
    have q1 := cell_of gzA 1
    have q2 := cell_of gzA 2
    have q3 := cell_of gzA 3
    simp only [List.getElem?_toArray, List.getElem?_cons_zero, List.getElem?_cons_succ] at m0 m1 m2 m3 q0 q1 q2 q3
    have z0 : wA.frozen? ⟨R, 0, none⟩ = false := by simp [World.frozen?, gzA]
    have z1 : wA.frozen? ⟨R, 1, none⟩ = false := by simp [World.frozen?, gzA]
    have z2 : wA.frozen? ⟨R, 2, none⟩ = false := by simp [World.frozen?, gzA]
    have z3 : wA.frozen? ⟨R, 3, none⟩ = false := by simp [World.frozen?, gzA]
    go_upto_region 2 with (fail)
    rw [HWA.out, HB2.out]
    go_wp2
    obtain ⟨w9, hw9⟩ : ∃ w9, w9 = ((((wA.setCell ⟨R, 0, none⟩ (.int .i64 K0)).setCell ⟨R, 1, none⟩ (.slice a1 L1 d1)).setCell ⟨R, 2, none⟩ (.slice a2 L2 d2)).setCell ⟨R, 3, none⟩ (.slice pa L3 pc)) := ⟨_, rfl⟩
    have hI9 : In R (R + 1) wA w9 := by rw [hw9]; exact ((((In.refl _ _ _).set1 0 _).set1 1 _).set1 2 _).set1 3 _
    have b9 : w9.heap[R]? = some (.cells #[.int .i64 K0, .slice a1 L1 d1, .slice a2 L2 d2, .slice pa L3 pc] 31 (0, 0)) := by rw [hw9]; exact set4_block gzA _ _ _ _
    rw [← hw9]
    have r0 := cell_of b9 0
    have r1 := cell_of b9 1
    have r2 := cell_of b9 2
    have r3 := cell_of b9 3
    simp only [List.getElem?_toArray, List.getElem?_cons_zero, List.getElem?_cons_succ] at r0 r1 r2 r3
    have hR0 := HR0.out
    have hsW := hbW.size
    have hBA : Below W.heap.size W wA := hb2.trans (hbA.mono hb2.size)
    have hBf : Below w.heap.size w w9 := below_inn (hbW.trans (hBA.mono hbW.size)) hI9 (by omega) (by omega)
    refine bodyPost_ret (v := .tuple #[.agg #[.int .i64 K0, .slice a1 L1 d1, .slice a2 L2 d2, .slice pa L3 pc], .nilIface]) (by simp [results, Tryz.results10, go_sem, r0, r1, r2, r3]) rfl ?_
    have hlR : R < W.heap.size := hlRW
    unfold Ppa
    rw [hp]
    refine ⟨_, rfl, hBf, (HT.out.below (w' := w9) ⟨by have := hI9.size; have := hbA.size; omega, fun i hi => ?_⟩).mono (fun i hi => ⟨by have := hi.1; omega, by have := hi.2; have := hI9.size; have := hbA.size; omega⟩)⟩
    exact (hI9.block i (by have := hi.2; have := hbA.size; omega) (by have := hi.1; omega)).trans (hbA.block i hi.2)
set_option maxHeartbeats 3200000 in
set_option maxRecDepth 100000 in
theorem orders17_any {w : World} {a : Option Addr} {n c : Nat} {l : List UInt8} (h : Rb w a n c l) (hn : n ≤ 100000000) (hE : ErrVar w) :
    Calls Tryz.prog 18 #[.slice a n c] w (Por w (parseS l 256 65536)) := by
  have hRd := read_any h hn hE (md := 256) (mb := 65536) (D := 256) (lim := 65536) (by decide) (by decide)
  rw [show (256 : Int).toNat = 256 from rfl] at hRd
  clear h hE
  cases hp : parseS l 256 65536 with
  | bad p cc =>
    rw [hp] at hRd
    go_enter Tryz.func18, Tryz.ntmps18
    go_wp2_with fail
    refine hRd.mono ?_
    rintro e w2 ⟨gf, rfl, hF, hb2⟩
    simp only [zg]
    have hF2 := Wk.hidQ (hF.later (alloc_below (.cells #[.int .i64 0, .slice none 0 0, .slice none 0 0, .slice none 0 0] 31)))
    have hB2 : Below w.heap.size w (w2.alloc (.cells #[.int .i64 0, .slice none 0 0, .slice none 0 0, .slice none 0 0] 31)) := hb2.alloc hb2.size _
    clear hRd hF hb2
    go_wp2
    refine bodyPost_ret (v := .tuple #[.slice none 0 0, .iface 114 (.pointer (some ⟨gf, 0, none⟩))]) (by simp [results, Tryz.results18, go_sem]) rfl ?_
    exact ⟨gf, rfl, hF2.out, hB2⟩
  | ok tb k =>
    rw [hp] at hRd
    obtain ⟨t, bs⟩ := tb
    go_enter Tryz.func18, Tryz.ntmps18
    go_wp2_with fail
    refine hRd.mono ?_
    rintro e w2 ⟨u, ov, rfl, hb2, hBo, hT⟩
    have HT : Hid (TV (fun i => w.heap.size ≤ i ∧ i < w2.heap.size) w2 u t) := hT
    obtain ⟨v1, v2, pa, pc, hu, hk9, hP1, hR1, hl9, hf9⟩ := HT.out.parts
    obtain ⟨a1, d1, e1⟩ := hP1.slc
    obtain ⟨a2, d2, e2⟩ := hR1.slc
    rw [e1, e2] at hu
    subst hu
    clear hT hP1 hR1 hl9 hf9 e1 e2 hk9
    generalize hK0 : t.1.kind = K0 at *
    generalize hL1 : t.1.line.length = L1 at *
    generalize hL2 : t.1.rings.length = L2 at *
    generalize hL3 : t.2.len = L3 at *
    clear hK0 hL1 hL2 hL3
    have hB2 : Below w.heap.size w (w2.alloc (.cells #[.int .i64 K0, .slice a1 L1 d1, .slice a2 L2 d2, .slice pa L3 pc] 31)) := hb2.alloc hb2.size _
    have HBo : Hid (Bo (w2.alloc (.cells #[.int .i64 K0, .slice a1 L1 d1, .slice a2 L2 d2, .slice pa L3 pc] 31)) w.heap.size ov bs) := hBo.keep (fun b hb => (alloc_below _).block b (hBo.blk hb).2.1)
    clear hRd hBo hb2
    go_wp2
    refine bodyPost_ret (v := .tuple #[ov, .nilIface]) (by simp [results, Tryz.results18, go_sem]) rfl ?_
    exact ⟨ov, rfl, hB2, HBo.out⟩
end Go.Proofs.YtgobnjeankjkjaaGreatDoor

