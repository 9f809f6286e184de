import Derived.Deep.Cut
import Derived.WalkKit
import Derived.ProofKit
import Derived.OpenShut
import Derived.ShutString
import Derived.ChangeOld
import Derived.Below
import Derived.BigQuiet
import Derived.Deep.DeepCutAuto
import Derived.Deep.DeepFit
import Derived.Deep.LoopGhost
import Derived.Deep.QuietTactic
import Derived.Deep.RegionHeld3
import Derived.Deep.RegionWith
import Derived.Defers
import Derived.KernelRfl
import Derived.Laws.BitsAllLaws
import Derived.Laws.CopyRow
import Derived.Laws.EntriesVeiled
import Derived.Laws.IdiomCopy
import Derived.Laws.IdiomRangeMap
import Derived.Orders
import Derived.OwnWalk
import Derived.Recover
import Derived.Scope
import Derived.WalkLawsBesides
import Derived.WalkMore
import Derived.WalkSpells
import Derived.Test.YtdcdccmbnanakaaGreatDoorRf14
/- plumblaw23: SegRefuses' walk (written by gensgp.py). -/
namespace Go.Proofs.YtdcdccmbnanakaaGreatDoor
open Go.ChangeShapes Go.WideShapes Go.ChangeAt Go.RowKit
open Na Ar
set_option linter.unusedVariables false
set_option maxHeartbeats 25600000 in
set_option maxRecDepth 100000 in
theorem refuses_walk {x0 x1 x2 x3 x4 x5 x6 x7 wh bi : Int} {yb : Bool} (u0 : U x0) (u1 : U x1) (u2 : U x2) (u3 : U x3) (u4 : U x4) (u5 : U x5) (u6 : U x6) (u7 : U x7) (bw0 : -9223372036854775808 ≤ wh) (bw1 : wh ≤ 9223372036854775807) (ub : U bi) {w : World} (hG : GrVar w) :
    Calls Tryz.prog 8 #[.agg #[.int .u64 x0, .int .u64 x1, .int .u64 x2, .int .u64 x3, .int .u64 x4, .int .u64 x5, .int .u64 x6, .int .u64 x7], .agg #[.int .i64 wh, .int .u64 bi, .bool yb]] w fun e w' => e = .returned (.bool true) ∧ Below w.heap.size w w' := by
  obtain ⟨w0, hw0⟩ : ∃ w0, w0 = (w.alloc (.cells #[.int .u64 x0, .int .u64 x1, .int .u64 x2, .int .u64 x3, .int .u64 x4, .int .u64 x5, .int .u64 x6, .int .u64 x7] 26)).alloc (.cells #[.int .i64 wh, .int .u64 bi, .bool yb] 72) := ⟨_, rfl⟩
  obtain ⟨v1, v2, hb0⟩ : Pb w0 w.heap.size 26 #[.int .u64 x0, .int .u64 x1, .int .u64 x2, .int .u64 x3, .int .u64 x4, .int .u64 x5, .int .u64 x6, .int .u64 x7] ∧ Pb w0 (w.heap.size + 1) 72 #[.int .i64 wh, .int .u64 bi, .bool yb] ∧ Below w.heap.size w w0 := by
    subst hw0
    exact pb_two' _ _ _ _ _
  have c1 := fun w => spots823_any u0 u1 u2 u3 u4 u5 u6 u7 w
  have h0 := finF_ok u0
  have h1 := finF_ok u1
  have h2 := finF_ok u2
  have h3 := finF_ok u3
  have h4 := finF_ok u4
  have h5 := finF_ok u5
  have h6 := finF_ok u6
  have h7 := finF_ok u7
  generalize finF x0 = y0 at *
  generalize finF x1 = y1 at *
  generalize finF x2 = y2 at *
  generalize finF x3 = y3 at *
  generalize finF x4 = y4 at *
  generalize finF x5 = y5 at *
  generalize finF x6 = y6 at *
  generalize finF x7 = y7 at *
  obtain ⟨ob, of⟩ := or_inf ub
  clear u0 u1 u2 u3 u4 u5 u6 u7
  have HGR : Hid (GrVar w) := hG
  obtain ⟨i0, i1, i2, i3, i4, i5, i6, i7⟩ := (show w0.cell? ⟨w.heap.size, 0, none⟩ = some (.int .u64 x0) ∧ w0.cell? ⟨w.heap.size, 1, none⟩ = some (.int .u64 x1) ∧ w0.cell? ⟨w.heap.size, 2, none⟩ = some (.int .u64 x2) ∧ w0.cell? ⟨w.heap.size, 3, none⟩ = some (.int .u64 x3) ∧ w0.cell? ⟨w.heap.size, 4, none⟩ = some (.int .u64 x4) ∧ w0.cell? ⟨w.heap.size, 5, none⟩ = some (.int .u64 x5) ∧ w0.cell? ⟨w.heap.size, 6, none⟩ = some (.int .u64 x6) ∧ w0.cell? ⟨w.heap.size, 7, none⟩ = some (.int .u64 x7) from ⟨v1.cell 0 rfl, v1.cell 1 rfl, v1.cell 2 rfl, v1.cell 3 rfl, v1.cell 4 rfl, v1.cell 5 rfl, v1.cell 6 rfl, v1.cell 7 rfl⟩)
  rw [hw0] at i0 i1 i2 i3 i4 i5 i6 i7
  have HW0 : Hid ((w.alloc (.cells #[.int .u64 x0, .int .u64 x1, .int .u64 x2, .int .u64 x3, .int .u64 x4, .int .u64 x5, .int .u64 x6, .int .u64 x7] 26)).alloc (.cells #[.int .i64 wh, .int .u64 bi, .bool yb] 72) = w0) := hw0.symm
  clear hw0 hG
  go_enter Tryz.func8, Tryz.ntmps8
  go_wp2_with fail
  rw [HW0.out]
  clear HW0 i0 i1 i2 i3 i4 i5 i6 i7
  obtain ⟨g, hg⟩ : ∃ g, g = w.heap.size := ⟨_, rfl⟩
  have HG : Hid (w.heap.size = g) := hg.symm
  rw [← hg] at v1 v2 hb0 ⊢
  clear hg
  have hz : g + 2 ≤ w0.heap.size := by have := v2.lt; omega
  refine (c1 w0).mono ?_
  rintro e wA ⟨rfl, hbA⟩
  have q1 := v1.later hbA
  have q2 := v2.later hbA
  have BA := hb0.trans (hbA.mono (by omega))
  have sA : g + 2 ≤ wA.heap.size := by have := hbA.size; omega
  clear v1 v2 hb0 c1 hbA hz
  obtain ⟨i0, i1, i2, i3, i4, i5, i6, i7⟩ := (show wA.cell? ⟨g, 0, none⟩ = some (.int .u64 x0) ∧ wA.cell? ⟨g, 1, none⟩ = some (.int .u64 x1) ∧ wA.cell? ⟨g, 2, none⟩ = some (.int .u64 x2) ∧ wA.cell? ⟨g, 3, none⟩ = some (.int .u64 x3) ∧ wA.cell? ⟨g, 4, none⟩ = some (.int .u64 x4) ∧ wA.cell? ⟨g, 5, none⟩ = some (.int .u64 x5) ∧ wA.cell? ⟨g, 6, none⟩ = some (.int .u64 x6) ∧ wA.cell? ⟨g, 7, none⟩ = some (.int .u64 x7) from ⟨q1.cell 0 rfl, q1.cell 1 rfl, q1.cell 2 rfl, q1.cell 3 rfl, q1.cell 4 rfl, q1.cell 5 rfl, q1.cell 6 rfl, q1.cell 7 rfl⟩)
  obtain ⟨f0, f1, f2, f3, f4, f5, f6, f7⟩ := (show wA.frozen? ⟨g, 0, none⟩ = false ∧ wA.frozen? ⟨g, 1, none⟩ = false ∧ wA.frozen? ⟨g, 2, none⟩ = false ∧ wA.frozen? ⟨g, 3, none⟩ = false ∧ wA.frozen? ⟨g, 4, none⟩ = false ∧ wA.frozen? ⟨g, 5, none⟩ = false ∧ wA.frozen? ⟨g, 6, none⟩ = false ∧ wA.frozen? ⟨g, 7, none⟩ = false from ⟨q1.frozen _, q1.frozen _, q1.frozen _, q1.frozen _, q1.frozen _, q1.frozen _, q1.frozen _, q1.frozen _⟩)
  have P1 := q1.put8 (.int .u64 y0) (.int .u64 y1) (.int .u64 y2) (.int .u64 y3) (.int .u64 y4) (.int .u64 y5) (.int .u64 y6) (.int .u64 y7)
  have I1 := in8p wA g (.int .u64 y0) (.int .u64 y1) (.int .u64 y2) (.int .u64 y3) (.int .u64 y4) (.int .u64 y5) (.int .u64 y6) (.int .u64 y7)
  have p2 := q2.inn I1 (by omega)
  have B1 := below_in BA I1 (Nat.le_refl _) (Nat.le_of_eq HG.out.symm)
  have s1 := I1.size
  go_upto_region 2 with fail
  generalize ((((((((wA.setCell ⟨g, 0, none⟩ (.int .u64 y0)).setCell ⟨g, 1, none⟩ (.int .u64 y1)).setCell ⟨g, 2, none⟩ (.int .u64 y2)).setCell ⟨g, 3, none⟩ (.int .u64 y3)).setCell ⟨g, 4, none⟩ (.int .u64 y4)).setCell ⟨g, 5, none⟩ (.int .u64 y5)).setCell ⟨g, 6, none⟩ (.int .u64 y6)).setCell ⟨g, 7, none⟩ (.int .u64 y7)) = w1 at *
  clear i0 i1 i2 i3 i4 i5 i6 i7 f0 f1 f2 f3 f4 f5 f6 f7 q1 q2 BA I1
  obtain ⟨i0, i1, i2, i3, i4, i5, i6, i7⟩ := P1.cells8
  have al := alloc_below (w := w1) (.cells #[.int .u64 y0, .int .u64 y1, .int .u64 y2, .int .u64 y3, .int .u64 y4, .int .u64 y5, .int .u64 y6, .int .u64 y7] 24)
  have L := Pb.new w1 24 #[.int .u64 y0, .int .u64 y1, .int .u64 y2, .int .u64 y3, .int .u64 y4, .int .u64 y5, .int .u64 y6, .int .u64 y7]
  have B2 := B1.trans (al.mono (by omega))
  have p3 := p2.later al
  have szL : (w1.alloc (.cells #[.int .u64 y0, .int .u64 y1, .int .u64 y2, .int .u64 y3, .int .u64 y4, .int .u64 y5, .int .u64 y6, .int .u64 y7] 24)).heap.size = w1.heap.size + 1 := by simp
  clear P1 p2 B1 al
  go_upto_region 3 with fail
  obtain ⟨h, hh⟩ : ∃ h, h = w1.heap.size := ⟨_, rfl⟩
  have sh : g + 2 ≤ h := by omega
  rw [← hh] at L szL ⊢
  generalize w1.alloc (.cells #[.int .u64 y0, .int .u64 y1, .int .u64 y2, .int .u64 y3, .int .u64 y4, .int .u64 y5, .int .u64 y6, .int .u64 y7] 24) = w2 at *
  clear i0 i1 i2 i3 i4 i5 i6 i7 hh s1 sA
  obtain ⟨j0, j1, j2⟩ := pb_tri p3
  go_upto_if 40 with fail
  have kb : -2 ≤ wh.tmod 3 ∧ wh.tmod 3 ≤ 2 := by
    by_cases h0 : 0 ≤ wh
    · rw [Int.tmod_eq_emod_of_nonneg h0]; omega
    · rw [show wh = -(-wh) by omega, Int.neg_tmod, Int.tmod_eq_emod_of_nonneg (by omega)]; omega
  go_cut [6] from 41 to 42 (fun v wx => ∃ kk : Nat, kk ≤ 2 ∧ v = .int .i64 (kk : Int) ∧ wx = w2)
  case first =>
    generalize wh.tmod 3 = k0 at *
    by_cases hk : k0 < 0
    · go_wp2
      go_meet
      exact ⟨(-k0).toNat, by omega, by rw [Int.toNat_of_nonneg (by omega)], rfl⟩
    · go_wp2
      go_meet
      exact ⟨k0.toNat, by omega, by rw [Int.toNat_of_nonneg (by omega)], rfl⟩
  obtain ⟨kk, hkk, rfl, rfl⟩ := hcut
  obtain ⟨w2, hw2⟩ : ∃ w2, w2 = wc := ⟨_, rfl⟩
  subst hw2
  obtain ⟨hu0, hf0⟩ := h0
  obtain ⟨hu1, hf1⟩ := h1
  obtain ⟨hu2, hf2⟩ := h2
  obtain ⟨hu3, hf3⟩ := h3
  obtain ⟨hu4, hf4⟩ := h4
  obtain ⟨hu5, hf5⟩ := h5
  obtain ⟨hu6, hf6⟩ := h6
  obtain ⟨hu7, hf7⟩ := h7
  clear kb bw0 bw1 ub
  go_upto_if 47 with fail
  obtain ⟨z, hz⟩ : ∃ z, z = bits .or .u64 bi 9218868437227405312 := ⟨_, rfl⟩
  rw [← hz] at ob of ⊢
  clear hz
  have hz := ob
  have hf := of
  go_cut [] from 48 to 57 (fun wx => ∃ z0 z1 z2 z3 z4 z5 z6 z7 : Int, Pb wx h 24 #[.int .u64 z0, .int .u64 z1, .int .u64 z2, .int .u64 z3, .int .u64 z4, .int .u64 z5, .int .u64 z6, .int .u64 z7] ∧ (U z0 ∧ U z1 ∧ U z2 ∧ U z3 ∧ U z4 ∧ U z5 ∧ U z6 ∧ U z7) ∧ ¬ (fin2 (z0, z1) ∧ fin2 (z2, z3) ∧ fin2 (z4, z5)) ∧ In h (h + 1) w2 wx)
  case first =>
    have g0 := L.frozen 0
    have g1 := L.frozen 1
    have g2 := L.frozen 2
    have g3 := L.frozen 3
    have g4 := L.frozen 4
    have g5 := L.frozen 5
    obtain ⟨i0, i1, i2, i3, i4, i5, i6, i7⟩ := L.cells8
    clear j0 j1 j2
    rcases (show kk = 0 ∨ kk = 1 ∨ kk = 2 by omega) with rfl | rfl | rfl
    · cases yb with
      | true =>
        go_wp2_with fail
        go_meet
        exact ⟨y0, z, y2, y3, y4, y5, y6, y7, L.set 1 (.int .u64 z), ⟨hu0, hz, hu2, hu3, hu4, hu5, hu6, hu7⟩, fun q => q.1.2 hf, (In.refl h (h + 1) w2).set1 1 _⟩
      | false =>
        go_wp2_with fail
        go_meet
        exact ⟨z, y1, y2, y3, y4, y5, y6, y7, L.set 0 (.int .u64 z), ⟨hz, hu1, hu2, hu3, hu4, hu5, hu6, hu7⟩, fun q => q.1.1 hf, (In.refl h (h + 1) w2).set1 0 _⟩
    · cases yb with
      | true =>
        go_wp2_with fail
        go_meet
        exact ⟨y0, y1, y2, z, y4, y5, y6, y7, L.set 3 (.int .u64 z), ⟨hu0, hu1, hu2, hz, hu4, hu5, hu6, hu7⟩, fun q => q.2.1.2 hf, (In.refl h (h + 1) w2).set1 3 _⟩
      | false =>
        go_wp2_with fail
        go_meet
        exact ⟨y0, y1, z, y3, y4, y5, y6, y7, L.set 2 (.int .u64 z), ⟨hu0, hu1, hz, hu3, hu4, hu5, hu6, hu7⟩, fun q => q.2.1.1 hf, (In.refl h (h + 1) w2).set1 2 _⟩
    · cases yb with
      | true =>
        go_wp2_with fail
        go_meet
        exact ⟨y0, y1, y2, y3, y4, z, y6, y7, L.set 5 (.int .u64 z), ⟨hu0, hu1, hu2, hu3, hu4, hz, hu6, hu7⟩, fun q => q.2.2.2 hf, (In.refl h (h + 1) w2).set1 5 _⟩
      | false =>
        go_wp2_with fail
        go_meet
        exact ⟨y0, y1, y2, y3, z, y5, y6, y7, L.set 4 (.int .u64 z), ⟨hu0, hu1, hu2, hu3, hz, hu5, hu6, hu7⟩, fun q => q.2.2.1 hf, (In.refl h (h + 1) w2).set1 4 _⟩
  obtain ⟨z0, z1, z2, z3, z4, z5, z6, z7, LZ, hUz, hnf, I2⟩ := hcut
  obtain ⟨w5, hw5⟩ : ∃ w5, w5 = wc := ⟨_, rfl⟩
  subst hw5
  have B5 := below_in B2 I2 (by omega) (Nat.le_of_eq HG.out.symm)
  have hU2 : U2 (z0, z1) ∧ U2 (z2, z3) ∧ U2 (z4, z5) ∧ U2 (z6, z7) := ⟨⟨hUz.1, hUz.2.1⟩, ⟨hUz.2.2.1, hUz.2.2.2.1⟩, ⟨hUz.2.2.2.2.1, hUz.2.2.2.2.2.1⟩, ⟨hUz.2.2.2.2.2.2.1, hUz.2.2.2.2.2.2.2⟩⟩
  have hm1 := fun w => Meet23_inf (w := w) hU2.1 hU2.2.1 hU2.2.2.1 hU2.2.2.2 (fun q => hnf ⟨q.1, q.2.1, q.2.2.1⟩)
  have hm2 := fun w => Meet23_inf (w := w) hU2.2.2.2 hU2.2.2.1 hU2.2.1 hU2.1 (fun q => hnf ⟨q.2.2.2, q.2.2.1, q.2.1⟩)
  have hc1 := fun w => Cross23_inf (w := w) hU2.1 hU2.2.1 hU2.2.2.1 hU2.2.2.2 (fun q => hnf ⟨q.1, q.2.1, q.2.2.1⟩)
  have hq1 := fun w => Foot23_inf (w := w) hU2.1 hU2.2.1 hU2.2.2.1 hnf
  have hq2 := fun w => Far23_inf (w := w) hU2.1 hU2.2.1 hU2.2.2.1 hnf
  have HUU : Hid _ := hU2
  have HNF : Hid _ := hnf
  have HGG : Hid _ := B5
  have ho5 : h < w5.heap.size := LZ.lt
  clear hU2 hnf hUz L I2 B2 B5 hz hf ob of hu0 hu1 hu2 hu3 hu4 hu5 hu6 hu7 hf0 hf1 hf2 hf3 hf4 hf5 hf6 hf7 j0 j1 j2 p3 szL
  have HO : Hid (∀ w', Below w5.heap.size w5 w' → w'.cell? ⟨h, 0, none⟩ = some (.int .u64 z0) ∧ w'.cell? ⟨h, 1, none⟩ = some (.int .u64 z1) ∧ w'.cell? ⟨h, 2, none⟩ = some (.int .u64 z2) ∧ w'.cell? ⟨h, 3, none⟩ = some (.int .u64 z3) ∧ w'.cell? ⟨h, 4, none⟩ = some (.int .u64 z4) ∧ w'.cell? ⟨h, 5, none⟩ = some (.int .u64 z5) ∧ w'.cell? ⟨h, 6, none⟩ = some (.int .u64 z6) ∧ w'.cell? ⟨h, 7, none⟩ = some (.int .u64 z7)) := fun w' q => (LZ.later q).cells8
  obtain ⟨i0, i1, i2, i3, i4, i5, i6, i7⟩ := HO.out w5 (Below.refl _ _)
  have na0 : ¬ w5.heap.size = h := by have := LZ.lt; omega
  have nb0 : ¬ h = w5.heap.size := by have := LZ.lt; omega
  go_upto_region 10 with fail
  go_cut [8, 9] from 58 to 73 (fun v v' wx => ∃ r, v = .pointer (some ⟨r, 0, none⟩) ∧ Pb wx r 29 #[.int .i64 0, .bool false, .int .u64 0, .int .u64 0, .int .u64 0, .int .u64 0] ∧ v' = .int .i64 220 ∧ Below w5.heap.size w5 wx)
  case first =>
    have hlt := LZ.lt
    go_region_held3 (fun w' => w'.cell? ⟨h, 0, none⟩ = some (.int .u64 z0) ∧ w'.cell? ⟨h, 1, none⟩ = some (.int .u64 z1) ∧ w'.cell? ⟨h, 2, none⟩ = some (.int .u64 z2) ∧ w'.cell? ⟨h, 3, none⟩ = some (.int .u64 z3) ∧ w'.cell? ⟨h, 4, none⟩ = some (.int .u64 z4) ∧ w'.cell? ⟨h, 5, none⟩ = some (.int .u64 z5) ∧ w'.cell? ⟨h, 6, none⟩ = some (.int .u64 z6) ∧ w'.cell? ⟨h, 7, none⟩ = some (.int .u64 z7)) (go_keep) ((go_at_call 10; refine (hm1 _).mono ?_; rintro e wX ⟨rfl, hbo⟩; have hbX := bel_step (a := w5) hbo (by first | exact Below.refl _ _ | exact below_drewN (Below.refl _ _) 1 | exact alloc_below _ | exact below_drewN (alloc_below _) 1); have sX := hbX.size; have na1 : ¬ wX.heap.size = h := (by omega); have nb1 : ¬ h = wX.heap.size := (by omega); (first | (have Nr8 : Pb wX w5.heap.size 29 #[.int .i64 0, .bool false, .int .u64 0, .int .u64 0, .int .u64 0, .int .u64 0] := (by refine Pb.later ?_ hbo; exact Pb.new w5 29 _)) | skip); (try (obtain ⟨k0, k1, k2, k3, k4, k5⟩ := Nr8.cells6)); (try (obtain ⟨l0, l1, l2, l3, l4, l5⟩ := Nr8.free6)); clear i0 i1 i2 i3 i4 i5 i6 i7; obtain ⟨i0, i1, i2, i3, i4, i5, i6, i7⟩ := HO.out wX hbX))
    all_goals (go_wp2_with fail)
    all_goals go_meet
    · exact ⟨wX.heap.size, rfl, Pb.new _ _ _, rfl, hbX.trans ((alloc_below _).mono hbX.size)⟩
    · exact ⟨w5.heap.size, rfl, Nr8.put6 _ _ _ _ _ _, rfl, below_in hbX (in6p wX w5.heap.size (.int .i64 0) (.bool false) (.int .u64 0) (.int .u64 0) (.int .u64 0) (.int .u64 0)) (Nat.le_refl _) (Nat.le_refl _)⟩
  clear i0 i1 i2 i3 i4 i5 i6 i7 HO na0 nb0
  obtain ⟨r8, rfl, Nr8, rfl, hbwM⟩ := hcut
  obtain ⟨wM, hwwM⟩ : ∃ wM, wM = wc := ⟨_, rfl⟩
  subst hwwM
  have LZ := LZ.later hbwM
  have HBwM : Hid _ := HGG.out.trans (hbwM.mono (by have := HGG.out.size; have := HG.out; omega))
  have HGG : Hid _ := HBwM.out
  have N9 := Nr8
  have HO : Hid (∀ w', Below wM.heap.size wM w' → w'.cell? ⟨h, 0, none⟩ = some (.int .u64 z0) ∧ w'.cell? ⟨h, 1, none⟩ = some (.int .u64 z1) ∧ w'.cell? ⟨h, 2, none⟩ = some (.int .u64 z2) ∧ w'.cell? ⟨h, 3, none⟩ = some (.int .u64 z3) ∧ w'.cell? ⟨h, 4, none⟩ = some (.int .u64 z4) ∧ w'.cell? ⟨h, 5, none⟩ = some (.int .u64 z5) ∧ w'.cell? ⟨h, 6, none⟩ = some (.int .u64 z6) ∧ w'.cell? ⟨h, 7, none⟩ = some (.int .u64 z7)) := fun w' q => (LZ.later q).cells8
  obtain ⟨i0, i1, i2, i3, i4, i5, i6, i7⟩ := HO.out wM (Below.refl _ _)
  have na0 : ¬ wM.heap.size = h := by have := LZ.lt; omega
  have nb0 : ¬ h = wM.heap.size := by have := LZ.lt; omega
  go_upto_region 11 with fail
  go_cut [10, 11] from 74 to 89 (fun v v' wx => ∃ r, v = .pointer (some ⟨r, 0, none⟩) ∧ Pb wx r 29 #[.int .i64 0, .bool false, .int .u64 0, .int .u64 0, .int .u64 0, .int .u64 0] ∧ v' = .int .i64 220 ∧ Below wM.heap.size wM wx)
  case first =>
    have hlt := LZ.lt
    go_region_held3 (fun w' => w'.cell? ⟨h, 0, none⟩ = some (.int .u64 z0) ∧ w'.cell? ⟨h, 1, none⟩ = some (.int .u64 z1) ∧ w'.cell? ⟨h, 2, none⟩ = some (.int .u64 z2) ∧ w'.cell? ⟨h, 3, none⟩ = some (.int .u64 z3) ∧ w'.cell? ⟨h, 4, none⟩ = some (.int .u64 z4) ∧ w'.cell? ⟨h, 5, none⟩ = some (.int .u64 z5) ∧ w'.cell? ⟨h, 6, none⟩ = some (.int .u64 z6) ∧ w'.cell? ⟨h, 7, none⟩ = some (.int .u64 z7)) (go_keep) ((go_at_call 10; refine (hm2 _).mono ?_; rintro e wX ⟨rfl, hbo⟩; have hbX := bel_step (a := wM) hbo (by first | exact Below.refl _ _ | exact below_drewN (Below.refl _ _) 1 | exact alloc_below _ | exact below_drewN (alloc_below _) 1); have sX := hbX.size; have na1 : ¬ wX.heap.size = h := (by omega); have nb1 : ¬ h = wX.heap.size := (by omega); (first | (have Nr9 : Pb wX wM.heap.size 29 #[.int .i64 0, .bool false, .int .u64 0, .int .u64 0, .int .u64 0, .int .u64 0] := (by refine Pb.later ?_ hbo; exact Pb.new wM 29 _)) | skip); (try (obtain ⟨k0, k1, k2, k3, k4, k5⟩ := Nr9.cells6)); (try (obtain ⟨l0, l1, l2, l3, l4, l5⟩ := Nr9.free6)); clear i0 i1 i2 i3 i4 i5 i6 i7; obtain ⟨i0, i1, i2, i3, i4, i5, i6, i7⟩ := HO.out wX hbX))
    all_goals (go_wp2_with fail)
    all_goals go_meet
    · exact ⟨wX.heap.size, rfl, Pb.new _ _ _, rfl, hbX.trans ((alloc_below _).mono hbX.size)⟩
    · exact ⟨wM.heap.size, rfl, Nr9.put6 _ _ _ _ _ _, rfl, below_in hbX (in6p wX wM.heap.size (.int .i64 0) (.bool false) (.int .u64 0) (.int .u64 0) (.int .u64 0) (.int .u64 0)) (Nat.le_refl _) (Nat.le_refl _)⟩
  clear i0 i1 i2 i3 i4 i5 i6 i7 HO na0 nb0
  obtain ⟨r9, rfl, Nr9, rfl, hbwN⟩ := hcut
  obtain ⟨wN, hwwN⟩ : ∃ wN, wN = wc := ⟨_, rfl⟩
  subst hwwN
  have LZ := LZ.later hbwN
  have HBwN : Hid _ := HGG.out.trans (hbwN.mono (by have := HGG.out.size; have := HG.out; omega))
  have HGG : Hid _ := HBwN.out
  have Nr8 := N9.later hbwN
  have HO : Hid (∀ w', Below wN.heap.size wN w' → w'.cell? ⟨h, 0, none⟩ = some (.int .u64 z0) ∧ w'.cell? ⟨h, 1, none⟩ = some (.int .u64 z1) ∧ w'.cell? ⟨h, 2, none⟩ = some (.int .u64 z2) ∧ w'.cell? ⟨h, 3, none⟩ = some (.int .u64 z3) ∧ w'.cell? ⟨h, 4, none⟩ = some (.int .u64 z4) ∧ w'.cell? ⟨h, 5, none⟩ = some (.int .u64 z5) ∧ w'.cell? ⟨h, 6, none⟩ = some (.int .u64 z6) ∧ w'.cell? ⟨h, 7, none⟩ = some (.int .u64 z7)) := fun w' q => (LZ.later q).cells8
  obtain ⟨i0, i1, i2, i3, i4, i5, i6, i7⟩ := HO.out wN (Below.refl _ _)
  have na0 : ¬ wN.heap.size = h := by have := LZ.lt; omega
  have nb0 : ¬ h = wN.heap.size := by have := LZ.lt; omega
  have na2 : ¬ wN.heap.size + 1 = h := by have := LZ.lt; omega
  have nb2 : ¬ h = wN.heap.size + 1 := by have := LZ.lt; omega
  go_upto_region 12 with fail
  go_cut [12, 13, 14] from 90 to 106 (fun v v' v'' wx => ∃ r r', v = .pointer (some ⟨r, 0, none⟩) ∧ v' = .pointer (some ⟨r', 0, none⟩) ∧ Pb wx r 38 #[.bool false, .slice none 0 0, .slice none 0 0] ∧ Pb wx r' 38 #[.bool false, .slice none 0 0, .slice none 0 0] ∧ v'' = .int .i64 220 ∧ Below wN.heap.size wN wx)
  case first =>
    have hlt := LZ.lt
    go_region_held3 (fun w' => w'.cell? ⟨h, 0, none⟩ = some (.int .u64 z0) ∧ w'.cell? ⟨h, 1, none⟩ = some (.int .u64 z1) ∧ w'.cell? ⟨h, 2, none⟩ = some (.int .u64 z2) ∧ w'.cell? ⟨h, 3, none⟩ = some (.int .u64 z3) ∧ w'.cell? ⟨h, 4, none⟩ = some (.int .u64 z4) ∧ w'.cell? ⟨h, 5, none⟩ = some (.int .u64 z5) ∧ w'.cell? ⟨h, 6, none⟩ = some (.int .u64 z6) ∧ w'.cell? ⟨h, 7, none⟩ = some (.int .u64 z7)) (go_keep) ((go_at_call 14; refine (hc1 _).mono ?_; rintro e wX ⟨rfl, hbo⟩; have hbX := bel_step (a := wN) hbo (by first | exact Below.refl _ _ | exact below_drewN (Below.refl _ _) 1 | exact alloc_below _ | exact below_drewN (alloc_below _) 1 | exact (alloc_below _).trans ((alloc_below _).mono (alloc_below _).size) | exact below_drewN ((alloc_below _).trans ((alloc_below _).mono (alloc_below _).size)) 1); have sX := hbX.size; have na1 : ¬ wX.heap.size = h := (by omega); have nb1 : ¬ h = wX.heap.size := (by omega); have na3 : ¬ wX.heap.size + 1 = h := (by omega); have nb3 : ¬ h = wX.heap.size + 1 := (by omega); (first | (have N1 : Pb wX wN.heap.size 38 #[.bool false, .slice none 0 0, .slice none 0 0] ∧ Pb wX (wN.heap.size + 1) 38 #[.bool false, .slice none 0 0, .slice none 0 0] := (by have t := pb_2 wN #[.bool false, .slice none 0 0, .slice none 0 0] #[.bool false, .slice none 0 0, .slice none 0 0] 38 38; exact ⟨(by refine Pb.later ?_ hbo; exact t.1), (by refine Pb.later ?_ hbo; exact t.2.1)⟩)) | (have N1 : Pb wX wN.heap.size 38 #[.bool false, .slice none 0 0, .slice none 0 0] := (by refine Pb.later ?_ hbo; exact Pb.new wN 38 _)) | skip); (first | (have t1 := N1.1.lt; have t2 := N1.2.lt; have e1 := pb_tri N1.1; have e2 := pb_tri N1.2; have e3 := three_free N1.1 0; have e4 := three_free N1.2 0; obtain ⟨k0, k1, k2⟩ := e1; obtain ⟨k3, k4, k5⟩ := e2; obtain ⟨l0, l1, l2⟩ := e3; obtain ⟨l3, l4, l5⟩ := e4; have nd1 : ¬ wN.heap.size = wX.heap.size := (by omega)) | (have t1 := N1.lt; have e1 := pb_tri N1; have e3 := three_free N1 0; obtain ⟨k0, k1, k2⟩ := e1; obtain ⟨l0, l1, l2⟩ := e3; have nd1 : ¬ wN.heap.size = wX.heap.size := (by omega)) | skip); (try (have nd2 : ¬ wX.heap.size = wN.heap.size := fun q => nd1 q.symm)); (try (have N1a := N1.later (alloc_below (w := wX) (.cells #[.bool false, .slice none 0 0, .slice none 0 0] 38)); have e5 := pb_tri N1a; have e6 := three_free N1a 0; obtain ⟨o0, o1, o2⟩ := e5; obtain ⟨o3, o4, o5⟩ := e6)); have A1 := Pb.new wX 38 #[.bool false, .slice none 0 0, .slice none 0 0]; have a5 := pb_tri A1; have a6 := three_free A1 0; obtain ⟨q0, q1, q2⟩ := a5; obtain ⟨q3, q4, q5⟩ := a6; have A2 := pb_2 wX #[.bool false, .slice none 0 0, .slice none 0 0] #[.bool false, .slice none 0 0, .slice none 0 0] 38 38; have a7 := pb_tri A2.1; have a8 := three_free A2.1 0; obtain ⟨b0, b1, b2⟩ := a7; obtain ⟨b3, b4, b5⟩ := a8; have a9 := pb_tri A2.2.1; have a10 := three_free A2.2.1 0; obtain ⟨c0, c1, c2⟩ := a9; obtain ⟨c3, c4, c5⟩ := a10; obtain ⟨i0, i1, i2, i3, i4, i5, i6, i7⟩ := HO.out wX hbX))
    all_goals (go_wp2_with fail)
    all_goals go_meet
    · exact ⟨wX.heap.size, wX.heap.size + 1, rfl, rfl, A2.1, A2.2.1, rfl, hbX.trans (A2.2.2.1.mono hbX.size)⟩
    · exact ⟨wX.heap.size + 1, wX.heap.size, rfl, rfl, A2.2.1, A2.1, rfl, hbX.trans (A2.2.2.1.mono hbX.size)⟩
    · exact two_mid N1 hbX
    · have tz := trw_two N1.1 N1.2 (by omega) (.bool false) (.slice none 0 0) (.slice none 0 0) (.bool false) (.slice none 0 0) (.slice none 0 0)
      exact ⟨wN.heap.size, wN.heap.size + 1, rfl, rfl, tz.1, tz.2.1, rfl, below_in (below_in hbX tz.2.2.1 (Nat.le_refl _) (Nat.le_refl _)) tz.2.2.2 (by omega) (Nat.le_refl _)⟩
    · obtain ⟨r, r', e1, e2, p1, p2, e3, p3⟩ := two_mid N1 hbX
      exact ⟨r', r, e2, e1, p2, p1, e3, p3⟩
    · have tz := trw_two N1.2 N1.1 (by omega) (.bool false) (.slice none 0 0) (.slice none 0 0) (.bool false) (.slice none 0 0) (.slice none 0 0)
      exact ⟨wN.heap.size + 1, wN.heap.size, rfl, rfl, tz.1, tz.2.1, rfl, below_in (below_in hbX tz.2.2.1 (by omega) (Nat.le_refl _)) tz.2.2.2 (Nat.le_refl _) (Nat.le_refl _)⟩
  clear i0 i1 i2 i3 i4 i5 i6 i7 HO na0 nb0 na2 nb2
  obtain ⟨ra, rb, rfl, rfl, Nra, Nrb, rfl, hbwP⟩ := hcut
  obtain ⟨wP, hwwP⟩ : ∃ wP, wP = wc := ⟨_, rfl⟩
  subst hwwP
  have LZ := LZ.later hbwP
  have HBwP : Hid _ := HGG.out.trans (hbwP.mono (by have := HGG.out.size; have := HG.out; omega))
  have HGG : Hid _ := HBwP.out
  have Nr8b := Nr8.later hbwP
  have Nr9b := Nr9.later hbwP
  have HO : Hid (∀ w', Below wP.heap.size wP w' → w'.cell? ⟨h, 0, none⟩ = some (.int .u64 z0) ∧ w'.cell? ⟨h, 1, none⟩ = some (.int .u64 z1) ∧ w'.cell? ⟨h, 2, none⟩ = some (.int .u64 z2) ∧ w'.cell? ⟨h, 3, none⟩ = some (.int .u64 z3) ∧ w'.cell? ⟨h, 4, none⟩ = some (.int .u64 z4) ∧ w'.cell? ⟨h, 5, none⟩ = some (.int .u64 z5) ∧ w'.cell? ⟨h, 6, none⟩ = some (.int .u64 z6) ∧ w'.cell? ⟨h, 7, none⟩ = some (.int .u64 z7)) := fun w' q => (LZ.later q).cells8
  obtain ⟨i0, i1, i2, i3, i4, i5, i6, i7⟩ := HO.out wP (Below.refl _ _)
  have na0 : ¬ wP.heap.size = h := by have := LZ.lt; omega
  have nb0 : ¬ h = wP.heap.size := by have := LZ.lt; omega
  have na2 : ¬ wP.heap.size + 1 = h := by have := LZ.lt; omega
  have nb2 : ¬ h = wP.heap.size + 1 := by have := LZ.lt; omega
  go_upto_region 13 with fail
  go_cut [15, 16, 17] from 107 to 120 (fun v v' v'' wx => ∃ r r', v = .pointer (some ⟨r, 0, none⟩) ∧ v' = .pointer (some ⟨r', 0, none⟩) ∧ Pb wx r 38 #[.bool false, .slice none 0 0, .slice none 0 0] ∧ Pb wx r' 38 #[.bool false, .slice none 0 0, .slice none 0 0] ∧ v'' = .int .i64 220 ∧ Below wP.heap.size wP wx)
  case first =>
    have hlt := LZ.lt
    go_region_held3 (fun w' => w'.cell? ⟨h, 0, none⟩ = some (.int .u64 z0) ∧ w'.cell? ⟨h, 1, none⟩ = some (.int .u64 z1) ∧ w'.cell? ⟨h, 2, none⟩ = some (.int .u64 z2) ∧ w'.cell? ⟨h, 3, none⟩ = some (.int .u64 z3) ∧ w'.cell? ⟨h, 4, none⟩ = some (.int .u64 z4) ∧ w'.cell? ⟨h, 5, none⟩ = some (.int .u64 z5) ∧ w'.cell? ⟨h, 6, none⟩ = some (.int .u64 z6) ∧ w'.cell? ⟨h, 7, none⟩ = some (.int .u64 z7)) (go_keep) ((go_at_call 26; refine (hq1 _).mono ?_; rintro e wX ⟨rfl, hbo⟩; have hbX := bel_step (a := wP) hbo (by first | exact Below.refl _ _ | exact below_drewN (Below.refl _ _) 1 | exact alloc_below _ | exact below_drewN (alloc_below _) 1 | exact (alloc_below _).trans ((alloc_below _).mono (alloc_below _).size) | exact below_drewN ((alloc_below _).trans ((alloc_below _).mono (alloc_below _).size)) 1); have sX := hbX.size; have na1 : ¬ wX.heap.size = h := (by omega); have nb1 : ¬ h = wX.heap.size := (by omega); have na3 : ¬ wX.heap.size + 1 = h := (by omega); have nb3 : ¬ h = wX.heap.size + 1 := (by omega); (first | (have N1 : Pb wX wP.heap.size 38 #[.bool false, .slice none 0 0, .slice none 0 0] ∧ Pb wX (wP.heap.size + 1) 38 #[.bool false, .slice none 0 0, .slice none 0 0] := (by have t := pb_2 wP #[.bool false, .slice none 0 0, .slice none 0 0] #[.bool false, .slice none 0 0, .slice none 0 0] 38 38; exact ⟨(by refine Pb.later ?_ hbo; exact t.1), (by refine Pb.later ?_ hbo; exact t.2.1)⟩)) | (have N1 : Pb wX wP.heap.size 38 #[.bool false, .slice none 0 0, .slice none 0 0] := (by refine Pb.later ?_ hbo; exact Pb.new wP 38 _)) | skip); (first | (have t1 := N1.1.lt; have t2 := N1.2.lt; have e1 := pb_tri N1.1; have e2 := pb_tri N1.2; have e3 := three_free N1.1 0; have e4 := three_free N1.2 0; obtain ⟨k0, k1, k2⟩ := e1; obtain ⟨k3, k4, k5⟩ := e2; obtain ⟨l0, l1, l2⟩ := e3; obtain ⟨l3, l4, l5⟩ := e4; have nd1 : ¬ wP.heap.size = wX.heap.size := (by omega)) | (have t1 := N1.lt; have e1 := pb_tri N1; have e3 := three_free N1 0; obtain ⟨k0, k1, k2⟩ := e1; obtain ⟨l0, l1, l2⟩ := e3; have nd1 : ¬ wP.heap.size = wX.heap.size := (by omega)) | skip); (try (have nd2 : ¬ wX.heap.size = wP.heap.size := fun q => nd1 q.symm)); (try (have N1a := N1.later (alloc_below (w := wX) (.cells #[.bool false, .slice none 0 0, .slice none 0 0] 38)); have e5 := pb_tri N1a; have e6 := three_free N1a 0; obtain ⟨o0, o1, o2⟩ := e5; obtain ⟨o3, o4, o5⟩ := e6)); have A1 := Pb.new wX 38 #[.bool false, .slice none 0 0, .slice none 0 0]; have a5 := pb_tri A1; have a6 := three_free A1 0; obtain ⟨q0, q1, q2⟩ := a5; obtain ⟨q3, q4, q5⟩ := a6; have A2 := pb_2 wX #[.bool false, .slice none 0 0, .slice none 0 0] #[.bool false, .slice none 0 0, .slice none 0 0] 38 38; have a7 := pb_tri A2.1; have a8 := three_free A2.1 0; obtain ⟨b0, b1, b2⟩ := a7; obtain ⟨b3, b4, b5⟩ := a8; have a9 := pb_tri A2.2.1; have a10 := three_free A2.2.1 0; obtain ⟨c0, c1, c2⟩ := a9; obtain ⟨c3, c4, c5⟩ := a10; obtain ⟨i0, i1, i2, i3, i4, i5, i6, i7⟩ := HO.out wX hbX))
    all_goals (go_wp2_with fail)
    all_goals go_meet
    · exact ⟨wX.heap.size, wX.heap.size + 1, rfl, rfl, A2.1, A2.2.1, rfl, hbX.trans (A2.2.2.1.mono hbX.size)⟩
    · exact ⟨wX.heap.size + 1, wX.heap.size, rfl, rfl, A2.2.1, A2.1, rfl, hbX.trans (A2.2.2.1.mono hbX.size)⟩
    · exact two_mid N1 hbX
    · have tz := trw_two N1.1 N1.2 (by omega) (.bool false) (.slice none 0 0) (.slice none 0 0) (.bool false) (.slice none 0 0) (.slice none 0 0)
      exact ⟨wP.heap.size, wP.heap.size + 1, rfl, rfl, tz.1, tz.2.1, rfl, below_in (below_in hbX tz.2.2.1 (Nat.le_refl _) (Nat.le_refl _)) tz.2.2.2 (by omega) (Nat.le_refl _)⟩
    · obtain ⟨r, r', e1, e2, p1, p2, e3, p3⟩ := two_mid N1 hbX
      exact ⟨r', r, e2, e1, p2, p1, e3, p3⟩
    · have tz := trw_two N1.2 N1.1 (by omega) (.bool false) (.slice none 0 0) (.slice none 0 0) (.bool false) (.slice none 0 0) (.slice none 0 0)
      exact ⟨wP.heap.size + 1, wP.heap.size, rfl, rfl, tz.1, tz.2.1, rfl, below_in (below_in hbX tz.2.2.1 (by omega) (Nat.le_refl _)) tz.2.2.2 (Nat.le_refl _) (Nat.le_refl _)⟩
  clear i0 i1 i2 i3 i4 i5 i6 i7 HO na0 nb0 na2 nb2
  obtain ⟨rc, rd, rfl, rfl, Nrc, Nrd, rfl, hbwQ⟩ := hcut
  obtain ⟨wQ, hwwQ⟩ : ∃ wQ, wQ = wc := ⟨_, rfl⟩
  subst hwwQ
  have LZ := LZ.later hbwQ
  have HBwQ : Hid _ := HGG.out.trans (hbwQ.mono (by have := HGG.out.size; have := HG.out; omega))
  have HGG : Hid _ := HBwQ.out
  have Nrab := Nra.later hbwQ
  have Nrbb := Nrb.later hbwQ
  have Nr8c := Nr8b.later hbwQ
  have Nr9c := Nr9b.later hbwQ
  have HO : Hid (∀ w', Below wQ.heap.size wQ w' → w'.cell? ⟨h, 0, none⟩ = some (.int .u64 z0) ∧ w'.cell? ⟨h, 1, none⟩ = some (.int .u64 z1) ∧ w'.cell? ⟨h, 2, none⟩ = some (.int .u64 z2) ∧ w'.cell? ⟨h, 3, none⟩ = some (.int .u64 z3) ∧ w'.cell? ⟨h, 4, none⟩ = some (.int .u64 z4) ∧ w'.cell? ⟨h, 5, none⟩ = some (.int .u64 z5) ∧ w'.cell? ⟨h, 6, none⟩ = some (.int .u64 z6) ∧ w'.cell? ⟨h, 7, none⟩ = some (.int .u64 z7)) := fun w' q => (LZ.later q).cells8
  obtain ⟨i0, i1, i2, i3, i4, i5, i6, i7⟩ := HO.out wQ (Below.refl _ _)
  have na0 : ¬ wQ.heap.size = h := by have := LZ.lt; omega
  have nb0 : ¬ h = wQ.heap.size := by have := LZ.lt; omega
  go_upto_region 14 with fail
  go_cut [18, 19] from 121 to 133 (fun v v' wx => ∃ r, v = .pointer (some ⟨r, 0, none⟩) ∧ Pb wx r 38 #[.bool false, .slice none 0 0, .slice none 0 0] ∧ v' = .int .i64 220 ∧ Below wQ.heap.size wQ wx)
  case first =>
    have hlt := LZ.lt
    go_region_held3 (fun w' => w'.cell? ⟨h, 0, none⟩ = some (.int .u64 z0) ∧ w'.cell? ⟨h, 1, none⟩ = some (.int .u64 z1) ∧ w'.cell? ⟨h, 2, none⟩ = some (.int .u64 z2) ∧ w'.cell? ⟨h, 3, none⟩ = some (.int .u64 z3) ∧ w'.cell? ⟨h, 4, none⟩ = some (.int .u64 z4) ∧ w'.cell? ⟨h, 5, none⟩ = some (.int .u64 z5) ∧ w'.cell? ⟨h, 6, none⟩ = some (.int .u64 z6) ∧ w'.cell? ⟨h, 7, none⟩ = some (.int .u64 z7)) (go_keep) ((go_at_call 27; refine (hq2 _).mono ?_; rintro e wX ⟨rfl, hbo⟩; have hbX := bel_step (a := wQ) hbo (by first | exact Below.refl _ _ | exact below_drewN (Below.refl _ _) 1 | exact alloc_below _ | exact below_drewN (alloc_below _) 1); have sX := hbX.size; have na1 : ¬ wX.heap.size = h := (by omega); have nb1 : ¬ h = wX.heap.size := (by omega); (first | (have Nre : Pb wX wQ.heap.size 38 #[.bool false, .slice none 0 0, .slice none 0 0] := (by refine Pb.later ?_ hbo; exact Pb.new wQ 38 _)) | skip); (try (have e0 := Nre.lt; have e1 := pb_tri Nre; have e2 := three_free Nre 0; obtain ⟨k0, k1, k2⟩ := e1; obtain ⟨l0, l1, l2⟩ := e2)); clear i0 i1 i2 i3 i4 i5 i6 i7; obtain ⟨i0, i1, i2, i3, i4, i5, i6, i7⟩ := HO.out wX hbX))
    all_goals (go_wp2_with fail)
    all_goals go_meet
    · exact ⟨wX.heap.size, rfl, Pb.new _ _ _, rfl, hbX.trans ((alloc_below _).mono hbX.size)⟩
    · exact ⟨wQ.heap.size, rfl, ((Nre.set 0 (.bool false)).set 1 (.slice none 0 0)).set 2 (.slice none 0 0), rfl, below_in hbX (in3 wX wQ.heap.size (.bool false) (.slice none 0 0) (.slice none 0 0)) (Nat.le_refl _) (Nat.le_refl _)⟩
  clear i0 i1 i2 i3 i4 i5 i6 i7 HO na0 nb0
  obtain ⟨re, rfl, Nre, rfl, hbwF⟩ := hcut
  obtain ⟨wF, hwwF⟩ : ∃ wF, wF = wc := ⟨_, rfl⟩
  subst hwwF
  have LZ := LZ.later hbwF
  have HBwF : Hid _ := HGG.out.trans (hbwF.mono (by have := HGG.out.size; have := HG.out; omega))
  have HGG : Hid _ := HBwF.out
  have M8 := Nr8c.later hbwF
  have M9 := Nr9c.later hbwF
  have Ma := Nrab.later hbwF
  have Mb := Nrbb.later hbwF
  have Mc := Nrc.later hbwF
  have Md := Nrd.later hbwF
  have hPt : PtAt wF h 0 (fun i => [(z0, z1), (z2, z3), (z4, z5), (z6, z7)].getD i (0, 0)) 4 := by
    intro i hi
    rcases (show i = 0 ∨ i = 1 ∨ i = 2 ∨ i = 3 by omega) with rfl | rfl | rfl | rfl
    · exact ⟨LZ.cell 0 rfl, LZ.cell 1 rfl, HUU.out.1.1, HUU.out.1.2⟩
    · exact ⟨LZ.cell 2 rfl, LZ.cell 3 rfl, HUU.out.2.1.1, HUU.out.2.1.2⟩
    · exact ⟨LZ.cell 4 rfl, LZ.cell 5 rfl, HUU.out.2.2.1.1, HUU.out.2.2.1.2⟩
    · exact ⟨LZ.cell 6 rfl, LZ.cell 7 rfl, HUU.out.2.2.2.1, HUU.out.2.2.2.2⟩
  have hNo : ∃ i, i < 4 ∧ ¬ fin2 ([(z0, z1), (z2, z3), (z4, z5), (z6, z7)].getD i (0, 0)) := by
    by_cases a0 : fin2 (z0, z1)
    · by_cases a1 : fin2 (z2, z3)
      · exact ⟨2, by omega, fun a2 => HNF.out ⟨a0, a1, a2⟩⟩
      · exact ⟨1, by omega, a1⟩
    · exact ⟨0, by omega, a0⟩
  have hp1 := Pairs23_inf (c := 4) hPt LZ.lt (by omega) hNo
  clear hPt hNo hm1 hm2 hc1 hq1 hq2 Nr8 Nr9 Nr8b Nr9b Nr8c Nr9c Nra Nrb Nrab Nrbb Nrc Nrd N9
  go_upto_region 15 with fail
  go_wp2_with fail
  refine hp1.mono ?_
  rintro e wS ⟨rfl, hbS⟩
  have HBS : Hid _ := HGG.out.trans (hbS.mono (by have := HGG.out.size; have := HG.out; omega))
  have hGS : GrVar wS := HGR.out.later (by rw [HG.out]; exact HBS.out)
  have LZS := LZ.later hbS
  have T8 := M8.later hbS
  have T9 := M9.later hbS
  have Ta := Ma.later hbS
  have Tb := Mb.later hbS
  have Tc := Mc.later hbS
  have Td := Md.later hbS
  have Te := Nre.later hbS
  clear hp1 M8 M9 Ma Mb Mc Md Nre LZ hbS HGG
  go_wp2_with fail
  refine (alive23_any hGS).mono ?_
  rintro e wT ⟨rfl, hbT⟩
  have HBT : Hid _ := HBS.out.trans (hbT.mono (by have := HBS.out.size; have := HG.out; omega))
  obtain ⟨a0, a1, a2, a3, a4, a5⟩ := (T8.later hbT).cells6
  obtain ⟨b0, b1, b2, b3, b4, b5⟩ := (T9.later hbT).cells6
  have ea := pb_tri (Ta.later hbT)
  have eb := pb_tri (Tb.later hbT)
  have ec := pb_tri (Tc.later hbT)
  have ed := pb_tri (Td.later hbT)
  have ee := pb_tri (Te.later hbT)
  obtain ⟨c0, c1, c2⟩ := ea
  obtain ⟨d0, d1, d2⟩ := eb
  obtain ⟨e0, e1, e2⟩ := ec
  obtain ⟨f0, f1, f2⟩ := ed
  obtain ⟨g0, g1, g2⟩ := ee
  have LT := LZS.later hbT
  clear T8 T9 Ta Tb Tc Td Te LZS hGS hbT HBS
  go_upto_region 20 with fail
  clear a0 a1 a2 a3 a4 a5 b0 b1 b2 b3 b4 b5 c0 c1 c2 d0 d1 d2 e0 e1 e2 f0 f1 f2 g0 g1 g2
  obtain ⟨cs, hcs, hmk⟩ := makeP23 wT 513 (by omega)
  have hmk2 : (Instr.makeSlice 46 (.int .i64 513) (.int .i64 513)).run Tryz.prog wT = .ok (.slice (some ⟨wT.heap.size, 0, none⟩) 513 513) (wT.alloc (.cells cs 24)) := hmk
  have al := alloc_below (w := wT) (.cells cs 24)
  have K := Pb.new wT 24 cs
  have LU := LT.later al
  have BU := HBT.out.trans (al.mono (by have := HBT.out.size; have := HG.out; omega))
  have hTg : g ≤ wT.heap.size := by have := HBT.out.size; have := HG.out; omega
  clear hmk al
  go_upto_region 21 with fail
  clear hmk2
  obtain ⟨r, hr⟩ : ∃ r, r = wT.heap.size := ⟨_, rfl⟩
  have hhr : h < r := by have := LT.lt; omega
  rw [← hr] at K hTg ⊢
  clear hr
  generalize wT.alloc (.cells cs 24) = wU at *
  obtain ⟨⟨m0, k0⟩, ⟨m1, k1⟩, l0, l1⟩ := two_at K 0 (by omega)
  obtain ⟨va, vb, hva, hvb⟩ : ∃ va vb, wU.cell? ⟨h, kk * 2, none⟩ = some (.int .u64 va) ∧ wU.cell? ⟨h, kk * 2 + 1, none⟩ = some (.int .u64 vb) := by
    rcases (show kk = 0 ∨ kk = 1 ∨ kk = 2 by omega) with rfl | rfl | rfl
    · exact ⟨z0, z1, LU.cell 0 rfl, LU.cell 1 rfl⟩
    · exact ⟨z2, z3, LU.cell 2 rfl, LU.cell 3 rfl⟩
    · exact ⟨z4, z5, LU.cell 4 rfl, LU.cell 5 rfl⟩
  have hk0 : (0 : Int) ≤ (kk : Int) := by omega
  have hk4 : (kk : Int) < 4 := by omega
  have I9 : In r (r + 1) wU ((wU.setCell ⟨r, 0, none⟩ (.int .u64 va)).setCell ⟨r, 1, none⟩ (.int .u64 vb)) := ((In.refl r (r + 1) wU).set1 0 _).set1 1 _
  have B9 := below_in BU I9 (by omega) (Nat.le_of_eq HG.out.symm)
  clear LT LU BU I9 HUU HNF
  go_upto_region 22 with fail
  generalize (wU.setCell ⟨r, 0, none⟩ (.int .u64 va)).setCell ⟨r, 1, none⟩ (.int .u64 vb) = w9 at *
  clear hva hvb k0 k1 l0 l1
  go_wp2_with fail
  refine (Pairs23_long (by omega)).mono ?_
  rintro e wV ⟨rfl, rfl⟩
  go_wp2
  go_ret
  rw [HG.out]
  exact ⟨rfl, B9⟩
end Go.Proofs.YtdcdccmbnanakaaGreatDoor

/- plumblaw23.Four (four points), plumblaw23.Odd among the inputs, opened. -/
namespace Go.Proofs.YtdcdccmbnanakaaGreatDoor
open Go.ChangeShapes Go.WideShapes Go.ChangeAt Go.RowKit
open Na Ar
set_option linter.unusedVariables false
theorem cells_u64f : Tryz.prog.cellsOf 22 = 1 := by kernel_rfl
theorem cells_pointf : Tryz.prog.cellsOf 24 = 2 := by kernel_rfl
theorem cells_four : Tryz.prog.cellsOf 26 = 8 := by kernel_rfl
set_option maxRecDepth 100000 in
theorem trod_u64f {H : Type} {enc : TypeId × Value → H} {w : World} {base m : Nat} {spare : Nat → Bool} {held : Bool} {cs : Value} {x : DataW H × List MemPlace}
    (hf : DataW.trod enc Tryz.prog w base spare held m 22 [cs] = some x) : ∃ s, cs = .int .u64 s ∧ U s := by
  obtain ⟨s, e0, _, hw⟩ := DataW.trod_int Tryz.underlying22 hf
  simp at e0
  simp only [Lit.wf, Bool.and_eq_true, decide_eq_true_eq] at hw
  have h1 : IntKind.u64.min = 0 := rfl
  have h2 : IntKind.u64.max = 18446744073709551615 := rfl
  exact ⟨s, e0, by unfold U; omega⟩
set_option maxRecDepth 100000 in
theorem trod_pointf {H : Type} {enc : TypeId × Value → H} {w : World} {base m : Nat} {spare : Nat → Bool} {held : Bool} {c0 c1 : Value} {x : DataW H × List MemPlace}
    (hf : DataW.trod enc Tryz.prog w base spare held m 24 [c0, c1] = some x) : ∃ s t, c0 = .int .u64 s ∧ c1 = .int .u64 t ∧ U s ∧ U t := by
  obtain ⟨xs, m, _, _, hl, hx, hi⟩ := DataW.trod_struct Tryz.underlying24 hf
  have i0 := hi 0 _ rfl
  have i1 := hi 1 _ rfl
  match xs, hx with
  | [x0, x1], _ =>
    simp [cells_u64f] at i0 i1
    obtain ⟨s, rfl, k0⟩ := trod_u64f i0
    obtain ⟨t, rfl, k1⟩ := trod_u64f i1
    exact ⟨s, t, rfl, rfl, k0, k1⟩
set_option maxRecDepth 100000 in
theorem open_four {H : Type} {enc : TypeId × Value → H} {w : World} {r : Reach} {base b0 : Nat} {spare : Nat → Bool} {held : Bool} {v : Value} {d : DataW H} {p : List MemPlace}
    (hv : Value.okWide Tryz.prog w r b0 26 v) (h : DataW.Trod enc Tryz.prog w base spare held 26 v d p) :
    ∃ x0 x1 x2 x3 x4 x5 x6 x7, v = .agg #[.int .u64 x0, .int .u64 x1, .int .u64 x2, .int .u64 x3, .int .u64 x4, .int .u64 x5, .int .u64 x6, .int .u64 x7] ∧ U x0 ∧ U x1 ∧ U x2 ∧ U x3 ∧ U x4 ∧ U x5 ∧ U x6 ∧ U x7 := by
  obtain ⟨cs, rfl, hsz⟩ := okWide_struct Tryz.underlying26 hv
  obtain ⟨fuel, hf⟩ := h
  obtain ⟨xs, m, _, _, hl, hx, hi⟩ := DataW.trod_struct Tryz.underlying26 hf
  rw [cells_four] at hsz
  obtain ⟨c0, c1, c2, c3, c4, c5, c6, c7, rfl⟩ : ∃ c0 c1 c2 c3 c4 c5 c6 c7, cs = #[c0, c1, c2, c3, c4, c5, c6, c7] := by
    match cs, hsz with
    | ⟨[c0, c1, c2, c3, c4, c5, c6, c7]⟩, _ => exact ⟨c0, c1, c2, c3, c4, c5, c6, c7, rfl⟩
  have i0 := hi 0 _ rfl
  have i1 := hi 1 _ rfl
  have i2 := hi 2 _ rfl
  have i3 := hi 3 _ rfl
  match xs, hx with
  | [x0, x1, x2, x3], _ =>
    simp [Value.cells, cells_pointf] at i0 i1 i2 i3
    obtain ⟨y0, y1, rfl, rfl, k0, k1⟩ := trod_pointf i0
    obtain ⟨y2, y3, rfl, rfl, k2, k3⟩ := trod_pointf i1
    obtain ⟨y4, y5, rfl, rfl, k4, k5⟩ := trod_pointf i2
    obtain ⟨y6, y7, rfl, rfl, k6, k7⟩ := trod_pointf i3
    exact ⟨y0, y1, y2, y3, y4, y5, y6, y7, rfl, k0, k1, k2, k3, k4, k5, k6, k7⟩
theorem cells_odd : Tryz.prog.cellsOf 72 = 3 := by kernel_rfl
theorem cells_i64f : Tryz.prog.cellsOf 3 = 1 := by kernel_rfl
theorem cells_boolf : Tryz.prog.cellsOf 4 = 1 := by kernel_rfl
set_option maxRecDepth 100000 in
theorem open_odd {H : Type} {enc : TypeId × Value → H} {w : World} {r : Reach} {base b0 : Nat} {spare : Nat → Bool} {held : Bool} {v : Value} {d : DataW H} {p : List MemPlace}
    (hv : Value.okWide Tryz.prog w r b0 72 v) (h : DataW.Trod enc Tryz.prog w base spare held 72 v d p) :
    ∃ x u b, v = .agg #[.int .i64 x, .int .u64 u, .bool b] ∧ (-9223372036854775808 ≤ x ∧ x ≤ 9223372036854775807) ∧ U u := by
  obtain ⟨cs, rfl, hsz⟩ := okWide_struct Tryz.underlying72 hv
  obtain ⟨fuel, hf⟩ := h
  obtain ⟨xs, m, _, _, hl, hx, hi⟩ := DataW.trod_struct Tryz.underlying72 hf
  rw [cells_odd] at hsz
  obtain ⟨c0, c1, c2, rfl⟩ : ∃ c0 c1 c2, cs = #[c0, c1, c2] := by
    match cs, hsz with
    | ⟨[c0, c1, c2]⟩, _ => exact ⟨c0, c1, c2, rfl⟩
  have i0 := hi 0 _ rfl
  have i1 := hi 1 _ rfl
  have i2 := hi 2 _ rfl
  match xs, hx with
  | [x0, x1, x2], _ =>
    simp [Value.cells, cells_i64f, cells_u64f, cells_boolf] at i0 i1 i2
    obtain ⟨s0, e0, _, hw0⟩ := DataW.trod_int Tryz.underlying3 i0
    obtain ⟨s1, e1, _, hw1⟩ := DataW.trod_int Tryz.underlying22 i1
    obtain ⟨s2, e2, _⟩ := DataW.trod_bool Tryz.underlying4 i2
    simp at e0 e1 e2
    simp only [Lit.wf, Bool.and_eq_true, decide_eq_true_eq] at hw0 hw1
    have k1 : IntKind.i64.min = -9223372036854775808 := rfl
    have k2 : IntKind.i64.max = 9223372036854775807 := rfl
    have k3 : IntKind.u64.min = 0 := rfl
    have k4 : IntKind.u64.max = 18446744073709551615 := rfl
    subst e0 e1 e2
    exact ⟨s0, s1, s2, rfl, ⟨by omega, by omega⟩, by unfold U; omega⟩
end Go.Proofs.YtdcdccmbnanakaaGreatDoor

