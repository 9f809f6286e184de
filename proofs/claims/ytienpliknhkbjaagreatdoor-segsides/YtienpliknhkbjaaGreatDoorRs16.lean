import Derived.Eval
import Derived.Deep.Cut
import Derived.WalkKit
import Derived.ProofKit
import Derived.OpenShut
import Derived.ShutString
import Derived.ChangeOld
import Derived.Below
import Derived.BigQuiet
import Derived.Deep.DeepCutAuto
import Derived.Deep.DeepFit
import Derived.Deep.LoopGhost
import Derived.Deep.QuietTactic
import Derived.Deep.RegionHeld3
import Derived.Deep.RegionWith
import Derived.Defers
import Derived.KernelRfl
import Derived.Laws.BitsAllLaws
import Derived.Laws.CopyRow
import Derived.Laws.EntriesVeiled
import Derived.Laws.IdiomCopy
import Derived.Laws.IdiomRangeMap
import Derived.Orders
import Derived.OwnWalk
import Derived.Recover
import Derived.Scope
import Derived.WalkLawsBesides
import Derived.WalkMore
import Derived.WalkSpells
import Derived.Test.YtienpliknhkbjaaGreatDoorRs15
/- The crossing's numbers with f.D, f.C ahead; Meet's one answer. -/
namespace Go.Proofs.YtienpliknhkbjaaGreatDoor
open Go.ChangeShapes Go.WideShapes Go.ChangeAt Go.RowKit
open Na Ar
set_option linter.unusedVariables false
theorem cross_dc (v0 v1 v2 v3 v4 v5 v6 v7 : Rat) : (fallR v6 v7 v4 v5 v0 v1 v2 v3 = 0 ↔ fallR v0 v1 v2 v3 v4 v5 v6 v7 = 0) ∧ (fallR v0 v1 v2 v3 v4 v5 v6 v7 ≠ 0 → xcR v6 v7 v4 v5 v0 v1 v2 v3 = xcR v0 v1 v2 v3 v4 v5 v6 v7 ∧ ycR v6 v7 v4 v5 v0 v1 v2 v3 = ycR v0 v1 v2 v3 v4 v5 v6 v7) := by
  have e1 := fall_sw v0 v1 v2 v3 v4 v5 v6 v7
  have e2 := fall_ab v4 v5 v6 v7 v0 v1 v2 v3
  refine ⟨by rw [e2, e1, Rat.neg_neg], fun h => ?_⟩
  have h' : fallR v4 v5 v6 v7 v0 v1 v2 v3 ≠ 0 := by
    rw [e1]; intro k; exact h (by grind)
  have a := cross_ab v4 v5 v6 v7 v0 v1 v2 v3 h'
  have b := cross_sw v0 v1 v2 v3 v4 v5 v6 v7 h
  exact ⟨a.1.trans b.1, a.2.trans b.2⟩
theorem meet_there {w : World} {a b c d : Int × Int} (ua : U2 a) (ub : U2 b) (uc : U2 c) (ud : U2 d) (fa : fin2 a) (fb : fin2 b) (fc : fin2 c) (fd : fin2 d) (hG : GrVar w) : ∃ M, MtIs a b c d M := by
  have h : Calls Tryz.prog 10 #[.agg #[.int .u64 a.1, .int .u64 a.2], .agg #[.int .u64 b.1, .int .u64 b.2], .agg #[.int .u64 c.1, .int .u64 c.2], .agg #[.int .u64 d.1, .int .u64 d.2]] w (fun | .returned v, _ => ∃ M, MtIs a b c d M | _, _ => False) := by
    refine (Meet23_is ua ub uc ud fa fb fc fd hG).mono ?_
    rintro e w' ⟨M, hM, rfl, _⟩
    exact ⟨M, hM⟩
  obtain ⟨_, _, _, _, _, _, q⟩ := h.done_lone (by kernel_rfl)
  exact q
theorem Meet23_one {w : World} {a b c d : Int × Int} {M : (Int × Bool) × (Int × Int) × (Int × Int)} (ua : U2 a) (ub : U2 b) (uc : U2 c) (ud : U2 d) (fa : fin2 a) (fb : fin2 b) (fc : fin2 c) (fd : fin2 d) (hG : GrVar w) (h : MtIs a b c d M) :
    Calls Tryz.prog 10 #[.agg #[.int .u64 a.1, .int .u64 a.2], .agg #[.int .u64 b.1, .int .u64 b.2], .agg #[.int .u64 c.1, .int .u64 c.2], .agg #[.int .u64 d.1, .int .u64 d.2]] w fun e w' => e = .returned (.tuple #[mtV M, .int .i64 0]) ∧ Below w.heap.size w w' := by
  refine (Meet23_is ua ub uc ud fa fb fc fd hG).mono ?_
  rintro e w' ⟨N, hN, rfl, hb⟩
  have e := h.eq hN rfl (fun _ => ⟨rfl, rfl⟩)
  subst e
  exact ⟨rfl, hb⟩
end Go.Proofs.YtienpliknhkbjaaGreatDoor

/- plumblaw23: SegSides' walk (written by gensgs.py). -/
namespace Go.Proofs.YtienpliknhkbjaaGreatDoor
open Go.ChangeShapes Go.WideShapes Go.ChangeAt Go.RowKit
open Na Ar
set_option linter.unusedVariables false
theorem pb_drewN {w : World} {g : Nat} {t : TypeId} {vs : Array Value} (h : Pb w g t vs) (n : Nat) : Pb (w.drewN n) g t vs := h
theorem pb_drew {w : World} {g : Nat} {t : TypeId} {vs : Array Value} (h : Pb w g t vs) : Pb w.drew g t vs := h
set_option maxHeartbeats 25600000 in
set_option maxRecDepth 100000 in
theorem sides_walk {x0 x1 x2 x3 x4 x5 x6 x7 : Int} (u0 : U x0) (u1 : U x1) (u2 : U x2) (u3 : U x3) (u4 : U x4) (u5 : U x5) (u6 : U x6) (u7 : U x7) {w : World} (hG : GrVar w) :
    Calls Tryz.prog 5 #[.agg #[.int .u64 x0, .int .u64 x1, .int .u64 x2, .int .u64 x3, .int .u64 x4, .int .u64 x5, .int .u64 x6, .int .u64 x7]] w fun e w' => e = .returned (.bool true) ∧ Below w.heap.size w w' := by
  obtain ⟨w0, hw0⟩ : ∃ w0, w0 = w.alloc (.cells #[.int .u64 x0, .int .u64 x1, .int .u64 x2, .int .u64 x3, .int .u64 x4, .int .u64 x5, .int .u64 x6, .int .u64 x7] 26) := ⟨_, rfl⟩
  obtain ⟨v1, hb0⟩ : Pb w0 w.heap.size 26 #[.int .u64 x0, .int .u64 x1, .int .u64 x2, .int .u64 x3, .int .u64 x4, .int .u64 x5, .int .u64 x6, .int .u64 x7] ∧ Below w.heap.size w w0 := by
    subst hw0
    exact ⟨Pb.new _ _ _, alloc_below _⟩
  have c1 := fun w => spots823_any u0 u1 u2 u3 u4 u5 u6 u7 w
  have h0 := finF_ok u0
  have h1 := finF_ok u1
  have h2 := finF_ok u2
  have h3 := finF_ok u3
  have h4 := finF_ok u4
  have h5 := finF_ok u5
  have h6 := finF_ok u6
  have h7 := finF_ok u7
  generalize finF x0 = y0 at *
  generalize finF x1 = y1 at *
  generalize finF x2 = y2 at *
  generalize finF x3 = y3 at *
  generalize finF x4 = y4 at *
  generalize finF x5 = y5 at *
  generalize finF x6 = y6 at *
  generalize finF x7 = y7 at *
  clear u0 u1 u2 u3 u4 u5 u6 u7
  have HGR : Hid (GrVar w) := hG
  obtain ⟨i0, i1, i2, i3, i4, i5, i6, i7⟩ := v1.cells8
  rw [hw0] at i0 i1 i2 i3 i4 i5 i6 i7
  have HW0 : Hid (w.alloc (.cells #[.int .u64 x0, .int .u64 x1, .int .u64 x2, .int .u64 x3, .int .u64 x4, .int .u64 x5, .int .u64 x6, .int .u64 x7] 26) = w0) := hw0.symm
  clear hw0 hG
  go_enter Tryz.func5, Tryz.ntmps5
  go_wp2_with fail
  rw [HW0.out]
  clear HW0 i0 i1 i2 i3 i4 i5 i6 i7
  obtain ⟨g, hg⟩ : ∃ g, g = w.heap.size := ⟨_, rfl⟩
  have HG : Hid (w.heap.size = g) := hg.symm
  rw [← hg] at v1 hb0 ⊢
  clear hg
  have hz : g + 1 ≤ w0.heap.size := by have := v1.lt; omega
  refine (c1 w0).mono ?_
  rintro e wA ⟨rfl, hbA⟩
  have q1 := v1.later hbA
  have BA := hb0.trans (hbA.mono (by omega))
  have sA : g + 1 ≤ wA.heap.size := by have := hbA.size; omega
  clear v1 hb0 c1 hbA hz
  obtain ⟨i0, i1, i2, i3, i4, i5, i6, i7⟩ := q1.cells8
  obtain ⟨f0, f1, f2, f3, f4, f5, f6, f7⟩ := (show wA.frozen? ⟨g, 0, none⟩ = false ∧ wA.frozen? ⟨g, 1, none⟩ = false ∧ wA.frozen? ⟨g, 2, none⟩ = false ∧ wA.frozen? ⟨g, 3, none⟩ = false ∧ wA.frozen? ⟨g, 4, none⟩ = false ∧ wA.frozen? ⟨g, 5, none⟩ = false ∧ wA.frozen? ⟨g, 6, none⟩ = false ∧ wA.frozen? ⟨g, 7, none⟩ = false from ⟨q1.frozen _, q1.frozen _, q1.frozen _, q1.frozen _, q1.frozen _, q1.frozen _, q1.frozen _, q1.frozen _⟩)
  have P1 := q1.put8 (.int .u64 y0) (.int .u64 y1) (.int .u64 y2) (.int .u64 y3) (.int .u64 y4) (.int .u64 y5) (.int .u64 y6) (.int .u64 y7)
  have I1 := in8p wA g (.int .u64 y0) (.int .u64 y1) (.int .u64 y2) (.int .u64 y3) (.int .u64 y4) (.int .u64 y5) (.int .u64 y6) (.int .u64 y7)
  have B1 := below_in BA I1 (Nat.le_refl _) (Nat.le_of_eq HG.out.symm)
  have s1 := I1.size
  go_upto_region 2 with fail
  generalize ((((((((wA.setCell ⟨g, 0, none⟩ (.int .u64 y0)).setCell ⟨g, 1, none⟩ (.int .u64 y1)).setCell ⟨g, 2, none⟩ (.int .u64 y2)).setCell ⟨g, 3, none⟩ (.int .u64 y3)).setCell ⟨g, 4, none⟩ (.int .u64 y4)).setCell ⟨g, 5, none⟩ (.int .u64 y5)).setCell ⟨g, 6, none⟩ (.int .u64 y6)).setCell ⟨g, 7, none⟩ (.int .u64 y7)) = w1 at *
  clear i0 f0 i1 f1 i2 f2 i3 f3 i4 f4 i5 f5 i6 f6 i7 f7 q1 BA I1
  have s2 : g + 1 ≤ w1.heap.size := by omega
  clear s1 sA
  obtain ⟨i0, i1, i2, i3, i4, i5, i6, i7⟩ := P1.cells8
  obtain ⟨hu0, hf0⟩ := h0
  obtain ⟨hu1, hf1⟩ := h1
  obtain ⟨hu2, hf2⟩ := h2
  obtain ⟨hu3, hf3⟩ := h3
  obtain ⟨hu4, hf4⟩ := h4
  obtain ⟨hu5, hf5⟩ := h5
  obtain ⟨hu6, hf6⟩ := h6
  obtain ⟨hu7, hf7⟩ := h7
  obtain ⟨⟨⟨k, pr⟩, ⟨p1, p2⟩, ⟨q1, q2⟩⟩, hM⟩ := meet_there (w := w) (a := (y0, y1)) (b := (y2, y3)) (c := (y4, y5)) (d := (y6, y7)) ⟨hu0, hu1⟩ ⟨hu2, hu3⟩ ⟨hu4, hu5⟩ ⟨hu6, hu7⟩ ⟨hf0, hf1⟩ ⟨hf2, hf3⟩ ⟨hf4, hf5⟩ ⟨hf6, hf7⟩ HGR.out
  have m0 : ∀ w', Below g w w' → Calls Tryz.prog 10 #[.agg #[.int .u64 y0, .int .u64 y1], .agg #[.int .u64 y2, .int .u64 y3], .agg #[.int .u64 y4, .int .u64 y5], .agg #[.int .u64 y6, .int .u64 y7]] w' fun e w'' => e = .returned (.tuple #[.agg #[.int .i64 k, .bool pr, .int .u64 p1, .int .u64 p2, .int .u64 q1, .int .u64 q2], .int .i64 0]) ∧ Below w'.heap.size w' w'' := fun w' hb => by
    have hg : GrVar w' := HGR.out.later (by rw [HG.out]; exact hb)
    exact Meet23_one (w := w') (a := (y0, y1)) (b := (y2, y3)) (c := (y4, y5)) (d := (y6, y7)) ⟨hu0, hu1⟩ ⟨hu2, hu3⟩ ⟨hu4, hu5⟩ ⟨hu6, hu7⟩ ⟨hf0, hf1⟩ ⟨hf2, hf3⟩ ⟨hf4, hf5⟩ ⟨hf6, hf7⟩ hg hM
  have m1 : ∀ w', Below g w w' → Calls Tryz.prog 10 #[.agg #[.int .u64 y2, .int .u64 y3], .agg #[.int .u64 y0, .int .u64 y1], .agg #[.int .u64 y4, .int .u64 y5], .agg #[.int .u64 y6, .int .u64 y7]] w' fun e w'' => e = .returned (.tuple #[.agg #[.int .i64 k, .bool pr, .int .u64 p1, .int .u64 p2, .int .u64 q1, .int .u64 q2], .int .i64 0]) ∧ Below w'.heap.size w' w'' := fun w' hb => by
    have hg : GrVar w' := HGR.out.later (by rw [HG.out]; exact hb)
    obtain ⟨N, hN⟩ := meet_there (w := w') (a := (y2, y3)) (b := (y0, y1)) (c := (y4, y5)) (d := (y6, y7)) ⟨hu2, hu3⟩ ⟨hu0, hu1⟩ ⟨hu4, hu5⟩ ⟨hu6, hu7⟩ ⟨hf2, hf3⟩ ⟨hf0, hf1⟩ ⟨hf4, hf5⟩ ⟨hf6, hf7⟩ hg
    have e := hM.ab ⟨hu0, hu1⟩ ⟨hu2, hu3⟩ ⟨hu4, hu5⟩ ⟨hu6, hu7⟩ ⟨hf0, hf1⟩ ⟨hf2, hf3⟩ ⟨hf4, hf5⟩ ⟨hf6, hf7⟩ hN
    subst e
    exact Meet23_one (w := w') (a := (y2, y3)) (b := (y0, y1)) (c := (y4, y5)) (d := (y6, y7)) ⟨hu2, hu3⟩ ⟨hu0, hu1⟩ ⟨hu4, hu5⟩ ⟨hu6, hu7⟩ ⟨hf2, hf3⟩ ⟨hf0, hf1⟩ ⟨hf4, hf5⟩ ⟨hf6, hf7⟩ hg hN
  have m2 : ∀ w', Below g w w' → Calls Tryz.prog 10 #[.agg #[.int .u64 y0, .int .u64 y1], .agg #[.int .u64 y2, .int .u64 y3], .agg #[.int .u64 y6, .int .u64 y7], .agg #[.int .u64 y4, .int .u64 y5]] w' fun e w'' => e = .returned (.tuple #[.agg #[.int .i64 k, .bool pr, .int .u64 p1, .int .u64 p2, .int .u64 q1, .int .u64 q2], .int .i64 0]) ∧ Below w'.heap.size w' w'' := fun w' hb => by
    have hg : GrVar w' := HGR.out.later (by rw [HG.out]; exact hb)
    obtain ⟨N, hN⟩ := meet_there (w := w') (a := (y0, y1)) (b := (y2, y3)) (c := (y6, y7)) (d := (y4, y5)) ⟨hu0, hu1⟩ ⟨hu2, hu3⟩ ⟨hu6, hu7⟩ ⟨hu4, hu5⟩ ⟨hf0, hf1⟩ ⟨hf2, hf3⟩ ⟨hf6, hf7⟩ ⟨hf4, hf5⟩ hg
    have e := hM.cd ⟨hu0, hu1⟩ ⟨hu2, hu3⟩ ⟨hu4, hu5⟩ ⟨hu6, hu7⟩ ⟨hf0, hf1⟩ ⟨hf2, hf3⟩ ⟨hf4, hf5⟩ ⟨hf6, hf7⟩ hN
    subst e
    exact Meet23_one (w := w') (a := (y0, y1)) (b := (y2, y3)) (c := (y6, y7)) (d := (y4, y5)) ⟨hu0, hu1⟩ ⟨hu2, hu3⟩ ⟨hu6, hu7⟩ ⟨hu4, hu5⟩ ⟨hf0, hf1⟩ ⟨hf2, hf3⟩ ⟨hf6, hf7⟩ ⟨hf4, hf5⟩ hg hN
  have m3 : ∀ w', Below g w w' → Calls Tryz.prog 10 #[.agg #[.int .u64 y4, .int .u64 y5], .agg #[.int .u64 y6, .int .u64 y7], .agg #[.int .u64 y0, .int .u64 y1], .agg #[.int .u64 y2, .int .u64 y3]] w' fun e w'' => e = .returned (.tuple #[.agg #[.int .i64 k, .bool pr, .int .u64 p1, .int .u64 p2, .int .u64 q1, .int .u64 q2], .int .i64 0]) ∧ Below w'.heap.size w' w'' := fun w' hb => by
    have hg : GrVar w' := HGR.out.later (by rw [HG.out]; exact hb)
    obtain ⟨N, hN⟩ := meet_there (w := w') (a := (y4, y5)) (b := (y6, y7)) (c := (y0, y1)) (d := (y2, y3)) ⟨hu4, hu5⟩ ⟨hu6, hu7⟩ ⟨hu0, hu1⟩ ⟨hu2, hu3⟩ ⟨hf4, hf5⟩ ⟨hf6, hf7⟩ ⟨hf0, hf1⟩ ⟨hf2, hf3⟩ hg
    have e := hM.sw ⟨hu0, hu1⟩ ⟨hu2, hu3⟩ ⟨hu4, hu5⟩ ⟨hu6, hu7⟩ ⟨hf0, hf1⟩ ⟨hf2, hf3⟩ ⟨hf4, hf5⟩ ⟨hf6, hf7⟩ hN
    subst e
    exact Meet23_one (w := w') (a := (y4, y5)) (b := (y6, y7)) (c := (y0, y1)) (d := (y2, y3)) ⟨hu4, hu5⟩ ⟨hu6, hu7⟩ ⟨hu0, hu1⟩ ⟨hu2, hu3⟩ ⟨hf4, hf5⟩ ⟨hf6, hf7⟩ ⟨hf0, hf1⟩ ⟨hf2, hf3⟩ hg hN
  have LZ := P1
  have HGG : Hid (Below g w w1) := B1
  clear P1 B1 i0 i1 i2 i3 i4 i5 i6 i7
  obtain ⟨i0, i1, i2, i3, i4, i5, i6, i7⟩ := LZ.cells8
  go_upto_region 2 with fail
  go_cut [3, 4] from 19 to 30 (fun v v' wx => ∃ r, v = .pointer (some ⟨r, 0, none⟩) ∧ Pb wx r 29 #[.int .i64 k, .bool pr, .int .u64 p1, .int .u64 p2, .int .u64 q1, .int .u64 q2] ∧ v' = .int .i64 0 ∧ Below w1.heap.size w1 wx)
  case first =>
    go_wp2_with fail
    refine (m0 w1 HGG.out).mono ?_
    rintro e wX ⟨rfl, hbX⟩
    clear i0 i1 i2 i3 i4 i5 i6 i7
    go_wp2
    go_meet
    exact ⟨wX.heap.size, rfl, Pb.new _ _ _, rfl, hbX.trans ((alloc_below _).mono hbX.size)⟩
  clear i0 i1 i2 i3 i4 i5 i6 i7 m0
  obtain ⟨r0, rfl, Nr0, rfl, hbw2⟩ := hcut
  obtain ⟨w2, hww2⟩ : ∃ w2, w2 = wc := ⟨_, rfl⟩
  subst hww2
  have LZ := LZ.later hbw2
  have HBw2 : Hid _ := HGG.out.trans (hbw2.mono (by have := HGG.out.size; have := HG.out; omega))
  have HGG : Hid _ := HBw2.out
  clear hbw2
  obtain ⟨i0, i1, i2, i3, i4, i5, i6, i7⟩ := LZ.cells8
  go_upto_region 3 with fail
  go_cut [5, 6] from 31 to 42 (fun v v' wx => ∃ r, v = .pointer (some ⟨r, 0, none⟩) ∧ Pb wx r 29 #[.int .i64 k, .bool pr, .int .u64 p1, .int .u64 p2, .int .u64 q1, .int .u64 q2] ∧ v' = .int .i64 0 ∧ Below w2.heap.size w2 wx)
  case first =>
    go_wp2_with fail
    refine (m1 w2 HGG.out).mono ?_
    rintro e wX ⟨rfl, hbX⟩
    clear i0 i1 i2 i3 i4 i5 i6 i7
    go_wp2
    go_meet
    exact ⟨wX.heap.size, rfl, Pb.new _ _ _, rfl, hbX.trans ((alloc_below _).mono hbX.size)⟩
  clear i0 i1 i2 i3 i4 i5 i6 i7 m1
  obtain ⟨r1, rfl, Nr1, rfl, hbw3⟩ := hcut
  obtain ⟨w3, hww3⟩ : ∃ w3, w3 = wc := ⟨_, rfl⟩
  subst hww3
  have LZ := LZ.later hbw3
  have Nr0 := Nr0.later hbw3
  have HBw3 : Hid _ := HGG.out.trans (hbw3.mono (by have := HGG.out.size; have := HG.out; omega))
  have HGG : Hid _ := HBw3.out
  clear hbw3
  obtain ⟨i0, i1, i2, i3, i4, i5, i6, i7⟩ := LZ.cells8
  go_upto_region 4 with fail
  go_cut [7, 8] from 43 to 54 (fun v v' wx => ∃ r, v = .pointer (some ⟨r, 0, none⟩) ∧ Pb wx r 29 #[.int .i64 k, .bool pr, .int .u64 p1, .int .u64 p2, .int .u64 q1, .int .u64 q2] ∧ v' = .int .i64 0 ∧ Below w3.heap.size w3 wx)
  case first =>
    go_wp2_with fail
    refine (m2 w3 HGG.out).mono ?_
    rintro e wX ⟨rfl, hbX⟩
    clear i0 i1 i2 i3 i4 i5 i6 i7
    go_wp2
    go_meet
    exact ⟨wX.heap.size, rfl, Pb.new _ _ _, rfl, hbX.trans ((alloc_below _).mono hbX.size)⟩
  clear i0 i1 i2 i3 i4 i5 i6 i7 m2
  obtain ⟨r2, rfl, Nr2, rfl, hbw4⟩ := hcut
  obtain ⟨w4, hww4⟩ : ∃ w4, w4 = wc := ⟨_, rfl⟩
  subst hww4
  have LZ := LZ.later hbw4
  have Nr0 := Nr0.later hbw4
  have Nr1 := Nr1.later hbw4
  have HBw4 : Hid _ := HGG.out.trans (hbw4.mono (by have := HGG.out.size; have := HG.out; omega))
  have HGG : Hid _ := HBw4.out
  clear hbw4
  obtain ⟨i0, i1, i2, i3, i4, i5, i6, i7⟩ := LZ.cells8
  go_upto_region 5 with fail
  go_cut [9, 10] from 55 to 66 (fun v v' wx => ∃ r, v = .pointer (some ⟨r, 0, none⟩) ∧ Pb wx r 29 #[.int .i64 k, .bool pr, .int .u64 p1, .int .u64 p2, .int .u64 q1, .int .u64 q2] ∧ v' = .int .i64 0 ∧ Below w4.heap.size w4 wx)
  case first =>
    go_wp2_with fail
    refine (m3 w4 HGG.out).mono ?_
    rintro e wX ⟨rfl, hbX⟩
    clear i0 i1 i2 i3 i4 i5 i6 i7
    go_wp2
    go_meet
    exact ⟨wX.heap.size, rfl, Pb.new _ _ _, rfl, hbX.trans ((alloc_below _).mono hbX.size)⟩
  clear i0 i1 i2 i3 i4 i5 i6 i7 m3
  obtain ⟨r3, rfl, Nr3, rfl, hbw5⟩ := hcut
  obtain ⟨w5, hww5⟩ : ∃ w5, w5 = wc := ⟨_, rfl⟩
  subst hww5
  have LZ := LZ.later hbw5
  have Nr0 := Nr0.later hbw5
  have Nr1 := Nr1.later hbw5
  have Nr2 := Nr2.later hbw5
  have HBw5 : Hid _ := HGG.out.trans (hbw5.mono (by have := HGG.out.size; have := HG.out; omega))
  have HGG : Hid _ := HBw5.out
  clear hbw5
  obtain ⟨⟨⟨k', pr'⟩, ⟨p3, p4⟩, ⟨q3, q4⟩⟩, hN⟩ := meet_there (w := w) (a := (tnP (y0, y1))) (b := (tnP (y2, y3))) (c := (tnP (y4, y5))) (d := (tnP (y6, y7))) ⟨negU hu0, negU hu1⟩ ⟨negU hu2, negU hu3⟩ ⟨negU hu4, negU hu5⟩ ⟨negU hu6, negU hu7⟩ ⟨fin_ng hu0 hf0, fin_ng hu1 hf1⟩ ⟨fin_ng hu2 hf2, fin_ng hu3 hf3⟩ ⟨fin_ng hu4 hf4, fin_ng hu5 hf5⟩ ⟨fin_ng hu6 hf6, fin_ng hu7 hf7⟩ HGR.out
  have hNg := hM.ng ⟨hu0, hu1⟩ ⟨hu2, hu3⟩ ⟨hu4, hu5⟩ ⟨hu6, hu7⟩ ⟨hf0, hf1⟩ ⟨hf2, hf3⟩ ⟨hf4, hf5⟩ ⟨hf6, hf7⟩ hN
  obtain ⟨rfl, rfl⟩ : k' = k ∧ pr' = pr := by have := hNg.1; simp at this; exact this
  have m4 : ∀ w', Below g w w' → Calls Tryz.prog 10 #[.agg #[.int .u64 (negW y0), .int .u64 (negW y1)], .agg #[.int .u64 (negW y2), .int .u64 (negW y3)], .agg #[.int .u64 (negW y4), .int .u64 (negW y5)], .agg #[.int .u64 (negW y6), .int .u64 (negW y7)]] w' fun e w'' => e = .returned (.tuple #[.agg #[.int .i64 k', .bool pr', .int .u64 p3, .int .u64 p4, .int .u64 q3, .int .u64 q4], .int .i64 0]) ∧ Below w'.heap.size w' w'' := fun w' hb => by
    have hg : GrVar w' := HGR.out.later (by rw [HG.out]; exact hb)
    exact Meet23_one (w := w') (a := (tnP (y0, y1))) (b := (tnP (y2, y3))) (c := (tnP (y4, y5))) (d := (tnP (y6, y7))) ⟨negU hu0, negU hu1⟩ ⟨negU hu2, negU hu3⟩ ⟨negU hu4, negU hu5⟩ ⟨negU hu6, negU hu7⟩ ⟨fin_ng hu0 hf0, fin_ng hu1 hf1⟩ ⟨fin_ng hu2 hf2, fin_ng hu3 hf3⟩ ⟨fin_ng hu4 hf4, fin_ng hu5 hf5⟩ ⟨fin_ng hu6 hf6, fin_ng hu7 hf7⟩ hg hN
  have t0 := fun w => turned23_any hu0 hu1 w
  have t1 := fun w => turned23_any hu2 hu3 w
  have t2 := fun w => turned23_any hu4 hu5 w
  have t3 := fun w => turned23_any hu6 hu7 w
  have hcl : ∀ w', Below w5.heap.size w5 w' → w'.cell? ⟨g, 0, none⟩ = some (.int .u64 y0) ∧ w'.cell? ⟨g, 1, none⟩ = some (.int .u64 y1) ∧ w'.cell? ⟨g, 2, none⟩ = some (.int .u64 y2) ∧ w'.cell? ⟨g, 3, none⟩ = some (.int .u64 y3) ∧ w'.cell? ⟨g, 4, none⟩ = some (.int .u64 y4) ∧ w'.cell? ⟨g, 5, none⟩ = some (.int .u64 y5) ∧ w'.cell? ⟨g, 6, none⟩ = some (.int .u64 y6) ∧ w'.cell? ⟨g, 7, none⟩ = some (.int .u64 y7) := fun w' q => (LZ.later q).cells8
  obtain ⟨i0, i1, i2, i3, i4, i5, i6, i7⟩ := LZ.cells8
  go_upto_region 6 with fail
  go_cut [11, 12] from 67 to 82 (fun v v' wx => ∃ r, v = .pointer (some ⟨r, 0, none⟩) ∧ Pb wx r 29 #[.int .i64 k', .bool pr', .int .u64 p3, .int .u64 p4, .int .u64 q3, .int .u64 q4] ∧ v' = .int .i64 0 ∧ Below w5.heap.size w5 wx)
  case first =>
    have hlt := LZ.lt
    have na : ¬ w5.heap.size = g := by omega
    have nb : ¬ g = w5.heap.size := by omega
    clear Nr0 Nr1 Nr2 Nr3 hNg hM hN
    go_region_held3 (fun w' => w'.cell? ⟨g, 0, none⟩ = some (.int .u64 y0) ∧ w'.cell? ⟨g, 1, none⟩ = some (.int .u64 y1) ∧ w'.cell? ⟨g, 2, none⟩ = some (.int .u64 y2) ∧ w'.cell? ⟨g, 3, none⟩ = some (.int .u64 y3) ∧ w'.cell? ⟨g, 4, none⟩ = some (.int .u64 y4) ∧ w'.cell? ⟨g, 5, none⟩ = some (.int .u64 y5) ∧ w'.cell? ⟨g, 6, none⟩ = some (.int .u64 y6) ∧ w'.cell? ⟨g, 7, none⟩ = some (.int .u64 y7)) (go_keep) (first | (go_at_call_of 23 y0; refine (t0 _).mono ?_; rintro e wA ⟨rfl, hbo0⟩; have hs0 := bel_step (a := w5) hbo0 (by first | exact Below.refl _ _ | exact below_drewN (Below.refl _ _) 1 | exact alloc_below _ | exact below_drewN (alloc_below _) 1); have hwA := hs0; have zwA := hwA.size; have na0 : ¬ wA.heap.size = g := (by omega); have nb0 : ¬ g = wA.heap.size := (by omega); (first | (have tt := NB.lt; replace NB := NB.later hs0) | (have NB : Pb wA w5.heap.size 29 #[.int .i64 0, .bool false, .int .u64 0, .int .u64 0, .int .u64 0, .int .u64 0] := (by refine Pb.later ?_ hbo0; first | (with_reducible exact Pb.new w5 29 #[.int .i64 0, .bool false, .int .u64 0, .int .u64 0, .int .u64 0, .int .u64 0]) | (with_reducible exact pb_drew (Pb.new w5 29 #[.int .i64 0, .bool false, .int .u64 0, .int .u64 0, .int .u64 0, .int .u64 0])) | (with_reducible exact pb_drewN (Pb.new w5 29 #[.int .i64 0, .bool false, .int .u64 0, .int .u64 0, .int .u64 0, .int .u64 0]) 1))) | skip); clear i0 i1 i2 i3 i4 i5 i6 i7; obtain ⟨i0, i1, i2, i3, i4, i5, i6, i7⟩ := hcl wA hwA) | (go_at_call_of 23 y2; refine (t1 _).mono ?_; rintro e wB ⟨rfl, hbo1⟩; have hs1 := bel_step (a := wA) hbo1 (by first | exact Below.refl _ _ | exact below_drewN (Below.refl _ _) 1 | exact alloc_below _ | exact below_drewN (alloc_below _) 1); have hwB := hwA.trans (hs1.mono hwA.size); have zwB := hwB.size; have na1 : ¬ wB.heap.size = g := (by omega); have nb1 : ¬ g = wB.heap.size := (by omega); (first | (have tt := NB.lt; replace NB := NB.later hs1) | (have NB : Pb wB wA.heap.size 29 #[.int .i64 0, .bool false, .int .u64 0, .int .u64 0, .int .u64 0, .int .u64 0] := (by refine Pb.later ?_ hbo1; first | (with_reducible exact Pb.new wA 29 #[.int .i64 0, .bool false, .int .u64 0, .int .u64 0, .int .u64 0, .int .u64 0]) | (with_reducible exact pb_drew (Pb.new wA 29 #[.int .i64 0, .bool false, .int .u64 0, .int .u64 0, .int .u64 0, .int .u64 0])) | (with_reducible exact pb_drewN (Pb.new wA 29 #[.int .i64 0, .bool false, .int .u64 0, .int .u64 0, .int .u64 0, .int .u64 0]) 1))) | skip); clear i0 i1 i2 i3 i4 i5 i6 i7; obtain ⟨i0, i1, i2, i3, i4, i5, i6, i7⟩ := hcl wB hwB) | (go_at_call_of 23 y4; refine (t2 _).mono ?_; rintro e wC ⟨rfl, hbo2⟩; have hs2 := bel_step (a := wB) hbo2 (by first | exact Below.refl _ _ | exact below_drewN (Below.refl _ _) 1 | exact alloc_below _ | exact below_drewN (alloc_below _) 1); have hwC := hwB.trans (hs2.mono hwB.size); have zwC := hwC.size; have na2 : ¬ wC.heap.size = g := (by omega); have nb2 : ¬ g = wC.heap.size := (by omega); (first | (have tt := NB.lt; replace NB := NB.later hs2) | (have NB : Pb wC wB.heap.size 29 #[.int .i64 0, .bool false, .int .u64 0, .int .u64 0, .int .u64 0, .int .u64 0] := (by refine Pb.later ?_ hbo2; first | (with_reducible exact Pb.new wB 29 #[.int .i64 0, .bool false, .int .u64 0, .int .u64 0, .int .u64 0, .int .u64 0]) | (with_reducible exact pb_drew (Pb.new wB 29 #[.int .i64 0, .bool false, .int .u64 0, .int .u64 0, .int .u64 0, .int .u64 0])) | (with_reducible exact pb_drewN (Pb.new wB 29 #[.int .i64 0, .bool false, .int .u64 0, .int .u64 0, .int .u64 0, .int .u64 0]) 1))) | skip); clear i0 i1 i2 i3 i4 i5 i6 i7; obtain ⟨i0, i1, i2, i3, i4, i5, i6, i7⟩ := hcl wC hwC) | (go_at_call_of 23 y6; refine (t3 _).mono ?_; rintro e wD ⟨rfl, hbo3⟩; have hs3 := bel_step (a := wC) hbo3 (by first | exact Below.refl _ _ | exact below_drewN (Below.refl _ _) 1 | exact alloc_below _ | exact below_drewN (alloc_below _) 1); have hwD := hwC.trans (hs3.mono hwC.size); have zwD := hwD.size; have na3 : ¬ wD.heap.size = g := (by omega); have nb3 : ¬ g = wD.heap.size := (by omega); (first | (have tt := NB.lt; replace NB := NB.later hs3) | (have NB : Pb wD wC.heap.size 29 #[.int .i64 0, .bool false, .int .u64 0, .int .u64 0, .int .u64 0, .int .u64 0] := (by refine Pb.later ?_ hbo3; first | (with_reducible exact Pb.new wC 29 #[.int .i64 0, .bool false, .int .u64 0, .int .u64 0, .int .u64 0, .int .u64 0]) | (with_reducible exact pb_drew (Pb.new wC 29 #[.int .i64 0, .bool false, .int .u64 0, .int .u64 0, .int .u64 0, .int .u64 0])) | (with_reducible exact pb_drewN (Pb.new wC 29 #[.int .i64 0, .bool false, .int .u64 0, .int .u64 0, .int .u64 0, .int .u64 0]) 1))) | skip); clear i0 i1 i2 i3 i4 i5 i6 i7; obtain ⟨i0, i1, i2, i3, i4, i5, i6, i7⟩ := hcl wD hwD) | (go_at_call 10; refine (m4 _ (HGG.out.trans (Below.mono (by first | exact hwD | exact below_drewN hwD 1 | exact hwD.trans ((alloc_below _).mono hwD.size) | exact below_drewN (hwD.trans ((alloc_below _).mono hwD.size)) 1) (by have := HGG.out.size; have := HG.out; omega)))).mono ?_; rintro e wX ⟨rfl, hbo4⟩; have hs4 := bel_step (a := wD) hbo4 (by first | exact Below.refl _ _ | exact below_drewN (Below.refl _ _) 1 | exact alloc_below _ | exact below_drewN (alloc_below _) 1); have hwX := hwD.trans (hs4.mono hwD.size); have zwX := hwX.size; have na4 : ¬ wX.heap.size = g := (by omega); have nb4 : ¬ g = wX.heap.size := (by omega); (first | (have tt := NB.lt; replace NB := NB.later hs4) | (have NB : Pb wX wD.heap.size 29 #[.int .i64 0, .bool false, .int .u64 0, .int .u64 0, .int .u64 0, .int .u64 0] := (by refine Pb.later ?_ hbo4; first | (with_reducible exact Pb.new wD 29 #[.int .i64 0, .bool false, .int .u64 0, .int .u64 0, .int .u64 0, .int .u64 0]) | (with_reducible exact pb_drew (Pb.new wD 29 #[.int .i64 0, .bool false, .int .u64 0, .int .u64 0, .int .u64 0, .int .u64 0])) | (with_reducible exact pb_drewN (Pb.new wD 29 #[.int .i64 0, .bool false, .int .u64 0, .int .u64 0, .int .u64 0, .int .u64 0]) 1))) | skip); (first | (have tt := NB.lt; obtain ⟨k0, k1, k2, k3, k4, k5⟩ := NB.cells6; obtain ⟨l0, l1, l2, l3, l4, l5⟩ := NB.free6) | skip); clear i0 i1 i2 i3 i4 i5 i6 i7; obtain ⟨i0, i1, i2, i3, i4, i5, i6, i7⟩ := hcl wX hwX))
    · go_wp2_with fail
      go_meet
      exact ⟨wX.heap.size, rfl, Pb.new _ _ _, rfl, hwX.trans ((alloc_below _).mono hwX.size)⟩
    all_goals (go_wp2_with fail)
    all_goals go_meet
    all_goals exact ⟨_, rfl, NB.put6 _ _ _ _ _ _, rfl, below_in hwX (in6p wX _ (.int .i64 k') (.bool pr') (.int .u64 p3) (.int .u64 p4) (.int .u64 q3) (.int .u64 q4)) (by omega) (Nat.le_refl _)⟩
  clear i0 i1 i2 i3 i4 i5 i6 i7 m4 t0 t1 t2 t3 hcl
  obtain ⟨r4, rfl, Nr4, rfl, hbw6⟩ := hcut
  obtain ⟨w6, hww6⟩ : ∃ w6, w6 = wc := ⟨_, rfl⟩
  subst hww6
  have LZ := LZ.later hbw6
  have Nr0 := Nr0.later hbw6
  have Nr1 := Nr1.later hbw6
  have Nr2 := Nr2.later hbw6
  have Nr3 := Nr3.later hbw6
  have HBw6 : Hid _ := HGG.out.trans (hbw6.mono (by have := HGG.out.size; have := HG.out; omega))
  have HGG : Hid _ := HBw6.out
  clear hbw6
  go_upto_region 7 with fail
  go_wp2_with fail
  refine (alive23_any (show GrVar w6 from HGR.out.later (by rw [HG.out]; exact HGG.out))).mono ?_
  rintro e w7 ⟨rfl, hbw7⟩
  have LZ := LZ.later hbw7
  have Nr0 := Nr0.later hbw7
  have Nr1 := Nr1.later hbw7
  have Nr2 := Nr2.later hbw7
  have Nr3 := Nr3.later hbw7
  have Nr4 := Nr4.later hbw7
  have HBw7 : Hid _ := HGG.out.trans (hbw7.mono (by have := HGG.out.size; have := HG.out; omega))
  have HGG : Hid _ := HBw7.out
  clear hbw7
  have L1 : ∀ w, Calls Tryz.prog 24 #[.agg #[.int .i64 k', .bool pr', .int .u64 p1, .int .u64 p2, .int .u64 q1, .int .u64 q2], .agg #[.int .i64 k', .bool pr', .int .u64 p1, .int .u64 p2, .int .u64 q1, .int .u64 q2], .bool false] w fun e w' => e = .returned (.bool true) ∧ Below w.heap.size w w' := fun w => like23_self hNg w
  have L2 : ∀ w, Calls Tryz.prog 24 #[.agg #[.int .i64 k', .bool pr', .int .u64 p1, .int .u64 p2, .int .u64 q1, .int .u64 q2], .agg #[.int .i64 k', .bool pr', .int .u64 p3, .int .u64 p4, .int .u64 q3, .int .u64 q4], .bool true] w fun e w' => e = .returned (.bool true) ∧ Below w.heap.size w w' := fun w => like23_turned hNg w
  obtain ⟨c00, c01, c02, c03, c04, c05⟩ := Nr0.cells6
  obtain ⟨c10, c11, c12, c13, c14, c15⟩ := Nr1.cells6
  go_wp2_with fail
  refine (L1 w7).mono ?_
  rintro e w8 ⟨rfl, hbw8⟩
  clear c00 c01 c02 c03 c04 c05 c10 c11 c12 c13 c14 c15
  have LZ := LZ.later hbw8
  have Nr0 := Nr0.later hbw8
  have Nr1 := Nr1.later hbw8
  have Nr2 := Nr2.later hbw8
  have Nr3 := Nr3.later hbw8
  have Nr4 := Nr4.later hbw8
  have HBw8 : Hid _ := HGG.out.trans (hbw8.mono (by have := HGG.out.size; have := HG.out; omega))
  have HGG : Hid _ := HBw8.out
  clear hbw8
  obtain ⟨c00, c01, c02, c03, c04, c05⟩ := Nr0.cells6
  obtain ⟨c20, c21, c22, c23, c24, c25⟩ := Nr2.cells6
  go_wp2_with fail
  refine (L1 w8).mono ?_
  rintro e w9 ⟨rfl, hbw9⟩
  clear c00 c01 c02 c03 c04 c05 c20 c21 c22 c23 c24 c25
  have LZ := LZ.later hbw9
  have Nr0 := Nr0.later hbw9
  have Nr1 := Nr1.later hbw9
  have Nr2 := Nr2.later hbw9
  have Nr3 := Nr3.later hbw9
  have Nr4 := Nr4.later hbw9
  have HBw9 : Hid _ := HGG.out.trans (hbw9.mono (by have := HGG.out.size; have := HG.out; omega))
  have HGG : Hid _ := HBw9.out
  clear hbw9
  obtain ⟨c00, c01, c02, c03, c04, c05⟩ := Nr0.cells6
  obtain ⟨c30, c31, c32, c33, c34, c35⟩ := Nr3.cells6
  go_wp2_with fail
  refine (L1 w9).mono ?_
  rintro e w10 ⟨rfl, hbw10⟩
  clear c00 c01 c02 c03 c04 c05 c30 c31 c32 c33 c34 c35
  have LZ := LZ.later hbw10
  have Nr0 := Nr0.later hbw10
  have Nr1 := Nr1.later hbw10
  have Nr2 := Nr2.later hbw10
  have Nr3 := Nr3.later hbw10
  have Nr4 := Nr4.later hbw10
  have HBw10 : Hid _ := HGG.out.trans (hbw10.mono (by have := HGG.out.size; have := HG.out; omega))
  have HGG : Hid _ := HBw10.out
  clear hbw10
  obtain ⟨c00, c01, c02, c03, c04, c05⟩ := Nr0.cells6
  obtain ⟨c40, c41, c42, c43, c44, c45⟩ := Nr4.cells6
  go_wp2_with fail
  refine (L2 w10).mono ?_
  rintro e w11 ⟨rfl, hbw11⟩
  clear c00 c01 c02 c03 c04 c05 c40 c41 c42 c43 c44 c45
  have LZ := LZ.later hbw11
  have Nr0 := Nr0.later hbw11
  have Nr1 := Nr1.later hbw11
  have Nr2 := Nr2.later hbw11
  have Nr3 := Nr3.later hbw11
  have Nr4 := Nr4.later hbw11
  have HBw11 : Hid _ := HGG.out.trans (hbw11.mono (by have := HGG.out.size; have := HG.out; omega))
  have HGG : Hid _ := HBw11.out
  clear hbw11
  clear Nr0 Nr1 Nr2 Nr3 Nr4 L1 L2 hM hN hNg
  have X1 := fun w => Cross23_fin (w := w) (a := (y0, y1)) (b := (y2, y3)) (c := (y4, y5)) (d := (y6, y7)) ⟨hu0, hu1⟩ ⟨hu2, hu3⟩ ⟨hu4, hu5⟩ ⟨hu6, hu7⟩ ⟨hf0, hf1⟩ ⟨hf2, hf3⟩ ⟨hf4, hf5⟩ ⟨hf6, hf7⟩
  have X2 := fun w => Cross23_fin (w := w) (a := (y6, y7)) (b := (y4, y5)) (c := (y0, y1)) (d := (y2, y3)) ⟨hu6, hu7⟩ ⟨hu4, hu5⟩ ⟨hu0, hu1⟩ ⟨hu2, hu3⟩ ⟨hf6, hf7⟩ ⟨hf4, hf5⟩ ⟨hf0, hf1⟩ ⟨hf2, hf3⟩
  have hdc := cross_dc (valR y0) (valR y1) (valR y2) (valR y3) (valR y4) (valR y5) (valR y6) (valR y7)
  simp only at X1 X2
  have HDC : Hid _ := hdc
  clear hdc hu0 hf0 hu1 hf1 hu2 hf2 hu3 hf3 hu4 hf4 hu5 hf5 hu6 hf6 hu7 hf7
  obtain ⟨i0, i1, i2, i3, i4, i5, i6, i7⟩ := LZ.cells8
  by_cases hF : fallR (valR y0) (valR y1) (valR y2) (valR y3) (valR y4) (valR y5) (valR y6) (valR y7) = 0
  · go_upto_region 11 with fail
    go_cut [13, 14, 4] from 128 to 139 (fun v v' v'' wx => ∃ r r', v = .pointer (some ⟨r, 0, none⟩) ∧ v' = .pointer (some ⟨r', 0, none⟩) ∧ Pb wx r 45 #[.bool false, .slice none 0 0, .slice none 0 0] ∧ Pb wx r' 45 #[.bool false, .slice none 0 0, .slice none 0 0] ∧ v'' = .int .i64 230 ∧ Below w11.heap.size w11 wx)
    case first =>
      go_wp2_with fail
      refine (X1 w11).mono ?_
      rintro e wX (⟨_, rfl, hbX⟩ | ⟨hne, _⟩)
      · clear i0 i1 i2 i3 i4 i5 i6 i7
        go_wp2
        go_meet
        have t := pb_2 wX #[.bool false, .slice none 0 0, .slice none 0 0] #[.bool false, .slice none 0 0, .slice none 0 0] 45 45
        exact ⟨wX.heap.size, wX.heap.size + 1, rfl, rfl, t.1, t.2.1, rfl, hbX.trans (t.2.2.1.mono hbX.size)⟩
      · exact absurd hF hne
    clear i0 i1 i2 i3 i4 i5 i6 i7 X1
    obtain ⟨r5, r6, rfl, rfl, Nr5, Nr6, rfl, hbwP⟩ := hcut
    obtain ⟨wP, hwwP⟩ : ∃ wP, wP = wc := ⟨_, rfl⟩
    subst hwwP
    have LZ := LZ.later hbwP
    have HBwP : Hid _ := HGG.out.trans (hbwP.mono (by have := HGG.out.size; have := HG.out; omega))
    have HGG : Hid _ := HBwP.out
    clear hbwP
    obtain ⟨i0, i1, i2, i3, i4, i5, i6, i7⟩ := LZ.cells8
    go_upto_region 12 with fail
    go_cut [15, 16, 6] from 141 to 152 (fun v v' v'' wx => ∃ r r', v = .pointer (some ⟨r, 0, none⟩) ∧ v' = .pointer (some ⟨r', 0, none⟩) ∧ Pb wx r 45 #[.bool false, .slice none 0 0, .slice none 0 0] ∧ Pb wx r' 45 #[.bool false, .slice none 0 0, .slice none 0 0] ∧ v'' = .int .i64 230 ∧ Below wP.heap.size wP wx)
    case first =>
      go_wp2_with fail
      refine (X2 wP).mono ?_
      rintro e wX (⟨_, rfl, hbX⟩ | ⟨hne, _⟩)
      · clear i0 i1 i2 i3 i4 i5 i6 i7
        go_wp2
        go_meet
        have t := pb_2 wX #[.bool false, .slice none 0 0, .slice none 0 0] #[.bool false, .slice none 0 0, .slice none 0 0] 45 45
        exact ⟨wX.heap.size, wX.heap.size + 1, rfl, rfl, t.1, t.2.1, rfl, hbX.trans (t.2.2.1.mono hbX.size)⟩
      · exact absurd (HDC.out.1.mpr hF) hne
    clear i0 i1 i2 i3 i4 i5 i6 i7 X2
    obtain ⟨r7, r8, rfl, rfl, Nr7, Nr8, rfl, hbwQ⟩ := hcut
    obtain ⟨wQ, hwwQ⟩ : ∃ wQ, wQ = wc := ⟨_, rfl⟩
    subst hwwQ
    have LZ := LZ.later hbwQ
    have Nr5 := Nr5.later hbwQ
    have Nr6 := Nr6.later hbwQ
    have HBwQ : Hid _ := HGG.out.trans (hbwQ.mono (by have := HGG.out.size; have := HG.out; omega))
    have HGG : Hid _ := HBwQ.out
    clear hbwQ
    go_upto_region 13 with fail
    obtain ⟨e0, e1, e2⟩ := pb_tri Nr5
    obtain ⟨g0, g1, g2⟩ := pb_tri Nr7
    go_wp2_with fail
    refine (one23_none wQ).mono ?_
    rintro e wR ⟨rfl, hbwR⟩
    clear e0 e1 e2 g0 g1 g2
    have Nr6 := Nr6.later hbwR
    have Nr8 := Nr8.later hbwR
    have HBwR : Hid _ := HGG.out.trans (hbwR.mono (by have := HGG.out.size; have := HG.out; omega))
    have HGG : Hid _ := HBwR.out
    obtain ⟨e0, e1, e2⟩ := pb_tri Nr6
    obtain ⟨g0, g1, g2⟩ := pb_tri Nr8
    go_wp2_with fail
    refine (one23_none wR).mono ?_
    rintro e wS ⟨rfl, hbwS⟩
    clear e0 e1 e2 g0 g1 g2
    have HBwS : Hid _ := HGG.out.trans (hbwS.mono (by have := HGG.out.size; have := HG.out; omega))
    go_wp2
    go_ret
    have q := HBwS.out
    have hw := HG.out
    rw [hw]
    exact ⟨rfl, q⟩
  · go_upto_region 11 with fail
    go_cut [13, 14, 4] from 128 to 139 (fun v v' v'' wx => ∃ r r' s a n c b m d s' a' n' c' b' m' d', v = .pointer (some ⟨r, 0, none⟩) ∧ v' = .pointer (some ⟨r', 0, none⟩) ∧ Pb wx r 45 #[.bool s, .slice a n c, .slice b m d] ∧ Pb wx r' 45 #[.bool s', .slice a' n' c', .slice b' m' d'] ∧ v'' = .int .i64 0 ∧ Rt wx s a n c b m d (xcR (valR y0) (valR y1) (valR y2) (valR y3) (valR y4) (valR y5) (valR y6) (valR y7)) ∧ Rt wx s' a' n' c' b' m' d' (ycR (valR y0) (valR y1) (valR y2) (valR y3) (valR y4) (valR y5) (valR y6) (valR y7)) ∧ Sz (xcR (valR y0) (valR y1) (valR y2) (valR y3) (valR y4) (valR y5) (valR y6) (valR y7)) 558 ∧ Sz (ycR (valR y0) (valR y1) (valR y2) (valR y3) (valR y4) (valR y5) (valR y6) (valR y7)) 558 ∧ Below w11.heap.size w11 wx)
    case first =>
      go_wp2_with fail
      refine (X1 w11).mono ?_
      rintro e wX (⟨hne, _⟩ | ⟨_, s, a, n, c, b, m, d, s', a', n', c', b', m', d', rfl, hx, hy, zx, zy, hbX⟩)
      · exact absurd hne hF
      · clear i0 i1 i2 i3 i4 i5 i6 i7
        go_wp2
        go_meet
        have t := pb_2 wX #[.bool s, .slice a n c, .slice b m d] #[.bool s', .slice a' n' c', .slice b' m' d'] 45 45
        exact ⟨wX.heap.size, wX.heap.size + 1, s, a, n, c, b, m, d, s', a', n', c', b', m', d', rfl, rfl, t.1, t.2.1, rfl, hx.rt22.later t.2.2.1, hy.rt22.later t.2.2.1, zx, zy, hbX.trans (t.2.2.1.mono hbX.size)⟩
    clear i0 i1 i2 i3 i4 i5 i6 i7 X1
    obtain ⟨r5, r6, s5, a5, n5, c5, b5, m5, d5, s5', a5', n5', c5', b5', m5', d5', rfl, rfl, Nr5, Nr6, rfl, hx5, hy5, zx5, zy5, hbwP⟩ := hcut
    obtain ⟨wP, hwwP⟩ : ∃ wP, wP = wc := ⟨_, rfl⟩
    subst hwwP
    have LZ := LZ.later hbwP
    have HBwP : Hid _ := HGG.out.trans (hbwP.mono (by have := HGG.out.size; have := HG.out; omega))
    have HGG : Hid _ := HBwP.out
    clear hbwP
    obtain ⟨i0, i1, i2, i3, i4, i5, i6, i7⟩ := LZ.cells8
    go_upto_region 12 with fail
    go_cut [15, 16, 6] from 141 to 152 (fun v v' v'' wx => ∃ r r' s a n c b m d s' a' n' c' b' m' d', v = .pointer (some ⟨r, 0, none⟩) ∧ v' = .pointer (some ⟨r', 0, none⟩) ∧ Pb wx r 45 #[.bool s, .slice a n c, .slice b m d] ∧ Pb wx r' 45 #[.bool s', .slice a' n' c', .slice b' m' d'] ∧ v'' = .int .i64 0 ∧ Rt wx s a n c b m d (xcR (valR y0) (valR y1) (valR y2) (valR y3) (valR y4) (valR y5) (valR y6) (valR y7)) ∧ Rt wx s' a' n' c' b' m' d' (ycR (valR y0) (valR y1) (valR y2) (valR y3) (valR y4) (valR y5) (valR y6) (valR y7)) ∧ Sz (xcR (valR y0) (valR y1) (valR y2) (valR y3) (valR y4) (valR y5) (valR y6) (valR y7)) 558 ∧ Sz (ycR (valR y0) (valR y1) (valR y2) (valR y3) (valR y4) (valR y5) (valR y6) (valR y7)) 558 ∧ Below wP.heap.size wP wx)
    case first =>
      go_wp2_with fail
      refine (X2 wP).mono ?_
      rintro e wX (⟨hne, _⟩ | ⟨_, s, a, n, c, b, m, d, s', a', n', c', b', m', d', rfl, hx, hy, zx, zy, hbX⟩)
      · exact absurd (HDC.out.1.mp hne) hF
      · clear i0 i1 i2 i3 i4 i5 i6 i7
        rw [(HDC.out.2 hF).1] at hx zx
        rw [(HDC.out.2 hF).2] at hy zy
        go_wp2
        go_meet
        have t := pb_2 wX #[.bool s, .slice a n c, .slice b m d] #[.bool s', .slice a' n' c', .slice b' m' d'] 45 45
        exact ⟨wX.heap.size, wX.heap.size + 1, s, a, n, c, b, m, d, s', a', n', c', b', m', d', rfl, rfl, t.1, t.2.1, rfl, hx.rt22.later t.2.2.1, hy.rt22.later t.2.2.1, zx, zy, hbX.trans (t.2.2.1.mono hbX.size)⟩
    clear i0 i1 i2 i3 i4 i5 i6 i7 X2
    obtain ⟨r7, r8, s7, a7, n7, c7, b7, m7, d7, s7', a7', n7', c7', b7', m7', d7', rfl, rfl, Nr7, Nr8, rfl, hx7, hy7, zx7, zy7, hbwQ⟩ := hcut
    obtain ⟨wQ, hwwQ⟩ : ∃ wQ, wQ = wc := ⟨_, rfl⟩
    subst hwwQ
    have LZ := LZ.later hbwQ
    have Nr5 := Nr5.later hbwQ
    have Nr6 := Nr6.later hbwQ
    have hx5 := hx5.later hbwQ
    have hy5 := hy5.later hbwQ
    have HBwQ : Hid _ := HGG.out.trans (hbwQ.mono (by have := HGG.out.size; have := HG.out; omega))
    have HGG : Hid _ := HBwQ.out
    clear hbwQ
    go_upto_region 13 with fail
    obtain ⟨e0, e1, e2⟩ := pb_tri Nr5
    obtain ⟨g0, g1, g2⟩ := pb_tri Nr7
    go_wp2_with fail
    refine (one23_any hx5 hx7 zx5 (by omega)).mono ?_
    rintro e wR ⟨rfl, hbwR⟩
    clear e0 e1 e2 g0 g1 g2
    have Nr6 := Nr6.later hbwR
    have Nr8 := Nr8.later hbwR
    have HBwR : Hid _ := HGG.out.trans (hbwR.mono (by have := HGG.out.size; have := HG.out; omega))
    have HGG : Hid _ := HBwR.out
    obtain ⟨e0, e1, e2⟩ := pb_tri Nr6
    obtain ⟨g0, g1, g2⟩ := pb_tri Nr8
    go_wp2_with fail
    refine (one23_any (hy5.later hbwR) (hy7.later hbwR) zy5 (by omega)).mono ?_
    rintro e wS ⟨rfl, hbwS⟩
    clear e0 e1 e2 g0 g1 g2
    have HBwS : Hid _ := HGG.out.trans (hbwS.mono (by have := HGG.out.size; have := HG.out; omega))
    go_wp2
    go_ret
    have q := HBwS.out
    have hw := HG.out
    rw [hw]
    exact ⟨rfl, q⟩
end Go.Proofs.YtienpliknhkbjaaGreatDoor

/- plumblaw23.Four (four points), plumblaw23.Odd among the inputs, opened. -/
namespace Go.Proofs.YtienpliknhkbjaaGreatDoor
open Go.ChangeShapes Go.WideShapes Go.ChangeAt Go.RowKit
open Na Ar
set_option linter.unusedVariables false
theorem cells_u64f : Tryz.prog.cellsOf 22 = 1 := by kernel_rfl
theorem cells_pointf : Tryz.prog.cellsOf 24 = 2 := by kernel_rfl
theorem cells_four : Tryz.prog.cellsOf 26 = 8 := by kernel_rfl
set_option maxRecDepth 100000 in
theorem trod_u64f {H : Type} {enc : TypeId × Value → H} {w : World} {base m : Nat} {spare : Nat → Bool} {held : Bool} {cs : Value} {x : DataW H × List MemPlace}
    (hf : DataW.trod enc Tryz.prog w base spare held m 22 [cs] = some x) : ∃ s, cs = .int .u64 s ∧ U s := by
  obtain ⟨s, e0, _, hw⟩ := DataW.trod_int Tryz.underlying22 hf
  simp at e0
  simp only [Lit.wf, Bool.and_eq_true, decide_eq_true_eq] at hw
  have h1 : IntKind.u64.min = 0 := rfl
  have h2 : IntKind.u64.max = 18446744073709551615 := rfl
  exact ⟨s, e0, by unfold U; omega⟩
set_option maxRecDepth 100000 in
theorem trod_pointf {H : Type} {enc : TypeId × Value → H} {w : World} {base m : Nat} {spare : Nat → Bool} {held : Bool} {c0 c1 : Value} {x : DataW H × List MemPlace}
    (hf : DataW.trod enc Tryz.prog w base spare held m 24 [c0, c1] = some x) : ∃ s t, c0 = .int .u64 s ∧ c1 = .int .u64 t ∧ U s ∧ U t := by
  obtain ⟨xs, m, _, _, hl, hx, hi⟩ := DataW.trod_struct Tryz.underlying24 hf
  have i0 := hi 0 _ rfl
  have i1 := hi 1 _ rfl
  match xs, hx with
  | [x0, x1], _ =>
    simp [cells_u64f] at i0 i1
    obtain ⟨s, rfl, k0⟩ := trod_u64f i0
    obtain ⟨t, rfl, k1⟩ := trod_u64f i1
    exact ⟨s, t, rfl, rfl, k0, k1⟩
set_option maxRecDepth 100000 in
theorem open_four {H : Type} {enc : TypeId × Value → H} {w : World} {r : Reach} {base b0 : Nat} {spare : Nat → Bool} {held : Bool} {v : Value} {d : DataW H} {p : List MemPlace}
    (hv : Value.okWide Tryz.prog w r b0 26 v) (h : DataW.Trod enc Tryz.prog w base spare held 26 v d p) :
    ∃ x0 x1 x2 x3 x4 x5 x6 x7, v = .agg #[.int .u64 x0, .int .u64 x1, .int .u64 x2, .int .u64 x3, .int .u64 x4, .int .u64 x5, .int .u64 x6, .int .u64 x7] ∧ U x0 ∧ U x1 ∧ U x2 ∧ U x3 ∧ U x4 ∧ U x5 ∧ U x6 ∧ U x7 := by
  obtain ⟨cs, rfl, hsz⟩ := okWide_struct Tryz.underlying26 hv
  obtain ⟨fuel, hf⟩ := h
  obtain ⟨xs, m, _, _, hl, hx, hi⟩ := DataW.trod_struct Tryz.underlying26 hf
  rw [cells_four] at hsz
  obtain ⟨c0, c1, c2, c3, c4, c5, c6, c7, rfl⟩ : ∃ c0 c1 c2 c3 c4 c5 c6 c7, cs = #[c0, c1, c2, c3, c4, c5, c6, c7] := by
    match cs, hsz with
    | ⟨[c0, c1, c2, c3, c4, c5, c6, c7]⟩, _ => exact ⟨c0, c1, c2, c3, c4, c5, c6, c7, rfl⟩
  have i0 := hi 0 _ rfl
  have i1 := hi 1 _ rfl
  have i2 := hi 2 _ rfl
  have i3 := hi 3 _ rfl
  match xs, hx with
  | [x0, x1, x2, x3], _ =>
    simp [Value.cells, cells_pointf] at i0 i1 i2 i3
    obtain ⟨y0, y1, rfl, rfl, k0, k1⟩ := trod_pointf i0
    obtain ⟨y2, y3, rfl, rfl, k2, k3⟩ := trod_pointf i1
    obtain ⟨y4, y5, rfl, rfl, k4, k5⟩ := trod_pointf i2
    obtain ⟨y6, y7, rfl, rfl, k6, k7⟩ := trod_pointf i3
    exact ⟨y0, y1, y2, y3, y4, y5, y6, y7, rfl, k0, k1, k2, k3, k4, k5, k6, k7⟩
end Go.Proofs.YtienpliknhkbjaaGreatDoor

