import Derived.Deep.Cut
import Derived.Below
import Derived.BigQuiet
import Derived.ChangeOld
import Derived.Deep.DeepCutAuto
import Derived.Deep.DeepFit
import Derived.Deep.LoopGhost
import Derived.Deep.QuietTactic
import Derived.Deep.RegionHeld3
import Derived.Deep.RegionWith
import Derived.Defers
import Derived.KernelRfl
import Derived.Laws.BitsAllLaws
import Derived.Laws.CopyRow
import Derived.Laws.EntriesVeiled
import Derived.Laws.IdiomCopy
import Derived.Laws.IdiomRangeMap
import Derived.OpenShut
import Derived.Orders
import Derived.OwnWalk
import Derived.ProofKit
import Derived.Recover
import Derived.Scope
import Derived.ShutString
import Derived.WalkKit
import Derived.WalkLawsBesides
import Derived.WalkMore
import Derived.WalkSpells
import Derived.Test.YtienpliknhkbjaaGreatDoorRp2
import Derived.Test.YtienpliknhkbjaaGreatDoorRp13
/- package seg: meet (written by gensgg.py). -/
namespace Go.Proofs.YtienpliknhkbjaaGreatDoor
open Go.ChangeShapes Go.WideShapes Go.ChangeAt Go.RowKit
open Na Ar
set_option linter.unusedVariables false
/-- what meet answers of the ends that lie on the other stretch -/
def mtE : List (Int × Int) → (Int × Bool) × (Int × Int) × (Int × Int)
  | [] => ((0, false), (0, 0), (0, 0))
  | m :: l => if leastP m l = greatP m l then ((1, false), ptP (leastP m l), (0, 0)) else ((2, false), ptP (leastP m l), ptP (greatP m l))
structure MtH (AP : Bool) (p q : Int) (M : (Int × Bool) × (Int × Int) × (Int × Int)) (E : List (Int × Int)) : Prop where
  ap : AP = true → M = ((0, false), (0, 0), (0, 0))
  pos : AP = false → 0 < p → M = ((0, false), (0, 0), (0, 0))
  prop : AP = false → ¬ 0 < p → p < 0 → q < 0 → M = ((1, true), (0, 0), (0, 0))
  ends : AP = false → ¬ 0 < p → ¬ (p < 0 ∧ q < 0) → M = mtE E
set_option maxHeartbeats 12800000 in
set_option maxRecDepth 100000 in
theorem meet23_raw (a1 a2 b1 b2 c1 c2 d1 d2 X Y U V : Int) (AP s1 s2 s3 s4 : Bool) (M : (Int × Bool) × (Int × Int) × (Int × Int)) (E : List (Int × Int)) (w : World)
    (bX : -1 ≤ X ∧ X ≤ 1) (bY : -1 ≤ Y ∧ Y ≤ 1) (bU : -1 ≤ U ∧ U ≤ 1) (bV : -1 ≤ V ∧ V ≤ 1)
    (hA : ∀ w, Calls Tryz.prog 69 #[.agg #[.int .i64 a1, .int .i64 a2, .int .i64 b1, .int .i64 b2], .agg #[.int .i64 c1, .int .i64 c2, .int .i64 d1, .int .i64 d2]] w fun e w' => e = .returned (.bool AP) ∧ Below w.heap.size w w')
    (hS : ∀ w, Calls Tryz.prog 70 #[.agg #[.int .i64 a1, .int .i64 a2, .int .i64 b1, .int .i64 b2], .agg #[.int .i64 c1, .int .i64 c2, .int .i64 d1, .int .i64 d2]] w fun e w' => e = .returned (.agg #[.int .i64 X, .int .i64 Y]) ∧ Below w.heap.size w w')
    (hT : ∀ w, Calls Tryz.prog 70 #[.agg #[.int .i64 c1, .int .i64 c2, .int .i64 d1, .int .i64 d2], .agg #[.int .i64 a1, .int .i64 a2, .int .i64 b1, .int .i64 b2]] w fun e w' => e = .returned (.agg #[.int .i64 U, .int .i64 V]) ∧ Below w.heap.size w w')
    (p1 : ∀ w, Calls Tryz.prog 71 #[.agg #[.int .i64 a1, .int .i64 a2, .int .i64 b1, .int .i64 b2], .agg #[.int .i64 c1, .int .i64 c2]] w fun e w' => e = .returned (.bool s1) ∧ Below w.heap.size w w')
    (p2 : ∀ w, Calls Tryz.prog 71 #[.agg #[.int .i64 c1, .int .i64 c2, .int .i64 d1, .int .i64 d2], .agg #[.int .i64 a1, .int .i64 a2]] w fun e w' => e = .returned (.bool s2) ∧ Below w.heap.size w w')
    (p3 : ∀ w, Calls Tryz.prog 71 #[.agg #[.int .i64 a1, .int .i64 a2, .int .i64 b1, .int .i64 b2], .agg #[.int .i64 d1, .int .i64 d2]] w fun e w' => e = .returned (.bool s3) ∧ Below w.heap.size w w')
    (p4 : ∀ w, Calls Tryz.prog 71 #[.agg #[.int .i64 c1, .int .i64 c2, .int .i64 d1, .int .i64 d2], .agg #[.int .i64 b1, .int .i64 b2]] w fun e w' => e = .returned (.bool s4) ∧ Below w.heap.size w w')
    (hE : E = (if (X == 0) && s1 then [(c1, c2)] else []) ++ ((if (U == 0) && s2 then [(a1, a2)] else []) ++ ((if (Y == 0) && s3 then [(d1, d2)] else []) ++ (if (V == 0) && s4 then [(b1, b2)] else []))))
    (hM : MtH AP (X * Y) (U * V) M E) :
    Calls Tryz.prog 35 #[.agg #[.int .i64 a1, .int .i64 a2, .int .i64 b1, .int .i64 b2], .agg #[.int .i64 c1, .int .i64 c2, .int .i64 d1, .int .i64 d2]] w fun e w' => e = .returned (mtV M) ∧ Below w.heap.size w w' := by
  have mm1 := mul_in bX bY
  have mm2 := mul_in bU bV
  have wX : IntKind.i64.wrap (X * Y) = X * Y := by rw [IntKind.wrap_i64]; omega
  have wU : IntKind.i64.wrap (U * V) = U * V := by rw [IntKind.wrap_i64]; omega
  obtain ⟨p, hp⟩ : ∃ p, p = X * Y := ⟨_, rfl⟩
  obtain ⟨q, hq⟩ : ∃ q, q = U * V := ⟨_, rfl⟩
  have wX' : IntKind.i64.wrap (X * Y) = p := by rw [hp]; exact wX
  have wU' : IntKind.i64.wrap (U * V) = q := by rw [hq]; exact wU
  rw [← hp, ← hq] at hM
  clear mm1 mm2 wX wU hp hq bX bY bU bV
  have HE : Hid _ := hE
  clear hE
  obtain ⟨w0, hw0⟩ : ∃ w0, w0 = ((w.alloc (.cells #[.int .i64 a1, .int .i64 a2, .int .i64 b1, .int .i64 b2] 80)).alloc (.cells #[.int .i64 c1, .int .i64 c2, .int .i64 d1, .int .i64 d2] 80)).alloc (.cells #[.int .i64 0, .bool false, .int .u64 0, .int .u64 0, .int .u64 0, .int .u64 0] 29) := ⟨_, rfl⟩
  obtain ⟨u1, u2, u3, hb0, e0⟩ : Pb w0 w.heap.size 80 #[.int .i64 a1, .int .i64 a2, .int .i64 b1, .int .i64 b2] ∧ Pb w0 (w.heap.size + 1) 80 #[.int .i64 c1, .int .i64 c2, .int .i64 d1, .int .i64 d2] ∧ Pb w0 (w.heap.size + 1 + 1) 29 #[.int .i64 0, .bool false, .int .u64 0, .int .u64 0, .int .u64 0, .int .u64 0] ∧ Below w.heap.size w w0 ∧ w0.heap.size = w.heap.size + 1 + 1 + 1 := by
    subst hw0
    exact pb_three _ _ _ _ _
  obtain ⟨x0, x1, x2, x3⟩ := u1.four
  obtain ⟨y0, y1, y2, y3⟩ := u2.four
  rw [hw0] at x0 x1 x2 x3 y0 y1 y2 y3
  have HW0 : Hid (((w.alloc (.cells #[.int .i64 a1, .int .i64 a2, .int .i64 b1, .int .i64 b2] 80)).alloc (.cells #[.int .i64 c1, .int .i64 c2, .int .i64 d1, .int .i64 d2] 80)).alloc (.cells #[.int .i64 0, .bool false, .int .u64 0, .int .u64 0, .int .u64 0, .int .u64 0] 29) = w0) := hw0.symm
  clear hw0
  go_enter Tryz.func35, Tryz.ntmps35
  go_wp2_with fail
  rw [HW0.out]
  clear HW0 x0 x1 x2 x3 y0 y1 y2 y3
  obtain ⟨g, hg⟩ : ∃ g, g = w.heap.size := ⟨_, rfl⟩
  have HG : Hid (w.heap.size = g) := hg.symm
  rw [← hg] at u1 u2 u3 hb0 e0 ⊢
  clear hg
  have hz0 : g ≤ w0.heap.size := by omega
  have hzg : g + 1 + 1 < w0.heap.size := by omega
  clear e0
  refine (hA w0).mono ?_
  rintro e wA ⟨rfl, hbA⟩
  have hB1 := hb0.trans (hbA.mono hz0)
  have hzA : g + 1 + 1 < wA.heap.size := by have := hbA.size; omega
  have V1 := u1.later hbA
  have V2 := u2.later hbA
  have V3 := u3.later hbA
  clear u1 u2 u3 hb0 hbA hA hz0 hzg
  obtain ⟨x0, x1, x2, x3⟩ := V1.four
  obtain ⟨y0, y1, y2, y3⟩ := V2.four
  cases AP with
  | true =>
    have HM : Hid (M = ((0, false), (0, 0), (0, 0))) := hM.ap rfl
    clear hM
    obtain ⟨z0, z1, z2, z3, z4, z5⟩ := V3.cells6
    obtain ⟨f0, f1, f2, f3, f4, f5⟩ := V3.free6
    go_wp2
    have T9 := V3.put6 (.int .i64 0) (.bool false) (.int .u64 0) (.int .u64 0) (.int .u64 0) (.int .u64 0)
    have I9 := in6p wA (g + 1 + 1) (.int .i64 0) (.bool false) (.int .u64 0) (.int .u64 0) (.int .u64 0) (.int .u64 0)
    obtain ⟨t0, t1, t2, t3, t4, t5⟩ := T9.cells6
    refine bodyPost_ret (v := .agg #[.int .i64 0, .bool false, .int .u64 0, .int .u64 0, .int .u64 0, .int .u64 0]) (by simp [results, Tryz.results35, go_sem, t0, t1, t2, t3, t4, t5]) rfl ?_
    rw [HG.out, HM.out]
    exact ⟨rfl, below_in hB1 I9 (by omega) (Nat.le_of_eq HG.out.symm)⟩
  | false =>
    go_wp2_with fail
    refine (hS wA).mono ?_
    rintro e wS ⟨rfl, hbS⟩
    have hzg : g ≤ wA.heap.size := by omega
    have hB2 := hB1.trans (hbS.mono hzg)
    have hzS : g + 1 + 1 < wS.heap.size := by have := hbS.size; omega
    have W1 := V1.later hbS
    have W2 := V2.later hbS
    have W3 := V3.later hbS
    clear V1 V2 V3 hB1 hbS hzA hzg x0 x1 x2 x3 y0 y1 y2 y3
    have al := alloc_below (w := wS) (.cells #[.int .i64 X, .int .i64 Y] 63)
    have V1 := W1.later al
    have V2 := W2.later al
    have V3 := W3.later al
    have V4 := Pb.new wS 63 #[.int .i64 X, .int .i64 Y]
    have hB3 := hB2.trans (al.mono (by omega))
    clear W1 W2 W3 hB2 al
    go_upto_region 4 with fail
    obtain ⟨h, hh⟩ : ∃ h, h = wS.heap.size := ⟨_, rfl⟩
    have hz3 : (wS.alloc (.cells #[.int .i64 X, .int .i64 Y] 63)).heap.size = h + 1 := by rw [hh]; simp
    rw [← hh] at V4 hzS ⊢
    generalize wS.alloc (.cells #[.int .i64 X, .int .i64 Y] 63) = wT at *
    clear hh hS
    obtain ⟨x0, x1, x2, x3⟩ := V1.four
    obtain ⟨y0, y1, y2, y3⟩ := V2.four
    obtain ⟨r0, r1⟩ := V4.two
    by_cases k1 : 0 < p
    · have HM : Hid (M = ((0, false), (0, 0), (0, 0))) := hM.pos rfl k1
      clear hM
      obtain ⟨z0, z1, z2, z3, z4, z5⟩ := V3.cells6
      obtain ⟨f0, f1, f2, f3, f4, f5⟩ := V3.free6
      go_wp2
      have T9 := V3.put6 (.int .i64 0) (.bool false) (.int .u64 0) (.int .u64 0) (.int .u64 0) (.int .u64 0)
      have I9 := in6p wT (g + 1 + 1) (.int .i64 0) (.bool false) (.int .u64 0) (.int .u64 0) (.int .u64 0) (.int .u64 0)
      obtain ⟨t0, t1, t2, t3, t4, t5⟩ := T9.cells6
      refine bodyPost_ret (v := .agg #[.int .i64 0, .bool false, .int .u64 0, .int .u64 0, .int .u64 0, .int .u64 0]) (by simp [results, Tryz.results35, go_sem, t0, t1, t2, t3, t4, t5]) rfl ?_
      rw [HG.out, HM.out]
      exact ⟨rfl, below_in hB3 I9 (by omega) (Nat.le_of_eq HG.out.symm)⟩
    · go_wp2_with fail
      clear x0 x1 x2 x3 y0 y1 y2 y3 r0 r1
      refine (hT wT).mono ?_
      rintro e wU ⟨rfl, hbU⟩
      have hB4 := hB3.trans (hbU.mono (by omega))
      have hzU : h < wU.heap.size := by have := hbU.size; omega
      have W1 := V1.later hbU
      have W2 := V2.later hbU
      have W3 := V3.later hbU
      have W4 := V4.later hbU
      clear V1 V2 V3 V4 hB3 hbU hz3 hT
      have al := alloc_below (w := wU) (.cells #[.int .i64 U, .int .i64 V] 63)
      have V1 := W1.later al
      have V2 := W2.later al
      have V3 := W3.later al
      have V4 := W4.later al
      have V5 := Pb.new wU 63 #[.int .i64 U, .int .i64 V]
      have hB5 := hB4.trans (al.mono (by omega))
      clear W1 W2 W3 W4 hB4 al
      go_upto_region 7 with fail
      obtain ⟨k, hh⟩ : ∃ k, k = wU.heap.size := ⟨_, rfl⟩
      have hz5 : (wU.alloc (.cells #[.int .i64 U, .int .i64 V] 63)).heap.size = k + 1 := by rw [hh]; simp
      rw [← hh] at V5 hzU ⊢
      generalize wU.alloc (.cells #[.int .i64 U, .int .i64 V] 63) = wV at *
      clear hh
      obtain ⟨x0, x1, x2, x3⟩ := V1.four
      obtain ⟨y0, y1, y2, y3⟩ := V2.four
      obtain ⟨r0, r1⟩ := V4.two
      obtain ⟨o0, o1⟩ := V5.two
      have hB6 : Below wV.heap.size wV wV := Below.refl _ _
      go_cut [41] from 28 to 41 (fun v wx => v = .bool (decide (p < 0) && decide (q < 0)) ∧ wx = wV)
      case first =>
        by_cases k2 : p < 0
        · have HD : Hid ((decide (p < 0) && decide (q < 0)) = decide (q < 0)) := by show _ = _; rw [decide_eq_true k2, Bool.true_and]
          go_wp2
          go_meet
          exact ⟨by rw [HD.out], rfl⟩
        · have HD : Hid ((decide (p < 0) && decide (q < 0)) = false) := by show _ = _; rw [decide_eq_false k2, Bool.false_and]
          go_wp2
          go_meet
          exact ⟨by rw [HD.out], rfl⟩
      obtain ⟨rfl, rfl⟩ := hcut
      by_cases kk : p < 0 ∧ q < 0
      · have HM : Hid (M = ((1, true), (0, 0), (0, 0))) := hM.prop rfl (by omega) kk.1 kk.2
        have dd : (decide (p < 0) && decide (q < 0)) = true := by rw [decide_eq_true kk.1, decide_eq_true kk.2]; rfl
        clear hM kk
        generalize (decide (p < 0) && decide (q < 0)) = D at *
        subst dd
        obtain ⟨z0, z1, z2, z3, z4, z5⟩ := V3.cells6
        obtain ⟨f0, f1, f2, f3, f4, f5⟩ := V3.free6
        go_wp2
        have T9 := V3.put6 (.int .i64 1) (.bool true) (.int .u64 0) (.int .u64 0) (.int .u64 0) (.int .u64 0)
        have I9 := in6p wc (g + 1 + 1) (.int .i64 1) (.bool true) (.int .u64 0) (.int .u64 0) (.int .u64 0) (.int .u64 0)
        obtain ⟨t0, t1, t2, t3, t4, t5⟩ := T9.cells6
        refine bodyPost_ret (v := .agg #[.int .i64 1, .bool true, .int .u64 0, .int .u64 0, .int .u64 0, .int .u64 0]) (by simp [results, Tryz.results35, go_sem, t0, t1, t2, t3, t4, t5]) rfl ?_
        rw [HG.out, HM.out]
        exact ⟨rfl, below_in hB5 I9 (by omega) (Nat.le_of_eq HG.out.symm)⟩
      · have HM : Hid (M = mtE E) := hM.ends rfl (by omega) kk
        have dd : (decide (p < 0) && decide (q < 0)) = false := by
          by_cases kp : p < 0
          · have kq : ¬ q < 0 := fun h => kk ⟨kp, h⟩
            rw [decide_eq_false kq, Bool.and_false]
          · rw [decide_eq_false kp, Bool.false_and]
        clear hM kk
        generalize (decide (p < 0) && decide (q < 0)) = D at *
        subst dd
        obtain ⟨wV, hwV⟩ : ∃ wV, wV = wc := ⟨_, rfl⟩
        subst hwV
        clear x0 x1 x2 x3 y0 y1 y2 y3 r0 r1 o0 o1 hB6
        have HCh : Hid (∀ w', Below wV.heap.size wV w' → (w'.cell? ⟨g, 0, none⟩ = some (.int .i64 a1) ∧ w'.cell? ⟨g, 1, none⟩ = some (.int .i64 a2) ∧ w'.cell? ⟨g, 2, none⟩ = some (.int .i64 b1) ∧ w'.cell? ⟨g, 3, none⟩ = some (.int .i64 b2)) ∧ (w'.cell? ⟨g + 1, 0, none⟩ = some (.int .i64 c1) ∧ w'.cell? ⟨g + 1, 1, none⟩ = some (.int .i64 c2) ∧ w'.cell? ⟨g + 1, 2, none⟩ = some (.int .i64 d1) ∧ w'.cell? ⟨g + 1, 3, none⟩ = some (.int .i64 d2)) ∧ (w'.cell? ⟨h, 0, none⟩ = some (.int .i64 X) ∧ w'.cell? ⟨h, 1, none⟩ = some (.int .i64 Y))) := fun w' q => ⟨(V1.later q).four, (V2.later q).four, (V4.later q).two⟩
        have HCk : Hid (∀ w', Below wV.heap.size wV w' → (w'.cell? ⟨g, 0, none⟩ = some (.int .i64 a1) ∧ w'.cell? ⟨g, 1, none⟩ = some (.int .i64 a2) ∧ w'.cell? ⟨g, 2, none⟩ = some (.int .i64 b1) ∧ w'.cell? ⟨g, 3, none⟩ = some (.int .i64 b2)) ∧ (w'.cell? ⟨g + 1, 0, none⟩ = some (.int .i64 c1) ∧ w'.cell? ⟨g + 1, 1, none⟩ = some (.int .i64 c2) ∧ w'.cell? ⟨g + 1, 2, none⟩ = some (.int .i64 d1) ∧ w'.cell? ⟨g + 1, 3, none⟩ = some (.int .i64 d2)) ∧ (w'.cell? ⟨k, 0, none⟩ = some (.int .i64 U) ∧ w'.cell? ⟨k, 1, none⟩ = some (.int .i64 V))) := fun w' q => ⟨(V1.later q).four, (V2.later q).four, (V5.later q).two⟩
        have HV3 : Hid _ := V3
        have HB5 : Hid _ := hB5
        clear V1 V2 V3 V4 V5 hB5
        have hzV : g ≤ wV.heap.size := by have := HB5.out.size; rw [HG.out] at this; exact this
        clear hz5
        obtain ⟨i_t, hi_t, hz0, hz1, hz2⟩ := info_parts23 info_pl23
        obtain ⟨pre, hp0, hp1, hp2⟩ : ∃ pre : Nat → List (Int × Int), pre 0 = [] ∧ pre 1 = (if ((X == 0) && s1) = true then [(c1, c2)] else []) ++ (if ((U == 0) && s2) = true then [(a1, a2)] else []) ∧ pre 2 = pre 1 ++ ((if ((Y == 0) && s3) = true then [(d1, d2)] else []) ++ (if ((V == 0) && s4) = true then [(b1, b2)] else [])) :=
          ⟨fun n => match n with
            | 0 => []
            | 1 => (if ((X == 0) && s1) = true then [(c1, c2)] else []) ++ (if ((U == 0) && s2) = true then [(a1, a2)] else [])
            | _ => ((if ((X == 0) && s1) = true then [(c1, c2)] else []) ++ (if ((U == 0) && s2) = true then [(a1, a2)] else [])) ++ ((if ((Y == 0) && s3) = true then [(d1, d2)] else []) ++ (if ((V == 0) && s4) = true then [(b1, b2)] else [])), rfl, rfl, rfl⟩
        have HE2 : Hid (E = pre 2) := by show _ = _; rw [HE.out, hp2, hp1, List.append_assoc]
        have HN1 : Hid ((pre 1).length ≤ 2) := by show _ ≤ _; rw [hp1, List.length_append]; have tt : ∀ (t : Bool) (y : Int × Int), (if t = true then [y] else []).length ≤ 1 := fun t y => by cases t <;> simp
                                                  have := tt (X == 0 && s1) (c1, c2); have := tt (U == 0 && s2) (a1, a2); omega
        have HP0 : Hid _ := hp0
        have HP1 : Hid _ := hp1
        have HP2 : Hid _ := hp2
        clear HE hp0 hp1 hp2
        go_wp2
        go_loopw [7, 43] (fun ev iv wr => ∃ (i : Nat) (L : List (Int × Int)), i ≤ 2 ∧ iv = .int .i64 (i : Int) ∧ pre i = L ∧ Rz wr wV.heap.size ev L ∧ Below wV.heap.size wV wr) (fun _ iv _ => 2 - (intOf iv).toNat)
        case atStart => exact ⟨0, [], by omega, rfl, HP0.out, Rz.nil _ _, Below.refl _ _⟩
        case round =>
          obtain ⟨i, L0, hi, rfl, hpr, hR0, hB0⟩ := hrel
          have HLL : Hid (L0 = pre i) := hpr.symm
          have HR : Hid (Rz wr wV.heap.size u7 L0) := hR0
          have HB : Hid _ := hB0
          clear hpr hR0 hB0
          rcases (show i = 0 ∨ i = 1 ∨ i = 2 by omega) with rfl | rfl | rfl
          · have HL : Hid (L0.length ≤ 0) := by show _ ≤ _; rw [HLL.out, HP0.out]; exact Nat.le_refl _
            go_upto_region 13 with fail
            go_cut [56] from 46 to 56 (fun v wx => v = .bool ((X == 0) && s1) ∧ Rz wx wV.heap.size u7 L0 ∧ Below wV.heap.size wV wx)
            case first =>
              obtain ⟨⟨x0, x1, x2, x3⟩, ⟨y0, y1, y2, y3⟩, ⟨r0, r1⟩⟩ := HCh.out _ HB.out
              by_cases kz : X = 0
              · have tz : (X == 0) = true := by simpa using kz
                have HD : Hid ((X == 0 && s1) = s1) := by show _ = _; rw [tz, Bool.true_and]
                clear kz
                go_region_held3 (fun w' => (w'.cell? ⟨g, 0, none⟩ = some (.int .i64 a1) ∧ w'.cell? ⟨g, 1, none⟩ = some (.int .i64 a2) ∧ w'.cell? ⟨g, 2, none⟩ = some (.int .i64 b1) ∧ w'.cell? ⟨g, 3, none⟩ = some (.int .i64 b2)) ∧ (w'.cell? ⟨g + 1, 0, none⟩ = some (.int .i64 c1) ∧ w'.cell? ⟨g + 1, 1, none⟩ = some (.int .i64 c2) ∧ w'.cell? ⟨g + 1, 2, none⟩ = some (.int .i64 d1) ∧ w'.cell? ⟨g + 1, 3, none⟩ = some (.int .i64 d2)) ∧ (w'.cell? ⟨h, 0, none⟩ = some (.int .i64 X) ∧ w'.cell? ⟨h, 1, none⟩ = some (.int .i64 Y))) (go_keep) ((go_at_call 71; refine (p1 _).mono ?_; rintro e wP ⟨rfl, hbP'⟩; have hbP := Rz.step HB.out HR.out ((show Below wr.heap.size wr _ by first | exact Below.refl _ _ | exact below_drewN (Below.refl _ _) _).trans hbP'); obtain ⟨⟨x0, x1, x2, x3⟩, ⟨y0, y1, y2, y3⟩, ⟨r0, r1⟩⟩ := HCh.out wP hbP.1))
                go_wp2_with fail
                go_meet
                exact ⟨by rw [HD.out], hbP.2, hbP.1⟩
              · have tz : (X == 0) = false := by simpa using kz
                have HD : Hid ((X == 0 && s1) = false) := by show _ = _; rw [tz, Bool.false_and]
                clear kz
                go_quiet (fail)
                go_wp2_with fail
                go_meet
                have hbP := Rz.step HB.out HR.out (below_drewN (Below.refl _ _) nq)
                exact ⟨by rw [HD.out], hbP.2, hbP.1⟩
            obtain ⟨rfl, hR1, hB1⟩ := hcut
            clear HR HB
            obtain ⟨wy, hwy⟩ : ∃ wy, wy = wc := ⟨_, rfl⟩
            subst hwy
            have HR : Hid (Rz wy wV.heap.size u7 L0) := hR1
            have HB : Hid _ := hB1
            clear hR1 hB1
            go_upto_if 56 with fail
            obtain ⟨D, hD⟩ : ∃ D, D = (X == 0 && s1) := ⟨_, rfl⟩
            have HD : Hid (D = (X == 0 && s1)) := hD
            rw [← hD]
            clear hD
            go_cut [7] from 57 to 62 (fun v wx => Rz wx wV.heap.size v (L0 ++ if D then [(c1, c2)] else []) ∧ Below wV.heap.size wV wx)
            case first =>
              obtain ⟨⟨x0, x1, x2, x3⟩, ⟨y0, y1, y2, y3⟩, ⟨r0, r1⟩⟩ := HCh.out _ HB.out
              cases D with
              | true =>
                have hrow := HR.out
                unfold Rz at hrow
                have al := alloc_below (w := wy) (.cells #[.int .i64 c1, .int .i64 c2] 78)
                have hst := Rz.step HB.out HR.out al
                have N1 := Pb.new wy 78 #[.int .i64 c1, .int .i64 c2]
                obtain ⟨W, hW⟩ : ∃ W, W = wy.alloc (.cells #[.int .i64 c1, .int .i64 c2] 78) := ⟨_, rfl⟩
                have HW : Hid (wy.alloc (.cells #[.int .i64 c1, .int .i64 c2] 78) = W) := hW.symm
                rw [← hW] at hst N1
                have hrow4 : W.ownsRow wV.heap.size 78 2 u7 (L0).length (plcs (L0)) := hst.2
                have hW1 : wV.heap.size ≤ W.heap.size := hst.1.size
                have HS : Hid _ := hst
                have hq4 : ∀ (j : Nat) (u : Value), [Value.int .i64 c1, Value.int .i64 c2][j]? = some u → W.cell? ((⟨wy.heap.size, 0, none⟩ : Addr).add j) = some u := fun j u hu => by
                  have hadd : (⟨wy.heap.size, 0, none⟩ : Addr).add j = ⟨wy.heap.size, j, none⟩ := by unfold Addr.add; split <;> simp_all
                  rw [hadd]
                  exact N1.cell j (by rw [← hu]; exact (Array.getElem?_toList ..).symm)
                have hlen : (L0).length ≤ 0 := HL.out
                have hone : ∀ u ∈ [Value.int .i64 c1, Value.int .i64 c2], u.oneCell' = true := by simp [Value.oneCell']
                clear hrow al hst hW N1
                go_wp2_with (at_builtin; rw [HW.out]; refine wpList_append_own _ rfl _ _ 73 rfl wV.heap.size 78 i_t (.agg #[.int .i64 0, .int .i64 0]) 2 16 Tryz.underlying73 hi_t hz0 hz1 hz2 rfl (by decide) _ _ _ rfl hrow4 ⟨wy.heap.size, 0, none⟩ 1 1 [Value.int .i64 c1, Value.int .i64 c2] rfl rfl hq4 hone (by unfold maxLen; omega) (by omega) hW1 ?_)
                intro v' w5 hO5 hg5 hn5
                have hb5 := grown_low HS.out.1 hg5 hrow4 (Nat.le_refl _) hW1
                have hr5 : Rz w5 wV.heap.size v' (L0 ++ [(c1, c2)]) := by
                  show World.ownsRow _ _ _ _ _ _ _
                  rw [plcs_snoc, List.length_append]
                  exact hO5
                have H5 : Hid _ := And.intro hr5 hb5
                clear hO5 hg5 hn5 hb5 hr5 hrow4 hq4 HS
                go_wp2_with fail
                go_meet
                exact H5.out
              | false =>
                go_wp2_with fail
                go_meet
                exact ⟨by simpa using HR.out, HB.out⟩
            obtain ⟨hR1, hB1⟩ := hcut
            clear HR HB
            obtain ⟨wz, hwz⟩ : ∃ wz, wz = wc := ⟨_, rfl⟩
            subst hwz
            obtain ⟨L1, hL1⟩ : ∃ L1, L1 = L0 ++ (if D then [(c1, c2)] else []) := ⟨_, rfl⟩
            have HL2 : Hid (L1.length ≤ 1) := by
              show _ ≤ _
              rw [hL1, List.length_append]
              have : (L0).length ≤ 0 := HL.out
              have : (if D then [(c1, c2)] else []).length ≤ 1 := by split <;> simp
              omega
            rw [← hL1] at hR1
            clear HL
            have HL : Hid _ := HL2.out
            clear HL2
            have HL1 : Hid (L1 = L0 ++ (if (X == 0 && s1) = true then [(c1, c2)] else [])) := by show _ = _; rw [hL1, HD.out]
            have HR : Hid (Rz wz wV.heap.size u7 L1) := hR1
            have HB : Hid _ := hB1
            clear hL1 HD hR1 hB1
            go_upto_region 15 with fail
            go_cut [73] from 63 to 73 (fun v wx => v = .bool ((U == 0) && s2) ∧ Rz wx wV.heap.size u7 L1 ∧ Below wV.heap.size wV wx)
            case first =>
              obtain ⟨⟨x0, x1, x2, x3⟩, ⟨y0, y1, y2, y3⟩, ⟨r0, r1⟩⟩ := HCk.out _ HB.out
              by_cases kz : U = 0
              · have tz : (U == 0) = true := by simpa using kz
                have HD : Hid ((U == 0 && s2) = s2) := by show _ = _; rw [tz, Bool.true_and]
                clear kz
                go_region_held3 (fun w' => (w'.cell? ⟨g, 0, none⟩ = some (.int .i64 a1) ∧ w'.cell? ⟨g, 1, none⟩ = some (.int .i64 a2) ∧ w'.cell? ⟨g, 2, none⟩ = some (.int .i64 b1) ∧ w'.cell? ⟨g, 3, none⟩ = some (.int .i64 b2)) ∧ (w'.cell? ⟨g + 1, 0, none⟩ = some (.int .i64 c1) ∧ w'.cell? ⟨g + 1, 1, none⟩ = some (.int .i64 c2) ∧ w'.cell? ⟨g + 1, 2, none⟩ = some (.int .i64 d1) ∧ w'.cell? ⟨g + 1, 3, none⟩ = some (.int .i64 d2)) ∧ (w'.cell? ⟨k, 0, none⟩ = some (.int .i64 U) ∧ w'.cell? ⟨k, 1, none⟩ = some (.int .i64 V))) (go_keep) ((go_at_call 71; refine (p2 _).mono ?_; rintro e wP ⟨rfl, hbP'⟩; have hbP := Rz.step HB.out HR.out ((show Below wz.heap.size wz _ by first | exact Below.refl _ _ | exact below_drewN (Below.refl _ _) _).trans hbP'); obtain ⟨⟨x0, x1, x2, x3⟩, ⟨y0, y1, y2, y3⟩, ⟨r0, r1⟩⟩ := HCk.out wP hbP.1))
                go_wp2_with fail
                go_meet
                exact ⟨by rw [HD.out], hbP.2, hbP.1⟩
              · have tz : (U == 0) = false := by simpa using kz
                have HD : Hid ((U == 0 && s2) = false) := by show _ = _; rw [tz, Bool.false_and]
                clear kz
                go_quiet (fail)
                go_wp2_with fail
                go_meet
                have hbP := Rz.step HB.out HR.out (below_drewN (Below.refl _ _) nq)
                exact ⟨by rw [HD.out], hbP.2, hbP.1⟩
            obtain ⟨rfl, hR1, hB1⟩ := hcut
            clear HR HB
            obtain ⟨wy, hwy⟩ : ∃ wy, wy = wc := ⟨_, rfl⟩
            subst hwy
            have HR : Hid (Rz wy wV.heap.size u7 L1) := hR1
            have HB : Hid _ := hB1
            clear hR1 hB1
            go_upto_if 73 with fail
            obtain ⟨D, hD⟩ : ∃ D, D = (U == 0 && s2) := ⟨_, rfl⟩
            have HD : Hid (D = (U == 0 && s2)) := hD
            rw [← hD]
            clear hD
            obtain ⟨⟨x0, x1, x2, x3⟩, ⟨y0, y1, y2, y3⟩, ⟨r0, r1⟩⟩ := HCk.out _ HB.out
            cases D with
            | true =>
              have hrow := HR.out
              unfold Rz at hrow
              have al := alloc_below (w := wy) (.cells #[.int .i64 a1, .int .i64 a2] 78)
              have hst := Rz.step HB.out HR.out al
              have N1 := Pb.new wy 78 #[.int .i64 a1, .int .i64 a2]
              obtain ⟨W, hW⟩ : ∃ W, W = wy.alloc (.cells #[.int .i64 a1, .int .i64 a2] 78) := ⟨_, rfl⟩
              have HW : Hid (wy.alloc (.cells #[.int .i64 a1, .int .i64 a2] 78) = W) := hW.symm
              rw [← hW] at hst N1
              have hrow4 : W.ownsRow wV.heap.size 78 2 u7 (L1).length (plcs (L1)) := hst.2
              have hW1 : wV.heap.size ≤ W.heap.size := hst.1.size
              have HS : Hid _ := hst
              have hq4 : ∀ (j : Nat) (u : Value), [Value.int .i64 a1, Value.int .i64 a2][j]? = some u → W.cell? ((⟨wy.heap.size, 0, none⟩ : Addr).add j) = some u := fun j u hu => by
                have hadd : (⟨wy.heap.size, 0, none⟩ : Addr).add j = ⟨wy.heap.size, j, none⟩ := by unfold Addr.add; split <;> simp_all
                rw [hadd]
                exact N1.cell j (by rw [← hu]; exact (Array.getElem?_toList ..).symm)
              have hlen : (L1).length ≤ 1 := HL.out
              have hone : ∀ u ∈ [Value.int .i64 a1, Value.int .i64 a2], u.oneCell' = true := by simp [Value.oneCell']
              clear hrow al hst hW N1
              go_wp2_with (at_builtin; rw [HW.out]; refine wpList_append_own _ rfl _ _ 73 rfl wV.heap.size 78 i_t (.agg #[.int .i64 0, .int .i64 0]) 2 16 Tryz.underlying73 hi_t hz0 hz1 hz2 rfl (by decide) _ _ _ rfl hrow4 ⟨wy.heap.size, 0, none⟩ 1 1 [Value.int .i64 a1, Value.int .i64 a2] rfl rfl hq4 hone (by unfold maxLen; omega) (by omega) hW1 ?_)
              intro v' w5 hO5 hg5 hn5
              have hb5 := grown_low HS.out.1 hg5 hrow4 (Nat.le_refl _) hW1
              have hr5 : Rz w5 wV.heap.size v' (L1 ++ [(a1, a2)]) := by
                show World.ownsRow _ _ _ _ _ _ _
                rw [plcs_snoc, List.length_append]
                exact hO5
              have H5 : Hid _ := And.intro hr5 hb5
              clear hO5 hg5 hn5 hb5 hr5 hrow4 hq4 HS
              have HP : Hid (L1 ++ [(a1, a2)] = pre 1) := by show _ = _; rw [HP1.out, ← HD.out]; simp [HL1.out, HLL.out, HP0.out]
              go_wp2_with fail
              go_roundw
              case rel => exact ⟨1, _, by omega, rfl, HP.out.symm, H5.out.1, H5.out.2⟩
              case measure => simp [intOf]
            | false =>
              have HP : Hid (L1 = pre 1) := by show _ = _; rw [HP1.out, ← HD.out]; simp [HL1.out, HLL.out, HP0.out]
              go_wp2_with fail
              go_roundw
              case rel => exact ⟨1, _, by omega, rfl, HP.out.symm, HR.out, HB.out⟩
              case measure => simp [intOf]
          · have HL : Hid (L0.length ≤ 2) := by show _ ≤ _; rw [HLL.out]; exact HN1.out
            go_upto_region 13 with fail
            go_cut [56] from 46 to 56 (fun v wx => v = .bool ((Y == 0) && s3) ∧ Rz wx wV.heap.size u7 L0 ∧ Below wV.heap.size wV wx)
            case first =>
              obtain ⟨⟨x0, x1, x2, x3⟩, ⟨y0, y1, y2, y3⟩, ⟨r0, r1⟩⟩ := HCh.out _ HB.out
              by_cases kz : Y = 0
              · have tz : (Y == 0) = true := by simpa using kz
                have HD : Hid ((Y == 0 && s3) = s3) := by show _ = _; rw [tz, Bool.true_and]
                clear kz
                go_region_held3 (fun w' => (w'.cell? ⟨g, 0, none⟩ = some (.int .i64 a1) ∧ w'.cell? ⟨g, 1, none⟩ = some (.int .i64 a2) ∧ w'.cell? ⟨g, 2, none⟩ = some (.int .i64 b1) ∧ w'.cell? ⟨g, 3, none⟩ = some (.int .i64 b2)) ∧ (w'.cell? ⟨g + 1, 0, none⟩ = some (.int .i64 c1) ∧ w'.cell? ⟨g + 1, 1, none⟩ = some (.int .i64 c2) ∧ w'.cell? ⟨g + 1, 2, none⟩ = some (.int .i64 d1) ∧ w'.cell? ⟨g + 1, 3, none⟩ = some (.int .i64 d2)) ∧ (w'.cell? ⟨h, 0, none⟩ = some (.int .i64 X) ∧ w'.cell? ⟨h, 1, none⟩ = some (.int .i64 Y))) (go_keep) ((go_at_call 71; refine (p3 _).mono ?_; rintro e wP ⟨rfl, hbP'⟩; have hbP := Rz.step HB.out HR.out ((show Below wr.heap.size wr _ by first | exact Below.refl _ _ | exact below_drewN (Below.refl _ _) _).trans hbP'); obtain ⟨⟨x0, x1, x2, x3⟩, ⟨y0, y1, y2, y3⟩, ⟨r0, r1⟩⟩ := HCh.out wP hbP.1))
                go_wp2_with fail
                go_meet
                exact ⟨by rw [HD.out], hbP.2, hbP.1⟩
              · have tz : (Y == 0) = false := by simpa using kz
                have HD : Hid ((Y == 0 && s3) = false) := by show _ = _; rw [tz, Bool.false_and]
                clear kz
                go_quiet (fail)
                go_wp2_with fail
                go_meet
                have hbP := Rz.step HB.out HR.out (below_drewN (Below.refl _ _) nq)
                exact ⟨by rw [HD.out], hbP.2, hbP.1⟩
            obtain ⟨rfl, hR1, hB1⟩ := hcut
            clear HR HB
            obtain ⟨wy, hwy⟩ : ∃ wy, wy = wc := ⟨_, rfl⟩
            subst hwy
            have HR : Hid (Rz wy wV.heap.size u7 L0) := hR1
            have HB : Hid _ := hB1
            clear hR1 hB1
            go_upto_if 56 with fail
            obtain ⟨D, hD⟩ : ∃ D, D = (Y == 0 && s3) := ⟨_, rfl⟩
            have HD : Hid (D = (Y == 0 && s3)) := hD
            rw [← hD]
            clear hD
            go_cut [7] from 57 to 62 (fun v wx => Rz wx wV.heap.size v (L0 ++ if D then [(d1, d2)] else []) ∧ Below wV.heap.size wV wx)
            case first =>
              obtain ⟨⟨x0, x1, x2, x3⟩, ⟨y0, y1, y2, y3⟩, ⟨r0, r1⟩⟩ := HCh.out _ HB.out
              cases D with
              | true =>
                have hrow := HR.out
                unfold Rz at hrow
                have al := alloc_below (w := wy) (.cells #[.int .i64 d1, .int .i64 d2] 78)
                have hst := Rz.step HB.out HR.out al
                have N1 := Pb.new wy 78 #[.int .i64 d1, .int .i64 d2]
                obtain ⟨W, hW⟩ : ∃ W, W = wy.alloc (.cells #[.int .i64 d1, .int .i64 d2] 78) := ⟨_, rfl⟩
                have HW : Hid (wy.alloc (.cells #[.int .i64 d1, .int .i64 d2] 78) = W) := hW.symm
                rw [← hW] at hst N1
                have hrow4 : W.ownsRow wV.heap.size 78 2 u7 (L0).length (plcs (L0)) := hst.2
                have hW1 : wV.heap.size ≤ W.heap.size := hst.1.size
                have HS : Hid _ := hst
                have hq4 : ∀ (j : Nat) (u : Value), [Value.int .i64 d1, Value.int .i64 d2][j]? = some u → W.cell? ((⟨wy.heap.size, 0, none⟩ : Addr).add j) = some u := fun j u hu => by
                  have hadd : (⟨wy.heap.size, 0, none⟩ : Addr).add j = ⟨wy.heap.size, j, none⟩ := by unfold Addr.add; split <;> simp_all
                  rw [hadd]
                  exact N1.cell j (by rw [← hu]; exact (Array.getElem?_toList ..).symm)
                have hlen : (L0).length ≤ 2 := HL.out
                have hone : ∀ u ∈ [Value.int .i64 d1, Value.int .i64 d2], u.oneCell' = true := by simp [Value.oneCell']
                clear hrow al hst hW N1
                go_wp2_with (at_builtin; rw [HW.out]; refine wpList_append_own _ rfl _ _ 73 rfl wV.heap.size 78 i_t (.agg #[.int .i64 0, .int .i64 0]) 2 16 Tryz.underlying73 hi_t hz0 hz1 hz2 rfl (by decide) _ _ _ rfl hrow4 ⟨wy.heap.size, 0, none⟩ 1 1 [Value.int .i64 d1, Value.int .i64 d2] rfl rfl hq4 hone (by unfold maxLen; omega) (by omega) hW1 ?_)
                intro v' w5 hO5 hg5 hn5
                have hb5 := grown_low HS.out.1 hg5 hrow4 (Nat.le_refl _) hW1
                have hr5 : Rz w5 wV.heap.size v' (L0 ++ [(d1, d2)]) := by
                  show World.ownsRow _ _ _ _ _ _ _
                  rw [plcs_snoc, List.length_append]
                  exact hO5
                have H5 : Hid _ := And.intro hr5 hb5
                clear hO5 hg5 hn5 hb5 hr5 hrow4 hq4 HS
                go_wp2_with fail
                go_meet
                exact H5.out
              | false =>
                go_wp2_with fail
                go_meet
                exact ⟨by simpa using HR.out, HB.out⟩
            obtain ⟨hR1, hB1⟩ := hcut
            clear HR HB
            obtain ⟨wz, hwz⟩ : ∃ wz, wz = wc := ⟨_, rfl⟩
            subst hwz
            obtain ⟨L1, hL1⟩ : ∃ L1, L1 = L0 ++ (if D then [(d1, d2)] else []) := ⟨_, rfl⟩
            have HL2 : Hid (L1.length ≤ 3) := by
              show _ ≤ _
              rw [hL1, List.length_append]
              have : (L0).length ≤ 2 := HL.out
              have : (if D then [(d1, d2)] else []).length ≤ 1 := by split <;> simp
              omega
            rw [← hL1] at hR1
            clear HL
            have HL : Hid _ := HL2.out
            clear HL2
            have HL1 : Hid (L1 = L0 ++ (if (Y == 0 && s3) = true then [(d1, d2)] else [])) := by show _ = _; rw [hL1, HD.out]
            have HR : Hid (Rz wz wV.heap.size u7 L1) := hR1
            have HB : Hid _ := hB1
            clear hL1 HD hR1 hB1
            go_upto_region 15 with fail
            go_cut [73] from 63 to 73 (fun v wx => v = .bool ((V == 0) && s4) ∧ Rz wx wV.heap.size u7 L1 ∧ Below wV.heap.size wV wx)
            case first =>
              obtain ⟨⟨x0, x1, x2, x3⟩, ⟨y0, y1, y2, y3⟩, ⟨r0, r1⟩⟩ := HCk.out _ HB.out
              by_cases kz : V = 0
              · have tz : (V == 0) = true := by simpa using kz
                have HD : Hid ((V == 0 && s4) = s4) := by show _ = _; rw [tz, Bool.true_and]
                clear kz
                go_region_held3 (fun w' => (w'.cell? ⟨g, 0, none⟩ = some (.int .i64 a1) ∧ w'.cell? ⟨g, 1, none⟩ = some (.int .i64 a2) ∧ w'.cell? ⟨g, 2, none⟩ = some (.int .i64 b1) ∧ w'.cell? ⟨g, 3, none⟩ = some (.int .i64 b2)) ∧ (w'.cell? ⟨g + 1, 0, none⟩ = some (.int .i64 c1) ∧ w'.cell? ⟨g + 1, 1, none⟩ = some (.int .i64 c2) ∧ w'.cell? ⟨g + 1, 2, none⟩ = some (.int .i64 d1) ∧ w'.cell? ⟨g + 1, 3, none⟩ = some (.int .i64 d2)) ∧ (w'.cell? ⟨k, 0, none⟩ = some (.int .i64 U) ∧ w'.cell? ⟨k, 1, none⟩ = some (.int .i64 V))) (go_keep) ((go_at_call 71; refine (p4 _).mono ?_; rintro e wP ⟨rfl, hbP'⟩; have hbP := Rz.step HB.out HR.out ((show Below wz.heap.size wz _ by first | exact Below.refl _ _ | exact below_drewN (Below.refl _ _) _).trans hbP'); obtain ⟨⟨x0, x1, x2, x3⟩, ⟨y0, y1, y2, y3⟩, ⟨r0, r1⟩⟩ := HCk.out wP hbP.1))
                go_wp2_with fail
                go_meet
                exact ⟨by rw [HD.out], hbP.2, hbP.1⟩
              · have tz : (V == 0) = false := by simpa using kz
                have HD : Hid ((V == 0 && s4) = false) := by show _ = _; rw [tz, Bool.false_and]
                clear kz
                go_quiet (fail)
                go_wp2_with fail
                go_meet
                have hbP := Rz.step HB.out HR.out (below_drewN (Below.refl _ _) nq)
                exact ⟨by rw [HD.out], hbP.2, hbP.1⟩
            obtain ⟨rfl, hR1, hB1⟩ := hcut
            clear HR HB
            obtain ⟨wy, hwy⟩ : ∃ wy, wy = wc := ⟨_, rfl⟩
            subst hwy
            have HR : Hid (Rz wy wV.heap.size u7 L1) := hR1
            have HB : Hid _ := hB1
            clear hR1 hB1
            go_upto_if 73 with fail
            obtain ⟨D, hD⟩ : ∃ D, D = (V == 0 && s4) := ⟨_, rfl⟩
            have HD : Hid (D = (V == 0 && s4)) := hD
            rw [← hD]
            clear hD
            obtain ⟨⟨x0, x1, x2, x3⟩, ⟨y0, y1, y2, y3⟩, ⟨r0, r1⟩⟩ := HCk.out _ HB.out
            cases D with
            | true =>
              have hrow := HR.out
              unfold Rz at hrow
              have al := alloc_below (w := wy) (.cells #[.int .i64 b1, .int .i64 b2] 78)
              have hst := Rz.step HB.out HR.out al
              have N1 := Pb.new wy 78 #[.int .i64 b1, .int .i64 b2]
              obtain ⟨W, hW⟩ : ∃ W, W = wy.alloc (.cells #[.int .i64 b1, .int .i64 b2] 78) := ⟨_, rfl⟩
              have HW : Hid (wy.alloc (.cells #[.int .i64 b1, .int .i64 b2] 78) = W) := hW.symm
              rw [← hW] at hst N1
              have hrow4 : W.ownsRow wV.heap.size 78 2 u7 (L1).length (plcs (L1)) := hst.2
              have hW1 : wV.heap.size ≤ W.heap.size := hst.1.size
              have HS : Hid _ := hst
              have hq4 : ∀ (j : Nat) (u : Value), [Value.int .i64 b1, Value.int .i64 b2][j]? = some u → W.cell? ((⟨wy.heap.size, 0, none⟩ : Addr).add j) = some u := fun j u hu => by
                have hadd : (⟨wy.heap.size, 0, none⟩ : Addr).add j = ⟨wy.heap.size, j, none⟩ := by unfold Addr.add; split <;> simp_all
                rw [hadd]
                exact N1.cell j (by rw [← hu]; exact (Array.getElem?_toList ..).symm)
              have hlen : (L1).length ≤ 3 := HL.out
              have hone : ∀ u ∈ [Value.int .i64 b1, Value.int .i64 b2], u.oneCell' = true := by simp [Value.oneCell']
              clear hrow al hst hW N1
              go_wp2_with (at_builtin; rw [HW.out]; refine wpList_append_own _ rfl _ _ 73 rfl wV.heap.size 78 i_t (.agg #[.int .i64 0, .int .i64 0]) 2 16 Tryz.underlying73 hi_t hz0 hz1 hz2 rfl (by decide) _ _ _ rfl hrow4 ⟨wy.heap.size, 0, none⟩ 1 1 [Value.int .i64 b1, Value.int .i64 b2] rfl rfl hq4 hone (by unfold maxLen; omega) (by omega) hW1 ?_)
              intro v' w5 hO5 hg5 hn5
              have hb5 := grown_low HS.out.1 hg5 hrow4 (Nat.le_refl _) hW1
              have hr5 : Rz w5 wV.heap.size v' (L1 ++ [(b1, b2)]) := by
                show World.ownsRow _ _ _ _ _ _ _
                rw [plcs_snoc, List.length_append]
                exact hO5
              have H5 : Hid _ := And.intro hr5 hb5
              clear hO5 hg5 hn5 hb5 hr5 hrow4 hq4 HS
              have HP : Hid (L1 ++ [(b1, b2)] = pre 2) := by show _ = _; rw [HP2.out, ← HD.out]; simp [HL1.out, HLL.out]
              go_wp2_with fail
              go_roundw
              case rel => exact ⟨2, _, by omega, rfl, HP.out.symm, H5.out.1, H5.out.2⟩
              case measure => simp [intOf]
            | false =>
              have HP : Hid (L1 = pre 2) := by show _ = _; rw [HP2.out, ← HD.out]; simp [HL1.out, HLL.out]
              go_wp2_with fail
              go_roundw
              case rel => exact ⟨2, _, by omega, rfl, HP.out.symm, HR.out, HB.out⟩
              case measure => simp [intOf]
          · have HME : Hid (M = mtE L0) := by show _ = _; rw [HM.out, HE2.out, HLL.out]
            have V3 : Pb wr (g + 1 + 1) 29 #[.int .i64 0, .bool false, .int .u64 0, .int .u64 0, .int .u64 0, .int .u64 0] := Pb.later HV3.out HB.out
            have hB9 := HB5.out.trans (HB.out.mono hzV)
            have HN2 : Hid (L0.length ≤ 4) := by
              show _ ≤ _
              rw [HLL.out, HP2.out, List.length_append, List.length_append]
              have tt : ∀ (t : Bool) (y : Int × Int), (if t = true then [y] else []).length ≤ 1 := fun t y => by cases t <;> simp
              have := tt (Y == 0 && s3) (d1, d2)
              have := tt (V == 0 && s4) (b1, b2)
              have := HN1.out
              omega
            clear HM HLL HE2 HN1 HP0 HP1 HP2 hi p1 p2 p3 p4
            cases L0 with
            | nil =>
              have HM : Hid (M = ((0, false), (0, 0), (0, 0))) := HME.out
              obtain ⟨a, c, rfl⟩ : ∃ a c, u7 = .slice a ([] : List (Int × Int)).length c := Rz.slice HR.out
              obtain ⟨z0, z1, z2, z3, z4, z5⟩ := V3.cells6
              obtain ⟨f0, f1, f2, f3, f4, f5⟩ := V3.free6
              go_wp2
              have T9 := V3.put6 (.int .i64 0) (.bool false) (.int .u64 0) (.int .u64 0) (.int .u64 0) (.int .u64 0)
              have I9 := in6p wr (g + 1 + 1) (.int .i64 0) (.bool false) (.int .u64 0) (.int .u64 0) (.int .u64 0) (.int .u64 0)
              obtain ⟨t0, t1, t2, t3, t4, t5⟩ := T9.cells6
              refine bodyPost_ret (v := .agg #[.int .i64 0, .bool false, .int .u64 0, .int .u64 0, .int .u64 0, .int .u64 0]) (by simp [results, Tryz.results35, go_sem, t0, t1, t2, t3, t4, t5]) rfl ?_
              rw [HG.out, HM.out]
              exact ⟨rfl, below_in hB9 I9 (by omega) (Nat.le_of_eq HG.out.symm)⟩
            | cons m l =>
              obtain ⟨b, c, rfl, hb, hrw⟩ : ∃ b c, u7 = .slice (some ⟨b, 0, none⟩) (m :: l).length c ∧ b < wr.heap.size ∧ RwAt wr b 0 (m :: l) := Rz.open HR.out
              have hlen : (m :: l).length ≤ 1000 := Nat.le_trans HN2.out (by omega)
              have HMF : Hid (M = if leastP m l = greatP m l then ((1, false), ptP (leastP m l), (0, 0)) else ((2, false), ptP (leastP m l), ptP (greatP m l))) := HME.out
              have cL := least23_any (c := c) hrw hb hlen
              have cM := fun wQ (hbQ : Below wr.heap.size wr wQ) => great23_any (w := wQ) (c := c) (hrw.later hb hbQ) (by have := hbQ.size; omega) hlen
              generalize leastP m l = F at *
              generalize greatP m l = G at *
              obtain ⟨F1, F2⟩ := F
              obtain ⟨G1, G2⟩ := G
              go_wp2_with fail
              refine cL.mono ?_
              rintro e wQ ⟨rfl, hbQ⟩
              have cN := cM wQ hbQ
              clear cL cM
              go_wp2_with fail
              refine cN.mono ?_
              rintro e wR ⟨rfl, hbR⟩
              have hbb := hbQ.trans (hbR.mono hbQ.size)
              have hzr : g ≤ wr.heap.size := by have := HB.out.size; omega
              have hB8 := hB9.trans (hbb.mono hzr)
              have hzR : g ≤ wR.heap.size := by have := hbb.size; omega
              have U3 := V3.later hbb
              have hgR := U3.lt
              obtain ⟨q1, q2, hbq⟩ := pb_two' wR #[.int .i64 F1, .int .i64 F2] #[.int .i64 G1, .int .i64 G2] 78 78
              have T3 := U3.later hbq
              have hB7 := hB8.trans (hbq.mono hzR)
              have szW : ((wR.alloc (.cells #[.int .i64 F1, .int .i64 F2] 78)).alloc (.cells #[.int .i64 G1, .int .i64 G2] 78)).heap.size = wR.heap.size + 1 + 1 := by simp
              clear cN hbQ hbR hbb hB9 hB8 hbq V3 U3 hrw hb hlen HN2 HME HR HB hzr hzR hzV
              go_upto_region 21 with fail
              obtain ⟨r, hr⟩ : ∃ r, r = wR.heap.size := ⟨_, rfl⟩
              rw [← hr] at q1 q2 hgR szW ⊢
              generalize (wR.alloc (.cells #[.int .i64 F1, .int .i64 F2] 78)).alloc (.cells #[.int .i64 G1, .int .i64 G2] 78) = wW at *
              clear hr
              obtain ⟨x0, x1⟩ := q1.two
              obtain ⟨y0, y1⟩ := q2.two
              by_cases hFG : (F1, F2) = (G1, G2)
              · have HM : Hid _ := HMF.out.trans (if_pos hFG)
                clear HMF
                obtain ⟨rfl, rfl⟩ := Prod.mk.inj hFG
                clear hFG
                go_wp2_with fail
                refine (point23_any (F1, F2) wW).mono ?_
                rintro e wP ⟨rfl, hbP⟩
                have V3 := T3.later hbP
                have hB6 := hB7.trans (hbP.mono (by omega))
                clear q1 q2 T3 hbP hB7 szW
                obtain ⟨z0, z1, z2, z3, z4, z5⟩ := V3.cells6
                obtain ⟨f0, f1, f2, f3, f4, f5⟩ := V3.free6
                go_wp2
                have T9 := V3.put6 (.int .i64 1) (.bool false) (.int .u64 (atW F1)) (.int .u64 (atW F2)) (.int .u64 0) (.int .u64 0)
                have I9 := in6p wP (g + 1 + 1) (.int .i64 1) (.bool false) (.int .u64 (atW F1)) (.int .u64 (atW F2)) (.int .u64 0) (.int .u64 0)
                obtain ⟨t0, t1, t2, t3, t4, t5⟩ := T9.cells6
                refine bodyPost_ret (v := .agg #[.int .i64 1, .bool false, .int .u64 (atW F1), .int .u64 (atW F2), .int .u64 0, .int .u64 0]) (by simp [results, Tryz.results35, go_sem, t0, t1, t2, t3, t4, t5]) rfl ?_
                rw [HG.out, HM.out]
                exact ⟨rfl, below_in hB6 I9 (by omega) (Nat.le_of_eq HG.out.symm)⟩
              · have HM : Hid (M = ((2, false), (atW F1, atW F2), (atW G1, atW G2))) := HMF.out.trans (if_neg hFG)
                have hFG2 : ¬ F1 = G1 ∨ ¬ F2 = G2 := by
                  by_cases e1 : F1 = G1
                  · exact Or.inr (fun e2 => hFG (by rw [e1, e2]))
                  · exact Or.inl e1
                clear HMF hFG
                by_cases e1 : F1 = G1
                · subst e1
                  have e2 : ¬ F2 = G2 := hFG2.resolve_left (fun h => h rfl)
                  clear hFG2
                  have pt := fun x y w' (h : Below wW.heap.size wW w') => point23_at (w0 := wW) (w := w') (x, y) h
                  have hcl : ∀ w', Below wW.heap.size wW w' → ((w'.cell? ⟨r, 0, none⟩ = some (.int .i64 F1) ∧ w'.cell? ⟨r, 1, none⟩ = some (.int .i64 F2)) ∧ (w'.cell? ⟨r + 1, 0, none⟩ = some (.int .i64 F1) ∧ w'.cell? ⟨r + 1, 1, none⟩ = some (.int .i64 G2))) ∧ ((w'.cell? ⟨g + 1 + 1, 0, none⟩ = some (.int .i64 0) ∧ w'.cell? ⟨g + 1 + 1, 1, none⟩ = some (.bool false) ∧ w'.cell? ⟨g + 1 + 1, 2, none⟩ = some (.int .u64 0) ∧ w'.cell? ⟨g + 1 + 1, 3, none⟩ = some (.int .u64 0) ∧ w'.cell? ⟨g + 1 + 1, 4, none⟩ = some (.int .u64 0) ∧ w'.cell? ⟨g + 1 + 1, 5, none⟩ = some (.int .u64 0)) ∧ (w'.frozen? ⟨g + 1 + 1, 0, none⟩ = false ∧ w'.frozen? ⟨g + 1 + 1, 1, none⟩ = false ∧ w'.frozen? ⟨g + 1 + 1, 2, none⟩ = false ∧ w'.frozen? ⟨g + 1 + 1, 3, none⟩ = false ∧ w'.frozen? ⟨g + 1 + 1, 4, none⟩ = false ∧ w'.frozen? ⟨g + 1 + 1, 5, none⟩ = false)) := fun w' q => ⟨⟨(q1.later q).two, (q2.later q).two⟩, (T3.later q).cells6, (T3.later q).free6⟩
                  have HT : Hid _ := T3
                  have m1 : ¬ r = g + 1 + 1 := by omega
                  have m2 : ¬ g + 1 + 1 = r := by omega
                  have m3 : ¬ r = g + 1 := by omega
                  have m4 : ¬ g + 1 = r := by omega
                  have hzW : g ≤ wW.heap.size := by omega
                  clear q1 q2 T3 szW hgR
                  go_upto_region 23 with fail
                  go_region_held3 (fun w' => (w'.cell? ⟨r, 0, none⟩ = some (.int .i64 F1) ∧ w'.cell? ⟨r, 1, none⟩ = some (.int .i64 F2)) ∧ (w'.cell? ⟨r + 1, 0, none⟩ = some (.int .i64 F1) ∧ w'.cell? ⟨r + 1, 1, none⟩ = some (.int .i64 G2))) (go_keep) (first | (go_at_call 75; refine (pt _ _ _ hbP).mono ?_; rintro e wE ⟨rfl, hbE⟩; obtain ⟨⟨⟨x0, x1⟩, ⟨y0, y1⟩⟩, ⟨z0, z1, z2, z3, z4, z5⟩, ⟨f0, f1, f2, f3, f4, f5⟩⟩ := hcl wE hbE) | (go_at_call 75; refine (pt _ _ _ (by first | exact Below.refl _ _ | exact below_drewN (Below.refl _ _) _)).mono ?_; rintro e wP ⟨rfl, hbP⟩; obtain ⟨⟨⟨x0, x1⟩, ⟨y0, y1⟩⟩, ⟨z0, z1, z2, z3, z4, z5⟩, ⟨f0, f1, f2, f3, f4, f5⟩⟩ := hcl wP hbP))
                  have V3 : Pb wE (g + 1 + 1) 29 #[.int .i64 0, .bool false, .int .u64 0, .int .u64 0, .int .u64 0, .int .u64 0] := Pb.later HT.out hbE
                  have hB6 := hB7.trans (hbE.mono hzW)
                  clear x0 x1 y0 y1 z0 z1 z2 z3 z4 z5 f0 f1 f2 f3 f4 f5 hcl HT pt hB7 hbP hbE
                  obtain ⟨z0, z1, z2, z3, z4, z5⟩ := V3.cells6
                  obtain ⟨f0, f1, f2, f3, f4, f5⟩ := V3.free6
                  go_wp2
                  have T9 := V3.put6 (.int .i64 2) (.bool false) (.int .u64 (atW F1)) (.int .u64 (atW F2)) (.int .u64 (atW F1)) (.int .u64 (atW G2))
                  have I9 := in6p wE (g + 1 + 1) (.int .i64 2) (.bool false) (.int .u64 (atW F1)) (.int .u64 (atW F2)) (.int .u64 (atW F1)) (.int .u64 (atW G2))
                  obtain ⟨t0, t1, t2, t3, t4, t5⟩ := T9.cells6
                  refine bodyPost_ret (v := .agg #[.int .i64 2, .bool false, .int .u64 (atW F1), .int .u64 (atW F2), .int .u64 (atW F1), .int .u64 (atW G2)]) (by simp [results, Tryz.results35, go_sem, t0, t1, t2, t3, t4, t5]) rfl ?_
                  rw [HG.out, HM.out]
                  exact ⟨rfl, below_in hB6 I9 (by omega) (Nat.le_of_eq HG.out.symm)⟩
                · clear hFG2
                  have pt := fun x y w' (h : Below wW.heap.size wW w') => point23_at (w0 := wW) (w := w') (x, y) h
                  have hcl : ∀ w', Below wW.heap.size wW w' → ((w'.cell? ⟨r, 0, none⟩ = some (.int .i64 F1) ∧ w'.cell? ⟨r, 1, none⟩ = some (.int .i64 F2)) ∧ (w'.cell? ⟨r + 1, 0, none⟩ = some (.int .i64 G1) ∧ w'.cell? ⟨r + 1, 1, none⟩ = some (.int .i64 G2))) ∧ ((w'.cell? ⟨g + 1 + 1, 0, none⟩ = some (.int .i64 0) ∧ w'.cell? ⟨g + 1 + 1, 1, none⟩ = some (.bool false) ∧ w'.cell? ⟨g + 1 + 1, 2, none⟩ = some (.int .u64 0) ∧ w'.cell? ⟨g + 1 + 1, 3, none⟩ = some (.int .u64 0) ∧ w'.cell? ⟨g + 1 + 1, 4, none⟩ = some (.int .u64 0) ∧ w'.cell? ⟨g + 1 + 1, 5, none⟩ = some (.int .u64 0)) ∧ (w'.frozen? ⟨g + 1 + 1, 0, none⟩ = false ∧ w'.frozen? ⟨g + 1 + 1, 1, none⟩ = false ∧ w'.frozen? ⟨g + 1 + 1, 2, none⟩ = false ∧ w'.frozen? ⟨g + 1 + 1, 3, none⟩ = false ∧ w'.frozen? ⟨g + 1 + 1, 4, none⟩ = false ∧ w'.frozen? ⟨g + 1 + 1, 5, none⟩ = false)) := fun w' q => ⟨⟨(q1.later q).two, (q2.later q).two⟩, (T3.later q).cells6, (T3.later q).free6⟩
                  have HT : Hid _ := T3
                  have m1 : ¬ r = g + 1 + 1 := by omega
                  have m2 : ¬ g + 1 + 1 = r := by omega
                  have m3 : ¬ r = g + 1 := by omega
                  have m4 : ¬ g + 1 = r := by omega
                  have hzW : g ≤ wW.heap.size := by omega
                  clear q1 q2 T3 szW hgR
                  go_upto_region 23 with fail
                  go_region_held3 (fun w' => (w'.cell? ⟨r, 0, none⟩ = some (.int .i64 F1) ∧ w'.cell? ⟨r, 1, none⟩ = some (.int .i64 F2)) ∧ (w'.cell? ⟨r + 1, 0, none⟩ = some (.int .i64 G1) ∧ w'.cell? ⟨r + 1, 1, none⟩ = some (.int .i64 G2))) (go_keep) (first | (go_at_call 75; refine (pt _ _ _ hbP).mono ?_; rintro e wE ⟨rfl, hbE⟩; obtain ⟨⟨⟨x0, x1⟩, ⟨y0, y1⟩⟩, ⟨z0, z1, z2, z3, z4, z5⟩, ⟨f0, f1, f2, f3, f4, f5⟩⟩ := hcl wE hbE) | (go_at_call 75; refine (pt _ _ _ (by first | exact Below.refl _ _ | exact below_drewN (Below.refl _ _) _)).mono ?_; rintro e wP ⟨rfl, hbP⟩; obtain ⟨⟨⟨x0, x1⟩, ⟨y0, y1⟩⟩, ⟨z0, z1, z2, z3, z4, z5⟩, ⟨f0, f1, f2, f3, f4, f5⟩⟩ := hcl wP hbP))
                  have V3 : Pb wE (g + 1 + 1) 29 #[.int .i64 0, .bool false, .int .u64 0, .int .u64 0, .int .u64 0, .int .u64 0] := Pb.later HT.out hbE
                  have hB6 := hB7.trans (hbE.mono hzW)
                  clear x0 x1 y0 y1 z0 z1 z2 z3 z4 z5 f0 f1 f2 f3 f4 f5 hcl HT pt hB7 hbP hbE
                  obtain ⟨z0, z1, z2, z3, z4, z5⟩ := V3.cells6
                  obtain ⟨f0, f1, f2, f3, f4, f5⟩ := V3.free6
                  go_wp2
                  have T9 := V3.put6 (.int .i64 2) (.bool false) (.int .u64 (atW F1)) (.int .u64 (atW F2)) (.int .u64 (atW G1)) (.int .u64 (atW G2))
                  have I9 := in6p wE (g + 1 + 1) (.int .i64 2) (.bool false) (.int .u64 (atW F1)) (.int .u64 (atW F2)) (.int .u64 (atW G1)) (.int .u64 (atW G2))
                  obtain ⟨t0, t1, t2, t3, t4, t5⟩ := T9.cells6
                  refine bodyPost_ret (v := .agg #[.int .i64 2, .bool false, .int .u64 (atW F1), .int .u64 (atW F2), .int .u64 (atW G1), .int .u64 (atW G2)]) (by simp [results, Tryz.results35, go_sem, t0, t1, t2, t3, t4, t5]) rfl ?_
                  rw [HG.out, HM.out]
                  exact ⟨rfl, below_in hB6 I9 (by omega) (Nat.le_of_eq HG.out.symm)⟩
end Go.Proofs.YtienpliknhkbjaaGreatDoor

/- package seg: meet, as mtP tells it. -/
namespace Go.Proofs.YtienpliknhkbjaaGreatDoor
open Go.ChangeShapes Go.WideShapes Go.ChangeAt Go.RowKit
open Na Ar
set_option linter.unusedVariables false
theorem mtP_E {a b c d : Int × Int} (h : ¬ prP a b c d) : mtP a b c d = mtE (endsP a b c d) := by
  unfold mtP
  rw [if_neg h]
  cases endsP a b c d <;> rfl
theorem meet23_any {a b c d : Int × Int} (ha : pOk a) (hb : pOk b) (hc : pOk c) (hd : pOk d) (h1 : orP a b ≤ 0) (h2 : orP c d ≤ 0) (w : World) :
    Calls Tryz.prog 35 #[.agg #[.int .i64 a.1, .int .i64 a.2, .int .i64 b.1, .int .i64 b.2], .agg #[.int .i64 c.1, .int .i64 c.2, .int .i64 d.1, .int .i64 d.2]] w fun e w' => e = .returned (mtV (mtP a b c d)) ∧ Below w.heap.size w w' := by
  refine meet23_raw a.1 a.2 b.1 b.2 c.1 c.2 d.1 d.2 (sdP a b c) (sdP a b d) (sdP c d a) (sdP c d b) (decide (apP a b c d)) (spP a b c) (spP c d a) (spP a b d) (spP c d b) (mtP a b c d) (endsP a b c d) w (sdP_in _ _ _) (sdP_in _ _ _) (sdP_in _ _ _) (sdP_in _ _ _) (fun w => apart23_raw _ _ _ _ _ _ _ _ _ rfl w) (sides23_any ha hb hc hd) (sides23_any hc hd ha hb) (spans23_any a b c) (spans23_any c d a) (spans23_any a b d) (spans23_any c d b) rfl ⟨?_, ?_, ?_, ?_⟩
  · intro h
    exact mtP_none (ap_none ha hb hc hd h1 h2 (of_decide_eq_true h))
  · intro _ h
    exact mtP_none (side_none ha hb hc hd h)
  · intro _ _ h3 h4
    exact mtP_proper ⟨h3, h4⟩
  · intro _ _ h3
    exact mtP_E h3
end Go.Proofs.YtienpliknhkbjaaGreatDoor

/- package seg: spotsOf (written by gensgi.py). -/
namespace Go.Proofs.YtienpliknhkbjaaGreatDoor
open Go.ChangeShapes Go.WideShapes Go.ChangeAt Go.RowKit
open Na Ar
set_option linter.unusedVariables false
theorem info_spot23 : (Tryz.prog.info? 84).map (fun i => (i.zero, i.size, i.bytes)) = some (some (.agg #[.bool false, .slice none 0 0, .slice none 0 0, .bool false, .slice none 0 0, .slice none 0 0]), 6, 112) := by kernel_rfl
theorem under_spot23 : Tryz.prog.underlying 92 = some (.slice 84) := by kernel_rfl
theorem makeS23 (w : World) (n : Nat) (hn : n ≤ 1000000) : ∃ cs, cs.size = n * 6 ∧ (Instr.makeSlice 92 (.int .i64 (n : Int)) (.int .i64 (n : Int))).run Tryz.prog w = .ok (.slice (some ⟨w.heap.size, 0, none⟩) n n) (w.alloc (.cells cs 84)) := by
  cases hi : Tryz.prog.info? 84 with
  | none => have h := info_spot23; rw [hi] at h; cases h
  | some i =>
    have h := info_spot23
    rw [hi] at h
    simp only [Option.map_some, Option.some.injEq, Prod.mk.injEq] at h
    obtain ⟨h1, h2, h3⟩ := h
    have hr := run_make (P := Tryz.prog) w 92 84 i _ under_spot23 hi h1 .i64 .i64 (n : Int) (n : Int) (by omega) (by omega) (by rw [h3]; omega) (by omega)
    refine ⟨_, ?_, by simpa using hr⟩
    rw [size_madeCells, h2]
/-- six cells of a block written over at once: two Rats -/
def put6W (w : World) (o k : Nat) (x0 x1 x2 x3 x4 x5 : Value) : World := (((((w.setCell ⟨o, k, none⟩ x0).setCell ⟨o, k + 1, none⟩ x1).setCell ⟨o, k + 2, none⟩ x2).setCell ⟨o, k + 3, none⟩ x3).setCell ⟨o, k + 4, none⟩ x4).setCell ⟨o, k + 5, none⟩ x5
theorem put6_in (w : World) (o k : Nat) (x0 x1 x2 x3 x4 x5 : Value) : In o (o + 1) w (put6W w o k x0 x1 x2 x3 x4 x5) := ((((((In.refl o (o + 1) w).set1 _ _).set1 _ _).set1 _ _).set1 _ _).set1 _ _).set1 _ _
theorem ra_put6 {w : World} {o k T base : Nat} {ty : TypeId} {cs : Array Value} {s s' : Bool} {a b a' b' : Option Addr} {n c m d n' c' m' d' : Nat} {q q' : Rat} (h : Pb w o ty cs) (hk : k = T * 6) (hT : k + 5 < cs.size) (hR : RtO w base s (.slice a n c) (.slice b m d) q) (hR' : RtO w base s' (.slice a' n' c') (.slice b' m' d') q') (hb : o < base) :
    ∃ cs', cs'.size = cs.size ∧ Pb (put6W w o k (.bool s) (.slice a n c) (.slice b m d) (.bool s') (.slice a' n' c') (.slice b' m' d')) o ty cs' ∧ RaAt (put6W w o k (.bool s) (.slice a n c) (.slice b m d) (.bool s') (.slice a' n' c') (.slice b' m' d')) base cs' (2 * T) q ∧ RaAt (put6W w o k (.bool s) (.slice a n c) (.slice b m d) (.bool s') (.slice a' n' c') (.slice b' m' d')) base cs' (2 * T + 1) q' ∧ (∀ t p, t ≠ 2 * T → t ≠ 2 * T + 1 → RaAt w base cs t p → RaAt (put6W w o k (.bool s) (.slice a n c) (.slice b m d) (.bool s') (.slice a' n' c') (.slice b' m' d')) base cs' t p) := by
  have hi := put6_in w o k (.bool s) (.slice a n c) (.slice b m d) (.bool s') (.slice a' n' c') (.slice b' m' d')
  refine ⟨(((((cs.setIfInBounds k (.bool s)).setIfInBounds (k + 1) (.slice a n c)).setIfInBounds (k + 2) (.slice b m d)).setIfInBounds (k + 3) (.bool s')).setIfInBounds (k + 4) (.slice a' n' c')).setIfInBounds (k + 5) (.slice b' m' d'), by simp, (((((h.set k _).set (k + 1) _).set (k + 2) _).set (k + 3) _).set (k + 4) _).set (k + 5) _, ?_, ?_, ?_⟩
  · subst hk
    refine ⟨s, a, n, c, b, m, d, ?_, ?_, ?_, hR.inn hi hb⟩
    · rw [show 2 * T * 3 = T * 6 by omega]; simp [show T * 6 < cs.size by omega]
    · rw [show 2 * T * 3 + 1 = T * 6 + 1 by omega]; simp [show T * 6 + 1 < cs.size by omega]
    · rw [show 2 * T * 3 + 2 = T * 6 + 2 by omega]; simp [show T * 6 + 2 < cs.size by omega]
  · subst hk
    refine ⟨s', a', n', c', b', m', d', ?_, ?_, ?_, hR'.inn hi hb⟩
    · rw [show (2 * T + 1) * 3 = T * 6 + 3 by omega]; simp [show T * 6 + 3 < cs.size by omega]
    · rw [show (2 * T + 1) * 3 + 1 = T * 6 + 4 by omega]; simp [show T * 6 + 4 < cs.size by omega]
    · rw [show (2 * T + 1) * 3 + 2 = T * 6 + 5 by omega]; simp [show T * 6 + 5 < cs.size by omega]
  · rintro t p ht ht2 ⟨s1, a1, n1, c1, b1, m1, d1, e1, e2, e3, r⟩
    subst hk
    have ne : ∀ j, (j = t * 3 ∨ j = t * 3 + 1 ∨ j = t * 3 + 2) → j ≠ T * 6 ∧ j ≠ T * 6 + 1 ∧ j ≠ T * 6 + 2 ∧ j ≠ T * 6 + 3 ∧ j ≠ T * 6 + 4 ∧ j ≠ T * 6 + 5 := fun j hj => by omega
    have look : ∀ j, (j = t * 3 ∨ j = t * 3 + 1 ∨ j = t * 3 + 2) → ((((((cs.setIfInBounds (T * 6) (.bool s)).setIfInBounds (T * 6 + 1) (.slice a n c)).setIfInBounds (T * 6 + 2) (.slice b m d)).setIfInBounds (T * 6 + 3) (.bool s')).setIfInBounds (T * 6 + 4) (.slice a' n' c')).setIfInBounds (T * 6 + 5) (.slice b' m' d'))[j]? = cs[j]? := fun j hj => by
      obtain ⟨k0, k1, k2, k3, k4, k5⟩ := ne j hj
      rw [Array.getElem?_setIfInBounds_ne (Ne.symm k5), Array.getElem?_setIfInBounds_ne (Ne.symm k4), Array.getElem?_setIfInBounds_ne (Ne.symm k3), Array.getElem?_setIfInBounds_ne (Ne.symm k2), Array.getElem?_setIfInBounds_ne (Ne.symm k1), Array.getElem?_setIfInBounds_ne (Ne.symm k0)]
    refine ⟨s1, a1, n1, c1, b1, m1, d1, ?_, ?_, ?_, r.inn hi hb⟩
    · rw [look _ (Or.inl rfl)]; exact e1
    · rw [look _ (Or.inr (Or.inl rfl))]; exact e2
    · rw [look _ (Or.inr (Or.inr rfl))]; exact e3
theorem six_at {w : World} {g : Nat} {t : TypeId} {cs : Array Value} (h : Pb w g t cs) (i : Nat) (hi : i + 5 < cs.size) : (∃ v, w.cell? ⟨g, i, none⟩ = some v) ∧ (∃ v, w.cell? ⟨g, i + 1, none⟩ = some v) ∧ (∃ v, w.cell? ⟨g, i + 2, none⟩ = some v) ∧ (∃ v, w.cell? ⟨g, i + 3, none⟩ = some v) ∧ (∃ v, w.cell? ⟨g, i + 4, none⟩ = some v) ∧ (∃ v, w.cell? ⟨g, i + 5, none⟩ = some v) :=
  ⟨⟨cs[i], h.cell i (by simp [show i < cs.size by omega])⟩, ⟨cs[i + 1], h.cell (i + 1) (by simp [show i + 1 < cs.size by omega])⟩, ⟨cs[i + 2], h.cell (i + 2) (by simp [show i + 2 < cs.size by omega])⟩, ⟨cs[i + 3], h.cell (i + 3) (by simp [show i + 3 < cs.size by omega])⟩, ⟨cs[i + 4], h.cell (i + 4) (by simp [show i + 4 < cs.size by omega])⟩, ⟨cs[i + 5], h.cell (i + 5) (by simp [show i + 5 < cs.size by omega])⟩⟩
theorem six_free {w : World} {g : Nat} {t : TypeId} {cs : Array Value} (h : Pb w g t cs) (i : Nat) : w.frozen? ⟨g, i, none⟩ = false ∧ w.frozen? ⟨g, i + 1, none⟩ = false ∧ w.frozen? ⟨g, i + 2, none⟩ = false ∧ w.frozen? ⟨g, i + 3, none⟩ = false ∧ w.frozen? ⟨g, i + 4, none⟩ = false ∧ w.frozen? ⟨g, i + 5, none⟩ = false := ⟨h.frozen _, h.frozen _, h.frozen _, h.frozen _, h.frozen _, h.frozen _⟩
/-- what seg's spotsOf answers -/
def SqQ (w : World) (n : Nat) (P : Nat → Int × Int) (e : Ending) (w' : World) : Prop :=
  ((∀ t, t < 2 * n → ef (numT P t) ≠ 2047) ∧ ∃ o cs, e = .returned (.tuple #[.slice (some ⟨o, 0, none⟩) n n, .int .i64 0]) ∧ Pb w' o 84 cs ∧ w.heap.size ≤ o ∧ cs.size = n * 6 ∧ (∀ t, t < 2 * n → RaAt w' (o + 1) cs t (valR (numT P t))) ∧ Below w.heap.size w w') ∨
  ((∃ t, t < 2 * n ∧ ef (numT P t) = 2047) ∧ e = .returned (.tuple #[.slice none 0 0, .int .i64 220]) ∧ Below w.heap.size w w')
/-- near.Value, whatever the pattern -/
theorem nearValue_gen {b : Int} (hu : U b) (w : World) : Calls Tryz.prog 18 #[.int .u64 b] w fun e w' => ∃ s a n c b' m d E, e = .returned (.tuple #[.agg #[.bool s, .slice a n c, .slice b' m d], .int .i64 E]) ∧ ((ef b ≠ 2047 ∧ E = 0 ∧ RtO w' w.heap.size s (.slice a n c) (.slice b' m d) (valR b)) ∨ (ef b = 2047 ∧ E ≠ 0)) ∧ Below w.heap.size w w' := by
  by_cases hf : ef b = 2047
  · refine (nearValue_inf hu hf w).mono ?_
    rintro e w' ⟨rfl, hb⟩
    exact ⟨_, _, _, _, _, _, _, _, rfl, Or.inr ⟨hf, by decide⟩, hb⟩
  · refine (nearValue_fin hu hf w).mono ?_
    rintro e w' ⟨s, v1, v2, rfl, hR, hb⟩
    obtain ⟨a, k, d, b', m, q, rfl, rfl, _⟩ := hR.opens
    exact ⟨_, _, _, _, _, _, _, _, rfl, Or.inl ⟨hf, rfl, hR⟩, hb⟩
set_option maxHeartbeats 6400000 in
set_option maxRecDepth 100000 in
theorem spots23_any {w : World} {g n c : Nat} {P : Nat → Int × Int} (hP : PtAt w g 0 P n) (hg : g < w.heap.size) (hn : n ≤ 1000000) :
    Calls Tryz.prog 41 #[.slice (some ⟨g, 0, none⟩) n c] w fun e w' => SqQ w n P e w' := by
  obtain ⟨cs0, hcs0, hmk⟩ := makeS23 w n hn
  have hb0 := alloc_below (w := w) (.cells cs0 84)
  have p0 := Pb.new w 84 cs0
  obtain ⟨o, ho⟩ : ∃ o, o = w.heap.size := ⟨_, rfl⟩
  have HO : Hid (w.heap.size = o) := ho.symm
  rw [← ho] at hmk p0
  clear ho
  go_enter Tryz.func41, Tryz.ntmps41
  go_wp2
  clear hmk
  generalize w.alloc (.cells cs0 84) = w0 at *
  go_loopw [16] (fun i wr => ∃ (j : Nat) (cs : Array Value), j ≤ n ∧ i = .int .i64 j ∧ Pb wr o 84 cs ∧ cs.size = n * 6 ∧ (∀ t, t < 2 * j → ef (numT P t) ≠ 2047 ∧ RaAt wr (o + 1) cs t (valR (numT P t))) ∧ Below w.heap.size w wr) (fun i _ => n - (intOf i).toNat)
  case atStart => exact ⟨0, cs0, Nat.zero_le _, rfl, p0, hcs0, fun t ht => absurd ht (by omega), hb0⟩
  case round =>
    obtain ⟨j, cs, hj, rfl, hPb, hcs, hT, hB⟩ := hrel
    clear p0 hb0
    by_cases hlt : j < n
    · have i1 : (j : Int) < (n : Int) := by omega
      have hi0 : (0 : Int) ≤ (j : Int) := by omega
      obtain ⟨x0, x1, ux, uy⟩ := hP j hlt
      simp only [Nat.zero_add] at x0 x1
      have X0 := (hB.cell (p := ⟨g, j * 2, none⟩) hg).trans x0
      have X1 := (hB.cell (p := ⟨g, j * 2 + 1, none⟩) hg).trans x1
      have eX : numT P (2 * j) = (P j).1 := by unfold numT; rw [if_pos (by omega)]; congr 2; omega
      have eY : numT P (2 * j + 1) = (P j).2 := by unfold numT; rw [if_neg (by omega)]; congr 2; omega
      have HX : Hid (numT P (2 * j) = (P j).1) := eX
      have HY : Hid (numT P (2 * j + 1) = (P j).2) := eY
      clear eX eY x0 x1
      generalize (P j).1 = x at *
      generalize (P j).2 = y at *
      have al := alloc_below (w := wr) (.cells #[.int .u64 x, .int .u64 y] 24)
      have szr : (wr.alloc (.cells #[.int .u64 x, .int .u64 y] 24)).heap.size = wr.heap.size + 1 := by simp
      have ob := hPb.lt
      have oH := HO.out
      have wo : w.heap.size ≤ o := by rw [oH]; exact Nat.le_refl _
      clear oH
      have hBs := hB.size
      have P1 := hPb.later al
      have N1 := Pb.new wr 24 #[.int .u64 x, .int .u64 y]
      have T1 := fun t ht => raAt_later (hT t ht).2 al
      have B1 := hB.trans (al.mono hBs)
      obtain ⟨nb0, nb1⟩ := N1.two
      go_wp2_with fail
      generalize wr.alloc (.cells #[.int .u64 x, .int .u64 y] 24) = w1 at *
      clear X0 X1 al
      refine (nearValue_gen ux w1).mono ?_
      rintro e wX ⟨s, a, k, d, b, m, q, E, rfl, hR, hbX⟩
      have B2 := B1.trans (hbX.mono (by omega))
      have al2 := alloc_below (w := wX) (.cells #[.bool s, .slice a k d, .slice b m q] 45)
      have B3 := B2.trans (al2.mono B2.size)
      have P2 := (P1.later hbX).later al2
      have T2 := fun t ht => raAt_later (raAt_later (T1 t ht) hbX) al2
      have N2 := (N1.later hbX).later al2
      have M2 := Pb.new wX 45 #[.bool s, .slice a k d, .slice b m q]
      have sX := hbX.size
      have szX : (wX.alloc (.cells #[.bool s, .slice a k d, .slice b m q] 45)).heap.size = wX.heap.size + 1 := by simp
      obtain ⟨nb0, nb1⟩ := N2.two
      have R2 : (ef x ≠ 2047 ∧ E = 0 ∧ RtO (wX.alloc (.cells #[.bool s, .slice a k d, .slice b m q] 45)) (o + 1) s (.slice a k d) (.slice b m q) (valR x)) ∨ (ef x = 2047 ∧ E ≠ 0) := hR.imp (fun h => ⟨h.1, h.2.1, (h.2.2.later al2).lower (by omega)⟩) id
      have wne : ¬ wr.heap.size = wX.heap.size := by omega
      have wne2 : ¬ wX.heap.size = wr.heap.size := by omega
      clear hR al2 N1 P1 T1 B1 B2
      go_upto_region 6 with fail
      obtain ⟨r1, hr1⟩ : ∃ r1, r1 = wr.heap.size := ⟨_, rfl⟩
      obtain ⟨r2, hr2⟩ : ∃ r2, r2 = wX.heap.size := ⟨_, rfl⟩
      rw [← hr1] at N2 szr wne wne2 ob ⊢
      rw [← hr2] at M2 szX wne wne2 sX ⊢
      have ob2 : o + 1 ≤ r2 := by omega
      clear hr1 hr2
      generalize wX.alloc (.cells #[.bool s, .slice a k d, .slice b m q] 45) = w2 at *
      clear nb0 nb1
      obtain ⟨nb0, nb1⟩ := N2.two
      go_wp2_with fail
      refine (nearValue_gen uy w2).mono ?_
      rintro e wY ⟨s', a', k', d', b', m', q', E', rfl, hR', hbY⟩
      have B4 := B3.trans (hbY.mono (by omega))
      have al3 := alloc_below (w := wY) (.cells #[.bool s', .slice a' k' d', .slice b' m' q'] 45)
      have B5 := B4.trans (al3.mono B4.size)
      have P3 := (P2.later hbY).later al3
      have T3 := fun t ht => raAt_later (raAt_later (T2 t ht) hbY) al3
      have M3 := (M2.later hbY).later al3
      have M4 := Pb.new wY 45 #[.bool s', .slice a' k' d', .slice b' m' q']
      have sY := hbY.size
      have R3 := R2.imp (fun h => (⟨h.1, h.2.1, (h.2.2.later hbY).later al3⟩ : ef x ≠ 2047 ∧ E = 0 ∧ _)) id
      have R4 : (ef y ≠ 2047 ∧ E' = 0 ∧ RtO (wY.alloc (.cells #[.bool s', .slice a' k' d', .slice b' m' q'] 45)) (o + 1) s' (.slice a' k' d') (.slice b' m' q') (valR y)) ∨ (ef y = 2047 ∧ E' ≠ 0) := hR'.imp (fun h => ⟨h.1, h.2.1, (h.2.2.later al3).lower (by omega)⟩) id
      clear hR' al3 N2 P2 T2 M2 B4 R2 nb0 nb1
      go_upto_region 7 with fail
      obtain ⟨r3, hr3⟩ : ∃ r3, r3 = wY.heap.size := ⟨_, rfl⟩
      rw [← hr3] at M4 sY ⊢
      have rne : r3 ≠ o := by omega
      clear hr3
      generalize wY.alloc (.cells #[.bool s', .slice a' k' d', .slice b' m' q'] 45) = w3 at *
      by_cases hE : E = 0
      · by_cases hE' : E' = 0
        · obtain ⟨fx, _, Rx⟩ := R3.resolve_right (fun h => h.2 hE)
          obtain ⟨fy, _, Ry⟩ := R4.resolve_right (fun h => h.2 hE')
          subst hE hE'
          have Fx : Hid (ef (numT P (2 * j)) ≠ 2047) := by show _; rw [HX.out]; exact fx
          have Fy : Hid (ef (numT P (2 * j + 1)) ≠ 2047) := by show _; rw [HY.out]; exact fy
          obtain ⟨⟨c0, k0⟩, ⟨c1, k1⟩, ⟨c2, k2⟩, ⟨c3, k3⟩, ⟨c4, k4⟩, ⟨c5, k5⟩⟩ := six_at P3 (j * 6) (by omega)
          obtain ⟨f0, f1, f2, f3, f4, f5⟩ := six_free P3 (j * 6)
          obtain ⟨l0, l1, l2⟩ := pb_tri M3
          obtain ⟨l3, l4, l5⟩ := pb_tri M4
          obtain ⟨cs1, hcs1, Q1, Q2, Q3, Q4⟩ := ra_put6 (k := j * 6) (T := j) P3 rfl (by omega) Rx Ry (by omega)
          have I1 := put6_in w3 o (j * 6) (.bool s) (.slice a k d) (.slice b m q) (.bool s') (.slice a' k' d') (.slice b' m' q')
          rw [← HX.out] at Q2
          rw [← HY.out] at Q3
          have T6 : ∀ t, t < 2 * (j + 1) → ef (numT P t) ≠ 2047 ∧ RaAt (put6W w3 o (j * 6) (.bool s) (.slice a k d) (.slice b m q) (.bool s') (.slice a' k' d') (.slice b' m' q')) (o + 1) cs1 t (valR (numT P t)) := fun t ht => by
            by_cases e : t = 2 * j
            · subst e; exact ⟨Fx.out, Q2⟩
            · by_cases e' : t = 2 * j + 1
              · subst e'; exact ⟨Fy.out, Q3⟩
              · exact ⟨(hT t (by omega)).1, Q4 t _ e e' (T3 t (by omega))⟩
          have HH : Hid _ := And.intro Q1 (And.intro (hcs1.trans hcs) (And.intro T6 (below_in B5 I1 wo (Nat.le_refl _))))
          clear Q1 Q2 Q3 Q4 T6 I1 Rx Ry R3 R4 P3 T3 M3 M4 Fx Fy
          unfold put6W at HH
          go_wp2
          go_roundw
          case rel => exact ⟨j + 1, cs1, by omega, rfl, HH.out.1, HH.out.2.1, HH.out.2.2.1, HH.out.2.2.2⟩
          case measure => simp [intOf]; omega
        · have fy := (R4.resolve_left (fun h => hE' h.2.1)).1
          have t1 : (E' != 0) = true := by simpa using hE'
          subst hE
          have HZ : Hid (∃ t, t < 2 * n ∧ ef (numT P t) = 2047) := ⟨2 * j + 1, by omega, by rw [HY.out]; exact fy⟩
          clear R3 R4 hE'
          go_wp2
          go_ret2
          exact Or.inr ⟨HZ.out, rfl, B5⟩
      · have fx := (R3.resolve_left (fun h => hE h.2.1)).1
        have t1 : (E != 0) = true := by simpa using hE
        have HZ : Hid (∃ t, t < 2 * n ∧ ef (numT P t) = 2047) := ⟨2 * j, by omega, by rw [HX.out]; exact fx⟩
        clear R3 R4 hE
        go_wp2
        go_ret2
        exact Or.inr ⟨HZ.out, rfl, B5⟩
    · have i1 : ¬ (j : Int) < (n : Int) := by omega
      have HJ : Hid (j = n) := by show j = n; omega
      go_wp2
      go_ret2
      have e := HJ.out
      subst e
      exact Or.inl ⟨fun t ht => (hT t ht).1, o, cs, rfl, hPb, Nat.le_of_eq HO.out, hcs, fun t ht => (hT t ht).2, hB⟩
theorem sopen4 {w w' : World} {e : Ending} {a b c d : Int × Int} (ua : U2 a) (fa : fin2 a) (ub : U2 b) (fb : fin2 b) (uc : U2 c) (fc : fin2 c) (ud : U2 d) (fd : fin2 d) (h : SqQ w 4 (fun i => [a, b, c, d].getD i (0, 0)) e w') : ∃ o, e = .returned (.tuple #[.slice (some ⟨o, 0, none⟩) 4 4, .int .i64 0]) ∧ o < w'.heap.size ∧ w.heap.size ≤ o ∧ S1At w' o 0 1 2 (valR a.1) ∧ S1At w' o 3 4 5 (valR a.2) ∧ S1At w' o 6 7 8 (valR b.1) ∧ S1At w' o 9 10 11 (valR b.2) ∧ S1At w' o 12 13 14 (valR c.1) ∧ S1At w' o 15 16 17 (valR c.2) ∧ S1At w' o 18 19 20 (valR d.1) ∧ S1At w' o 21 22 23 (valR d.2) ∧ Below w.heap.size w w' := by
  rcases h with ⟨_, o, cs, e0, hPb, ho, hsz, hT, hb⟩ | ⟨⟨t, ht, h⟩, _⟩
  · exact ⟨o, e0, hPb.lt, ho, s1At hPb (hT 0 (by omega)) rfl rfl rfl, s1At hPb (hT 1 (by omega)) rfl rfl rfl, s1At hPb (hT 2 (by omega)) rfl rfl rfl, s1At hPb (hT 3 (by omega)) rfl rfl rfl, s1At hPb (hT 4 (by omega)) rfl rfl rfl, s1At hPb (hT 5 (by omega)) rfl rfl rfl, s1At hPb (hT 6 (by omega)) rfl rfl rfl, s1At hPb (hT 7 (by omega)) rfl rfl rfl, hb⟩
  · exact absurd h (fin_iff.mpr (fin4_of fa fb fc fd) t ht)
end Go.Proofs.YtienpliknhkbjaaGreatDoor

/- package seg: way, along (written by gensgj.py). -/
namespace Go.Proofs.YtienpliknhkbjaaGreatDoor
open Go.ChangeShapes Go.WideShapes Go.ChangeAt Go.RowKit
open Na Ar
set_option linter.unusedVariables false
section
variable {w : World} {s1 s2 s3 s4 s5 : Bool} {a1 b1 a2 b2 a3 b3 a4 b4 a5 b5 : Option Addr} {n1 c1 m1 d1 n2 c2 m2 d2 n3 c3 m3 d3 n4 c4 m4 d4 n5 c5 m5 d5 : Nat} {p q r t v : Rat} {k l K : Nat}
set_option maxHeartbeats 3200000 in
set_option maxRecDepth 100000 in
theorem way23_any (h1 : Rt w s1 a1 n1 c1 b1 m1 d1 p) (h2 : Rt w s2 a2 n2 c2 b2 m2 d2 q) (h3 : Rt w s3 a3 n3 c3 b3 m3 d3 r) (h4 : Rt w s4 a4 n4 c4 b4 m4 d4 t) (z1 : Sz p k) (z2 : Sz q k) (z3 : Sz r k) (z4 : Sz t k) (hk : k + k + 1 ≤ 4096) :
    Calls Tryz.prog 46 #[.agg #[.bool s1, .slice a1 n1 c1, .slice b1 m1 d1, .bool s2, .slice a2 n2 c2, .slice b2 m2 d2], .agg #[.bool s3, .slice a3 n3 c3, .slice b3 m3 d3, .bool s4, .slice a4 n4 c4, .slice b4 m4 d4]] w fun e w' => ∃ s a n c b m d s' a' n' c' b' m' d', e = .returned (.agg #[.bool s, .slice a n c, .slice b m d, .bool s', .slice a' n' c', .slice b' m' d']) ∧ RtO w' w.heap.size s (.slice a n c) (.slice b m d) (r - p) ∧ RtO w' w.heap.size s' (.slice a' n' c') (.slice b' m' d') (t - q) ∧ Sz (r - p) (k + k + 1) ∧ Sz (t - q) (k + k + 1) ∧ Below w.heap.size w w' := by
  obtain ⟨w0, hw0⟩ : ∃ w0, w0 = ((w.alloc (.cells #[.bool s1, .slice a1 n1 c1, .slice b1 m1 d1, .bool s2, .slice a2 n2 c2, .slice b2 m2 d2] 84)).alloc (.cells #[.bool s3, .slice a3 n3 c3, .slice b3 m3 d3, .bool s4, .slice a4 n4 c4, .slice b4 m4 d4] 84)).alloc (.cells #[.bool false, .slice none 0 0, .slice none 0 0, .bool false, .slice none 0 0, .slice none 0 0] 84) := ⟨_, rfl⟩
  obtain ⟨u1, u2, u3, hb0, e0⟩ : Pb w0 w.heap.size 84 #[.bool s1, .slice a1 n1 c1, .slice b1 m1 d1, .bool s2, .slice a2 n2 c2, .slice b2 m2 d2] ∧ Pb w0 (w.heap.size + 1) 84 #[.bool s3, .slice a3 n3 c3, .slice b3 m3 d3, .bool s4, .slice a4 n4 c4, .slice b4 m4 d4] ∧ Pb w0 (w.heap.size + 1 + 1) 84 #[.bool false, .slice none 0 0, .slice none 0 0, .bool false, .slice none 0 0, .slice none 0 0] ∧ Below w.heap.size w w0 ∧ w0.heap.size = w.heap.size + 1 + 1 + 1 := by
    subst hw0
    exact pb_three _ _ _ _ _
  obtain ⟨g, hg⟩ : ∃ g, g = w.heap.size := ⟨_, rfl⟩
  have HG : Hid (w.heap.size = g) := hg.symm
  have r1 := h1.later hb0
  have r2 := h2.later hb0
  have r3 := h3.later hb0
  have r4 := h4.later hb0
  rw [← hg] at u1 u2 u3 hb0 e0
  have HE0 : Hid (w0.heap.size = g + 1 + 1 + 1) := e0
  have hE0 : g + 3 ≤ w0.heap.size := by omega
  clear e0
  go_enter Tryz.func46, Tryz.ntmps46
  go_wp2_with fail
  rw [← hw0, ← hg]
  refine (rSub_ok r3 r1 z3 z1 hk).mono ?_
  rintro e wA ⟨sA, vA1, vA2, rfl, hRA, hzA, hbA⟩
  obtain ⟨aA, nA, cA, bA, mA, dA, rfl, rfl, _⟩ := hRA.opens
  have HA := hb0.trans (hbA.mono (by omega))
  have sA' := hbA.size
  have alA := alloc_below (w := wA) (.cells #[.bool sA, .slice aA nA cA, .slice bA mA dA] 45)
  have pA := Pb.new wA 45 #[.bool sA, .slice aA nA cA, .slice bA mA dA]
  have szA : (wA.alloc (.cells #[.bool sA, .slice aA nA cA, .slice bA mA dA] 45)).heap.size = wA.heap.size + 1 := by simp
  have x2 := ((u1.later hbA).later alA).six.1
  have x4 := ((u2.later hbA).later alA).six.1
  have u3' := (u3.later hbA).later alA
  have r2' := (r2.later hbA).later alA
  have r4' := (r4.later hbA).later alA
  have hRA' := hRA.later alA
  obtain ⟨i0, i1, i2, i3, i4, i5⟩ := x2
  obtain ⟨j0, j1, j2, j3, j4, j5⟩ := x4
  clear hw0 hg u1 u2 u3 r1 r2 r3 r4 h1 h2 h3 h4 hRA
  go_wp2_with fail
  generalize wA.alloc (.cells #[.bool sA, .slice aA nA cA, .slice bA mA dA] 45) = wA1 at *
  refine (rSub_ok r4' r2' z4 z2 hk).mono ?_
  rintro e wB ⟨sB, vB1, vB2, rfl, hRB, hzB, hbB⟩
  obtain ⟨aB, nB, cB, bB, mB, dB, rfl, rfl, _⟩ := hRB.opens
  have sB' := hbB.size
  have alB := alloc_below (w := wB) (.cells #[.bool sB, .slice aB nB cB, .slice bB mB dB] 45)
  have pB := Pb.new wB 45 #[.bool sB, .slice aB nB cB, .slice bB mB dB]
  have szB : (wB.alloc (.cells #[.bool sB, .slice aB nB cB, .slice bB mB dB] 45)).heap.size = wB.heap.size + 1 := by simp
  have pA' := (pA.later hbB).later alB
  obtain ⟨q0, q1, q2⟩ := pb_tri pA'
  have u3'' := (u3'.later hbB).later alB
  have hRA'' := (hRA'.later hbB).later alB
  have hRB'' := hRB.later alB
  obtain ⟨⟨k0, k1, k2, k3, k4, k5⟩, ⟨f0, f1, f2, f3, f4, f5⟩⟩ := u3''.six
  have HB := HA.trans ((alA.trans ((hbB.trans (alB.mono sB')).mono (by omega))).mono (by omega))
  have ne1 : ¬ wA.heap.size = wB.heap.size := by omega
  clear i0 i1 i2 i3 i4 i5 j0 j1 j2 j3 j4 j5 r2' r4' pA u3' hRA' hRB alA alB hbA hbB hb0 HA
  go_wp2
  have i9 := in6p (wB.alloc (.cells #[.bool sB, .slice aB nB cB, .slice bB mB dB] 45)) (g + 1 + 1) (.bool sA) (.slice aA nA cA) (.slice bA mA dA) (.bool sB) (.slice aB nB cB) (.slice bB mB dB)
  have T9 := (u3''.set6 (.bool sA) (.slice aA nA cA) (.slice bA mA dA) (.bool sB) (.slice aB nB cB) (.slice bB mB dB)).six.1
  have RA := (hRA''.inn i9 (by omega)).lower (base' := g) (by omega)
  have RB := (hRB''.inn i9 (by omega)).lower (base' := g) (by omega)
  have B9 := below_in HB i9 (by omega) (by rw [HG.out]; exact Nat.le_refl _)
  refine bodyPost_ret (v := .agg #[.bool sA, .slice aA nA cA, .slice bA mA dA, .bool sB, .slice aB nB cB, .slice bB mB dB]) (by simp [results, Tryz.results46, go_sem, T9]) rfl ?_
  rw [HG.out]
  exact ⟨_, _, _, _, _, _, _, _, _, _, _, _, _, _, rfl, RA, RB, hzA, hzB, B9⟩
theorem way23_at {w0 : World} (h1 : Rt w0 s1 a1 n1 c1 b1 m1 d1 p) (h2 : Rt w0 s2 a2 n2 c2 b2 m2 d2 q) (h3 : Rt w0 s3 a3 n3 c3 b3 m3 d3 r) (h4 : Rt w0 s4 a4 n4 c4 b4 m4 d4 t) (z1 : Sz p k) (z2 : Sz q k) (z3 : Sz r k) (z4 : Sz t k) (hk : k + k + 1 ≤ 4096) (h : Below w0.heap.size w0 w) :
    Calls Tryz.prog 46 #[.agg #[.bool s1, .slice a1 n1 c1, .slice b1 m1 d1, .bool s2, .slice a2 n2 c2, .slice b2 m2 d2], .agg #[.bool s3, .slice a3 n3 c3, .slice b3 m3 d3, .bool s4, .slice a4 n4 c4, .slice b4 m4 d4]] w fun e w' => ∃ s a n c b m d s' a' n' c' b' m' d', e = .returned (.agg #[.bool s, .slice a n c, .slice b m d, .bool s', .slice a' n' c', .slice b' m' d']) ∧ RtO w' w0.heap.size s (.slice a n c) (.slice b m d) (r - p) ∧ RtO w' w0.heap.size s' (.slice a' n' c') (.slice b' m' d') (t - q) ∧ Sz (r - p) (k + k + 1) ∧ Sz (t - q) (k + k + 1) ∧ Below w.heap.size w w' ∧ Below w0.heap.size w0 w' := by
  refine (way23_any (h1.later h) (h2.later h) (h3.later h) (h4.later h) z1 z2 z3 z4 hk).mono ?_
  rintro e w' ⟨s, a, n, c, b, m, d, s', a', n', c', b', m', d', rfl, hR, hR', hz, hz', hb⟩
  exact ⟨s, a, n, c, b, m, d, s', a', n', c', b', m', d', rfl, hR.lower h.size, hR'.lower h.size, hz, hz', hb, h.trans (hb.mono h.size)⟩
end
theorem pb_4 (w : World) (A B C D : Array Value) (t1 t2 t3 t4 : TypeId) : Pb ((((w.alloc (.cells A t1)).alloc (.cells B t2)).alloc (.cells C t3)).alloc (.cells D t4)) w.heap.size t1 A ∧ Pb ((((w.alloc (.cells A t1)).alloc (.cells B t2)).alloc (.cells C t3)).alloc (.cells D t4)) (w.heap.size + 1) t2 B ∧ Pb ((((w.alloc (.cells A t1)).alloc (.cells B t2)).alloc (.cells C t3)).alloc (.cells D t4)) (w.heap.size + 1 + 1) t3 C ∧ Pb ((((w.alloc (.cells A t1)).alloc (.cells B t2)).alloc (.cells C t3)).alloc (.cells D t4)) (w.heap.size + 1 + 1 + 1) t4 D ∧ Below w.heap.size w ((((w.alloc (.cells A t1)).alloc (.cells B t2)).alloc (.cells C t3)).alloc (.cells D t4)) ∧ ((((w.alloc (.cells A t1)).alloc (.cells B t2)).alloc (.cells C t3)).alloc (.cells D t4)).heap.size = w.heap.size + 1 + 1 + 1 + 1 := by
  obtain ⟨p1, p2, p3, hb, hs⟩ := pb_three w A B C t1 (t2 := t2) (t3 := t3)
  have al := alloc_below (w := ((w.alloc (.cells A t1)).alloc (.cells B t2)).alloc (.cells C t3)) (.cells D t4)
  have p4 := Pb.new (((w.alloc (.cells A t1)).alloc (.cells B t2)).alloc (.cells C t3)) t4 D
  rw [hs] at p4
  exact ⟨p1.later al, p2.later al, p3.later al, p4, hb.trans (al.mono hb.size), by simp⟩
section
variable {w : World} {s1 s2 s3 s4 s5 : Bool} {a1 b1 a2 b2 a3 b3 a4 b4 a5 b5 : Option Addr} {n1 c1 m1 d1 n2 c2 m2 d2 n3 c3 m3 d3 n4 c4 m4 d4 n5 c5 m5 d5 : Nat} {p q r t v : Rat} {k l K : Nat}
set_option maxHeartbeats 6400000 in
set_option maxRecDepth 100000 in
theorem along23_any (h1 : Rt w s1 a1 n1 c1 b1 m1 d1 p) (h2 : Rt w s2 a2 n2 c2 b2 m2 d2 q) (h3 : Rt w s3 a3 n3 c3 b3 m3 d3 r) (h4 : Rt w s4 a4 n4 c4 b4 m4 d4 t) (h5 : Rt w s5 a5 n5 c5 b5 m5 d5 v) (z1 : Sz p k) (z2 : Sz q k) (z3 : Sz r K) (z4 : Sz t K) (z5 : Sz v l) (hk : k + (K + l) + 1 ≤ 4096) :
    Calls Tryz.prog 45 #[.agg #[.bool s1, .slice a1 n1 c1, .slice b1 m1 d1, .bool s2, .slice a2 n2 c2, .slice b2 m2 d2], .agg #[.bool s3, .slice a3 n3 c3, .slice b3 m3 d3, .bool s4, .slice a4 n4 c4, .slice b4 m4 d4], .agg #[.bool s5, .slice a5 n5 c5, .slice b5 m5 d5]] w fun e w' => ∃ s a n c b m d s' a' n' c' b' m' d', e = .returned (.agg #[.bool s, .slice a n c, .slice b m d, .bool s', .slice a' n' c', .slice b' m' d']) ∧ RtO w' w.heap.size s (.slice a n c) (.slice b m d) (p + r * v) ∧ RtO w' w.heap.size s' (.slice a' n' c') (.slice b' m' d') (q + t * v) ∧ Sz (p + r * v) (k + (K + l) + 1) ∧ Sz (q + t * v) (k + (K + l) + 1) ∧ Below w.heap.size w w' := by
  obtain ⟨w0, hw0⟩ : ∃ w0, w0 = (((w.alloc (.cells #[.bool s1, .slice a1 n1 c1, .slice b1 m1 d1, .bool s2, .slice a2 n2 c2, .slice b2 m2 d2] 84)).alloc (.cells #[.bool s3, .slice a3 n3 c3, .slice b3 m3 d3, .bool s4, .slice a4 n4 c4, .slice b4 m4 d4] 84)).alloc (.cells #[.bool s5, .slice a5 n5 c5, .slice b5 m5 d5] 45)).alloc (.cells #[.bool false, .slice none 0 0, .slice none 0 0, .bool false, .slice none 0 0, .slice none 0 0] 84) := ⟨_, rfl⟩
  obtain ⟨u1, u2, u3, u4, hb0, e0⟩ : Pb w0 w.heap.size 84 #[.bool s1, .slice a1 n1 c1, .slice b1 m1 d1, .bool s2, .slice a2 n2 c2, .slice b2 m2 d2] ∧ Pb w0 (w.heap.size + 1) 84 #[.bool s3, .slice a3 n3 c3, .slice b3 m3 d3, .bool s4, .slice a4 n4 c4, .slice b4 m4 d4] ∧ Pb w0 (w.heap.size + 1 + 1) 45 #[.bool s5, .slice a5 n5 c5, .slice b5 m5 d5] ∧ Pb w0 (w.heap.size + 1 + 1 + 1) 84 #[.bool false, .slice none 0 0, .slice none 0 0, .bool false, .slice none 0 0, .slice none 0 0] ∧ Below w.heap.size w w0 ∧ w0.heap.size = w.heap.size + 1 + 1 + 1 + 1 := by
    subst hw0
    exact pb_4 _ _ _ _ _ _ _ _ _
  have r1 := h1.later hb0
  have r2 := h2.later hb0
  have r3 := h3.later hb0
  have r4 := h4.later hb0
  have r5 := h5.later hb0
  obtain ⟨g, hg⟩ : ∃ g, g = w.heap.size := ⟨_, rfl⟩
  have HG : Hid (w.heap.size = g) := hg.symm
  rw [← hg] at u1 u2 u3 u4 hb0 e0
  have hE0 : g + 4 ≤ w0.heap.size := by omega
  clear e0 h1 h2 h3 h4 h5
  go_enter Tryz.func45, Tryz.ntmps45
  go_wp2_with fail
  rw [← hw0, ← hg]
  clear hw0 hg
  -- w.x times share
  refine (rMul_ok r3 r5 z3 z5 (by omega)).mono ?_
  rintro e wA ⟨sA, vA1, vA2, rfl, hRA, hzA, hbA⟩
  obtain ⟨aA, nA, cA, bA, mA, dA, rfl, rfl, _⟩ := hRA.opens
  have alA := alloc_below (w := wA) (.cells #[.bool sA, .slice aA nA cA, .slice bA mA dA] 45)
  have pA := Pb.new wA 45 #[.bool sA, .slice aA nA cA, .slice bA mA dA]
  have szA : (wA.alloc (.cells #[.bool sA, .slice aA nA cA, .slice bA mA dA] 45)).heap.size = wA.heap.size + 1 := by simp
  have sA' := hbA.size
  have HA : Below w0.heap.size w0 (wA.alloc (.cells #[.bool sA, .slice aA nA cA, .slice bA mA dA] 45)) := hbA.trans (alA.mono sA')
  have RA := hRA.later alA
  obtain ⟨i0, i1, i2, i3, i4, i5⟩ := (u1.later HA).six.1
  obtain ⟨j0, j1, j2, j3, j4, j5⟩ := (u2.later HA).six.1
  obtain ⟨l0, l1, l2⟩ := pb_tri (u3.later HA)
  clear alA hbA hRA
  go_upto_region 2 with fail
  obtain ⟨x, hx⟩ : ∃ x, x = wA.heap.size := ⟨_, rfl⟩
  rw [← hx] at pA szA sA' ⊢
  generalize wA.alloc (.cells #[.bool sA, .slice aA nA cA, .slice bA mA dA] 45) = w1 at *
  clear hx
  go_wp2_with fail
  -- w.y times share
  refine (rMul_ok (r4.later HA) (r5.later HA) z4 z5 (by omega)).mono ?_
  rintro e wB ⟨sB, vB1, vB2, rfl, hRB, hzB, hbB⟩
  obtain ⟨aB, nB, cB, bB, mB, dB, rfl, rfl, _⟩ := hRB.opens
  have alB := alloc_below (w := wB) (.cells #[.bool sB, .slice aB nB cB, .slice bB mB dB] 45)
  have pB := Pb.new wB 45 #[.bool sB, .slice aB nB cB, .slice bB mB dB]
  have szB : (wB.alloc (.cells #[.bool sB, .slice aB nB cB, .slice bB mB dB] 45)).heap.size = wB.heap.size + 1 := by simp
  have sB' := hbB.size
  have hbB1 := hbB.trans (alB.mono sB')
  have HB := HA.trans (hbB1.mono (by have := HA.size; omega))
  have RB := (hRB.later alB).lower (base' := x + 1) (by omega)
  have RA2 := RA.later hbB1
  have pA2 := pA.later hbB1
  clear i0 i1 i2 i3 i4 i5 j0 j1 j2 j3 j4 j5 l0 l1 l2 alB hbB hRB hbB1 RA pA
  obtain ⟨i0, i1, i2, i3, i4, i5⟩ := (u1.later HB).six.1
  obtain ⟨q0, q1, q2⟩ := pb_tri pA2
  go_upto_region 3 with fail
  obtain ⟨y, hy⟩ : ∃ y, y = wB.heap.size := ⟨_, rfl⟩
  rw [← hy] at pB szB sB' ⊢
  generalize wB.alloc (.cells #[.bool sB, .slice aB nB cB, .slice bB mB dB] 45) = w2 at *
  clear hy
  go_wp2_with fail
  -- a.x plus that
  refine (rAdd_ok (r1.later HB) RA2.rt22 z1 hzA (by omega)).mono ?_
  rintro e wC ⟨sC, vC1, vC2, rfl, hRC, hzC, hbC⟩
  obtain ⟨aC, nC, cC, bC, mC, dC, rfl, rfl, _⟩ := hRC.opens
  have sC' := hbC.size
  have HC := HB.trans (hbC.mono (by have := HB.size; omega))
  have pA3 := pA2.later hbC
  have pB3 := pB.later hbC
  have RB3 := RB.later hbC
  obtain ⟨k0, k1, k2⟩ := pb_tri pA3
  obtain ⟨f0, f1, f2⟩ := three_free pA3 0
  have I3 := in3 wC x (.bool sC) (.slice aC nC cC) (.slice bC mC dC)
  have pA4 : Pb (((wC.setCell ⟨x, 0, none⟩ (.bool sC)).setCell ⟨x, 1, none⟩ (.slice aC nC cC)).setCell ⟨x, 2, none⟩ (.slice bC mC dC)) x 45 #[.bool sC, .slice aC nC cC, .slice bC mC dC] := ((pA3.set 0 _).set 1 _).set 2 _
  have xy : x ≠ y := by omega
  have pB4 := pB3.inn I3 (Ne.symm xy)
  have RB4 := RB3.inn I3 (by omega)
  have RC4 := hRC.inn I3 (by omega)
  have HC4 := below_in HC I3 (by omega) (Nat.le_refl _)
  have szC : x < wC.heap.size := by omega
  have IS := I3.size
  clear i0 i1 i2 i3 i4 i5 q0 q1 q2 hRC hbC RA2 pA2 pB RB pA3 pB3 RB3
  go_upto_region 4 with fail
  generalize (((wC.setCell ⟨x, 0, none⟩ (.bool sC)).setCell ⟨x, 1, none⟩ (.slice aC nC cC)).setCell ⟨x, 2, none⟩ (.slice bC mC dC)) = w3 at *
  clear k0 k1 k2 f0 f1 f2 HC
  obtain ⟨i0, i1, i2, i3, i4, i5⟩ := (u1.later HC4).six.1
  obtain ⟨q0, q1, q2⟩ := pb_tri pB4
  go_wp2_with fail
  -- a.y plus that
  refine (rAdd_ok (r2.later HC4) RB4.rt22 z2 hzB (by omega)).mono ?_
  rintro e wD ⟨sD, vD1, vD2, rfl, hRD, hzD, hbD⟩
  obtain ⟨aD, nD, cD, bD, mD, dD, rfl, rfl, _⟩ := hRD.opens
  have sD' := hbD.size
  have HD := HC4.trans (hbD.mono (by have := HC4.size; omega))
  have pB5 := pB4.later hbD
  have pA5 := pA4.later hbD
  have RC5 := RC4.later hbD
  obtain ⟨k0, k1, k2⟩ := pb_tri pB5
  obtain ⟨f0, f1, f2⟩ := three_free pB5 0
  have I4 := in3 wD y (.bool sD) (.slice aD nD cD) (.slice bD mD dD)
  have pB6 : Pb (((wD.setCell ⟨y, 0, none⟩ (.bool sD)).setCell ⟨y, 1, none⟩ (.slice aD nD cD)).setCell ⟨y, 2, none⟩ (.slice bD mD dD)) y 45 #[.bool sD, .slice aD nD cD, .slice bD mD dD] := ((pB5.set 0 _).set 1 _).set 2 _
  have pA6 := pA5.inn I4 xy
  have RC6 := RC5.inn I4 (by omega)
  have RD6 := hRD.inn I4 (by omega)
  have HD6 := below_in HD I4 (by omega) (Nat.le_refl _)
  clear i0 i1 i2 i3 i4 i5 q0 q1 q2 hRD hbD RB4 pA4 pB4 RC4 pA5 pB5 RC5
  go_upto_region 5 with fail
  generalize (((wD.setCell ⟨y, 0, none⟩ (.bool sD)).setCell ⟨y, 1, none⟩ (.slice aD nD cD)).setCell ⟨y, 2, none⟩ (.slice bD mD dD)) = w4 at *
  clear k0 k1 k2 f0 f1 f2 HD
  obtain ⟨q0, q1, q2⟩ := pb_tri pA6
  obtain ⟨t0, t1, t2⟩ := pb_tri pB6
  have u5 := u4.later HD6
  obtain ⟨⟨k0, k1, k2, k3, k4, k5⟩, ⟨f0, f1, f2, f3, f4, f5⟩⟩ := u5.six
  go_wp2
  have i9 := in6p w4 (g + 1 + 1 + 1) (.bool sC) (.slice aC nC cC) (.slice bC mC dC) (.bool sD) (.slice aD nD cD) (.slice bD mD dD)
  have T9 := (u5.set6 (.bool sC) (.slice aC nC cC) (.slice bC mC dC) (.bool sD) (.slice aD nD cD) (.slice bD mD dD)).six.1
  have RA := (RC6.inn i9 (by omega)).lower (base' := g) (by omega)
  have RB := (RD6.inn i9 (by omega)).lower (base' := g) (by omega)
  have B9 := below_in (hb0.trans (HD6.mono (by omega))) i9 (by omega) (Nat.le_of_eq HG.out.symm)
  refine bodyPost_ret (v := .agg #[.bool sC, .slice aC nC cC, .slice bC mC dC, .bool sD, .slice aD nD cD, .slice bD mD dD]) (by simp [results, Tryz.results45, go_sem, T9]) rfl ?_
  rw [HG.out]
  exact ⟨_, _, _, _, _, _, _, _, _, _, _, _, _, _, rfl, RA, RB, hzC, hzD, B9⟩
end
end Go.Proofs.YtienpliknhkbjaaGreatDoor

/- package seg: near.Rat, rounded; Area2 with its size (written by gensgk.py). -/
namespace Go.Proofs.YtienpliknhkbjaaGreatDoor
open Go.ChangeShapes Go.WideShapes Go.ChangeAt Go.RowKit
open Na Ar
set_option linter.unusedVariables false
/-- a number rounded once, to even -/
def RnIs (q : Rat) (v : Int) : Prop := ∃ E, RoundIs (scA (q.num.natAbs : Int) 0) (scB (q.den : Int) 0) false (decide (q.num < 0)) 0 v E
/-- the Rat that Area2 answers, its size too -/
def ArO (w : World) (q : Rat) (e : Ending) (w' : World) : Prop := ∃ s a n c b m d, e = .returned (.tuple #[.agg #[.bool s, .slice a n c, .slice b m d], .int .i64 0]) ∧ RtO w' w.heap.size s (.slice a n c) (.slice b m d) q ∧ Sz q 165 ∧ Below w.heap.size w w'
set_option maxHeartbeats 6400000 in
set_option maxRecDepth 100000 in
theorem Area223_fin {w : World} {a b c : Int × Int} (ua : U2 a) (ub : U2 b) (uc : U2 c) (fa : fin2 a) (fb : fin2 b) (fc : fin2 c) :
    Calls Tryz.prog 42 #[.agg #[.int .u64 a.1, .int .u64 a.2], .agg #[.int .u64 b.1, .int .u64 b.2], .agg #[.int .u64 c.1, .int .u64 c.2]] w fun e w' => ArO w (crR (valR a.1) (valR a.2) (valR b.1) (valR b.2) (valR c.1) (valR c.2)) e w' := by
  obtain ⟨w0, hw0⟩ : ∃ w0, w0 = (((w.alloc (.cells #[.int .u64 a.1, .int .u64 a.2] 24)).alloc (.cells #[.int .u64 b.1, .int .u64 b.2] 24)).alloc (.cells #[.int .u64 c.1, .int .u64 c.2] 24)).alloc (.cells #[.bool false, .slice none 0 0, .slice none 0 0] 45) := ⟨_, rfl⟩
  obtain ⟨_, _, _, u4, hb0, e0⟩ : Pb w0 w.heap.size 24 #[.int .u64 a.1, .int .u64 a.2] ∧ Pb w0 (w.heap.size + 1) 24 #[.int .u64 b.1, .int .u64 b.2] ∧ Pb w0 (w.heap.size + 1 + 1) 24 #[.int .u64 c.1, .int .u64 c.2] ∧ St w0 (w.heap.size + 1 + 1 + 1) 45 (.bool false) (.slice none 0 0) (.slice none 0 0) ∧ Below w.heap.size w w0 ∧ w0.heap.size = w.heap.size + 1 + 1 + 1 + 1 := by
    subst hw0
    exact pb_four _ _ _ _ _ _ _ _
  have al := alloc_below (w := w0) (.cells #[.int .u64 a.1, .int .u64 a.2, .int .u64 b.1, .int .u64 b.2, .int .u64 c.1, .int .u64 c.2] 24)
  have hPt := ptAt3 w0 24 ua ub uc
  have hsp := spots22_any (c := 3) hPt (by simp) (by omega)
  have hB1 := hb0.trans (al.mono hb0.size)
  have u5 := u4.later al
  obtain ⟨g, hg⟩ : ∃ g, g = w.heap.size + 1 + 1 + 1 := ⟨_, rfl⟩
  have HG : Hid (w.heap.size + 1 + 1 + 1 = g) := hg.symm
  have hge : w.heap.size ≤ g := by omega
  have hlt : g < w0.heap.size := by omega
  rw [← hg] at u5
  have hgz : w0.heap.size = g + 1 := by omega
  have HGZ : Hid (w0.heap.size = g + 1) := hgz
  rw [hgz] at hsp hlt
  have z0 := value_size ua.1 fa.1
  have z1 := value_size ua.2 fa.2
  have z2 := value_size ub.1 fb.1
  have z3 := value_size ub.2 fb.2
  have z4 := value_size uc.1 fc.1
  have z5 := value_size uc.2 fc.2
  replace hsp := hsp.mono (fun e w' h => open3 ua fa ub fb uc fc h)
  clear hPt hb0 e0 u4 hg hgz ua fa ub fb uc fc
  generalize valR a.1 = v0 at *
  generalize valR a.2 = v1 at *
  generalize valR b.1 = v2 at *
  generalize valR b.2 = v3 at *
  generalize valR c.1 = v4 at *
  generalize valR c.2 = v5 at *
  go_enter Tryz.func42, Tryz.ntmps42
  go_wp2_with fail
  rw [← hw0, HG.out]
  generalize w0.alloc (.cells #[.int .u64 a.1, .int .u64 a.2, .int .u64 b.1, .int .u64 b.2, .int .u64 c.1, .int .u64 c.2] 24) = w1 at *
  refine hsp.mono ?_
  rintro e wA ⟨o, rfl, lo, go, A0, A1, A2, A3, A4, A5, hbA⟩
  have B2 := hB1.trans (hbA.mono hB1.size)
  have u6 := u5.later hbA
  clear hsp hw0
  obtain ⟨s0, a0, n0, c0, b0, m0, d0, ⟨y00, y01, y02⟩, R0⟩ := A0
  obtain ⟨s1, a1, n1, c1, b1, m1, d1, ⟨y10, y11, y12⟩, R1⟩ := A1
  obtain ⟨s2, a2, n2, c2, b2, m2, d2, ⟨y20, y21, y22⟩, R2⟩ := A2
  obtain ⟨s3, a3, n3, c3, b3, m3, d3, ⟨y30, y31, y32⟩, R3⟩ := A3
  obtain ⟨s4, a4, n4, c4, b4, m4, d4, ⟨y40, y41, y42⟩, R4⟩ := A4
  obtain ⟨s5, a5, n5, c5, b5, m5, d5, ⟨y50, y51, y52⟩, R5⟩ := A5
  have gne : ¬ g = o := by have := al.size; have := HGZ.out; omega
  have gne2 : ¬ o = g := fun h => gne h.symm
  have hgo : g < wA.heap.size := by have := al.size; have := hbA.size; have := HGZ.out; omega
  have sA := B2.size
  clear go hlt al HGZ
  go_wp2
  have hcl : ∀ w', Below wA.heap.size wA w' → w'.cell? ⟨o, 0, none⟩ = some (.bool s0) ∧ w'.cell? ⟨o, 1, none⟩ = some (.slice a0 n0 c0) ∧ w'.cell? ⟨o, 2, none⟩ = some (.slice b0 m0 d0) ∧ w'.cell? ⟨o, 3, none⟩ = some (.bool s1) ∧ w'.cell? ⟨o, 4, none⟩ = some (.slice a1 n1 c1) ∧ w'.cell? ⟨o, 5, none⟩ = some (.slice b1 m1 d1) ∧ w'.cell? ⟨o, 6, none⟩ = some (.bool s2) ∧ w'.cell? ⟨o, 7, none⟩ = some (.slice a2 n2 c2) ∧ w'.cell? ⟨o, 8, none⟩ = some (.slice b2 m2 d2) ∧ w'.cell? ⟨o, 9, none⟩ = some (.bool s3) ∧ w'.cell? ⟨o, 10, none⟩ = some (.slice a3 n3 c3) ∧ w'.cell? ⟨o, 11, none⟩ = some (.slice b3 m3 d3) ∧ w'.cell? ⟨o, 12, none⟩ = some (.bool s4) ∧ w'.cell? ⟨o, 13, none⟩ = some (.slice a4 n4 c4) ∧ w'.cell? ⟨o, 14, none⟩ = some (.slice b4 m4 d4) ∧ w'.cell? ⟨o, 15, none⟩ = some (.bool s5) ∧ w'.cell? ⟨o, 16, none⟩ = some (.slice a5 n5 c5) ∧ w'.cell? ⟨o, 17, none⟩ = some (.slice b5 m5 d5) := fun w' h => ⟨(h.cell (p := ⟨o, 0, none⟩) lo).trans y00, (h.cell (p := ⟨o, 1, none⟩) lo).trans y01, (h.cell (p := ⟨o, 2, none⟩) lo).trans y02, (h.cell (p := ⟨o, 3, none⟩) lo).trans y10, (h.cell (p := ⟨o, 4, none⟩) lo).trans y11, (h.cell (p := ⟨o, 5, none⟩) lo).trans y12, (h.cell (p := ⟨o, 6, none⟩) lo).trans y20, (h.cell (p := ⟨o, 7, none⟩) lo).trans y21, (h.cell (p := ⟨o, 8, none⟩) lo).trans y22, (h.cell (p := ⟨o, 9, none⟩) lo).trans y30, (h.cell (p := ⟨o, 10, none⟩) lo).trans y31, (h.cell (p := ⟨o, 11, none⟩) lo).trans y32, (h.cell (p := ⟨o, 12, none⟩) lo).trans y40, (h.cell (p := ⟨o, 13, none⟩) lo).trans y41, (h.cell (p := ⟨o, 14, none⟩) lo).trans y42, (h.cell (p := ⟨o, 15, none⟩) lo).trans y50, (h.cell (p := ⟨o, 16, none⟩) lo).trans y51, (h.cell (p := ⟨o, 17, none⟩) lo).trans y52⟩
  go_region_held3 (fun w' => w'.cell? ⟨o, 0, none⟩ = some (.bool s0) ∧ w'.cell? ⟨o, 1, none⟩ = some (.slice a0 n0 c0) ∧ w'.cell? ⟨o, 2, none⟩ = some (.slice b0 m0 d0) ∧ w'.cell? ⟨o, 3, none⟩ = some (.bool s1) ∧ w'.cell? ⟨o, 4, none⟩ = some (.slice a1 n1 c1) ∧ w'.cell? ⟨o, 5, none⟩ = some (.slice b1 m1 d1) ∧ w'.cell? ⟨o, 6, none⟩ = some (.bool s2) ∧ w'.cell? ⟨o, 7, none⟩ = some (.slice a2 n2 c2) ∧ w'.cell? ⟨o, 8, none⟩ = some (.slice b2 m2 d2) ∧ w'.cell? ⟨o, 9, none⟩ = some (.bool s3) ∧ w'.cell? ⟨o, 10, none⟩ = some (.slice a3 n3 c3) ∧ w'.cell? ⟨o, 11, none⟩ = some (.slice b3 m3 d3) ∧ w'.cell? ⟨o, 12, none⟩ = some (.bool s4) ∧ w'.cell? ⟨o, 13, none⟩ = some (.slice a4 n4 c4) ∧ w'.cell? ⟨o, 14, none⟩ = some (.slice b4 m4 d4) ∧ w'.cell? ⟨o, 15, none⟩ = some (.bool s5) ∧ w'.cell? ⟨o, 16, none⟩ = some (.slice a5 n5 c5) ∧ w'.cell? ⟨o, 17, none⟩ = some (.slice b5 m5 d5)) (go_keep) ((go_at_call 76; refine (area22_at R0 R1 R2 R3 R4 R5 z0 z1 z2 z3 z4 z5 (by omega) (by first | exact Below.refl _ _ | exact below_drewN (Below.refl _ _) _)).mono ?_; rintro e wX ⟨s, a, n, c, b, m, d, rfl, hR, hz, hsX, hbX⟩; have u9 := u6.later hbX; obtain ⟨y00, y01, y02, y10, y11, y12, y20, y21, y22, y30, y31, y32, y40, y41, y42, y50, y51, y52⟩ := hcl wX hbX; obtain ⟨o0, o1, o2⟩ := u9.cells; obtain ⟨p0, p1, p2⟩ := u9.frozen))
  go_wp2
  have i9 := in3 wX g (.bool s) (.slice a n c) (.slice b m d)
  have T9 := (u9.set (.bool s) (.slice a n c) (.slice b m d)).cells
  refine bodyPost_ret (v := .tuple #[.agg #[.bool s, .slice a n c, .slice b m d], .int .i64 0]) (by simp [results, Tryz.results42, go_sem, T9]) rfl ?_
  refine ⟨s, a, n, c, b, m, d, rfl, (hR.inn i9 (by omega)).lower sA, hz, below_in (B2.trans (hbX.mono B2.size)) i9 hge (Nat.le_refl _)⟩
set_option maxHeartbeats 6400000 in
set_option maxRecDepth 100000 in
theorem rounded23_any {w : World} {s1 s2 : Bool} {a1 b1 a2 b2 : Option Addr} {n1 c1 m1 d1 n2 c2 m2 d2 : Nat} {p q : Rat} {k : Nat} (h1 : Rt w s1 a1 n1 c1 b1 m1 d1 p) (h2 : Rt w s2 a2 n2 c2 b2 m2 d2 q) (z1 : Sz p k) (z2 : Sz q k) (hk : k ≤ 4096) (hG : GrVar w) :
    Calls Tryz.prog 37 #[.agg #[.bool s1, .slice a1 n1 c1, .slice b1 m1 d1, .bool s2, .slice a2 n2 c2, .slice b2 m2 d2]] w fun e w' => ∃ v u, e = .returned (.agg #[.int .u64 v, .int .u64 u]) ∧ RnIs p v ∧ RnIs q u ∧ U v ∧ U u ∧ Below w.heap.size w w' := by
  obtain ⟨w0, hw0⟩ : ∃ w0, w0 = (w.alloc (.cells #[.bool s1, .slice a1 n1 c1, .slice b1 m1 d1, .bool s2, .slice a2 n2 c2, .slice b2 m2 d2] 84)).alloc (.cells #[.int .u64 0, .int .u64 0] 24) := ⟨_, rfl⟩
  obtain ⟨u1, u2, hb0⟩ : Pb w0 w.heap.size 84 #[.bool s1, .slice a1 n1 c1, .slice b1 m1 d1, .bool s2, .slice a2 n2 c2, .slice b2 m2 d2] ∧ Pb w0 (w.heap.size + 1) 24 #[.int .u64 0, .int .u64 0] ∧ Below w.heap.size w w0 := by
    subst hw0
    exact pb_two' _ _ _ _ _
  have r1 := h1.later hb0
  have r2 := h2.later hb0
  have g0 := hG.later hb0
  obtain ⟨g, hg⟩ : ∃ g, g = w.heap.size := ⟨_, rfl⟩
  have HG : Hid (w.heap.size = g) := hg.symm
  rw [← hg] at u1 u2 hb0
  have hz0 : g ≤ w0.heap.size := by have := u1.lt; omega
  clear h1 h2 hG
  obtain ⟨i0, i1, i2, i3, i4, i5⟩ := u1.six.1
  go_enter Tryz.func37, Tryz.ntmps37
  go_wp2_with fail
  rw [← hw0, ← hg]
  clear hw0 hg
  have e1 := r1.sgn
  refine (nearRat_ok r1 z1 hk (by omega) (by omega) g0).mono ?_
  rintro e wA ⟨v, E, rfl, hv, uv, hbA⟩
  obtain ⟨i0, i1, i2, i3, i4, i5⟩ := (u1.later hbA).six.1
  have r3 := r2.later hbA
  have g1 := g0.later hbA
  have HV : Hid (RnIs p v) := ⟨E, by rw [← e1]; exact hv⟩
  clear hv e1 r1 r2 g0
  go_wp2_with fail
  have e2 := r3.sgn
  refine (nearRat_ok r3 z2 hk (by omega) (by omega) g1).mono ?_
  rintro e wB ⟨u, E', rfl, hu, uu, hbB⟩
  have HB := hbA.trans (hbB.mono hbA.size)
  have HU : Hid (RnIs q u) := ⟨E', by rw [← e2]; exact hu⟩
  have u3 := u2.later HB
  have f0 := u3.frozen 0
  have f1 := u3.frozen 1
  obtain ⟨y0, y1⟩ := u3.two
  have HUV : Hid (U v ∧ U u) := ⟨uv, uu⟩
  clear hu e2 r3 g1 i0 i1 i2 i3 i4 i5 uv uu
  go_wp2
  have T9 := ((u3.set 0 (.int .u64 v)).set 1 (.int .u64 u))
  have I9 : In (g + 1) (g + 1 + 1) wB ((wB.setCell ⟨g + 1, 0, none⟩ (.int .u64 v)).setCell ⟨g + 1, 1, none⟩ (.int .u64 u)) := ((In.refl (g + 1) (g + 1 + 1) wB).set1 0 _).set1 1 _
  have t0 := T9.cell 0 (v := .int .u64 v) (by simp)
  have t1 := T9.cell 1 (v := .int .u64 u) (by simp)
  refine bodyPost_ret (v := .agg #[.int .u64 v, .int .u64 u]) (by simp [results, Tryz.results37, go_sem, t0, t1]) rfl ?_
  rw [HG.out]
  exact ⟨v, u, rfl, HV.out, HU.out, HUV.out.1, HUV.out.2, below_in (hb0.trans (HB.mono hz0)) I9 (by omega) (Nat.le_of_eq HG.out.symm)⟩
end Go.Proofs.YtienpliknhkbjaaGreatDoor

/- package seg: Cross (written by gensgl.py). -/
namespace Go.Proofs.YtienpliknhkbjaaGreatDoor
open Go.ChangeShapes Go.WideShapes Go.ChangeAt Go.RowKit
open Na Ar
set_option linter.unusedVariables false
/-- how far the two ends are from the other line: the difference -/
def fallR (v0 v1 v2 v3 v4 v5 v6 v7 : Rat) : Rat := crR v4 v5 v6 v7 v0 v1 - crR v4 v5 v6 v7 v2 v3
def shareR (v0 v1 v2 v3 v4 v5 v6 v7 : Rat) : Rat := crR v4 v5 v6 v7 v0 v1 / fallR v0 v1 v2 v3 v4 v5 v6 v7
/-- the crossing's numbers -/
def xcR (v0 v1 v2 v3 v4 v5 v6 v7 : Rat) : Rat := v0 + (v2 - v0) * shareR v0 v1 v2 v3 v4 v5 v6 v7
def ycR (v0 v1 v2 v3 v4 v5 v6 v7 : Rat) : Rat := v1 + (v3 - v1) * shareR v0 v1 v2 v3 v4 v5 v6 v7
/-- two Rats and no error -/
def TwQ (w : World) (X Y : Rat) (k : Nat) (e : Ending) (w' : World) : Prop := ∃ s a n c b m d s' a' n' c' b' m' d', e = .returned (.tuple #[.agg #[.bool s, .slice a n c, .slice b m d], .agg #[.bool s', .slice a' n' c', .slice b' m' d'], .int .i64 0]) ∧ RtO w' w.heap.size s (.slice a n c) (.slice b m d) X ∧ RtO w' w.heap.size s' (.slice a' n' c') (.slice b' m' d') Y ∧ Sz X k ∧ Sz Y k ∧ Below w.heap.size w w'
/-- no Rats and an error -/
def NoQ (w : World) (E : Int) (e : Ending) (w' : World) : Prop := e = .returned (.tuple #[.agg #[.bool false, .slice none 0 0, .slice none 0 0], .agg #[.bool false, .slice none 0 0, .slice none 0 0], .int .i64 E]) ∧ Below w.heap.size w w'
theorem pb_2 (w : World) (A B : Array Value) (t1 t2 : TypeId) : Pb ((w.alloc (.cells A t1)).alloc (.cells B t2)) w.heap.size t1 A ∧ Pb ((w.alloc (.cells A t1)).alloc (.cells B t2)) (w.heap.size + 1) t2 B ∧ Below w.heap.size w ((w.alloc (.cells A t1)).alloc (.cells B t2)) ∧ ((w.alloc (.cells A t1)).alloc (.cells B t2)).heap.size = w.heap.size + 1 + 1 := by
  obtain ⟨p1, p2, hb⟩ := pb_two' w A B t1 t2
  exact ⟨p1, p2, hb, by simp⟩
theorem pb_6 (w : World) (A B C D E F : Array Value) (t1 t2 t3 t4 t5 t6 : TypeId) : Pb ((((((w.alloc (.cells A t1)).alloc (.cells B t2)).alloc (.cells C t3)).alloc (.cells D t4)).alloc (.cells E t5)).alloc (.cells F t6)) w.heap.size t1 A ∧ Pb ((((((w.alloc (.cells A t1)).alloc (.cells B t2)).alloc (.cells C t3)).alloc (.cells D t4)).alloc (.cells E t5)).alloc (.cells F t6)) (w.heap.size + 1) t2 B ∧ Pb ((((((w.alloc (.cells A t1)).alloc (.cells B t2)).alloc (.cells C t3)).alloc (.cells D t4)).alloc (.cells E t5)).alloc (.cells F t6)) (w.heap.size + 1 + 1) t3 C ∧ Pb ((((((w.alloc (.cells A t1)).alloc (.cells B t2)).alloc (.cells C t3)).alloc (.cells D t4)).alloc (.cells E t5)).alloc (.cells F t6)) (w.heap.size + 1 + 1 + 1) t4 D ∧ Pb ((((((w.alloc (.cells A t1)).alloc (.cells B t2)).alloc (.cells C t3)).alloc (.cells D t4)).alloc (.cells E t5)).alloc (.cells F t6)) (w.heap.size + 1 + 1 + 1 + 1) t5 E ∧ Pb ((((((w.alloc (.cells A t1)).alloc (.cells B t2)).alloc (.cells C t3)).alloc (.cells D t4)).alloc (.cells E t5)).alloc (.cells F t6)) (w.heap.size + 1 + 1 + 1 + 1 + 1) t6 F ∧ Below w.heap.size w ((((((w.alloc (.cells A t1)).alloc (.cells B t2)).alloc (.cells C t3)).alloc (.cells D t4)).alloc (.cells E t5)).alloc (.cells F t6)) ∧ ((((((w.alloc (.cells A t1)).alloc (.cells B t2)).alloc (.cells C t3)).alloc (.cells D t4)).alloc (.cells E t5)).alloc (.cells F t6)).heap.size = w.heap.size + 1 + 1 + 1 + 1 + 1 + 1 := by
  obtain ⟨p1, p2, p3, p4, hb, hs⟩ := pb_4 w A B C D t1 t2 t3 t4
  obtain ⟨p5, p6, hb2, hs2⟩ := pb_2 ((((w.alloc (.cells A t1)).alloc (.cells B t2)).alloc (.cells C t3)).alloc (.cells D t4)) E F t5 t6
  rw [hs] at p5 p6 hs2
  exact ⟨p1.later hb2, p2.later hb2, p3.later hb2, p4.later hb2, p5, p6, hb.trans (hb2.mono hb.size), hs2⟩
/-- two blocks of three cells written over -/
theorem trw_two {w : World} {g h : Nat} {t t' : TypeId} {x0 x1 x2 y0 y1 y2 : Value} (p : Pb w g t #[x0, x1, x2]) (q : Pb w h t' #[y0, y1, y2]) (hne : g ≠ h) (a b c d e f : Value) :
    Pb ((((((w.setCell ⟨g, 0, none⟩ a).setCell ⟨g, 1, none⟩ b).setCell ⟨g, 2, none⟩ c).setCell ⟨h, 0, none⟩ d).setCell ⟨h, 1, none⟩ e).setCell ⟨h, 2, none⟩ f) g t #[a, b, c] ∧
    Pb ((((((w.setCell ⟨g, 0, none⟩ a).setCell ⟨g, 1, none⟩ b).setCell ⟨g, 2, none⟩ c).setCell ⟨h, 0, none⟩ d).setCell ⟨h, 1, none⟩ e).setCell ⟨h, 2, none⟩ f) h t' #[d, e, f] ∧
    In g (g + 1) w (((w.setCell ⟨g, 0, none⟩ a).setCell ⟨g, 1, none⟩ b).setCell ⟨g, 2, none⟩ c) ∧
    In h (h + 1) (((w.setCell ⟨g, 0, none⟩ a).setCell ⟨g, 1, none⟩ b).setCell ⟨g, 2, none⟩ c) ((((((w.setCell ⟨g, 0, none⟩ a).setCell ⟨g, 1, none⟩ b).setCell ⟨g, 2, none⟩ c).setCell ⟨h, 0, none⟩ d).setCell ⟨h, 1, none⟩ e).setCell ⟨h, 2, none⟩ f) := by
  have i1 := in3 w g a b c
  have i2 := in3 (((w.setCell ⟨g, 0, none⟩ a).setCell ⟨g, 1, none⟩ b).setCell ⟨g, 2, none⟩ c) h d e f
  have p1 : Pb (((w.setCell ⟨g, 0, none⟩ a).setCell ⟨g, 1, none⟩ b).setCell ⟨g, 2, none⟩ c) g t #[a, b, c] := ((p.set 0 a).set 1 b).set 2 c
  have q1 := q.inn i1 (Ne.symm hne)
  exact ⟨p1.inn i2 hne, ((q1.set 0 d).set 1 e).set 2 f, i1, i2⟩
set_option maxHeartbeats 12800000 in
set_option maxRecDepth 100000 in
theorem Cross23_fin {w : World} {a b c d : Int × Int} (ua : U2 a) (ub : U2 b) (uc : U2 c) (ud : U2 d) (fa : fin2 a) (fb : fin2 b) (fc : fin2 c) (fd : fin2 d) :
    Calls Tryz.prog 17 #[.agg #[.int .u64 a.1, .int .u64 a.2], .agg #[.int .u64 b.1, .int .u64 b.2], .agg #[.int .u64 c.1, .int .u64 c.2], .agg #[.int .u64 d.1, .int .u64 d.2]] w fun e w' => (fallR (valR a.1) (valR a.2) (valR b.1) (valR b.2) (valR c.1) (valR c.2) (valR d.1) (valR d.2) = 0 ∧ NoQ w 230 e w') ∨ (fallR (valR a.1) (valR a.2) (valR b.1) (valR b.2) (valR c.1) (valR c.2) (valR d.1) (valR d.2) ≠ 0 ∧ TwQ w (xcR (valR a.1) (valR a.2) (valR b.1) (valR b.2) (valR c.1) (valR c.2) (valR d.1) (valR d.2)) (ycR (valR a.1) (valR a.2) (valR b.1) (valR b.2) (valR c.1) (valR c.2) (valR d.1) (valR d.2)) 558 e w') := by
  obtain ⟨w0, hw0⟩ : ∃ w0, w0 = ((((((w.alloc (.cells #[.int .u64 a.1, .int .u64 a.2] 24)).alloc (.cells #[.int .u64 b.1, .int .u64 b.2] 24)).alloc (.cells #[.int .u64 c.1, .int .u64 c.2] 24)).alloc (.cells #[.int .u64 d.1, .int .u64 d.2] 24))).alloc (.cells #[.bool false, .slice none 0 0, .slice none 0 0] 45)).alloc (.cells #[.bool false, .slice none 0 0, .slice none 0 0] 45) := ⟨_, rfl⟩
  obtain ⟨u1, u2, u3, u4, u5, u6, hb0, e0⟩ : Pb w0 w.heap.size 24 #[.int .u64 a.1, .int .u64 a.2] ∧ Pb w0 (w.heap.size + 1) 24 #[.int .u64 b.1, .int .u64 b.2] ∧ Pb w0 (w.heap.size + 1 + 1) 24 #[.int .u64 c.1, .int .u64 c.2] ∧ Pb w0 (w.heap.size + 1 + 1 + 1) 24 #[.int .u64 d.1, .int .u64 d.2] ∧ Pb w0 (w.heap.size + 1 + 1 + 1 + 1) 45 #[.bool false, .slice none 0 0, .slice none 0 0] ∧ Pb w0 (w.heap.size + 1 + 1 + 1 + 1 + 1) 45 #[.bool false, .slice none 0 0, .slice none 0 0] ∧ Below w.heap.size w w0 ∧ w0.heap.size = w.heap.size + 1 + 1 + 1 + 1 + 1 + 1 := by
    subst hw0
    exact pb_6 _ _ _ _ _ _ _ _ _ _ _ _ _
  have al := alloc_below (w := w0) (.cells #[.int .u64 a.1, .int .u64 a.2, .int .u64 b.1, .int .u64 b.2, .int .u64 c.1, .int .u64 c.2, .int .u64 d.1, .int .u64 d.2] 24)
  have hPt := ptAt4 w0 24 ua ub uc ud
  have hsp := spots23_any (c := 4) hPt (by simp) (by omega)
  have hB1 := hb0.trans (al.mono hb0.size)
  replace hsp := hsp.mono (fun e w' h => sopen4 ua fa ub fb uc fc ud fd h)
  have zs := And.intro (value_size ua.1 fa.1) (And.intro (value_size ua.2 fa.2) (And.intro (value_size ub.1 fb.1) (value_size ub.2 fb.2)))
  have hAa := fun w => Area223_fin (w := w) uc ud ua fc fd fa
  have hAb := fun w => Area223_fin (w := w) uc ud ub fc fd fb
  obtain ⟨g, hg⟩ : ∃ g, g = w.heap.size := ⟨_, rfl⟩
  have HG : Hid (w.heap.size = g) := hg.symm
  rw [← hg] at u1 u2 u3 u4 u5 u6 hB1 e0
  rw [e0] at hsp
  have q1 := u1.later al
  have q2 := u2.later al
  have q3 := u3.later al
  have q4 := u4.later al
  have q5 := u5.later al
  have q6 := u6.later al
  have hgz : g + 6 ≤ w0.heap.size := by omega
  have al0 := al.size
  clear hPt u1 u2 u3 u4 u5 u6 ua ub uc ud fa fb fc fd hb0 e0 al
  generalize valR a.1 = v0 at *
  generalize valR a.2 = v1 at *
  generalize valR b.1 = v2 at *
  generalize valR b.2 = v3 at *
  generalize valR c.1 = v4 at *
  generalize valR c.2 = v5 at *
  generalize valR d.1 = v6 at *
  generalize valR d.2 = v7 at *
  go_enter Tryz.func17, Tryz.ntmps17
  go_wp2_with fail
  rw [← hw0, ← hg]
  clear hw0 hg
  generalize w0.alloc (.cells #[.int .u64 a.1, .int .u64 a.2, .int .u64 b.1, .int .u64 b.2, .int .u64 c.1, .int .u64 c.2, .int .u64 d.1, .int .u64 d.2] 24) = w1 at *
  refine hsp.mono ?_
  rintro e wA ⟨o, rfl, lo, go, A0, A1, A2, A3, _, _, _, _, hbA⟩
  have B2 := hB1.trans (hbA.mono (by omega))
  have hgA : g + 6 ≤ wA.heap.size := by have := hbA.size; omega
  have hgo : g + 6 ≤ o := by omega
  have p1 := q1.later hbA
  have p2 := q2.later hbA
  have p3 := q3.later hbA
  have p4 := q4.later hbA
  have p5 := q5.later hbA
  have p6 := q6.later hbA
  obtain ⟨s0, a0, n0, c0, b0, m0, d0, ⟨y00, y01, y02⟩, R0⟩ := A0
  obtain ⟨s1, a1, n1, c1, b1, m1, d1, ⟨y10, y11, y12⟩, R1⟩ := A1
  obtain ⟨s2, a2, n2, c2, b2, m2, d2, ⟨y20, y21, y22⟩, R2⟩ := A2
  obtain ⟨s3, a3, n3, c3, b3, m3, d3, ⟨y30, y31, y32⟩, R3⟩ := A3
  obtain ⟨z0, z1, z2, z3⟩ := zs
  have HO : Hid (∀ w', Below wA.heap.size wA w' → w'.cell? ⟨o, 0, none⟩ = some (.bool s0) ∧ w'.cell? ⟨o, 1, none⟩ = some (.slice a0 n0 c0) ∧ w'.cell? ⟨o, 2, none⟩ = some (.slice b0 m0 d0) ∧ w'.cell? ⟨o, 3, none⟩ = some (.bool s1) ∧ w'.cell? ⟨o, 4, none⟩ = some (.slice a1 n1 c1) ∧ w'.cell? ⟨o, 5, none⟩ = some (.slice b1 m1 d1) ∧ w'.cell? ⟨o, 6, none⟩ = some (.bool s2) ∧ w'.cell? ⟨o, 7, none⟩ = some (.slice a2 n2 c2) ∧ w'.cell? ⟨o, 8, none⟩ = some (.slice b2 m2 d2) ∧ w'.cell? ⟨o, 9, none⟩ = some (.bool s3) ∧ w'.cell? ⟨o, 10, none⟩ = some (.slice a3 n3 c3) ∧ w'.cell? ⟨o, 11, none⟩ = some (.slice b3 m3 d3)) := fun w' h => ⟨(h.cell (p := ⟨o, 0, none⟩) lo).trans y00, (h.cell (p := ⟨o, 1, none⟩) lo).trans y01, (h.cell (p := ⟨o, 2, none⟩) lo).trans y02, (h.cell (p := ⟨o, 3, none⟩) lo).trans y10, (h.cell (p := ⟨o, 4, none⟩) lo).trans y11, (h.cell (p := ⟨o, 5, none⟩) lo).trans y12, (h.cell (p := ⟨o, 6, none⟩) lo).trans y20, (h.cell (p := ⟨o, 7, none⟩) lo).trans y21, (h.cell (p := ⟨o, 8, none⟩) lo).trans y22, (h.cell (p := ⟨o, 9, none⟩) lo).trans y30, (h.cell (p := ⟨o, 10, none⟩) lo).trans y31, (h.cell (p := ⟨o, 11, none⟩) lo).trans y32⟩
  clear hsp q1 q2 q3 q4 q5 q6 hB1 hbA go hgz al0 y00 y01 y02 y10 y11 y12 y20 y21 y22 y30 y31 y32
  obtain ⟨i0, i1⟩ := p1.two
  obtain ⟨j0, j1⟩ := p3.two
  obtain ⟨k0, k1⟩ := p4.two
  go_upto_region 4 with fail
  go_wp2_with fail
  refine (hAa wA).mono ?_
  rintro e wC ⟨sC, aC, nC, cC, bC, mC, dC, rfl, RC, zC, hbC⟩
  have alC := alloc_below (w := wC) (.cells #[.bool sC, .slice aC nC cC, .slice bC mC dC] 45)
  have NC := Pb.new wC 45 #[.bool sC, .slice aC nC cC, .slice bC mC dC]
  have szC : (wC.alloc (.cells #[.bool sC, .slice aC nC cC, .slice bC mC dC] 45)).heap.size = wC.heap.size + 1 := by simp
  have hC := hbC.trans (alC.mono hbC.size)
  have sC' := hbC.size
  have RC2 := RC.later alC
  clear i0 i1 j0 j1 k0 k1 alC hbC RC
  obtain ⟨i0, i1⟩ := (p2.later hC).two
  obtain ⟨j0, j1⟩ := (p3.later hC).two
  obtain ⟨k0, k1⟩ := (p4.later hC).two
  go_upto_region 5 with fail
  obtain ⟨x, hx⟩ : ∃ x, x = wC.heap.size := ⟨_, rfl⟩
  rw [← hx] at NC szC sC' ⊢
  generalize wC.alloc (.cells #[.bool sC, .slice aC nC cC, .slice bC mC dC] 45) = w2 at *
  clear hx
  go_wp2_with fail
  refine (hAb w2).mono ?_
  rintro e wD ⟨sD, aD, nD, cD, bD, mD, dD, rfl, RD, zD, hbD⟩
  have alD := alloc_below (w := wD) (.cells #[.bool sD, .slice aD nD cD, .slice bD mD dD] 45)
  have ND := Pb.new wD 45 #[.bool sD, .slice aD nD cD, .slice bD mD dD]
  have szD : (wD.alloc (.cells #[.bool sD, .slice aD nD cD, .slice bD mD dD] 45)).heap.size = wD.heap.size + 1 := by simp
  have hD1 := hbD.trans (alD.mono hbD.size)
  have sD' := hbD.size
  have hD := hC.trans (hD1.mono hC.size)
  have RD2 := RD.later alD
  have RC3 := RC2.later hD1
  have NC2 := NC.later hD1
  clear i0 i1 j0 j1 k0 k1 alD hbD RD RC2 NC hC
  obtain ⟨i0, i1, i2⟩ := pb_tri NC2
  obtain ⟨j0, j1, j2⟩ := pb_tri ND
  have nx : ¬ x = wD.heap.size := by omega
  have nx2 : ¬ wD.heap.size = x := by omega
  go_upto_region 6 with fail
  obtain ⟨y, hy⟩ : ∃ y, y = wD.heap.size := ⟨_, rfl⟩
  rw [← hy] at ND szD sD' nx nx2 ⊢
  generalize wD.alloc (.cells #[.bool sD, .slice aD nD cD, .slice bD mD dD] 45) = w3 at *
  clear hy j0 j1 j2
  obtain ⟨j0, j1, j2⟩ := pb_tri ND
  go_wp2_with fail
  refine (rSub_ok RC3.rt22 RD2.rt22 zC zD (by omega)).mono ?_
  rintro e wE ⟨sE, v1E, v2E, rfl, RE, zE, hbE⟩
  obtain ⟨aE, nE, cE, bE, mE, dE, rfl, rfl, _⟩ := RE.opens
  have alE := alloc_below (w := wE) (.cells #[.bool sE, .slice aE nE cE, .slice bE mE dE] 45)
  have NE := Pb.new wE 45 #[.bool sE, .slice aE nE cE, .slice bE mE dE]
  have szE : (wE.alloc (.cells #[.bool sE, .slice aE nE cE, .slice bE mE dE] 45)).heap.size = wE.heap.size + 1 := by simp
  have hE1 := hbE.trans (alE.mono hbE.size)
  have sE' := hbE.size
  have hE := hD.trans (hE1.mono hD.size)
  have RE2 := RE.later alE
  have RC4 := RC3.later hE1
  have NC3 := NC2.later hE1
  clear i0 i1 i2 j0 j1 j2 alE hbE RE RC3 RD2 ND NC2 hD hAa hAb
  obtain ⟨i0, i1, i2⟩ := pb_tri NC3
  obtain ⟨j0, j1, j2⟩ := pb_tri NE
  have nz : ¬ x = wE.heap.size := by omega
  have nz2 : ¬ wE.heap.size = x := by omega
  go_upto_region 7 with fail
  obtain ⟨z, hz⟩ : ∃ z, z = wE.heap.size := ⟨_, rfl⟩
  rw [← hz] at NE szE sE' nz nz2 ⊢
  generalize wE.alloc (.cells #[.bool sE, .slice aE nE cE, .slice bE mE dE] 45) = w4 at *
  clear hz j0 j1 j2
  obtain ⟨j0, j1, j2⟩ := pb_tri NE
  change RtO w4 w3.heap.size sE (.slice aE nE cE) (.slice bE mE dE) (fallR v0 v1 v2 v3 v4 v5 v6 v7) at RE2
  have HF : Hid (fallR v0 v1 v2 v3 v4 v5 v6 v7 = fallR v0 v1 v2 v3 v4 v5 v6 v7) := rfl
  obtain ⟨F, hF⟩ : ∃ F, F = fallR v0 v1 v2 v3 v4 v5 v6 v7 := ⟨_, rfl⟩
  rw [← hF] at RE2
  change Sz (fallR v0 v1 v2 v3 v4 v5 v6 v7) _ at zE
  rw [← hF] at zE
  have HFF : Hid (F = fallR v0 v1 v2 v3 v4 v5 v6 v7) := hF
  obtain ⟨T, hT⟩ : ∃ T, T = crR v4 v5 v6 v7 v0 v1 := ⟨_, rfl⟩
  rw [← hT] at RC4 zC
  have HX : Hid (v0 + (v2 - v0) * (T / F) = xcR v0 v1 v2 v3 v4 v5 v6 v7) := by show _ = _; rw [hT, hF]; rfl
  have HY : Hid (v1 + (v3 - v1) * (T / F) = ycR v0 v1 v2 v3 v4 v5 v6 v7) := by show _ = _; rw [hT, hF]; rfl
  clear hF hT HF
  have hsg := rSign_any (K := sgnR F) RE2.rt22 (by have := RE2.rt22.le zE; omega) rfl
  go_wp2_with fail
  refine hsg.mono ?_
  rintro e wS ⟨rfl, hbS⟩
  have hS := hE.trans (hbS.mono hE.size)
  have RE3 := RE2.later hbS
  have RC5 := RC4.later hbS
  have NE2 := NE.later hbS
  have NC4 := NC3.later hbS
  have p5' := p5.later hS
  have p6' := p6.later hS
  have B3 := B2.trans (hS.mono (by omega))
  have sS := hbS.size
  clear hsg i0 i1 i2 j0 j1 j2 RE2 RC4 NE NC3 hE hbS B2
  by_cases hF0 : F = 0
  · have ts : (sgnR F == 0) = true := by rw [hF0]; rfl
    obtain ⟨x0, x1, x2⟩ := pb_tri p5'
    obtain ⟨t0, t1, t2⟩ := pb_tri p6'
    obtain ⟨f0, f1, f2⟩ := three_free p5' 0
    obtain ⟨h0, h1, h2⟩ := three_free p6' 0
    have HS : Hid _ := And.intro p5' (And.intro p6' B3)
    have HF0 : Hid (F = 0) := hF0
    clear RE3 RC5 NE2 NC4 p1 p2 p3 p4 p5 p6 p5' p6' B3 hS hF0
    go_wp2
    have hz := trw_two HS.out.1 HS.out.2.1 (by omega) (.bool false) (.slice none 0 0) (.slice none 0 0) (.bool false) (.slice none 0 0) (.slice none 0 0)
    obtain ⟨t0, t1, t2⟩ := pb_tri hz.1
    obtain ⟨r0, r1, r2⟩ := pb_tri hz.2.1
    refine bodyPost_ret (v := .tuple #[.agg #[.bool false, .slice none 0 0, .slice none 0 0], .agg #[.bool false, .slice none 0 0, .slice none 0 0], .int .i64 230]) (by simp [results, Tryz.results17, go_sem, t0, t1, t2, r0, r1, r2]) rfl ?_
    refine Or.inl ⟨by rw [← HFF.out]; exact HF0.out, rfl, ?_⟩
    rw [HG.out]
    exact below_in (below_in HS.out.2.2 hz.2.2.1 (by omega) (Nat.le_of_eq HG.out.symm)) hz.2.2.2 (by omega) (Nat.le_of_eq HG.out.symm)
  · have ts : (sgnR F == 0) = false := by
      rw [beq_eq_false_iff_ne]
      exact fun h => hF0 (sgnR_eq0.mp h)
    have HF0 : Hid (F ≠ 0) := hF0
    obtain ⟨i0, i1, i2⟩ := pb_tri NC4
    obtain ⟨j0, j1, j2⟩ := pb_tri NE2
    go_wp2_with fail
    refine (rDiv_ok RC5.rt22 RE3.rt22 zC zE (by omega) hF0).mono ?_
    rintro e wH ⟨sH, v1H, v2H, rfl, RH, zH, hbH⟩
    obtain ⟨aH, nH, cH, bH, mH, dH, rfl, rfl, _⟩ := RH.opens
    have alH := alloc_below (w := wH) (.cells #[.bool sH, .slice aH nH cH, .slice bH mH dH] 45)
    have NH := Pb.new wH 45 #[.bool sH, .slice aH nH cH, .slice bH mH dH]
    have szH : (wH.alloc (.cells #[.bool sH, .slice aH nH cH, .slice bH mH dH] 45)).heap.size = wH.heap.size + 1 := by simp
    have hH1 := hbH.trans (alH.mono hbH.size)
    have sH' := hbH.size
    have hH := hS.trans (hH1.mono hS.size)
    have RH2 := RH.later alH
    clear i0 i1 i2 j0 j1 j2 alH hbH RH RC5 RE3 NE2 NC4 hS hF0 ts p5' p6'
    have B4 := B3.trans (hH1.mono (by omega))
    have onz : ¬ o = wH.heap.size := by omega
    have onz2 : ¬ wH.heap.size = o := by omega
    go_upto_region 10 with fail
    obtain ⟨u, hu⟩ : ∃ u, u = wH.heap.size := ⟨_, rfl⟩
    rw [← hu] at NH szH sH' onz onz2 ⊢
    generalize wH.alloc (.cells #[.bool sH, .slice aH nH cH, .slice bH mH dH] 45) = w5 at *
    clear hu hH1 B3
    have HC : Hid (∀ w', Below w5.heap.size w5 w' → (w'.cell? ⟨o, 0, none⟩ = some (.bool s0) ∧ w'.cell? ⟨o, 1, none⟩ = some (.slice a0 n0 c0) ∧ w'.cell? ⟨o, 2, none⟩ = some (.slice b0 m0 d0) ∧ w'.cell? ⟨o, 3, none⟩ = some (.bool s1) ∧ w'.cell? ⟨o, 4, none⟩ = some (.slice a1 n1 c1) ∧ w'.cell? ⟨o, 5, none⟩ = some (.slice b1 m1 d1) ∧ w'.cell? ⟨o, 6, none⟩ = some (.bool s2) ∧ w'.cell? ⟨o, 7, none⟩ = some (.slice a2 n2 c2) ∧ w'.cell? ⟨o, 8, none⟩ = some (.slice b2 m2 d2) ∧ w'.cell? ⟨o, 9, none⟩ = some (.bool s3) ∧ w'.cell? ⟨o, 10, none⟩ = some (.slice a3 n3 c3) ∧ w'.cell? ⟨o, 11, none⟩ = some (.slice b3 m3 d3)) ∧ (w'.cell? ⟨u, 0, none⟩ = some (.bool sH) ∧ w'.cell? ⟨u, 1, none⟩ = some (.slice aH nH cH) ∧ w'.cell? ⟨u, 2, none⟩ = some (.slice bH mH dH))) := fun w' h => ⟨HO.out w' (hH.trans (h.mono hH.size)), pb_tri (NH.later h)⟩
    have Q0 := R0.later hH
    have Q1 := R1.later hH
    have Q2 := R2.later hH
    have Q3 := R3.later hH
    obtain ⟨⟨y00, y01, y02, y10, y11, y12, y20, y21, y22, y30, y31, y32⟩, ⟨j0, j1, j2⟩⟩ := HC.out w5 (Below.refl _ _)
    have hw1 := fun w' (h : Below w5.heap.size w5 w') => way23_at (w0 := w5) (w := w') Q0 Q1 Q2 Q3 z0 z1 z2 z3 (by omega) h
    have R6 := RH2
    clear R0 R1 R2 R3 RH2 HO NH
    have o5 : o < w5.heap.size := by have := hH.size; omega
    have u5 : u < w5.heap.size := by omega
    have na1 : ¬ w5.heap.size = o := by omega
    have na2 : ¬ o = w5.heap.size := by omega
    have na3 : ¬ w5.heap.size = u := by omega
    have na4 : ¬ u = w5.heap.size := by omega
    clear szH
    go_cut [21] from 67 to 78 (fun vv wx => ∃ (r : Nat) (t3 : Bool) (e3 : Option Addr) (x3 f3 : Nat) (h3 : Option Addr) (v3' g3 : Nat) (t4 : Bool) (e4 : Option Addr) (x4 f4 : Nat) (h4 : Option Addr) (v4' g4 : Nat), vv = .pointer (some ⟨r, 0, none⟩) ∧ Pb wx r 84 #[.bool t3, .slice e3 x3 f3, .slice h3 v3' g3, .bool t4, .slice e4 x4 f4, .slice h4 v4' g4] ∧ w5.heap.size ≤ r ∧ RtO wx w5.heap.size t3 (.slice e3 x3 f3) (.slice h3 v3' g3) (v0 + (v2 - v0) * (T / F)) ∧ RtO wx w5.heap.size t4 (.slice e4 x4 f4) (.slice h4 v4' g4) (v1 + (v3 - v1) * (T / F)) ∧ Sz (v0 + (v2 - v0) * (T / F)) 558 ∧ Sz (v1 + (v3 - v1) * (T / F)) 558 ∧ Below w5.heap.size w5 wx)
    case first =>
      go_region_held3 (fun w' => (w'.cell? ⟨o, 0, none⟩ = some (.bool s0) ∧ w'.cell? ⟨o, 1, none⟩ = some (.slice a0 n0 c0) ∧ w'.cell? ⟨o, 2, none⟩ = some (.slice b0 m0 d0) ∧ w'.cell? ⟨o, 3, none⟩ = some (.bool s1) ∧ w'.cell? ⟨o, 4, none⟩ = some (.slice a1 n1 c1) ∧ w'.cell? ⟨o, 5, none⟩ = some (.slice b1 m1 d1) ∧ w'.cell? ⟨o, 6, none⟩ = some (.bool s2) ∧ w'.cell? ⟨o, 7, none⟩ = some (.slice a2 n2 c2) ∧ w'.cell? ⟨o, 8, none⟩ = some (.slice b2 m2 d2) ∧ w'.cell? ⟨o, 9, none⟩ = some (.bool s3) ∧ w'.cell? ⟨o, 10, none⟩ = some (.slice a3 n3 c3) ∧ w'.cell? ⟨o, 11, none⟩ = some (.slice b3 m3 d3)) ∧ (w'.cell? ⟨u, 0, none⟩ = some (.bool sH) ∧ w'.cell? ⟨u, 1, none⟩ = some (.slice aH nH cH) ∧ w'.cell? ⟨u, 2, none⟩ = some (.slice bH mH dH))) (go_keep) (first | (go_at_call 46; refine (hw1 _ (by first | exact Below.refl _ _ | exact below_drewN (Below.refl _ _) 1 | exact alloc_below _ | exact (below_drewN (Below.refl _ _) 1).trans (alloc_below (w := w5.drew) _) | exact below_drewN (alloc_below _) 1)).mono ?_; rintro e wX ⟨t1, e1, x1, f1, h1, v1', g1, t2, e2, x2, f2, h2, v2', g2, rfl, K1, K2, Z1, Z2, hbXo, hbX⟩; clear y00 y01 y02 y10 y11 y12 y20 y21 y22 y30 y31 y32 j0 j1 j2; obtain ⟨⟨y00, y01, y02, y10, y11, y12, y20, y21, y22, y30, y31, y32⟩, ⟨j0, j1, j2⟩⟩ := HC.out wX hbX; have sX5 := hbX.size; have nb1 : ¬ wX.heap.size = o := (by omega); have nb2 : ¬ o = wX.heap.size := (by omega); have nb3 : ¬ wX.heap.size = u := (by omega); have nb4 : ¬ u = wX.heap.size := (by omega); (try (have NX1 : Pb wX w5.heap.size 84 #[.bool false, .slice none 0 0, .slice none 0 0, .bool false, .slice none 0 0, .slice none 0 0] := (by refine Pb.later ?_ hbXo; first | exact Pb.new w5 84 _ | exact Pb.new w5.drew 84 _)))) | (go_at_call 45; refine (along23_any (Q0.later hbX) (Q1.later hbX) K1.rt22 K2.rt22 (R6.later hbX).rt22 z0 z1 Z1 Z2 zH (by omega)).mono ?_; rintro e wY ⟨t3, e3, x3, f3, h3, v3', g3, t4, e4, x4, f4, h4, v4', g4, rfl, L1, L2, Z3, Z4, hbY'⟩; have hbY := hbX.trans (hbY'.mono hbX.size); have sY5 := hbY'.size; have nc1 : ¬ wY.heap.size = o := (by omega); have nc2 : ¬ o = wY.heap.size := (by omega); have nc3 : ¬ wY.heap.size = u := (by omega); have nc4 : ¬ u = wY.heap.size := (by omega); (try (have NY := NX1.later hbY')); (try (obtain ⟨⟨k0, k1, k2, k3, k4, k5⟩, ⟨l0, l1, l2, l3, l4, l5⟩⟩ := NY.six)); clear hw1 hbXo K1 K2 Z1 Z2 sX5 sY5; clear y00 y01 y02 y10 y11 y12 y20 y21 y22 y30 y31 y32 j0 j1 j2; obtain ⟨⟨y00, y01, y02, y10, y11, y12, y20, y21, y22, y30, y31, y32⟩, ⟨j0, j1, j2⟩⟩ := HC.out wY hbY) | (go_at_call 45; have alX := alloc_below (w := wX) (.cells #[.bool false, .slice none 0 0, .slice none 0 0, .bool false, .slice none 0 0, .slice none 0 0] 84); have NX2 := Pb.new wX 84 #[.bool false, .slice none 0 0, .slice none 0 0, .bool false, .slice none 0 0, .slice none 0 0]; have hbX2 := hbX.trans (alX.mono hbX.size); have szX2 : (wX.alloc (.cells #[.bool false, .slice none 0 0, .slice none 0 0, .bool false, .slice none 0 0, .slice none 0 0] 84)).heap.size = wX.heap.size + 1 := (by simp); refine (along23_any (Q0.later hbX2) (Q1.later hbX2) (K1.later alX).rt22 (K2.later alX).rt22 (R6.later hbX2).rt22 z0 z1 Z1 Z2 zH (by omega)).mono ?_; rintro e wY ⟨t3, e3, x3, f3, h3, v3', g3, t4, e4, x4, f4, h4, v4', g4, rfl, L1, L2, Z3, Z4, hbY'⟩; have hbY := hbX2.trans (hbY'.mono hbX2.size); have NY := NX2.later hbY'; obtain ⟨⟨k0, k1, k2, k3, k4, k5⟩, ⟨l0, l1, l2, l3, l4, l5⟩⟩ := NY.six; clear y00 y01 y02 y10 y11 y12 y20 y21 y22 y30 y31 y32 j0 j1 j2; obtain ⟨⟨y00, y01, y02, y10, y11, y12, y20, y21, y22, y30, y31, y32⟩, ⟨j0, j1, j2⟩⟩ := HC.out wY hbY))
      all_goals (go_wp2_with fail)
      all_goals go_meet
      · have al := alloc_below (w := wY) (.cells #[.bool t3, .slice e3 x3 f3, .slice h3 v3' g3, .bool t4, .slice e4 x4 f4, .slice h4 v4' g4] 84)
        exact ⟨wY.heap.size, t3, e3, x3, f3, h3, v3', g3, t4, e4, x4, f4, h4, v4', g4, rfl, Pb.new _ _ _, hbY.size, (L1.later al).lower hbX.size, (L2.later al).lower hbX.size, Z3.mono (by omega), Z4.mono (by omega), hbY.trans (al.mono hbY.size)⟩
      · have i9 := in6p wY wX.heap.size (.bool t3) (.slice e3 x3 f3) (.slice h3 v3' g3) (.bool t4) (.slice e4 x4 f4) (.slice h4 v4' g4)
        have hl : wX.heap.size < (wX.alloc (.cells #[.bool false, .slice none 0 0, .slice none 0 0, .bool false, .slice none 0 0, .slice none 0 0] 84)).heap.size := by rw [szX2]; omega
        have hl2 := Nat.le_trans hbX.size (Nat.le_of_lt hl)
        exact ⟨wX.heap.size, t3, e3, x3, f3, h3, v3', g3, t4, e4, x4, f4, h4, v4', g4, rfl, NY.put6 _ _ _ _ _ _, hbX.size, (L1.inn i9 hl).lower hl2, (L2.inn i9 hl).lower hl2, Z3.mono (by omega), Z4.mono (by omega), below_in hbY i9 hbX.size (Nat.le_refl _)⟩
      · have i9 := in6p wY w5.heap.size (.bool t3) (.slice e3 x3 f3) (.slice h3 v3' g3) (.bool t4) (.slice e4 x4 f4) (.slice h4 v4' g4)
        exact ⟨w5.heap.size, t3, e3, x3, f3, h3, v3', g3, t4, e4, x4, f4, h4, v4', g4, rfl, NY.put6 _ _ _ _ _ _, Nat.le_refl _, (L1.inn i9 NX1.lt).lower hbX.size, (L2.inn i9 NX1.lt).lower hbX.size, Z3.mono (by omega), Z4.mono (by omega), below_in hbY i9 (Nat.le_refl _) (Nat.le_refl _)⟩
    obtain ⟨r, t3, e3, x3, f3, h3, v3', g3, t4, e4, x4, f4, h4, v4', g4, rfl, NR, hr5, M1, M2, Z3, Z4, hbR⟩ := hcut
    obtain ⟨wR, hwR⟩ : ∃ wR, wR = wc := ⟨_, rfl⟩
    subst hwR
    have hR := hH.trans (hbR.mono hH.size)
    have q5 := p5.later hR
    have q6 := p6.later hR
    have g5 : g ≤ w5.heap.size := by have := hH.size; omega
    have B5 := B4.trans (hbR.mono g5)
    have hgr : g + 6 ≤ r := by have := hH.size; omega
    have hg5 : g + 6 ≤ w5.heap.size := by have := hH.size; omega
    clear hw1 HC Q0 Q1 Q2 Q3 R6 y00 y01 y02 y10 y11 y12 y20 y21 y22 y30 y31 y32 j0 j1 j2 p1 p2 p3 p4 p5 p6 hR hH hbR B4
    obtain ⟨⟨k0, k1, k2, k3, k4, k5⟩, _⟩ := NR.six
    obtain ⟨x0, x1, x2⟩ := pb_tri q5
    obtain ⟨y0, y1, y2⟩ := pb_tri q6
    obtain ⟨f0, f1, f2⟩ := three_free q5 0
    obtain ⟨l0, l1, l2⟩ := three_free q6 0
    have m1' : ¬ g + 1 + 1 + 1 + 1 = r := by omega
    have m2' : ¬ r = g + 1 + 1 + 1 + 1 := by omega
    have m3' : ¬ g + 1 + 1 + 1 + 1 + 1 = r := by omega
    have m4' : ¬ r = g + 1 + 1 + 1 + 1 + 1 := by omega
    have HS : Hid _ := And.intro q5 (And.intro q6 B5)
    have HM : Hid _ := And.intro M1 M2
    clear q5 q6 B5 M1 M2 NR
    go_upto_region 11 with fail
    go_region
    go_wp2
    have hz := trw_two HS.out.1 HS.out.2.1 (by omega) (.bool t3) (.slice e3 x3 f3) (.slice h3 v3' g3) (.bool t4) (.slice e4 x4 f4) (.slice h4 v4' g4)
    obtain ⟨ee1, ee2, ee3⟩ := pb_tri hz.1
    obtain ⟨r0, r1, r2⟩ := pb_tri hz.2.1
    refine bodyPost_ret (v := .tuple #[.agg #[.bool t3, .slice e3 x3 f3, .slice h3 v3' g3], .agg #[.bool t4, .slice e4 x4 f4, .slice h4 v4' g4], .int .i64 0]) (by simp [results, Tryz.results17, go_sem, ee1, ee2, ee3, r0, r1, r2]) rfl ?_
    refine Or.inr ⟨by rw [← HFF.out]; exact HF0.out, ?_⟩
    unfold TwQ
    rw [HG.out, ← HX.out, ← HY.out]
    have B8 := below_in (below_in HS.out.2.2 hz.2.2.1 (by omega) (Nat.le_of_eq HG.out.symm)) hz.2.2.2 (by omega) (Nat.le_of_eq HG.out.symm)
    have d1 := fun (W : World) => below_drewN (Below.refl W.heap.size W) 1
    exact ⟨_, _, _, _, _, _, _, _, _, _, _, _, _, _, rfl, (((HM.out.1.inn hz.2.2.1 (by omega)).inn hz.2.2.2 (by omega)).later (d1 _)).lower g5, (((HM.out.2.inn hz.2.2.1 (by omega)).inn hz.2.2.2 (by omega)).later (d1 _)).lower g5, Z3, Z4, below_drewN B8 1⟩
end Go.Proofs.YtienpliknhkbjaaGreatDoor

/- package seg: Meet (written by gensgm.py). -/
namespace Go.Proofs.YtienpliknhkbjaaGreatDoor
open Go.ChangeShapes Go.WideShapes Go.ChangeAt Go.RowKit
open Na Ar
set_option linter.unusedVariables false
theorem pb_5 (w : World) (A B C D E : Array Value) (t1 t2 t3 t4 t5 : TypeId) : Pb (((((w.alloc (.cells A t1)).alloc (.cells B t2)).alloc (.cells C t3)).alloc (.cells D t4)).alloc (.cells E t5)) w.heap.size t1 A ∧ Pb (((((w.alloc (.cells A t1)).alloc (.cells B t2)).alloc (.cells C t3)).alloc (.cells D t4)).alloc (.cells E t5)) (w.heap.size + 1) t2 B ∧ Pb (((((w.alloc (.cells A t1)).alloc (.cells B t2)).alloc (.cells C t3)).alloc (.cells D t4)).alloc (.cells E t5)) (w.heap.size + 1 + 1) t3 C ∧ Pb (((((w.alloc (.cells A t1)).alloc (.cells B t2)).alloc (.cells C t3)).alloc (.cells D t4)).alloc (.cells E t5)) (w.heap.size + 1 + 1 + 1) t4 D ∧ Pb (((((w.alloc (.cells A t1)).alloc (.cells B t2)).alloc (.cells C t3)).alloc (.cells D t4)).alloc (.cells E t5)) (w.heap.size + 1 + 1 + 1 + 1) t5 E ∧ Below w.heap.size w (((((w.alloc (.cells A t1)).alloc (.cells B t2)).alloc (.cells C t3)).alloc (.cells D t4)).alloc (.cells E t5)) ∧ (((((w.alloc (.cells A t1)).alloc (.cells B t2)).alloc (.cells C t3)).alloc (.cells D t4)).alloc (.cells E t5)).heap.size = w.heap.size + 1 + 1 + 1 + 1 + 1 := by
  obtain ⟨p1, p2, p3, p4, hb, hs⟩ := pb_4 w A B C D t1 t2 t3 t4
  have al := alloc_below (w := (((w.alloc (.cells A t1)).alloc (.cells B t2)).alloc (.cells C t3)).alloc (.cells D t4)) (.cells E t5)
  have p5 := Pb.new ((((w.alloc (.cells A t1)).alloc (.cells B t2)).alloc (.cells C t3)).alloc (.cells D t4)) t5 E
  rw [hs] at p5
  exact ⟨p1.later al, p2.later al, p3.later al, p4.later al, p5, hb.trans (al.mono hb.size), by simp⟩
/-- a step behind a step -/
theorem bel_step {a W c : World} (h2 : Below W.heap.size W c) (h1 : Below a.heap.size a W) : Below a.heap.size a c := h1.trans (h2.mono h1.size)
theorem plopen4 {w w' : World} {e : Ending} {a b c d : Int × Int} (fa : fin2 a) (fb : fin2 b) (fc : fin2 c) (fd : fin2 d) (h : PlQ w 4 (fun i => [a, b, c, d].getD i (0, 0)) e w') : ∃ o, e = .returned (.tuple #[.slice (some ⟨o, 0, none⟩) 4 4, .int .i64 0]) ∧ o < w'.heap.size ∧ w.heap.size ≤ o ∧ (w'.cell? ⟨o, 0, none⟩ = some (.int .i64 (rkP a).1) ∧ w'.cell? ⟨o, 1, none⟩ = some (.int .i64 (rkP a).2) ∧ w'.cell? ⟨o, 2, none⟩ = some (.int .i64 (rkP b).1) ∧ w'.cell? ⟨o, 3, none⟩ = some (.int .i64 (rkP b).2) ∧ w'.cell? ⟨o, 4, none⟩ = some (.int .i64 (rkP c).1) ∧ w'.cell? ⟨o, 5, none⟩ = some (.int .i64 (rkP c).2) ∧ w'.cell? ⟨o, 6, none⟩ = some (.int .i64 (rkP d).1) ∧ w'.cell? ⟨o, 7, none⟩ = some (.int .i64 (rkP d).2)) ∧ Below w.heap.size w w' := by
  rcases h with ⟨_, o, cs, e0, hPb, ho, hsz, hT, hb⟩ | ⟨⟨t, ht, h⟩, _⟩
  · have t0 := hT 0 (by omega)
    have t1 := hT 1 (by omega)
    have t2 := hT 2 (by omega)
    have t3 := hT 3 (by omega)
    exact ⟨o, e0, hPb.lt, ho, ⟨hPb.cell _ t0.1, hPb.cell _ t0.2, hPb.cell _ t1.1, hPb.cell _ t1.2, hPb.cell _ t2.1, hPb.cell _ t2.2, hPb.cell _ t3.1, hPb.cell _ t3.2⟩, hb⟩
  · exact absurd (fin4_of fa fb fc fd t ht) h
/-- how the stretches of four points meet, but for a proper meeting's place -/
def mtQ (a b c d : Int × Int) : (Int × Bool) × (Int × Int) × (Int × Int) := mtP (loP (rkP a) (rkP b)) (hiP (rkP a) (rkP b)) (loP (rkP c) (rkP d)) (hiP (rkP c) (rkP d))
theorem mt_bool {a b c d : Int × Int} : ((mtP a b c d).1.2 = true ↔ prP a b c d) ∧ ((mtP a b c d).1.2 = true → mtP a b c d = ((1, true), (0, 0), (0, 0))) := by
  by_cases h : prP a b c d
  · rw [mtP_proper h]; simp [h]
  · rw [mtP_E h]
    cases hE : endsP a b c d with
    | nil => simp [mtE, h]
    | cons m l =>
      have e : mtE (m :: l) = if leastP m l = greatP m l then ((1, false), ptP (leastP m l), (0, 0)) else ((2, false), ptP (leastP m l), ptP (greatP m l)) := rfl
      rw [e]
      split <;> simp [h]
/-- where two stretches cross properly their lines have one place -/
theorem pr_fall {a b c d : Int × Int} (ua : U2 a) (ub : U2 b) (uc : U2 c) (ud : U2 d) (fa : fin2 a) (fb : fin2 b) (fc : fin2 c) (fd : fin2 d) (h : (mtQ a b c d).1.2 = true) : fallR (valR a.1) (valR a.2) (valR b.1) (valR b.2) (valR c.1) (valR c.2) (valR d.1) (valR d.2) ≠ 0 := by
  have hp := mt_bool.1.mp h
  have key : sgnR (crR (valR c.1) (valR c.2) (valR d.1) (valR d.2) (valR a.1) (valR a.2)) * sgnR (crR (valR c.1) (valR c.2) (valR d.1) (valR d.2) (valR b.1) (valR b.2)) < 0 := by
    have h2 := hp.2
    have e1 := vR_rk ua.1 fa.1
    have e2 := vR_rk ua.2 fa.2
    have e3 := vR_rk ub.1 fb.1
    have e4 := vR_rk ub.2 fb.2
    have e5 := vR_rk uc.1 fc.1
    have e6 := vR_rk uc.2 fc.2
    have e7 := vR_rk ud.1 fd.1
    have e8 := vR_rk ud.2 fd.2
    unfold sdP loP hiP rkP at h2
    by_cases s1 : 0 < orP (rk0 a.1, rk0 a.2) (rk0 b.1, rk0 b.2) <;> by_cases s2 : 0 < orP (rk0 c.1, rk0 c.2) (rk0 d.1, rk0 d.2)
    · simp only [if_pos s1, if_pos s2, e1, e2, e3, e4, e5, e6, e7, e8] at h2
      rw [crR_turn (valR c.1) (valR c.2), crR_turn (valR c.1) (valR c.2), sgnR_neg, sgnR_neg, Int.neg_mul_neg, Int.mul_comm] at h2
      exact h2
    · simp only [if_pos s1, if_neg s2, e1, e2, e3, e4, e5, e6, e7, e8] at h2
      rw [Int.mul_comm] at h2
      exact h2
    · simp only [if_neg s1, if_pos s2, e1, e2, e3, e4, e5, e6, e7, e8] at h2
      rw [crR_turn (valR c.1) (valR c.2), crR_turn (valR c.1) (valR c.2), sgnR_neg, sgnR_neg, Int.neg_mul_neg] at h2
      exact h2
    · simp only [if_neg s1, if_neg s2, e1, e2, e3, e4, e5, e6, e7, e8] at h2
      exact h2
  intro h0
  unfold fallR at h0
  have e : crR (valR c.1) (valR c.2) (valR d.1) (valR d.2) (valR a.1) (valR a.2) = crR (valR c.1) (valR c.2) (valR d.1) (valR d.2) (valR b.1) (valR b.2) := by grind
  rw [e] at key
  have := sgnR_in (crR (valR c.1) (valR c.2) (valR d.1) (valR d.2) (valR b.1) (valR b.2))
  rcases (show sgnR (crR (valR c.1) (valR c.2) (valR d.1) (valR d.2) (valR b.1) (valR b.2)) = -1 ∨ sgnR (crR (valR c.1) (valR c.2) (valR d.1) (valR d.2) (valR b.1) (valR b.2)) = 0 ∨ sgnR (crR (valR c.1) (valR c.2) (valR d.1) (valR d.2) (valR b.1) (valR b.2)) = 1 by omega) with q | q | q <;> rw [q] at key <;> omega
set_option maxHeartbeats 12800000 in
set_option maxRecDepth 100000 in
theorem Meet23_fin {w : World} {a b c d : Int × Int} (ua : U2 a) (ub : U2 b) (uc : U2 c) (ud : U2 d) (fa : fin2 a) (fb : fin2 b) (fc : fin2 c) (fd : fin2 d) (hG : GrVar w) :
    Calls Tryz.prog 10 #[.agg #[.int .u64 a.1, .int .u64 a.2], .agg #[.int .u64 b.1, .int .u64 b.2], .agg #[.int .u64 c.1, .int .u64 c.2], .agg #[.int .u64 d.1, .int .u64 d.2]] w fun e w' => ((mtQ a b c d).1.2 = false ∧ e = .returned (.tuple #[mtV (mtQ a b c d), .int .i64 0]) ∧ Below w.heap.size w w') ∨ ((mtQ a b c d).1.2 = true ∧ ∃ v u, RnIs (xcR (valR a.1) (valR a.2) (valR b.1) (valR b.2) (valR c.1) (valR c.2) (valR d.1) (valR d.2)) v ∧ RnIs (ycR (valR a.1) (valR a.2) (valR b.1) (valR b.2) (valR c.1) (valR c.2) (valR d.1) (valR d.2)) u ∧ U v ∧ U u ∧ e = .returned (.tuple #[.agg #[.int .i64 1, .bool true, .int .u64 v, .int .u64 u, .int .u64 0, .int .u64 0], .int .i64 0]) ∧ Below w.heap.size w w') := by
  obtain ⟨w0, hw0⟩ : ∃ w0, w0 = (((((w.alloc (.cells #[.int .u64 a.1, .int .u64 a.2] 24)).alloc (.cells #[.int .u64 b.1, .int .u64 b.2] 24)).alloc (.cells #[.int .u64 c.1, .int .u64 c.2] 24)).alloc (.cells #[.int .u64 d.1, .int .u64 d.2] 24))).alloc (.cells #[.int .i64 0, .bool false, .int .u64 0, .int .u64 0, .int .u64 0, .int .u64 0] 29) := ⟨_, rfl⟩
  obtain ⟨u1, u2, u3, u4, u5, hb0, e0⟩ : Pb w0 w.heap.size 24 #[.int .u64 a.1, .int .u64 a.2] ∧ Pb w0 (w.heap.size + 1) 24 #[.int .u64 b.1, .int .u64 b.2] ∧ Pb w0 (w.heap.size + 1 + 1) 24 #[.int .u64 c.1, .int .u64 c.2] ∧ Pb w0 (w.heap.size + 1 + 1 + 1) 24 #[.int .u64 d.1, .int .u64 d.2] ∧ Pb w0 (w.heap.size + 1 + 1 + 1 + 1) 29 #[.int .i64 0, .bool false, .int .u64 0, .int .u64 0, .int .u64 0, .int .u64 0] ∧ Below w.heap.size w w0 ∧ w0.heap.size = w.heap.size + 1 + 1 + 1 + 1 + 1 := by
    subst hw0
    exact pb_5 _ _ _ _ _ _ _ _ _ _ _
  have al := alloc_below (w := w0) (.cells #[.int .u64 a.1, .int .u64 a.2, .int .u64 b.1, .int .u64 b.2, .int .u64 c.1, .int .u64 c.2, .int .u64 d.1, .int .u64 d.2] 24)
  have hPt := ptAt4 w0 24 ua ub uc ud
  have hsp := places23_any (c := 4) hPt (by simp) (by omega)
  have hB1 := hb0.trans (al.mono hb0.size)
  obtain ⟨g, hg⟩ : ∃ g, g = w.heap.size := ⟨_, rfl⟩
  have HG : Hid (w.heap.size = g) := hg.symm
  rw [← hg] at u1 u2 u3 u4 u5 hB1 e0
  rw [e0] at hsp
  replace hsp := hsp.mono (fun e w' h => plopen4 fa fb fc fd h)
  have hpf := pr_fall ua ub uc ud fa fb fc fd
  have hbt1 := fun w => between23_any (rkP a) (rkP b) w
  have hbt2 := fun w => between23_any (rkP c) (rkP d) w
  have l1 := loP_ok (rkP_ok ua fa) (rkP_ok ub fb)
  have l2 := loP_ok (rkP_ok uc fc) (rkP_ok ud fd)
  have hmt := fun w => meet23_any l1.1 l1.2.1 l2.1 l2.2.1 l1.2.2 l2.2.2 w
  have hcr := fun w => Cross23_fin (w := w) ua ub uc ud fa fb fc fd
  have hGA := hG.later hb0
  have q1 := u1.later al
  have q2 := u2.later al
  have q3 := u3.later al
  have q4 := u4.later al
  have q5 := u5.later al
  have hG1 := hGA.later al
  have hgz : g + 5 ≤ w0.heap.size := by omega
  have al0 := al.size
  clear hPt u1 u2 u3 u4 u5 ua ub uc ud fa fb fc fd hb0 e0 al l1 l2 hG hGA
  change ∀ w, Calls _ _ _ w fun e w' => e = .returned (mtV (mtQ a b c d)) ∧ _ at hmt
  unfold mtV at hmt ⊢
  have hmb := @mt_bool (loP (rkP a) (rkP b)) (hiP (rkP a) (rkP b)) (loP (rkP c) (rkP d)) (hiP (rkP c) (rkP d))
  change (_ ∧ ((mtQ a b c d).1.2 = true → mtQ a b c d = ((1, true), (0, 0), (0, 0)))) at hmb
  have hm1 := hmb.2
  clear hmb
  generalize mtQ a b c d = M at *
  obtain ⟨⟨k, pr⟩, ⟨px, py⟩, ⟨qx, qy⟩⟩ := M
  generalize (loP (rkP a) (rkP b)) = L1 at *
  generalize (hiP (rkP a) (rkP b)) = H1 at *
  generalize (loP (rkP c) (rkP d)) = L2 at *
  generalize (hiP (rkP c) (rkP d)) = H2 at *
  generalize rkP a = A at *
  generalize rkP b = B at *
  generalize rkP c = C at *
  generalize rkP d = D at *
  obtain ⟨A1, A2⟩ := A
  obtain ⟨B1, B2⟩ := B
  obtain ⟨C1, C2⟩ := C
  obtain ⟨D1, D2⟩ := D
  obtain ⟨L11, L12⟩ := L1
  obtain ⟨H11, H12⟩ := H1
  obtain ⟨L21, L22⟩ := L2
  obtain ⟨H21, H22⟩ := H2
  go_enter Tryz.func10, Tryz.ntmps10
  go_wp2_with fail
  rw [← hw0, ← hg]
  clear hw0 hg
  generalize w0.alloc (.cells #[.int .u64 a.1, .int .u64 a.2, .int .u64 b.1, .int .u64 b.2, .int .u64 c.1, .int .u64 c.2, .int .u64 d.1, .int .u64 d.2] 24) = w1 at *
  refine hsp.mono ?_
  rintro e w5 ⟨o, rfl, lo, go, hcells, hbA⟩
  have BB := hB1.trans (hbA.mono (by omega))
  have hgA : g + 5 ≤ w5.heap.size := by have := hbA.size; omega
  have p1 := q1.later hbA
  have p2 := q2.later hbA
  have p3 := q3.later hbA
  have p4 := q4.later hbA
  have p5 := q5.later hbA
  have hG5 := hG1.later hbA
  have HO : Hid (∀ w', Below w5.heap.size w5 w' → w'.cell? ⟨o, 0, none⟩ = some (.int .i64 A1) ∧ w'.cell? ⟨o, 1, none⟩ = some (.int .i64 A2) ∧ w'.cell? ⟨o, 2, none⟩ = some (.int .i64 B1) ∧ w'.cell? ⟨o, 3, none⟩ = some (.int .i64 B2) ∧ w'.cell? ⟨o, 4, none⟩ = some (.int .i64 C1) ∧ w'.cell? ⟨o, 5, none⟩ = some (.int .i64 C2) ∧ w'.cell? ⟨o, 6, none⟩ = some (.int .i64 D1) ∧ w'.cell? ⟨o, 7, none⟩ = some (.int .i64 D2)) := fun w' h => ⟨(h.cell (p := ⟨o, 0, none⟩) lo).trans hcells.1, (h.cell (p := ⟨o, 1, none⟩) lo).trans hcells.2.1, (h.cell (p := ⟨o, 2, none⟩) lo).trans hcells.2.2.1, (h.cell (p := ⟨o, 3, none⟩) lo).trans hcells.2.2.2.1, (h.cell (p := ⟨o, 4, none⟩) lo).trans hcells.2.2.2.2.1, (h.cell (p := ⟨o, 5, none⟩) lo).trans hcells.2.2.2.2.2.1, (h.cell (p := ⟨o, 6, none⟩) lo).trans hcells.2.2.2.2.2.2.1, (h.cell (p := ⟨o, 7, none⟩) lo).trans hcells.2.2.2.2.2.2.2⟩
  obtain ⟨y0, y1, y2, y3, y4, y5, y6, y7⟩ := hcells
  have na0 : ¬ w5.heap.size = o := by omega
  have nb0 : ¬ o = w5.heap.size := by omega
  clear hsp q1 q2 q3 q4 q5 hB1 hbA go hgz al0 hG1
  go_upto_region 4 with fail
  go_cut [12] from 29 to 43 (fun vv wx => ∃ r, vv = .pointer (some ⟨r, 0, none⟩) ∧ Pb wx r 29 #[.int .i64 k, .bool pr, .int .u64 px, .int .u64 py, .int .u64 qx, .int .u64 qy] ∧ w5.heap.size ≤ r ∧ Below w5.heap.size w5 wx)
  case first =>
    have HP : Hid _ := And.intro p1 (And.intro p2 (And.intro p3 (And.intro p4 (And.intro p5 (And.intro hG5 BB)))))
    clear p1 p2 p3 p4 p5 hG5 BB hcr hpf hm1 HP
    go_region_held3 (fun w' => w'.cell? ⟨o, 0, none⟩ = some (.int .i64 A1) ∧ w'.cell? ⟨o, 1, none⟩ = some (.int .i64 A2) ∧ w'.cell? ⟨o, 2, none⟩ = some (.int .i64 B1) ∧ w'.cell? ⟨o, 3, none⟩ = some (.int .i64 B2) ∧ w'.cell? ⟨o, 4, none⟩ = some (.int .i64 C1) ∧ w'.cell? ⟨o, 5, none⟩ = some (.int .i64 C2) ∧ w'.cell? ⟨o, 6, none⟩ = some (.int .i64 D1) ∧ w'.cell? ⟨o, 7, none⟩ = some (.int .i64 D2)) (go_keep) (first | (go_at_call_of 36 A1; refine (hbt1 _).mono ?_; rintro e wX ⟨rfl, hboX⟩; have hb1X := bel_step (a := w5) hboX (by first | exact Below.refl _ _ | exact below_drewN (Below.refl _ _) 1 | exact alloc_below _ | exact below_drewN (alloc_below _) 1); have hbX := hb1X; have sX5 := hbX.size; have s1X := hb1X.size; have naX : ¬ wX.heap.size = o := (by omega); have nbX : ¬ o = wX.heap.size := (by omega); (first | (have NX : Pb wX w5.heap.size 29 #[.int .i64 0, .bool false, .int .u64 0, .int .u64 0, .int .u64 0, .int .u64 0] := (by refine Pb.later ?_ hboX; exact Pb.new w5 29 _)) | skip); clear y0 y1 y2 y3 y4 y5 y6 y7; obtain ⟨y0, y1, y2, y3, y4, y5, y6, y7⟩ := HO.out wX hbX) | (go_at_call_of 36 C1; refine (hbt2 _).mono ?_; rintro e wY ⟨rfl, hboY⟩; have hb1Y := bel_step (a := wX) hboY (by first | exact Below.refl _ _ | exact below_drewN (Below.refl _ _) 1 | exact alloc_below _ | exact below_drewN (alloc_below _) 1); have hbY := (hbX.trans (hb1Y.mono hbX.size)); have sY5 := hbY.size; have s1Y := hb1Y.size; have naY : ¬ wY.heap.size = o := (by omega); have nbY : ¬ o = wY.heap.size := (by omega); (first | (have NY := NX.later hb1Y) | (have NY : Pb wY wX.heap.size 29 #[.int .i64 0, .bool false, .int .u64 0, .int .u64 0, .int .u64 0, .int .u64 0] := (by refine Pb.later ?_ hboY; exact Pb.new wX 29 _)) | skip); clear y0 y1 y2 y3 y4 y5 y6 y7; obtain ⟨y0, y1, y2, y3, y4, y5, y6, y7⟩ := HO.out wY hbY) | (go_at_call_of 35 L11; refine (hmt _).mono ?_; rintro e wZ ⟨rfl, hboZ⟩; have hb1Z := bel_step (a := wY) hboZ (by first | exact Below.refl _ _ | exact below_drewN (Below.refl _ _) 1 | exact alloc_below _ | exact below_drewN (alloc_below _) 1); have hbZ := (hbY.trans (hb1Z.mono hbY.size)); have sZ5 := hbZ.size; have s1Z := hb1Z.size; have naZ : ¬ wZ.heap.size = o := (by omega); have nbZ : ¬ o = wZ.heap.size := (by omega); (first | (have NZ := NY.later hb1Z) | (have NZ : Pb wZ wY.heap.size 29 #[.int .i64 0, .bool false, .int .u64 0, .int .u64 0, .int .u64 0, .int .u64 0] := (by refine Pb.later ?_ hboZ; exact Pb.new wY 29 _)) | skip); clear y0 y1 y2 y3 y4 y5 y6 y7; (try (obtain ⟨i0, i1, i2, i3, i4, i5⟩ := NZ.cells6)); (try (obtain ⟨f0, f1, f2, f3, f4, f5⟩ := NZ.free6)); obtain ⟨y0, y1, y2, y3, y4, y5, y6, y7⟩ := HO.out wZ hbZ))
    all_goals (go_wp2_with fail)
    all_goals go_meet
    · exact ⟨wZ.heap.size, rfl, Pb.new _ _ _, hbZ.size, hbZ.trans ((alloc_below _).mono hbZ.size)⟩
    · exact ⟨wY.heap.size, rfl, NZ.put6 _ _ _ _ _ _, sY5, below_in hbZ (in6p wZ wY.heap.size (.int .i64 k) (.bool pr) (.int .u64 px) (.int .u64 py) (.int .u64 qx) (.int .u64 qy)) sY5 (Nat.le_refl _)⟩
    · exact ⟨wX.heap.size, rfl, NZ.put6 _ _ _ _ _ _, sX5, below_in hbZ (in6p wZ wX.heap.size (.int .i64 k) (.bool pr) (.int .u64 px) (.int .u64 py) (.int .u64 qx) (.int .u64 qy)) sX5 (Nat.le_refl _)⟩
    · exact ⟨w5.heap.size, rfl, NZ.put6 _ _ _ _ _ _, Nat.le_refl _, below_in hbZ (in6p wZ w5.heap.size (.int .i64 k) (.bool pr) (.int .u64 px) (.int .u64 py) (.int .u64 qx) (.int .u64 qy)) (Nat.le_refl _) (Nat.le_refl _)⟩
  obtain ⟨r, rfl, NR, hr5, hbR⟩ := hcut
  obtain ⟨wR, hwR⟩ : ∃ wR, wR = wc := ⟨_, rfl⟩
  subst hwR
  have q1 := p1.later hbR
  have q2 := p2.later hbR
  have q3 := p3.later hbR
  have q4 := p4.later hbR
  have q5 := p5.later hbR
  have hGR := hG5.later hbR
  have BR := BB.trans (hbR.mono (by omega))
  have hrl := NR.lt
  have hgr : g + 5 ≤ r := by omega
  have m1' : ¬ g + 1 + 1 + 1 + 1 = r := by omega
  have m2' : ¬ r = g + 1 + 1 + 1 + 1 := by omega
  clear p1 p2 p3 p4 p5 hG5 BB hbt1 hbt2 hmt HO y0 y1 y2 y3 y4 y5 y6 y7 hbR
  obtain ⟨i0, i1, i2, i3, i4, i5⟩ := NR.cells6
  cases pr with
  | false =>
    have HS : Hid _ := And.intro q5 BR
    clear q1 q2 q3 q4 q5 hGR BR hcr hpf hm1 NR
    obtain ⟨z0, z1, z2, z3, z4, z5⟩ := HS.out.1.cells6
    obtain ⟨f0, f1, f2, f3, f4, f5⟩ := HS.out.1.free6
    go_wp2
    have T9 := HS.out.1.put6 (.int .i64 k) (.bool false) (.int .u64 px) (.int .u64 py) (.int .u64 qx) (.int .u64 qy)
    have I9 := in6p wR (g + 1 + 1 + 1 + 1) (.int .i64 k) (.bool false) (.int .u64 px) (.int .u64 py) (.int .u64 qx) (.int .u64 qy)
    obtain ⟨t0, t1, t2, t3, t4, t5⟩ := T9.cells6
    refine bodyPost_ret (v := .tuple #[.agg #[.int .i64 k, .bool false, .int .u64 px, .int .u64 py, .int .u64 qx, .int .u64 qy], .int .i64 0]) (by simp [results, Tryz.results10, go_sem, t0, t1, t2, t3, t4, t5]) rfl ?_
    have B9 := below_in HS.out.2 I9 (by omega) (Nat.le_of_eq HG.out.symm)
    refine ⟨rfl, ?_⟩
    rw [HG.out]
    exact B9
  | true =>
    have hM := hm1 rfl
    simp only [Prod.mk.injEq] at hM
    obtain ⟨⟨rfl, _⟩, ⟨rfl, rfl⟩, rfl, rfl⟩ := hM
    have hF := hpf rfl
    clear hm1 hpf
    obtain ⟨x1, x2⟩ := q1.two
    obtain ⟨x3, x4⟩ := q2.two
    obtain ⟨x5, x6⟩ := q3.two
    obtain ⟨x7, x8⟩ := q4.two
    go_wp2_with fail
    refine (hcr wR).mono ?_
    rintro e wE (⟨h0, _⟩ | ⟨_, s1, a1, n1, c1, b1, m1, d1, s2, a2, n2, c2, b2, m2, d2, rfl, R1, R2, zz1, zz2, hbE⟩)
    · exact absurd h0 hF
    · clear hcr hF
      obtain ⟨N1, N2, hbN⟩ := pb_two' wE #[.bool s1, .slice a1 n1 c1, .slice b1 m1 d1] #[.bool s2, .slice a2 n2 c2, .slice b2 m2 d2] 45 45
      have hN := hbE.trans (hbN.mono hbE.size)
      have M1 := R1.later hbN
      have M2 := R2.later hbN
      have hgE : g + 5 ≤ wE.heap.size := by have := hbE.size; omega
      have hrE : r < wE.heap.size := by have := hbE.size; omega
      clear R1 R2 hbN hbE x1 x2 x3 x4 x5 x6 x7 x8 i0 i1 i2 i3 i4 i5
      go_upto_region 7 with fail
      obtain ⟨y, hy⟩ : ∃ y, y = wE.heap.size := ⟨_, rfl⟩
      rw [← hy] at N1 N2 hgE hrE ⊢
      generalize (wE.alloc (.cells #[.bool s1, .slice a1 n1 c1, .slice b1 m1 d1] 45)).alloc (.cells #[.bool s2, .slice a2 n2 c2, .slice b2 m2 d2] 45) = wN at *
      clear hy
      obtain ⟨x1, x2, x3⟩ := pb_tri N1
      obtain ⟨x4, x5, x6⟩ := pb_tri N2
      have NR2 := NR.later hN
      have Q5 := q5.later hN
      have BN := BR.trans (hN.mono (by omega))
      have GN := hGR.later hN
      have szN : y + 1 < wN.heap.size := N2.lt
      clear NR q1 q2 q3 q4 q5 BR hGR hN
      go_wp2_with fail
      refine (rounded23_any M1.rt22 M2.rt22 zz1 zz2 (by omega) GN).mono ?_
      rintro e wF ⟨v, u, rfl, hv, hu, uv, uu, hbF⟩
      have NR3 := NR2.later hbF
      have q5 := Q5.later hbF
      have BF := BN.trans (hbF.mono (by omega))
      obtain ⟨i0, i1, i2, i3, i4, i5⟩ := NR3.cells6
      obtain ⟨j0, j1, j2, j3, j4, j5⟩ := NR3.free6
      have N4 := (NR3.set 2 (.int .u64 v)).set 3 (.int .u64 u)
      have I4 : In r (r + 1) wF ((wF.setCell ⟨r, 2, none⟩ (.int .u64 v)).setCell ⟨r, 3, none⟩ (.int .u64 u)) := ((In.refl _ _ wF).set1 2 _).set1 3 _
      have q6 := q5.inn I4 m1'
      have B4 := below_in BF I4 (by omega) (Nat.le_of_eq HG.out.symm)
      have HV : Hid _ := And.intro hv (And.intro hu (And.intro uv uu))
      clear M1 M2 GN NR2 Q5 BN hbF x1 x2 x3 x4 x5 x6 NR3 q5 BF I4 hv hu uv uu zz1 zz2 N1 N2
      go_upto_region 8 with fail
      generalize (wF.setCell ⟨r, 2, none⟩ (.int .u64 v)).setCell ⟨r, 3, none⟩ (.int .u64 u) = w9 at *
      clear i0 i1 i2 i3 i4 i5 j0 j1 j2 j3 j4 j5
      have N5 : Pb w9 r 29 #[.int .i64 1, .bool true, .int .u64 v, .int .u64 u, .int .u64 0, .int .u64 0] := N4
      obtain ⟨i0, i1, i2, i3, i4, i5⟩ := N5.cells6
      have HS : Hid _ := And.intro q6 B4
      clear N4 N5 q6 B4
      obtain ⟨z0, z1, z2, z3, z4, z5⟩ := HS.out.1.cells6
      obtain ⟨f0, f1, f2, f3, f4, f5⟩ := HS.out.1.free6
      go_wp2
      have T9 := HS.out.1.put6 (.int .i64 1) (.bool true) (.int .u64 v) (.int .u64 u) (.int .u64 0) (.int .u64 0)
      have I9 := in6p w9 (g + 1 + 1 + 1 + 1) (.int .i64 1) (.bool true) (.int .u64 v) (.int .u64 u) (.int .u64 0) (.int .u64 0)
      obtain ⟨t0, t1, t2, t3, t4, t5⟩ := T9.cells6
      refine bodyPost_ret (v := .tuple #[.agg #[.int .i64 1, .bool true, .int .u64 v, .int .u64 u, .int .u64 0, .int .u64 0], .int .i64 0]) (by simp [results, Tryz.results10, go_sem, t0, t1, t2, t3, t4, t5]) rfl ?_
      have B9 := below_in HS.out.2 I9 (by omega) (Nat.le_of_eq HG.out.symm)
      refine ⟨v, HV.out.1, u, HV.out.2.1, HV.out.2.2.1, HV.out.2.2.2, rfl, ?_⟩
      rw [HG.out]
      exact B9
end Go.Proofs.YtienpliknhkbjaaGreatDoor

/- package seg: how two stretches meet, seen from all sides (pure; for SegSides, TopMeets). -/
namespace Go.Proofs.YtienpliknhkbjaaGreatDoor
open Na Ar
set_option linter.unusedVariables false
theorem lo_swap (p q : Int × Int) : loP q p = loP p q ∧ hiP q p = hiP p q := by
  have s := orP_swap p q
  unfold loP hiP
  rcases Int.lt_trichotomy (orP p q) 0 with h | h | h
  · rw [if_pos (show 0 < orP q p by omega), if_neg (show ¬ 0 < orP p q by omega), if_pos (show 0 < orP q p by omega), if_neg (show ¬ 0 < orP p q by omega)]
    exact ⟨rfl, rfl⟩
  · have e : p = q := orP_zero.mp h
    subst e
    exact ⟨rfl, rfl⟩
  · rw [if_neg (show ¬ 0 < orP q p by omega), if_pos h, if_neg (show ¬ 0 < orP q p by omega), if_pos h]
    exact ⟨rfl, rfl⟩
theorem mtQ_ab (a b c d : Int × Int) : mtQ b a c d = mtQ a b c d := by
  unfold mtQ
  rw [(lo_swap (rkP a) (rkP b)).1, (lo_swap (rkP a) (rkP b)).2]
theorem prP_swap (a b c d : Int × Int) : prP c d a b ↔ prP a b c d := ⟨fun h => ⟨h.2, h.1⟩, fun h => ⟨h.2, h.1⟩⟩
theorem ends_swap (a b c d x : Int × Int) : x ∈ endsP c d a b ↔ x ∈ endsP a b c d := by
  rw [ends_mem, ends_mem]
  constructor
  · rintro (h | h | h | h)
    · exact Or.inr (Or.inl h)
    · exact Or.inl h
    · exact Or.inr (Or.inr (Or.inr h))
    · exact Or.inr (Or.inr (Or.inl h))
  · rintro (h | h | h | h)
    · exact Or.inr (Or.inl h)
    · exact Or.inl h
    · exact Or.inr (Or.inr (Or.inr h))
    · exact Or.inr (Or.inr (Or.inl h))
/-- the least of places is told by what they are -/
theorem least_in (m : Int × Int) (l : List (Int × Int)) : leastP m l ∈ m :: l := by
  rcases (leastP_spec l m).1 with h | h
  · rw [h]; simp
  · exact List.mem_cons_of_mem _ h
theorem great_in (m : Int × Int) (l : List (Int × Int)) : greatP m l ∈ m :: l := by
  rcases (greatP_spec l m).1 with h | h
  · rw [h]; simp
  · exact List.mem_cons_of_mem _ h
theorem least_le {m : Int × Int} {l : List (Int × Int)} {x : Int × Int} (h : x ∈ m :: l) : orP (leastP m l) x ≤ 0 := by
  rcases List.mem_cons.mp h with rfl | h
  · exact (leastP_spec l x).2.1
  · exact (leastP_spec l m).2.2 x h
theorem great_ge {m : Int × Int} {l : List (Int × Int)} {x : Int × Int} (h : x ∈ m :: l) : orP x (greatP m l) ≤ 0 := by
  rcases List.mem_cons.mp h with rfl | h
  · exact (greatP_spec l x).2.1
  · exact (greatP_spec l m).2.2 x h
theorem least_same {m m' : Int × Int} {l l' : List (Int × Int)} (h : ∀ x, x ∈ m :: l ↔ x ∈ m' :: l') : leastP m l = leastP m' l' :=
  orP_anti (least_le ((h _).mpr (least_in m' l'))) (least_le ((h _).mp (least_in m l)))
theorem great_same {m m' : Int × Int} {l l' : List (Int × Int)} (h : ∀ x, x ∈ m :: l ↔ x ∈ m' :: l') : greatP m l = greatP m' l' :=
  orP_anti (great_ge ((h _).mp (great_in m l))) (great_ge ((h _).mpr (great_in m' l')))
/-- what meet answers of ends hangs on which they are -/
theorem mtE_same {L L' : List (Int × Int)} (h : ∀ x, x ∈ L ↔ x ∈ L') : mtE L = mtE L' := by
  cases L with
  | nil =>
    cases L' with
    | nil => rfl
    | cons m' l' => exact absurd ((h m').mpr (by simp)) (by simp)
  | cons m l =>
    cases L' with
    | nil => exact absurd ((h m).mp (by simp)) (by simp)
    | cons m' l' =>
      show (if leastP m l = greatP m l then _ else _) = (if leastP m' l' = greatP m' l' then _ else _)
      rw [least_same h, great_same h]
theorem mtP_swap (a b c d : Int × Int) : mtP c d a b = mtP a b c d := by
  by_cases h : prP a b c d
  · rw [mtP_proper h, mtP_proper ((prP_swap a b c d).mpr h)]
  · rw [mtP_E h, mtP_E (fun k => h ((prP_swap a b c d).mp k))]
    exact mtE_same (ends_swap a b c d)
theorem mtQ_swap (a b c d : Int × Int) : mtQ c d a b = mtQ a b c d := by
  unfold mtQ
  exact mtP_swap _ _ _ _
/-- turned about 0 -/
def ngP (p : Int × Int) : Int × Int := (-p.1, -p.2)
theorem ngP_ng (p : Int × Int) : ngP (ngP p) = p := by unfold ngP; simp
theorem ord_neg (a b : Int) : ord (-a) (-b) = ord b a := by unfold ord; (repeat' split) <;> omega
theorem orP_ng (p q : Int × Int) : orP (ngP p) (ngP q) = orP q p := by
  unfold orP ngP
  simp only [ord_neg]
theorem pOk.ng {p : Int × Int} (h : pOk p) : pOk (ngP p) := ⟨h.1.neg, h.2.neg⟩
theorem sdP_ng {a b p : Int × Int} (ha : pOk a) (hb : pOk b) (hp : pOk p) : sdP (ngP a) (ngP b) (ngP p) = sdP a b p := by
  unfold sdP ngP
  simp only
  rw [vR_neg ha.1, vR_neg ha.2, vR_neg hb.1, vR_neg hb.2, vR_neg hp.1, vR_neg hp.2]
  congr 1
  unfold crR
  grind
theorem sdP_turn {a b p : Int × Int} : sdP b a p = - sdP a b p := by
  unfold sdP
  rw [crR_turn, sgnR_neg]
theorem onP_ng {a b p : Int × Int} (ha : pOk a) (hb : pOk b) (hp : pOk p) : onP (ngP b) (ngP a) (ngP p) = onP a b p := by
  have e : onP (ngP b) (ngP a) (ngP p) = true ↔ onP a b p = true := by
    rw [onP_iff, onP_iff, sdP_ng hb ha hp, orP_ng, orP_ng, sdP_turn]
    constructor
    · rintro ⟨h1, h2, h3⟩; exact ⟨by omega, h3, h2⟩
    · rintro ⟨h1, h2, h3⟩; exact ⟨by omega, h3, h2⟩
  cases h1 : onP a b p <;> cases h2 : onP (ngP b) (ngP a) (ngP p) <;> simp_all
theorem prP_ng {a b c d : Int × Int} (ha : pOk a) (hb : pOk b) (hc : pOk c) (hd : pOk d) : prP (ngP b) (ngP a) (ngP d) (ngP c) ↔ prP a b c d := by
  unfold prP
  rw [sdP_ng hb ha hd, sdP_ng hb ha hc, sdP_ng hd hc hb, sdP_ng hd hc ha, sdP_turn (a := a), sdP_turn (a := a), sdP_turn (a := c), sdP_turn (a := c), Int.neg_mul_neg, Int.neg_mul_neg, Int.mul_comm (sdP a b d), Int.mul_comm (sdP c d b)]
theorem ends_ng {a b c d : Int × Int} (ha : pOk a) (hb : pOk b) (hc : pOk c) (hd : pOk d) (x : Int × Int) : x ∈ endsP (ngP b) (ngP a) (ngP d) (ngP c) ↔ ngP x ∈ endsP a b c d := by
  rw [ends_mem, ends_mem, onP_ng ha hb hd, onP_ng hc hd hb, onP_ng ha hb hc, onP_ng hc hd ha]
  have k : ∀ y, (x = ngP y ↔ ngP x = y) := fun y => ⟨fun h => by rw [h, ngP_ng], fun h => by rw [← h, ngP_ng]⟩
  rw [k, k, k, k]
  constructor
  · rintro (h | h | h | h)
    · exact Or.inr (Or.inr (Or.inl h))
    · exact Or.inr (Or.inr (Or.inr h))
    · exact Or.inl h
    · exact Or.inr (Or.inl h)
  · rintro (h | h | h | h)
    · exact Or.inr (Or.inr (Or.inl h))
    · exact Or.inr (Or.inr (Or.inr h))
    · exact Or.inl h
    · exact Or.inr (Or.inl h)
theorem least_ng {m m' : Int × Int} {l l' : List (Int × Int)} (h : ∀ x, x ∈ m' :: l' ↔ ngP x ∈ m :: l) : leastP m' l' = ngP (greatP m l) ∧ greatP m' l' = ngP (leastP m l) := by
  have h' : ∀ x, ngP x ∈ m' :: l' ↔ x ∈ m :: l := fun x => by rw [h, ngP_ng]
  constructor
  · refine orP_anti (least_le ((h' _).mpr (great_in m l))) ?_
    have := great_ge (m := m) (l := l) ((h _).mp (least_in m' l'))
    have e := orP_ng (greatP m l) (ngP (leastP m' l'))
    rw [ngP_ng] at e
    rw [e]
    exact this
  · refine orP_anti ?_ (great_ge ((h' _).mpr (least_in m l)))
    have := least_le (m := m) (l := l) ((h _).mp (great_in m' l'))
    have e := orP_ng (ngP (greatP m' l')) (leastP m l)
    rw [ngP_ng] at e
    rw [e]
    exact this
end Go.Proofs.YtienpliknhkbjaaGreatDoor

/- package seg: the crossing's numbers, seen from all sides (pure). -/
namespace Go.Proofs.YtienpliknhkbjaaGreatDoor
open Na Ar
set_option linter.unusedVariables false
theorem share_mul (v0 v1 v2 v3 v4 v5 v6 v7 : Rat) (h : fallR v0 v1 v2 v3 v4 v5 v6 v7 ≠ 0) : shareR v0 v1 v2 v3 v4 v5 v6 v7 * fallR v0 v1 v2 v3 v4 v5 v6 v7 = crR v4 v5 v6 v7 v0 v1 := by
  unfold shareR
  exact Rat.div_mul_cancel h
theorem cancel_to {d x y : Rat} (hd : d ≠ 0) (h : d * x = d * y) : x = y := by
  have := rat_cancel hd (show d * (x - y) = 0 by grind)
  grind
theorem fall_ab (v0 v1 v2 v3 v4 v5 v6 v7 : Rat) : fallR v2 v3 v0 v1 v4 v5 v6 v7 = - fallR v0 v1 v2 v3 v4 v5 v6 v7 := by unfold fallR; grind
theorem fall_sw (v0 v1 v2 v3 v4 v5 v6 v7 : Rat) : fallR v4 v5 v6 v7 v0 v1 v2 v3 = - fallR v0 v1 v2 v3 v4 v5 v6 v7 := by unfold fallR crR; grind
theorem fall_ng (v0 v1 v2 v3 v4 v5 v6 v7 : Rat) : fallR (-v0) (-v1) (-v2) (-v3) (-v4) (-v5) (-v6) (-v7) = fallR v0 v1 v2 v3 v4 v5 v6 v7 := by unfold fallR crR; grind
theorem cross_ab (v0 v1 v2 v3 v4 v5 v6 v7 : Rat) (h : fallR v0 v1 v2 v3 v4 v5 v6 v7 ≠ 0) : xcR v2 v3 v0 v1 v4 v5 v6 v7 = xcR v0 v1 v2 v3 v4 v5 v6 v7 ∧ ycR v2 v3 v0 v1 v4 v5 v6 v7 = ycR v0 v1 v2 v3 v4 v5 v6 v7 := by
  have e1 := share_mul v0 v1 v2 v3 v4 v5 v6 v7 h
  have e2' := share_mul v2 v3 v0 v1 v4 v5 v6 v7 (by rw [fall_ab]; grind)
  rw [fall_ab] at e2'
  have k : shareR v2 v3 v0 v1 v4 v5 v6 v7 = 1 - shareR v0 v1 v2 v3 v4 v5 v6 v7 := by
    refine cancel_to h ?_
    have e3 : fallR v0 v1 v2 v3 v4 v5 v6 v7 = crR v4 v5 v6 v7 v0 v1 - crR v4 v5 v6 v7 v2 v3 := rfl
    grind
  unfold xcR ycR
  rw [k]
  constructor <;> grind
theorem cross_sw (v0 v1 v2 v3 v4 v5 v6 v7 : Rat) (h : fallR v0 v1 v2 v3 v4 v5 v6 v7 ≠ 0) : xcR v4 v5 v6 v7 v0 v1 v2 v3 = xcR v0 v1 v2 v3 v4 v5 v6 v7 ∧ ycR v4 v5 v6 v7 v0 v1 v2 v3 = ycR v0 v1 v2 v3 v4 v5 v6 v7 := by
  have e1 := share_mul v0 v1 v2 v3 v4 v5 v6 v7 h
  have e2' := share_mul v4 v5 v6 v7 v0 v1 v2 v3 (by rw [fall_sw]; grind)
  rw [fall_sw] at e2'
  have e3 : fallR v0 v1 v2 v3 v4 v5 v6 v7 = crR v4 v5 v6 v7 v0 v1 - crR v4 v5 v6 v7 v2 v3 := rfl
  have d := cross_diff v0 v1 v2 v3 v4 v5 v6 v7
  have dx := cross_x v0 v1 v2 v3 v4 v5 v6 v7
  have dy := cross_y v0 v1 v2 v3 v4 v5 v6 v7
  unfold xcR ycR
  generalize shareR v0 v1 v2 v3 v4 v5 v6 v7 = s at *
  generalize shareR v4 v5 v6 v7 v0 v1 v2 v3 = t at *
  generalize crR v4 v5 v6 v7 v0 v1 = A at *
  generalize crR v4 v5 v6 v7 v2 v3 = B at *
  generalize crR v0 v1 v2 v3 v4 v5 = C at *
  generalize crR v0 v1 v2 v3 v6 v7 = D at *
  generalize fallR v0 v1 v2 v3 v4 v5 v6 v7 = F at *
  have hB : B = A - F := by grind
  have hD : D = C + F := by grind
  subst hB hD
  constructor
  · refine cancel_to h ?_
    have p1 : F * (v4 + (v6 - v4) * t) = F * v4 - (v6 - v4) * C := by
      have : t * F = -C := by grind
      grind
    have p2 : F * (v0 + (v2 - v0) * s) = F * v0 + (v2 - v0) * A := by grind
    grind
  · refine cancel_to h ?_
    have p1 : F * (v5 + (v7 - v5) * t) = F * v5 - (v7 - v5) * C := by
      have : t * F = -C := by grind
      grind
    have p2 : F * (v1 + (v3 - v1) * s) = F * v1 + (v3 - v1) * A := by grind
    grind
theorem cross_ng (v0 v1 v2 v3 v4 v5 v6 v7 : Rat) : xcR (-v0) (-v1) (-v2) (-v3) (-v4) (-v5) (-v6) (-v7) = - xcR v0 v1 v2 v3 v4 v5 v6 v7 ∧ ycR (-v0) (-v1) (-v2) (-v3) (-v4) (-v5) (-v6) (-v7) = - ycR v0 v1 v2 v3 v4 v5 v6 v7 := by
  have k : shareR (-v0) (-v1) (-v2) (-v3) (-v4) (-v5) (-v6) (-v7) = shareR v0 v1 v2 v3 v4 v5 v6 v7 := by
    unfold shareR
    rw [fall_ng]
    congr 1
    unfold crR
    grind
  unfold xcR ycR
  rw [k]
  constructor <;> grind
end Go.Proofs.YtienpliknhkbjaaGreatDoor

/- package seg: two stretches that cross in (1 1). -/
namespace Go.Proofs.YtienpliknhkbjaaGreatDoor
open Go.ChangeShapes Go.WideShapes Go.ChangeAt Go.RowKit
open Na Ar
set_option linter.unusedVariables false
theorem al_proper : (mtQ (0, 0) (4611686018427387904, 4611686018427387904) (0, 4611686018427387904) (4611686018427387904, 0)).1.2 = true := mt_bool.1.mpr (by decide +kernel)
theorem al_x : xcR (valR 0) (valR 0) (valR 4611686018427387904) (valR 4611686018427387904) (valR 0) (valR 4611686018427387904) (valR 4611686018427387904) (valR 0) = valR 4607182418800017408 := by decide +kernel
theorem al_y : ycR (valR 0) (valR 0) (valR 4611686018427387904) (valR 4611686018427387904) (valR 0) (valR 4611686018427387904) (valR 4611686018427387904) (valR 0) = valR 4607182418800017408 := by decide +kernel
theorem al_round {v : Int} (h : RnIs (valR 4607182418800017408) v) : v = 4607182418800017408 := by
  obtain ⟨E, h⟩ := h
  have k := (round_val (b := 4607182418800017408) (by unfold U; omega) (by decide) rfl h).1
  rw [k]
  decide
theorem alive_meet {w : World} (hG : GrVar w) :
    Calls Tryz.prog 10 #[.agg #[.int .u64 0, .int .u64 0], .agg #[.int .u64 4611686018427387904, .int .u64 4611686018427387904], .agg #[.int .u64 0, .int .u64 4611686018427387904], .agg #[.int .u64 4611686018427387904, .int .u64 0]] w fun e w' => e = .returned (.tuple #[.agg #[.int .i64 1, .bool true, .int .u64 4607182418800017408, .int .u64 4607182418800017408, .int .u64 0, .int .u64 0], .int .i64 0]) ∧ Below w.heap.size w w' := by
  have z0 : U 0 := by unfold U; omega
  have z2 : U 4611686018427387904 := by unfold U; omega
  have f0 : ef 0 ≠ 2047 := by decide
  have f2 : ef 4611686018427387904 ≠ 2047 := by decide
  refine (Meet23_fin (w := w) (a := (0, 0)) (b := (4611686018427387904, 4611686018427387904)) (c := (0, 4611686018427387904)) (d := (4611686018427387904, 0)) ⟨z0, z0⟩ ⟨z2, z2⟩ ⟨z0, z2⟩ ⟨z2, z0⟩ ⟨f0, f0⟩ ⟨f2, f2⟩ ⟨f0, f2⟩ ⟨f2, f0⟩ hG).mono ?_
  rintro e w' (⟨h, _⟩ | ⟨_, v, u, hv, hu, _, _, rfl, hb⟩)
  · rw [al_proper] at h; cases h
  · have hv' : RnIs (valR 4607182418800017408) v := by rw [← al_x]; exact hv
    have hu' : RnIs (valR 4607182418800017408) u := by rw [← al_y]; exact hu
    rw [al_round hv', al_round hu']
    exact ⟨rfl, hb⟩
end Go.Proofs.YtienpliknhkbjaaGreatDoor

/- plumblaw23: finite, spot, spots, alive; what is not finite is refused (written by gensgo.py). -/
namespace Go.Proofs.YtienpliknhkbjaaGreatDoor
open Go.ChangeShapes Go.WideShapes Go.ChangeAt Go.RowKit
open Na Ar
set_option linter.unusedVariables false
theorem off_523 {b : Int} (h : U b) : ef (bits .andNot .u64 b 4503599627370496) ≠ 2047 := by
  have hu := U_bits_andNot h (show U 4503599627370496 by unfold U; omega)
  rw [andNot_and h (by unfold U; omega)] at *
  unfold U at h
  rw [u64_and b _ h.1 h.2 (by omega) (by omega)] at *
  have e : (18446744073709551615 - 4503599627370496 : Int).toNat = 18442240474082181119 := by decide
  rw [e]
  have t : (b.toNat &&& 18442240474082181119).testBit 52 = false := by
    rw [Nat.testBit_and, show (18442240474082181119 : Nat).testBit 52 = false by decide, Bool.and_false]
  rw [Nat.testBit_eq_decide_div_mod_eq] at t
  have t2 : ¬ ((b.toNat &&& 18442240474082181119) / 2 ^ 52 % 2 = 1) := by simpa using t
  have e2 : (2 : Nat) ^ 52 = 4503599627370496 := by decide
  rw [e2] at t2
  unfold ef
  omega
/-- a pattern made finite -/
def finF (b : Int) : Int := if ef b = 2047 then bits .andNot .u64 b 4503599627370496 else b
theorem finF_ok {b : Int} (h : U b) : U (finF b) ∧ ef (finF b) ≠ 2047 := by
  unfold finF
  split
  · exact ⟨U_bits_andNot h (by unfold U; omega), off_523 h⟩
  · exact ⟨h, by assumption⟩
theorem finite23_any {b : Int} (hu : U b) (w : World) : Calls Tryz.prog 62 #[.int .u64 b] w fun r w' => r = .returned (.int .u64 (finF b)) ∧ w' = w := by
  have h := field_and hu
  unfold finF
  by_cases q : ef b = 2047
  · rw [if_pos q]
    have d : (ef b == 2047) = true := beq_of q
    go_enter Tryz.func62, Tryz.ntmps62
    go_wp2
    go_ret
    exact ⟨rfl, rfl⟩
  · rw [if_neg q]
    have d : (ef b == 2047) = false := beq_no q
    go_enter Tryz.func62, Tryz.ntmps62
    go_wp2
    go_ret
    exact ⟨rfl, rfl⟩
set_option maxHeartbeats 3200000 in
set_option maxRecDepth 100000 in
theorem spot23_any {x y : Int} (ux : U x) (uy : U y) (w : World) :
    Calls Tryz.prog 27 #[.agg #[.int .u64 x, .int .u64 y]] w fun e w' => e = .returned (.agg #[.int .u64 (finF x), .int .u64 (finF y)]) ∧ Below w.heap.size w w' := by
  obtain ⟨w0, hw0⟩ : ∃ w0, w0 = (w.alloc (.cells #[.int .u64 x, .int .u64 y] 24)).alloc (.cells #[.int .u64 0, .int .u64 0] 24) := ⟨_, rfl⟩
  obtain ⟨u1, u2, hb0⟩ : Pb w0 w.heap.size 24 #[.int .u64 x, .int .u64 y] ∧ Pb w0 (w.heap.size + 1) 24 #[.int .u64 0, .int .u64 0] ∧ Below w.heap.size w w0 := by
    subst hw0
    exact pb_two' _ _ _ _ _
  have c1 := finite23_any ux
  have c2 := finite23_any uy
  generalize finF x = X at *
  generalize finF y = Y at *
  clear ux uy
  have HW0 : Hid ((w.alloc (.cells #[.int .u64 x, .int .u64 y] 24)).alloc (.cells #[.int .u64 0, .int .u64 0] 24) = w0) := hw0.symm
  clear hw0
  go_enter Tryz.func27, Tryz.ntmps27
  go_wp2
  rw [HW0.out]
  clear HW0
  obtain ⟨g, hg⟩ : ∃ g, g = w.heap.size := ⟨_, rfl⟩
  have HG : Hid (w.heap.size = g) := hg.symm
  rw [← hg] at u1 u2 hb0 ⊢
  clear hg
  obtain ⟨x0, x1⟩ := u1.two
  obtain ⟨y0, y1⟩ := u2.two
  have f0 := u2.frozen 0
  have f1 := u2.frozen 1
  have n0 : ¬ g = g + 1 := by omega
  have n1 : ¬ g + 1 = g := by omega
  go_region_held3 (fun w' => w'.cell? ⟨g, 0, none⟩ = some (.int .u64 x) ∧ w'.cell? ⟨g, 1, none⟩ = some (.int .u64 y)) (go_keep) (first | (go_at_call_of 62 x; refine (c1 _).mono ?_; rintro e wX ⟨rfl, rfl⟩) | (go_at_call_of 62 y; refine (c2 _).mono ?_; rintro e wX ⟨rfl, rfl⟩))
  go_wp2
  have T9 := ((u2.set 0 (.int .u64 X)).set 1 (.int .u64 Y))
  have I9 : In (g + 1) (g + 1 + 1) w0 ((w0.setCell ⟨g + 1, 0, none⟩ (.int .u64 X)).setCell ⟨g + 1, 1, none⟩ (.int .u64 Y)) := ((In.refl (g + 1) (g + 1 + 1) w0).set1 0 _).set1 1 _
  have t0 := T9.cell 0 (v := .int .u64 X) (by simp)
  have t1 := T9.cell 1 (v := .int .u64 Y) (by simp)
  refine bodyPost_ret (v := .agg #[.int .u64 X, .int .u64 Y]) (by simp [results, Tryz.results27, go_sem, t0, t1]) rfl ?_
  rw [HG.out]
  first
    | exact ⟨rfl, below_in hb0 I9 (by omega) (Nat.le_of_eq HG.out.symm)⟩
    | exact ⟨rfl, below_drewN (below_in hb0 I9 (by omega) (Nat.le_of_eq HG.out.symm)) 1⟩
set_option maxHeartbeats 6400000 in
set_option maxRecDepth 100000 in
theorem spots823_any {x0 x1 x2 x3 x4 x5 x6 x7 : Int} (u0 : U x0) (u1 : U x1) (u2 : U x2) (u3 : U x3) (u4 : U x4) (u5 : U x5) (u6 : U x6) (u7 : U x7) (w : World) :
    Calls Tryz.prog 9 #[.agg #[.int .u64 x0, .int .u64 x1, .int .u64 x2, .int .u64 x3, .int .u64 x4, .int .u64 x5, .int .u64 x6, .int .u64 x7]] w fun e w' => e = .returned (.agg #[.int .u64 (finF x0), .int .u64 (finF x1), .int .u64 (finF x2), .int .u64 (finF x3), .int .u64 (finF x4), .int .u64 (finF x5), .int .u64 (finF x6), .int .u64 (finF x7)]) ∧ Below w.heap.size w w' := by
  obtain ⟨w0, hw0⟩ : ∃ w0, w0 = (w.alloc (.cells #[.int .u64 x0, .int .u64 x1, .int .u64 x2, .int .u64 x3, .int .u64 x4, .int .u64 x5, .int .u64 x6, .int .u64 x7] 26)).alloc (.cells #[.int .u64 0, .int .u64 0, .int .u64 0, .int .u64 0, .int .u64 0, .int .u64 0, .int .u64 0, .int .u64 0] 26) := ⟨_, rfl⟩
  obtain ⟨v1, v2, hb0⟩ : Pb w0 w.heap.size 26 #[.int .u64 x0, .int .u64 x1, .int .u64 x2, .int .u64 x3, .int .u64 x4, .int .u64 x5, .int .u64 x6, .int .u64 x7] ∧ Pb w0 (w.heap.size + 1) 26 #[.int .u64 0, .int .u64 0, .int .u64 0, .int .u64 0, .int .u64 0, .int .u64 0, .int .u64 0, .int .u64 0] ∧ Below w.heap.size w w0 := by
    subst hw0
    exact pb_two' _ _ _ _ _
  have c0 := spot23_any u0 u1
  have c1 := spot23_any u2 u3
  have c2 := spot23_any u4 u5
  have c3 := spot23_any u6 u7
  generalize finF x0 = y0 at *
  generalize finF x1 = y1 at *
  generalize finF x2 = y2 at *
  generalize finF x3 = y3 at *
  generalize finF x4 = y4 at *
  generalize finF x5 = y5 at *
  generalize finF x6 = y6 at *
  generalize finF x7 = y7 at *
  clear u0 u1 u2 u3 u4 u5 u6 u7
  have HW0 : Hid ((w.alloc (.cells #[.int .u64 x0, .int .u64 x1, .int .u64 x2, .int .u64 x3, .int .u64 x4, .int .u64 x5, .int .u64 x6, .int .u64 x7] 26)).alloc (.cells #[.int .u64 0, .int .u64 0, .int .u64 0, .int .u64 0, .int .u64 0, .int .u64 0, .int .u64 0, .int .u64 0] 26) = w0) := hw0.symm
  clear hw0
  go_enter Tryz.func9, Tryz.ntmps9
  go_wp2
  rw [HW0.out]
  clear HW0
  obtain ⟨g, hg⟩ : ∃ g, g = w.heap.size := ⟨_, rfl⟩
  have HG : Hid (w.heap.size = g) := hg.symm
  rw [← hg] at v1 v2 hb0 ⊢
  clear hg
  have hz : g ≤ w0.heap.size := by have := v1.lt; omega
  have hcl : ∀ w', Below w0.heap.size w0 w' → (w'.cell? ⟨g, 0, none⟩ = some (.int .u64 x0) ∧ w'.cell? ⟨g, 1, none⟩ = some (.int .u64 x1) ∧ w'.cell? ⟨g, 2, none⟩ = some (.int .u64 x2) ∧ w'.cell? ⟨g, 3, none⟩ = some (.int .u64 x3) ∧ w'.cell? ⟨g, 4, none⟩ = some (.int .u64 x4) ∧ w'.cell? ⟨g, 5, none⟩ = some (.int .u64 x5) ∧ w'.cell? ⟨g, 6, none⟩ = some (.int .u64 x6) ∧ w'.cell? ⟨g, 7, none⟩ = some (.int .u64 x7)) ∧ (w'.cell? ⟨g + 1, 0, none⟩ = some (.int .u64 0) ∧ w'.cell? ⟨g + 1, 1, none⟩ = some (.int .u64 0) ∧ w'.cell? ⟨g + 1, 2, none⟩ = some (.int .u64 0) ∧ w'.cell? ⟨g + 1, 3, none⟩ = some (.int .u64 0) ∧ w'.cell? ⟨g + 1, 4, none⟩ = some (.int .u64 0) ∧ w'.cell? ⟨g + 1, 5, none⟩ = some (.int .u64 0) ∧ w'.cell? ⟨g + 1, 6, none⟩ = some (.int .u64 0) ∧ w'.cell? ⟨g + 1, 7, none⟩ = some (.int .u64 0)) ∧ (w'.frozen? ⟨g + 1, 0, none⟩ = false ∧ w'.frozen? ⟨g + 1, 1, none⟩ = false ∧ w'.frozen? ⟨g + 1, 2, none⟩ = false ∧ w'.frozen? ⟨g + 1, 3, none⟩ = false ∧ w'.frozen? ⟨g + 1, 4, none⟩ = false ∧ w'.frozen? ⟨g + 1, 5, none⟩ = false ∧ w'.frozen? ⟨g + 1, 6, none⟩ = false ∧ w'.frozen? ⟨g + 1, 7, none⟩ = false) := fun w' h => ⟨⟨(v1.later h).cell 0 rfl, (v1.later h).cell 1 rfl, (v1.later h).cell 2 rfl, (v1.later h).cell 3 rfl, (v1.later h).cell 4 rfl, (v1.later h).cell 5 rfl, (v1.later h).cell 6 rfl, (v1.later h).cell 7 rfl⟩, ⟨(v2.later h).cell 0 rfl, (v2.later h).cell 1 rfl, (v2.later h).cell 2 rfl, (v2.later h).cell 3 rfl, (v2.later h).cell 4 rfl, (v2.later h).cell 5 rfl, (v2.later h).cell 6 rfl, (v2.later h).cell 7 rfl⟩, ⟨(v2.later h).frozen _, (v2.later h).frozen _, (v2.later h).frozen _, (v2.later h).frozen _, (v2.later h).frozen _, (v2.later h).frozen _, (v2.later h).frozen _, (v2.later h).frozen _⟩⟩
  have HU : Hid (∀ w', Below w0.heap.size w0 w' → Pb w' (g + 1) 26 #[.int .u64 0, .int .u64 0, .int .u64 0, .int .u64 0, .int .u64 0, .int .u64 0, .int .u64 0, .int .u64 0]) := fun w' h => v2.later h
  obtain ⟨i0, i1, i2, i3, i4, i5, i6, i7⟩ := (hcl w0 (Below.refl _ _)).1
  have n0 : ¬ g = g + 1 := by omega
  have n1 : ¬ g + 1 = g := by omega
  clear v1 v2
  go_region_held3 (fun w' => w'.cell? ⟨g, 0, none⟩ = some (.int .u64 x0) ∧ w'.cell? ⟨g, 1, none⟩ = some (.int .u64 x1) ∧ w'.cell? ⟨g, 2, none⟩ = some (.int .u64 x2) ∧ w'.cell? ⟨g, 3, none⟩ = some (.int .u64 x3) ∧ w'.cell? ⟨g, 4, none⟩ = some (.int .u64 x4) ∧ w'.cell? ⟨g, 5, none⟩ = some (.int .u64 x5) ∧ w'.cell? ⟨g, 6, none⟩ = some (.int .u64 x6) ∧ w'.cell? ⟨g, 7, none⟩ = some (.int .u64 x7)) (go_keep) (first | (go_at_call_of 27 x0; refine (c0 _).mono ?_; rintro e wA ⟨rfl, hbo0⟩; have hbA := bel_step (a := w0) hbo0 (by first | exact Below.refl _ _ | exact below_drewN (Below.refl _ _) 1); clear i0 i1 i2 i3 i4 i5 i6 i7; obtain ⟨⟨i0, i1, i2, i3, i4, i5, i6, i7⟩, ⟨k0, k1, k2, k3, k4, k5, k6, k7⟩, ⟨f0, f1, f2, f3, f4, f5, f6, f7⟩⟩ := hcl wA hbA) | (go_at_call_of 27 x2; refine (c1 _).mono ?_; rintro e wB ⟨rfl, hbo1⟩; have hbB := hbA.trans ((bel_step (a := wA) hbo1 (by first | exact Below.refl _ _ | exact below_drewN (Below.refl _ _) 1)).mono hbA.size); clear i0 i1 i2 i3 i4 i5 i6 i7; obtain ⟨⟨i0, i1, i2, i3, i4, i5, i6, i7⟩, ⟨k0, k1, k2, k3, k4, k5, k6, k7⟩, ⟨f0, f1, f2, f3, f4, f5, f6, f7⟩⟩ := hcl wB hbB) | (go_at_call_of 27 x4; refine (c2 _).mono ?_; rintro e wC ⟨rfl, hbo2⟩; have hbC := hbB.trans ((bel_step (a := wB) hbo2 (by first | exact Below.refl _ _ | exact below_drewN (Below.refl _ _) 1)).mono hbB.size); clear i0 i1 i2 i3 i4 i5 i6 i7; obtain ⟨⟨i0, i1, i2, i3, i4, i5, i6, i7⟩, ⟨k0, k1, k2, k3, k4, k5, k6, k7⟩, ⟨f0, f1, f2, f3, f4, f5, f6, f7⟩⟩ := hcl wC hbC) | (go_at_call_of 27 x6; refine (c3 _).mono ?_; rintro e wD ⟨rfl, hbo3⟩; have hbD := hbC.trans ((bel_step (a := wC) hbo3 (by first | exact Below.refl _ _ | exact below_drewN (Below.refl _ _) 1)).mono hbC.size); clear i0 i1 i2 i3 i4 i5 i6 i7; obtain ⟨⟨i0, i1, i2, i3, i4, i5, i6, i7⟩, ⟨k0, k1, k2, k3, k4, k5, k6, k7⟩, ⟨f0, f1, f2, f3, f4, f5, f6, f7⟩⟩ := hcl wD hbD))
  go_wp2
  have T9 := ((((((((HU.out wD hbD).set 0 (.int .u64 y0)).set 1 (.int .u64 y1)).set 2 (.int .u64 y2)).set 3 (.int .u64 y3)).set 4 (.int .u64 y4)).set 5 (.int .u64 y5)).set 6 (.int .u64 y6)).set 7 (.int .u64 y7)
  have I9 : In (g + 1) (g + 1 + 1) wD ((((((((wD.setCell ⟨g + 1, 0, none⟩ (.int .u64 y0)).setCell ⟨g + 1, 1, none⟩ (.int .u64 y1)).setCell ⟨g + 1, 2, none⟩ (.int .u64 y2)).setCell ⟨g + 1, 3, none⟩ (.int .u64 y3)).setCell ⟨g + 1, 4, none⟩ (.int .u64 y4)).setCell ⟨g + 1, 5, none⟩ (.int .u64 y5)).setCell ⟨g + 1, 6, none⟩ (.int .u64 y6)).setCell ⟨g + 1, 7, none⟩ (.int .u64 y7)) := (((((((((In.refl (g + 1) (g + 1 + 1) wD).set1 0 _).set1 1 _).set1 2 _).set1 3 _).set1 4 _).set1 5 _).set1 6 _).set1 7 _)
  have t0 := T9.cell 0 (v := .int .u64 y0) (by simp)
  have t1 := T9.cell 1 (v := .int .u64 y1) (by simp)
  have t2 := T9.cell 2 (v := .int .u64 y2) (by simp)
  have t3 := T9.cell 3 (v := .int .u64 y3) (by simp)
  have t4 := T9.cell 4 (v := .int .u64 y4) (by simp)
  have t5 := T9.cell 5 (v := .int .u64 y5) (by simp)
  have t6 := T9.cell 6 (v := .int .u64 y6) (by simp)
  have t7 := T9.cell 7 (v := .int .u64 y7) (by simp)
  refine bodyPost_ret (v := .agg #[.int .u64 y0, .int .u64 y1, .int .u64 y2, .int .u64 y3, .int .u64 y4, .int .u64 y5, .int .u64 y6, .int .u64 y7]) (by simp [results, Tryz.results9, go_sem, t0, t1, t2, t3, t4, t5, t6, t7]) rfl ?_
  rw [HG.out]
  exact ⟨rfl, below_in (hb0.trans (hbD.mono hz)) I9 (by omega) (Nat.le_of_eq HG.out.symm)⟩
set_option maxHeartbeats 3200000 in
set_option maxRecDepth 100000 in
theorem alive23_any {w : World} (hG : GrVar w) : Calls Tryz.prog 12 #[] w fun e w' => e = .returned (.bool true) ∧ Below w.heap.size w w' := by
  go_enter Tryz.func12, Tryz.ntmps12
  go_wp2_with fail
  refine (alive_meet hG).mono ?_
  rintro e wA ⟨rfl, hbA⟩
  have al := alloc_below (w := wA) (.cells #[.int .i64 1, .bool true, .int .u64 4607182418800017408, .int .u64 4607182418800017408, .int .u64 0, .int .u64 0] 29)
  have N := (Pb.new wA 29 #[.int .i64 1, .bool true, .int .u64 4607182418800017408, .int .u64 4607182418800017408, .int .u64 0, .int .u64 0]).cells6
  obtain ⟨i0, i1, i2, i3, i4, i5⟩ := N
  have B := hbA.trans (al.mono hbA.size)
  clear hbA al
  go_wp2
  go_ret
  exact ⟨rfl, B⟩
end Go.Proofs.YtienpliknhkbjaaGreatDoor

/- plumblaw23: place, turned. -/
namespace Go.Proofs.YtienpliknhkbjaaGreatDoor
open Go.ChangeShapes Go.WideShapes Go.ChangeAt Go.RowKit
open Na Ar
set_option linter.unusedVariables false
set_option maxHeartbeats 3200000 in
set_option maxRecDepth 100000 in
theorem place23_any {a b : Int × Int} (ua : U2 a) (ub : U2 b) (fa : fin2 a) (fb : fin2 b) (w : World) :
    Calls Tryz.prog 15 #[.agg #[.int .u64 a.1, .int .u64 a.2], .agg #[.int .u64 b.1, .int .u64 b.2]] w fun e w' => e = .returned (.bool (ordS (valR a.1) (valR a.2) (valR b.1) (valR b.2) == 0)) ∧ Below w.heap.size w w' := by
  obtain ⟨w0, hw0⟩ : ∃ w0, w0 = (w.alloc (.cells #[.int .u64 a.1, .int .u64 a.2] 24)).alloc (.cells #[.int .u64 b.1, .int .u64 b.2] 24) := ⟨_, rfl⟩
  obtain ⟨u1, u2, hb0⟩ : Pb w0 w.heap.size 24 #[.int .u64 a.1, .int .u64 a.2] ∧ Pb w0 (w.heap.size + 1) 24 #[.int .u64 b.1, .int .u64 b.2] ∧ Below w.heap.size w w0 := by
    subst hw0
    exact pb_two' _ _ _ _ _
  have c1 := Order22_fin (w := w0) ua ub fa fb
  generalize ordS (valR a.1) (valR a.2) (valR b.1) (valR b.2) = O at *
  obtain ⟨x0, x1⟩ := u1.two
  obtain ⟨y0, y1⟩ := u2.two
  clear u1 u2 ua ub fa fb
  go_enter Tryz.func15, Tryz.ntmps15
  go_wp2_with fail
  rw [← hw0]
  clear hw0 x0 x1 y0 y1
  refine c1.mono ?_
  rintro e wA ⟨rfl, hbA⟩
  clear c1
  go_wp2
  go_ret
  exact ⟨rfl, hb0.trans (hbA.mono hb0.size)⟩
end Go.Proofs.YtienpliknhkbjaaGreatDoor

/- plumblaw23: like. -/
namespace Go.Proofs.YtienpliknhkbjaaGreatDoor
open Go.ChangeShapes Go.WideShapes Go.ChangeAt Go.RowKit
open Na Ar
set_option linter.unusedVariables false
/-- two points of one place -/
def SmP (a b : Int × Int) : Prop := ordS (valR a.1) (valR a.2) (valR b.1) (valR b.2) = 0
theorem place23_yes {a b : Int × Int} (ua : U2 a) (ub : U2 b) (fa : fin2 a) (fb : fin2 b) (h : SmP a b) (w : World) :
    Calls Tryz.prog 15 #[.agg #[.int .u64 a.1, .int .u64 a.2], .agg #[.int .u64 b.1, .int .u64 b.2]] w fun e w' => e = .returned (.bool true) ∧ Below w.heap.size w w' := by
  refine (place23_any ua ub fa fb w).mono ?_
  rintro e w' ⟨rfl, hb⟩
  unfold SmP at h
  rw [h]
  exact ⟨rfl, hb⟩
end Go.Proofs.YtienpliknhkbjaaGreatDoor

/- What is rounded once is one, and turned about 0 with its number; ranks of turned points. -/
namespace Go.Proofs.YtienpliknhkbjaaGreatDoor
open Go.ChangeShapes Go.WideShapes Go.ChangeAt Go.RowKit
open Na Ar
set_option linter.unusedVariables false
theorem rn_one {q : Rat} {v v' : Int} (h : RnIs q v) (h' : RnIs q v') : v = v' := by
  obtain ⟨E, h⟩ := h
  obtain ⟨E', h'⟩ := h'
  have hd : (0 : Int) < (q.den : Int) := by have := q.den_pos; omega
  exact (roundIs_uniq (scB_pos' hd) h h').1
/-- the size of what rounding answers does not hang on the sign -/
theorem round_turn {A B v v' E E' : Int} {s s' : Bool} (hB : 0 < B) (h : RoundIs A B false s 0 v E) (h' : RoundIs A B false s' 0 v' E') :
    (∃ m, 0 ≤ m ∧ m ≤ mostP ∧ v = m + sgB s ∧ v' = m + sgB s') ∨ (v = 0 ∧ v' = 0) := by
  obtain ⟨d, h1, h⟩ := h
  obtain ⟨d', h1', h'⟩ := h'
  have := belP_uniq hB h1 h1'
  subst this
  have e : upP A B false s 0 d = upP A B false s' 0 d := rfl
  rw [e] at h
  obtain ⟨z0, z1, _, _⟩ := h1
  rcases h with ⟨c, rfl, rfl⟩ | ⟨⟨c1, c2⟩, h⟩ <;> rcases h' with ⟨c', rfl, rfl⟩ | ⟨⟨c1', c2'⟩, h'⟩
  · exact Or.inl ⟨d, z0, z1, rfl, rfl⟩
  · rcases c with c | c
    · exact absurd c c1'
    · rw [c] at c2'; cases c2'
  · rcases c' with c' | c'
    · exact absurd c' c1
    · rw [c'] at c2; cases c2
  · rcases h with ⟨x, rfl, rfl⟩ | ⟨x, rfl, rfl⟩ <;> rcases h' with ⟨x', rfl, rfl⟩ | ⟨x', rfl, rfl⟩
    · exact Or.inr ⟨rfl, rfl⟩
    · omega
    · omega
    · exact Or.inl ⟨d + 1, by omega, by omega, rfl, rfl⟩
theorem sgn_val {m : Int} (h0 : 0 ≤ m) (h1 : m ≤ mostP) (s : Bool) : U (m + sgB s) ∧ ef (m + sgB s) ≠ 2047 ∧ valR (m + sgB (!s)) = - valR (m + sgB s) := by
  have hm : mostP = 9218868437227405311 := rfl
  have e0 : sgB false = 0 := rfl
  have e1 : sgB true = 9223372036854775808 := rfl
  have k := sgn_low h0 h1
  cases s with
  | false =>
    rw [e0, Int.add_zero]
    refine ⟨by unfold U; omega, by unfold ef; omega, ?_⟩
    show valR (m + sgB true) = _
    rw [e1]; exact k
  | true =>
    rw [e1]
    refine ⟨by unfold U; omega, by unfold ef; omega, ?_⟩
    show valR (m + sgB false) = _
    rw [e0, Int.add_zero, k]; grind
/-- what is rounded is finite -/
theorem rn_fin {q : Rat} {v : Int} (h : RnIs q v) : U v ∧ ef v ≠ 2047 := by
  obtain ⟨E, h⟩ := h
  have hd : (0 : Int) < (q.den : Int) := by have := q.den_pos; omega
  rcases round_turn (scB_pos' hd) h h with ⟨m, h0, h1, rfl, _⟩ | ⟨rfl, _⟩
  · exact ⟨(sgn_val h0 h1 _).1, (sgn_val h0 h1 _).2.1⟩
  · exact ⟨by unfold U; omega, by decide⟩
theorem rn_ng {q : Rat} {v v' : Int} (h : RnIs q v) (h' : RnIs (-q) v') : valR v' = - valR v := by
  obtain ⟨E, h⟩ := h
  obtain ⟨E', h'⟩ := h'
  have hd : (0 : Int) < (q.den : Int) := by have := q.den_pos; omega
  rw [Rat.neg_num, Rat.neg_den, Int.natAbs_neg] at h'
  by_cases hz : q.num = 0
  · rw [hz] at h h'
    rw [show (0 : Int).natAbs = 0 from rfl] at h h'
    have e : decide (-(0 : Int) < 0) = decide ((0 : Int) < 0) := rfl
    rw [e] at h'
    have k := (roundIs_uniq (scB_pos' hd) h h').1
    subst k
    have hA : scA ((0 : Nat) : Int) 0 = 0 := by unfold scA; simp
    rw [hA] at h
    obtain ⟨d, ⟨d0, d1, d2, d3⟩, h⟩ := h
    have hn := num_nonneg' d0 d1
    have hp := scB_pos' (x := 0) hd
    have n0 : numW d = 0 := by
      rcases Int.lt_or_eq_of_le hn with l | l
      · have := Int.mul_pos l hp; omega
      · exact l.symm
    have dz : d = 0 := by
      rcases Int.lt_or_eq_of_le d0 with l | l
      · have u0 : U 0 := by unfold U; omega
        have f0 : ef 0 ≠ 2047 := by decide
        obtain ⟨u1, f1, m1⟩ := size_fin d0 d1
        have o := (num_ord u0 u1 f0 f1).1 (by rw [m1]; show mg 0 < d; have : mg 0 = 0 := by decide
                                              omega)
        have : numW 0 = 0 := by decide +kernel
        omega
      · exact l.symm
    subst dz
    have ag : agn 0 (scB (q.den : Int) 0) (numW 0) false = 0 := by
      rw [n0]; unfold agn; simp
    rcases h with ⟨_, rfl, _⟩ | ⟨⟨c, _⟩, _⟩
    · have : (0 : Int) + sgB (decide ((0 : Int) < 0)) = 0 := rfl
      rw [this, valR_zero]; grind
    · exact absurd ag c
  · have e : decide (-q.num < 0) = !decide (q.num < 0) := by
      rw [Bool.eq_iff_iff]; simp only [decide_eq_true_eq, Bool.not_eq_true', decide_eq_false_iff_not]; omega
    rw [e] at h'
    rcases round_turn (scB_pos' hd) h h' with ⟨m, h0, h1, rfl, rfl⟩ | ⟨rfl, rfl⟩
    · exact (sgn_val h0 h1 _).2.2
    · rw [valR_zero]; grind
theorem rk_ng {b : Int} (hu : U b) (hf : ef b ≠ 2047) : rk0 (negW b) = - rk0 b := by
  unfold U at hu
  unfold rk0 negW
  (repeat' split) <;> omega
theorem fin_ng {b : Int} (hu : U b) (hf : ef b ≠ 2047) : ef (negW b) ≠ 2047 := by rw [ef_negW hu]; exact hf
theorem val_ng {b : Int} (hu : U b) (hf : ef b ≠ 2047) : valR (negW b) = - valR b := by
  have := valR_neg hu hf
  grind
/-- a point turned about 0 -/
def tnP (p : Int × Int) : Int × Int := (negW p.1, negW p.2)
theorem rkP_tn {p : Int × Int} (hu : U2 p) (hf : fin2 p) : rkP (tnP p) = ngP (rkP p) := by
  unfold rkP tnP ngP
  rw [rk_ng hu.1 hf.1, rk_ng hu.2 hf.2]
end Go.Proofs.YtienpliknhkbjaaGreatDoor

/- What meet answers of points turned about 0 (pure). -/
namespace Go.Proofs.YtienpliknhkbjaaGreatDoor
open Go.ChangeShapes Go.WideShapes Go.ChangeAt Go.RowKit
open Na Ar
set_option linter.unusedVariables false
theorem lo_ng (p q : Int × Int) : loP (ngP p) (ngP q) = ngP (hiP p q) ∧ hiP (ngP p) (ngP q) = ngP (loP p q) := by
  have e := orP_ng p q
  have s := orP_swap p q
  unfold loP hiP
  rw [e]
  by_cases h : 0 < orP p q
  · rw [if_pos h, if_neg (by omega), if_pos h, if_neg (by omega)]
    exact ⟨rfl, rfl⟩
  · rw [if_neg h, if_neg h]
    by_cases h' : 0 < orP q p
    · rw [if_pos h', if_pos h']; exact ⟨rfl, rfl⟩
    · have : p = q := orP_zero.mp (by omega)
      subst this
      simp only [ite_self, and_self]
/-- a point and its turned one, by numbers -/
def NgQ (p q : Int × Int) : Prop := U2 p ∧ fin2 p ∧ U2 q ∧ fin2 q ∧ valR q.1 = - valR p.1 ∧ valR q.2 = - valR p.2
/-- a meeting and that of points turned about 0 -/
def NgM (M N : (Int × Bool) × (Int × Int) × (Int × Int)) : Prop := N.1 = M.1 ∧ (if M.1.1 = 2 then NgQ M.2.1 N.2.2 ∧ NgQ M.2.2 N.2.1 else NgQ M.2.1 N.2.1 ∧ NgQ M.2.2 N.2.2)
theorem ngQ_zero : NgQ (0, 0) (0, 0) := by
  have u : U 0 := by unfold U; omega
  have f : ef 0 ≠ 2047 := by decide
  refine ⟨⟨u, u⟩, ⟨f, f⟩, ⟨u, u⟩, ⟨f, f⟩, ?_, ?_⟩
  · show valR 0 = - valR 0
    rw [valR_zero]; grind
  · show valR 0 = - valR 0
    rw [valR_zero]; grind
theorem ngQ_pt {p : Int × Int} (h : pOk p) : NgQ (ptP p) (ptP (ngP p)) := by
  have a1 := at_fin h.1
  have a2 := at_fin h.2
  have b1 := at_fin h.1.neg
  have b2 := at_fin h.2.neg
  exact ⟨⟨a1.1, a2.1⟩, ⟨a1.2, a2.2⟩, ⟨b1.1, b2.1⟩, ⟨b1.2, b2.2⟩, vR_neg h.1, vR_neg h.2⟩
theorem ngP_eq {p q : Int × Int} : ngP p = ngP q ↔ p = q := ⟨fun h => by have := congrArg ngP h; rwa [ngP_ng, ngP_ng] at this, fun h => by rw [h]⟩
theorem mtE_ng {L L' : List (Int × Int)} (ok : ∀ x, x ∈ L → pOk x) (h : ∀ x, x ∈ L' ↔ ngP x ∈ L) : NgM (mtE L) (mtE L') := by
  cases L with
  | nil =>
    cases L' with
    | nil => exact ⟨rfl, by show (if (0 : Int) = 2 then _ else _); rw [if_neg (by omega)]; exact ⟨ngQ_zero, ngQ_zero⟩⟩
    | cons m' l' => exact absurd ((h m').mp (by simp)) (by simp)
  | cons m l =>
    cases L' with
    | nil => exact absurd ((h (ngP m)).mpr (by rw [ngP_ng]; simp)) (by simp)
    | cons m' l' =>
      obtain ⟨k1, k2⟩ := least_ng h
      have o1 := ok _ (least_in m l)
      have o2 := ok _ (great_in m l)
      show NgM (if leastP m l = greatP m l then _ else _) (if leastP m' l' = greatP m' l' then _ else _)
      rw [k1, k2]
      by_cases e : leastP m l = greatP m l
      · rw [if_pos e, if_pos (by rw [e])]
        refine ⟨rfl, ?_⟩
        show (if (1 : Int) = 2 then _ else _)
        rw [if_neg (by omega), ← e]
        exact ⟨ngQ_pt o1, ngQ_zero⟩
      · rw [if_neg e, if_neg (fun k => e (ngP_eq.mp k).symm)]
        refine ⟨rfl, ?_⟩
        show (if (2 : Int) = 2 then _ else _)
        rw [if_pos rfl]
        exact ⟨ngQ_pt o1, ngQ_pt o2⟩
theorem ends_ok {a b c d x : Int × Int} (ha : pOk a) (hb : pOk b) (hc : pOk c) (hd : pOk d) (h : x ∈ endsP a b c d) : pOk x := by
  rcases ends_mem.mp h with ⟨_, rfl⟩ | ⟨_, rfl⟩ | ⟨_, rfl⟩ | ⟨_, rfl⟩
  · exact hc
  · exact ha
  · exact hd
  · exact hb
theorem mtP_ng {a b c d : Int × Int} (ha : pOk a) (hb : pOk b) (hc : pOk c) (hd : pOk d) : NgM (mtP a b c d) (mtP (ngP b) (ngP a) (ngP d) (ngP c)) := by
  by_cases h : prP a b c d
  · rw [mtP_proper h, mtP_proper ((prP_ng ha hb hc hd).mpr h)]
    refine ⟨rfl, ?_⟩
    show (if (1 : Int) = 2 then _ else _)
    rw [if_neg (by omega)]
    exact ⟨ngQ_zero, ngQ_zero⟩
  · rw [mtP_E h, mtP_E (fun k => h ((prP_ng ha hb hc hd).mp k))]
    exact mtE_ng (fun x k => ends_ok ha hb hc hd k) (ends_ng ha hb hc hd)
theorem mtQ_ng {a b c d : Int × Int} (ua : U2 a) (ub : U2 b) (uc : U2 c) (ud : U2 d) (fa : fin2 a) (fb : fin2 b) (fc : fin2 c) (fd : fin2 d) : NgM (mtQ a b c d) (mtQ (tnP a) (tnP b) (tnP c) (tnP d)) := by
  have k1 := loP_ok (rkP_ok ua fa) (rkP_ok ub fb)
  have k2 := loP_ok (rkP_ok uc fc) (rkP_ok ud fd)
  unfold mtQ
  rw [rkP_tn ua fa, rkP_tn ub fb, rkP_tn uc fc, rkP_tn ud fd, (lo_ng _ _).1, (lo_ng _ _).2, (lo_ng _ _).1, (lo_ng _ _).2]
  exact mtP_ng k1.1 k1.2.1 k2.1 k2.2.1
end Go.Proofs.YtienpliknhkbjaaGreatDoor

/- plumblaw23: like, of points turned about 0. -/
namespace Go.Proofs.YtienpliknhkbjaaGreatDoor
open Go.ChangeShapes Go.WideShapes Go.ChangeAt Go.RowKit
open Na Ar
set_option linter.unusedVariables false
theorem negU {b : Int} (h : U b) : U (negW b) := by unfold U at h; unfold negW U; split <;> omega
end Go.Proofs.YtienpliknhkbjaaGreatDoor

/- Meet's answer as a relation; seen from all sides. -/
namespace Go.Proofs.YtienpliknhkbjaaGreatDoor
open Go.ChangeShapes Go.WideShapes Go.ChangeAt Go.RowKit
open Na Ar
set_option linter.unusedVariables false
/-- what Meet answers -/
def MtIs (a b c d : Int × Int) (M : (Int × Bool) × (Int × Int) × (Int × Int)) : Prop :=
  ((mtQ a b c d).1.2 = false ∧ M = mtQ a b c d) ∨
  ((mtQ a b c d).1.2 = true ∧ ∃ v u, RnIs (xcR (valR a.1) (valR a.2) (valR b.1) (valR b.2) (valR c.1) (valR c.2) (valR d.1) (valR d.2)) v ∧ RnIs (ycR (valR a.1) (valR a.2) (valR b.1) (valR b.2) (valR c.1) (valR c.2) (valR d.1) (valR d.2)) u ∧ M = ((1, true), (v, u), (0, 0)))
theorem Meet23_is {w : World} {a b c d : Int × Int} (ua : U2 a) (ub : U2 b) (uc : U2 c) (ud : U2 d) (fa : fin2 a) (fb : fin2 b) (fc : fin2 c) (fd : fin2 d) (hG : GrVar w) :
    Calls Tryz.prog 10 #[.agg #[.int .u64 a.1, .int .u64 a.2], .agg #[.int .u64 b.1, .int .u64 b.2], .agg #[.int .u64 c.1, .int .u64 c.2], .agg #[.int .u64 d.1, .int .u64 d.2]] w fun e w' => ∃ M, MtIs a b c d M ∧ e = .returned (.tuple #[mtV M, .int .i64 0]) ∧ Below w.heap.size w w' := by
  refine (Meet23_fin ua ub uc ud fa fb fc fd hG).mono ?_
  rintro e w' (⟨h, rfl, hb⟩ | ⟨h, v, u, hv, hu, _, _, rfl, hb⟩)
  · exact ⟨_, Or.inl ⟨h, rfl⟩, rfl, hb⟩
  · exact ⟨((1, true), (v, u), (0, 0)), Or.inr ⟨h, v, u, hv, hu, rfl⟩, rfl, hb⟩
theorem MtIs.eq {a b c d a' b' c' d' : Int × Int} {M N : (Int × Bool) × (Int × Int) × (Int × Int)} (h : MtIs a b c d M) (h' : MtIs a' b' c' d' N) (hQ : mtQ a' b' c' d' = mtQ a b c d)
    (hx : (mtQ a b c d).1.2 = true → xcR (valR a'.1) (valR a'.2) (valR b'.1) (valR b'.2) (valR c'.1) (valR c'.2) (valR d'.1) (valR d'.2) = xcR (valR a.1) (valR a.2) (valR b.1) (valR b.2) (valR c.1) (valR c.2) (valR d.1) (valR d.2) ∧ ycR (valR a'.1) (valR a'.2) (valR b'.1) (valR b'.2) (valR c'.1) (valR c'.2) (valR d'.1) (valR d'.2) = ycR (valR a.1) (valR a.2) (valR b.1) (valR b.2) (valR c.1) (valR c.2) (valR d.1) (valR d.2)) : N = M := by
  unfold MtIs at h h'
  rw [hQ] at h'
  rcases h with ⟨k, rfl⟩ | ⟨k, v, u, hv, hu, rfl⟩ <;> rcases h' with ⟨k', rfl⟩ | ⟨k', v', u', hv', hu', rfl⟩
  · rfl
  · rw [k] at k'; cases k'
  · rw [k] at k'; cases k'
  · rw [(hx k).1] at hv'
    rw [(hx k).2] at hu'
    rw [rn_one hv hv', rn_one hu hu']
theorem proper_fall {a b c d : Int × Int} (ua : U2 a) (ub : U2 b) (uc : U2 c) (ud : U2 d) (fa : fin2 a) (fb : fin2 b) (fc : fin2 c) (fd : fin2 d) (h : (mtQ a b c d).1.2 = true) : fallR (valR a.1) (valR a.2) (valR b.1) (valR b.2) (valR c.1) (valR c.2) (valR d.1) (valR d.2) ≠ 0 := by
  exact pr_fall ua ub uc ud fa fb fc fd h
section
variable {a b c d : Int × Int} {M N : (Int × Bool) × (Int × Int) × (Int × Int)}
theorem MtIs.ab (ua : U2 a) (ub : U2 b) (uc : U2 c) (ud : U2 d) (fa : fin2 a) (fb : fin2 b) (fc : fin2 c) (fd : fin2 d) (h : MtIs a b c d M) (h' : MtIs b a c d N) : N = M :=
  h.eq h' (mtQ_ab a b c d) (fun k => cross_ab _ _ _ _ _ _ _ _ (proper_fall ua ub uc ud fa fb fc fd k))
theorem MtIs.sw (ua : U2 a) (ub : U2 b) (uc : U2 c) (ud : U2 d) (fa : fin2 a) (fb : fin2 b) (fc : fin2 c) (fd : fin2 d) (h : MtIs a b c d M) (h' : MtIs c d a b N) : N = M :=
  h.eq h' (mtQ_swap a b c d) (fun k => cross_sw _ _ _ _ _ _ _ _ (proper_fall ua ub uc ud fa fb fc fd k))
theorem MtIs.ng (ua : U2 a) (ub : U2 b) (uc : U2 c) (ud : U2 d) (fa : fin2 a) (fb : fin2 b) (fc : fin2 c) (fd : fin2 d) (h : MtIs a b c d M) (h' : MtIs (tnP a) (tnP b) (tnP c) (tnP d) N) : NgM M N := by
  have hQ := mtQ_ng ua ub uc ud fa fb fc fd
  have hP : (mtQ (tnP a) (tnP b) (tnP c) (tnP d)).1.2 = (mtQ a b c d).1.2 := by rw [hQ.1]
  rcases h with ⟨k, rfl⟩ | ⟨k, v, u, hv, hu, rfl⟩ <;> rcases h' with ⟨k', rfl⟩ | ⟨k', v', u', hv', hu', rfl⟩
  · exact hQ
  · rw [hP, k] at k'; cases k'
  · rw [hP, k] at k'; cases k'
  · refine ⟨rfl, ?_⟩
    show (if (1 : Int) = 2 then _ else _)
    rw [if_neg (by omega)]
    refine ⟨?_, ngQ_zero⟩
    have e := cross_ng (valR a.1) (valR a.2) (valR b.1) (valR b.2) (valR c.1) (valR c.2) (valR d.1) (valR d.2)
    unfold tnP at hv' hu'
    rw [val_ng ua.1 fa.1, val_ng ua.2 fa.2, val_ng ub.1 fb.1, val_ng ub.2 fb.2, val_ng uc.1 fc.1, val_ng uc.2 fc.2, val_ng ud.1 fd.1, val_ng ud.2 fd.2] at hv' hu'
    rw [e.1] at hv'
    rw [e.2] at hu'
    have r1 := rn_fin hv
    have r2 := rn_fin hu
    have r3 := rn_fin hv'
    have r4 := rn_fin hu'
    exact ⟨⟨r1.1, r2.1⟩, ⟨r1.2, r2.2⟩, ⟨r3.1, r4.1⟩, ⟨r3.2, r4.2⟩, rn_ng hv hv', rn_ng hu hu'⟩
theorem NgM.fin (h : NgM M N) : U2 M.2.1 ∧ fin2 M.2.1 ∧ U2 M.2.2 ∧ fin2 M.2.2 := by
  have h := h.2
  by_cases e : M.1.1 = 2
  · rw [if_pos e] at h; exact ⟨h.1.1, h.1.2.1, h.2.1, h.2.2.1⟩
  · rw [if_neg e] at h; exact ⟨h.1.1, h.1.2.1, h.2.1, h.2.2.1⟩
end
end Go.Proofs.YtienpliknhkbjaaGreatDoor

/- plumblaw23: a pattern with all bits of the exponent. -/
namespace Go.Proofs.YtienpliknhkbjaaGreatDoor
open Go.ChangeShapes Go.WideShapes Go.ChangeAt Go.RowKit
open Na Ar
set_option linter.unusedVariables false
/-- eight cells written over -/
theorem Pb.put8 {w : World} {g : Nat} {t : TypeId} {x0 x1 x2 x3 x4 x5 x6 x7 : Value} (h : Pb w g t #[x0, x1, x2, x3, x4, x5, x6, x7]) (y0 y1 y2 y3 y4 y5 y6 y7 : Value) : Pb ((((((((w.setCell ⟨g, 0, none⟩ (y0)).setCell ⟨g, 1, none⟩ (y1)).setCell ⟨g, 2, none⟩ (y2)).setCell ⟨g, 3, none⟩ (y3)).setCell ⟨g, 4, none⟩ (y4)).setCell ⟨g, 5, none⟩ (y5)).setCell ⟨g, 6, none⟩ (y6)).setCell ⟨g, 7, none⟩ (y7)) g t #[y0, y1, y2, y3, y4, y5, y6, y7] := by
  have k := (((h.set 0 y0).set 1 y1).set 2 y2).set 3 y3
  have e : (((#[x0, x1, x2, x3, x4, x5, x6, x7].setIfInBounds 0 y0).setIfInBounds 1 y1).setIfInBounds 2 y2).setIfInBounds 3 y3 = #[y0, y1, y2, y3, x4, x5, x6, x7] := rfl
  rw [e] at k
  have k2 := (((k.set 4 y4).set 5 y5).set 6 y6).set 7 y7
  have e2 : (((#[y0, y1, y2, y3, x4, x5, x6, x7].setIfInBounds 4 y4).setIfInBounds 5 y5).setIfInBounds 6 y6).setIfInBounds 7 y7 = #[y0, y1, y2, y3, y4, y5, y6, y7] := rfl
  rw [e2] at k2
  exact k2
theorem in8p (w : World) (g : Nat) (y0 y1 y2 y3 y4 y5 y6 y7 : Value) : In g (g + 1) w ((((((((w.setCell ⟨g, 0, none⟩ (y0)).setCell ⟨g, 1, none⟩ (y1)).setCell ⟨g, 2, none⟩ (y2)).setCell ⟨g, 3, none⟩ (y3)).setCell ⟨g, 4, none⟩ (y4)).setCell ⟨g, 5, none⟩ (y5)).setCell ⟨g, 6, none⟩ (y6)).setCell ⟨g, 7, none⟩ (y7)) := ((((((((In.refl g (g + 1) w).set1 0 _).set1 1 _).set1 2 _).set1 3 _).set1 4 _).set1 5 _).set1 6 _).set1 7 _
theorem Pb.cells8 {w : World} {g : Nat} {t : TypeId} {x0 x1 x2 x3 x4 x5 x6 x7 : Value} (h : Pb w g t #[x0, x1, x2, x3, x4, x5, x6, x7]) : w.cell? ⟨g, 0, none⟩ = some x0 ∧ w.cell? ⟨g, 1, none⟩ = some x1 ∧ w.cell? ⟨g, 2, none⟩ = some x2 ∧ w.cell? ⟨g, 3, none⟩ = some x3 ∧ w.cell? ⟨g, 4, none⟩ = some x4 ∧ w.cell? ⟨g, 5, none⟩ = some x5 ∧ w.cell? ⟨g, 6, none⟩ = some x6 ∧ w.cell? ⟨g, 7, none⟩ = some x7 := ⟨h.cell 0 rfl, h.cell 1 rfl, h.cell 2 rfl, h.cell 3 rfl, h.cell 4 rfl, h.cell 5 rfl, h.cell 6 rfl, h.cell 7 rfl⟩
end Go.Proofs.YtienpliknhkbjaaGreatDoor

