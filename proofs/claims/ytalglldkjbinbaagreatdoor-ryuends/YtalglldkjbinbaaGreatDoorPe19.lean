import Derived.Below
import Derived.BigQuiet
import Derived.ChangeOld
import Derived.Deep.DeepCutAuto
import Derived.Deep.DeepFit
import Derived.Deep.LoopGhost
import Derived.Deep.QuietTactic
import Derived.Deep.RegionHeld3
import Derived.Deep.RegionWith
import Derived.Defers
import Derived.KernelRfl
import Derived.Laws.BitsAllLaws
import Derived.Laws.CopyRow
import Derived.Laws.EntriesVeiled
import Derived.Laws.IdiomCopy
import Derived.Laws.IdiomRangeMap
import Derived.Laws.IdiomStrings
import Derived.Laws.RangeAny
import Derived.Laws.ResultCell
import Derived.Laws.Strings3
import Derived.Lib.OthersKept
import Derived.Lib.Strings
import Derived.Lib.TrimByte
import Derived.Lib.Walk
import Derived.OpenShut
import Derived.Orders
import Derived.OwnWalk
import Derived.ProofKit
import Derived.Recover
import Derived.Scope
import Derived.ShutString
import Derived.WalkKit
import Derived.WalkLawsBesides
import Derived.WalkMore
import Derived.WalkSpells
import Derived.Test.YtalglldkjbinbaaGreatDoorPe2
import Derived.Test.YtalglldkjbinbaaGreatDoorPe9
import Derived.Test.YtalglldkjbinbaaGreatDoorPe12
import Derived.Test.YtalglldkjbinbaaGreatDoorPe14
import Derived.Test.YtalglldkjbinbaaGreatDoorPe15
import Derived.Test.YtalglldkjbinbaaGreatDoorPe17
import Derived.Test.YtalglldkjbinbaaGreatDoorPe18
/- package ryu: the ends of an interval. -/
namespace Go.Proofs.YtalglldkjbinbaaGreatDoor
open Go.ChangeShapes Go.WideShapes Go.ChangeAt Go.RowKit
open Na Ar Ry
set_option linter.unusedVariables false
set_option maxHeartbeats 3200000 in
set_option maxRecDepth 100000 in
theorem upper_fin {s : Int} (h0 : 0 ≤ s) (h1 : s < mostP) {w : World} {sl : Bool} {a b : Option Addr} {n c m d : Nat} :
    Calls Tryz.prog 45 #[.int .u64 s, .agg #[.bool sl, .slice a n c, .slice b m d]] w fun r w' => ∃ s' v1 v2, r = .returned (.agg #[.bool s', v1, v2]) ∧ RtO w' w.heap.size s' v1 v2 (highR s) ∧ Below w.heap.size w w' := by
  obtain ⟨u, f, _⟩ := size_fin (p := s) h0 (by omega)
  have hM := fun w => nearMid_fin u f (by omega) w
  rw [mid_high h0 h1] at hM
  generalize highR s = Q at *
  obtain ⟨t1, t2, hb0⟩ := st_two w (.bool sl) (.slice a n c) (.slice b m d) (.bool false) (.slice none 0 0) (.slice none 0 0) 26 26
  obtain ⟨w0, hw0⟩ : ∃ w0, w0 = (w.alloc (.cells #[.bool sl, .slice a n c, .slice b m d] 26)).alloc (.cells #[.bool false, .slice none 0 0, .slice none 0 0] 26) := ⟨_, rfl⟩
  obtain ⟨g, hg⟩ : ∃ g, g = w.heap.size := ⟨_, rfl⟩
  have HG : Hid (w.heap.size = g) := hg.symm
  rw [← hw0] at t1 t2 hb0
  rw [← hg] at t1 t2
  have hlt0 := t2.lt
  go_enter Tryz.func45, Tryz.ntmps45
  go_wp2_with fail
  rw [← hw0, ← hg]
  clear hw0 hg
  refine (hM _).mono ?_
  rintro r w1 ⟨s1, v1, v2, rfl, R1, hb1⟩
  obtain ⟨a1, n1, c1, b1, m1, d1, rfl, rfl, -⟩ := R1.opens
  have ha1 := alloc_below (w := w1) (.cells #[.bool s1, .slice a1 n1 c1, .slice b1 m1 d1] 26)
  have t3 := (t2.later hb1).later ha1
  have R2 := R1.later ha1
  have hsz := hb1.size
  have B1 := hb0.trans (hb1.mono hb0.size)
  have B2 := B1.trans (ha1.mono B1.size)
  have u3 := st_new w1 (.bool s1) (.slice a1 n1 c1) (.slice b1 m1 d1) 26
  have ng : ¬ g + 1 = w1.heap.size := by omega
  have ng' : ¬ w1.heap.size = g + 1 := by omega
  obtain ⟨x0, x1, x2⟩ := u3.cells
  obtain ⟨y0, y1, y2⟩ := t3.cells
  obtain ⟨f0, f1, f2⟩ := t3.frozen
  clear hM t1 t2 R1 hb1 ha1 B1 u3
  go_wp2
  have st9 := (t3.set (.bool s1) (.slice a1 n1 c1) (.slice b1 m1 d1)).cells
  refine bodyPost_ret (v := .agg #[.bool s1, .slice a1 n1 c1, .slice b1 m1 d1]) (by simp [results, Tryz.results45, go_sem, st9]) rfl ?_
  have hgw := HG.out
  exact ⟨_, _, _, rfl, ((R2.inn (in3 _ _ _ _ _) hlt0).lower hb0.size), below_in B2 (in3 _ _ _ _ _) (by omega) (Nat.le_refl _)⟩
set_option maxHeartbeats 6400000 in
set_option maxRecDepth 100000 in
theorem upper_most {w : World} {sl : Bool} {a b : Option Addr} {n c m d : Nat} (hR : Rt w sl a n c b m d (lowR mostP)) :
    Calls Tryz.prog 45 #[.int .u64 9218868437227405311, .agg #[.bool sl, .slice a n c, .slice b m d]] w fun r w' => ∃ s' v1 v2, r = .returned (.agg #[.bool s', v1, v2]) ∧ RtO w' w.heap.size s' v1 v2 (highR mostP) ∧ Below w.heap.size w w' := by
  have hM := fun w => nearMid_most w
  have uM : U mostP := by unfold U mostP; omega
  have fM : ef mostP ≠ 2047 := by decide
  have hV : ∀ w, Calls Tryz.prog 13 #[.int .u64 9218868437227405311] w fun e w' => ∃ s v1 v2, e = .returned (.tuple #[.agg #[.bool s, v1, v2], .int .i64 0]) ∧ RtO w' w.heap.size s v1 v2 (valR mostP) ∧ Below w.heap.size w w' := fun w => nearValue_fin uM fM w
  have zV := value_size uM fM
  have zL := low_size (s := mostP) (by decide) (Int.le_refl _)
  rw [← most_high]
  generalize lowR mostP = L at *
  generalize valR mostP = V at *
  clear uM fM
  obtain ⟨t1, t2, hb0⟩ := st_two w (.bool sl) (.slice a n c) (.slice b m d) (.bool false) (.slice none 0 0) (.slice none 0 0) 26 26
  obtain ⟨w0, hw0⟩ : ∃ w0, w0 = (w.alloc (.cells #[.bool sl, .slice a n c, .slice b m d] 26)).alloc (.cells #[.bool false, .slice none 0 0, .slice none 0 0] 26) := ⟨_, rfl⟩
  obtain ⟨g, hg⟩ : ∃ g, g = w.heap.size := ⟨_, rfl⟩
  have HG : Hid (w.heap.size = g) := hg.symm
  rw [← hw0] at t1 t2 hb0
  rw [← hg] at t1 t2
  have q0 := hR.later hb0
  have hlt0 := t2.lt
  go_enter Tryz.func45, Tryz.ntmps45
  go_wp2_with fail
  rw [← hw0, ← hg]
  clear hw0 hg
  refine (hM _).mono ?_
  rintro r w1 ⟨rfl, hb1⟩
  clear hM
  have ha1 := alloc_below (w := w1) (.cells #[.bool false, .slice none 0 0, .slice none 0 0] 26)
  have H1 := hb1.trans (ha1.mono hb1.size)
  have u1 := st_new w1 (.bool false) (.slice none 0 0) (.slice none 0 0) 26
  obtain ⟨z1, hz1⟩ : ∃ z, z = w1.alloc (.cells #[.bool false, .slice none 0 0, .slice none 0 0] 26) := ⟨_, rfl⟩
  obtain ⟨g5, hg5⟩ : ∃ z, z = w1.heap.size := ⟨_, rfl⟩
  rw [← hz1] at ha1 H1 u1
  rw [← hg5] at u1
  have T1 := t1.later H1
  have T2 := t2.later H1
  have Q1 := q0.later H1
  have B1 := hb0.trans (H1.mono hb0.size)
  have hg5' : g + 1 < g5 := by have := hb1.size; omega
  clear t1 t2 q0 hb1 ha1 H1
  go_wp2_with fail
  rw [← hz1, ← hg5]
  clear hz1 hg5
  refine (hV _).mono ?_
  rintro r w2 ⟨s2, v1, v2, rfl, R2, hb2⟩
  obtain ⟨a2, n2, c2, b2, m2, d2, rfl, rfl, R2'⟩ := R2.opens
  clear hV R2
  have ha2 := alloc_below (w := w2) (.cells #[.bool s2, .slice a2 n2 c2, .slice b2 m2 d2] 26)
  have H2 := hb2.trans (ha2.mono hb2.size)
  have u2 := st_new w2 (.bool s2) (.slice a2 n2 c2) (.slice b2 m2 d2) 26
  have V2 := R2'.later ha2
  obtain ⟨z2, hz2⟩ : ∃ z, z = w2.alloc (.cells #[.bool s2, .slice a2 n2 c2, .slice b2 m2 d2] 26) := ⟨_, rfl⟩
  obtain ⟨g7, hg7⟩ : ∃ z, z = w2.heap.size := ⟨_, rfl⟩
  rw [← hz2] at ha2 H2 u2 V2
  rw [← hg7] at u2
  have T3 := T1.later H2
  have T4 := T2.later H2
  have Q2 := Q1.later H2
  have U1 := u1.later H2
  have B2 := B1.trans (H2.mono B1.size)
  have hS := rSub_ok V2 Q2 zV zL (by omega)
  obtain ⟨x0, x1, x2⟩ := T3.cells
  obtain ⟨y0, y1, y2⟩ := u2.cells
  clear T1 T2 Q1 u1 B1 hb2 ha2 H2 R2'
  go_upto_region 5 with fail
  rw [← hz2, ← hg7]
  clear hz2 hg7
  go_wp2_with fail
  refine hS.mono ?_
  rintro r w3 ⟨s3, v1, v2, rfl, R3, z3, hb3⟩
  obtain ⟨a3, n3, c3, b3, m3, d3, rfl, rfl, R3'⟩ := R3.opens
  clear hS R3 x0 x1 x2 y0 y1 y2 T3 Q2
  have ha3 := alloc_below (w := w3) (.cells #[.bool s3, .slice a3 n3 c3, .slice b3 m3 d3] 26)
  have H3 := hb3.trans (ha3.mono hb3.size)
  have u3 := st_new w3 (.bool s3) (.slice a3 n3 c3) (.slice b3 m3 d3) 26
  have V3 := V2.later H3
  have D3 := R3'.later ha3
  obtain ⟨z3w, hz3⟩ : ∃ z, z = w3.alloc (.cells #[.bool s3, .slice a3 n3 c3, .slice b3 m3 d3] 26) := ⟨_, rfl⟩
  obtain ⟨g9, hg9⟩ : ∃ z, z = w3.heap.size := ⟨_, rfl⟩
  rw [← hz3] at ha3 H3 u3 V3 D3
  rw [← hg9] at u3
  have T5 := T4.later H3
  have U5 := U1.later H3
  have U7 := u2.later H3
  have B3 := B2.trans (H3.mono B2.size)
  have hA := rAdd_ok V3 D3 zV z3 (by omega)
  obtain ⟨x0, x1, x2⟩ := U7.cells
  obtain ⟨y0, y1, y2⟩ := u3.cells
  clear T4 U1 B2 hb3 ha3 H3 R3' V2
  go_upto_region 6 with fail
  rw [← hz3, ← hg9]
  clear hz3 hg9
  go_wp2_with fail
  refine hA.mono ?_
  rintro r w4 ⟨s4, v1, v2, rfl, R4, -, hb4⟩
  obtain ⟨a4, n4, c4, b4, m4, d4, rfl, rfl, -⟩ := R4.opens
  have T6 := T5.later hb4
  have U6 := U5.later hb4
  have B4 := B3.trans (hb4.mono B3.size)
  have hz3s : g5 < z3w.heap.size := U5.lt
  have hgz : g + 1 < z3w.heap.size := T5.lt
  have ng : ¬ g + 1 = g5 := by omega
  have ng' : ¬ g5 = g + 1 := by omega
  obtain ⟨f0, f1, f2⟩ := U6.frozen
  obtain ⟨k0, k1, k2⟩ := U6.cells
  obtain ⟨l0, l1, l2⟩ := T6.cells
  obtain ⟨h0, h1, h2⟩ := T6.frozen
  clear hA x0 x1 x2 y0 y1 y2 T5 U5 B3 hb4 V3 D3 U7 u3 u2
  have B5 := below_in B4 (in3 w4 g5 (.bool s4) (.slice a4 n4 c4) (.slice b4 m4 d4)) (by have := HG.out; omega) (Nat.le_refl _)
  have R5 := R4.inn (in3 w4 g5 (.bool s4) (.slice a4 n4 c4) (.slice b4 m4 d4)) hz3s
  have T7 := T6.inn (in3 w4 g5 (.bool s4) (.slice a4 n4 c4) (.slice b4 m4 d4)) ng
  have U8 := U6.set (.bool s4) (.slice a4 n4 c4) (.slice b4 m4 d4)
  have HT7 : Hid (St (((w4.setCell ⟨g5, 0, none⟩ (.bool s4)).setCell ⟨g5, 1, none⟩ (.slice a4 n4 c4)).setCell ⟨g5, 2, none⟩ (.slice b4 m4 d4)) (g + 1) 26 (.bool false) (.slice none 0 0) (.slice none 0 0)) := T7
  obtain ⟨p0, p1, p2⟩ := U8.cells
  obtain ⟨r0, r1, r2⟩ := T7.cells
  obtain ⟨e0, e1, e2⟩ := T7.frozen
  clear T7 U8 T6 U6 B4 R4
  go_wp2
  have st9 := (HT7.out.set (.bool s4) (.slice a4 n4 c4) (.slice b4 m4 d4)).cells
  refine bodyPost_ret (v := .agg #[.bool s4, .slice a4 n4 c4, .slice b4 m4 d4]) (by simp [results, Tryz.results45, go_sem, st9]) rfl ?_
  have hgw := HG.out
  exact ⟨_, _, _, rfl, ((R5.inn (in3 _ _ _ _ _) hgz).lower (by omega)), below_in B5 (in3 _ _ _ _ _) (by omega) (Nat.le_refl _)⟩
end Go.Proofs.YtalglldkjbinbaaGreatDoor

/- package ryu: Interval. -/
namespace Go.Proofs.YtalglldkjbinbaaGreatDoor
open Go.ChangeShapes Go.WideShapes Go.ChangeAt Go.RowKit
open Na Ar Ry
set_option linter.unusedVariables false
theorem RtO_rt12b {w : World} {base : Nat} {s : Bool} {a b : Option Addr} {n c m d : Nat} {q : Rat} (h : RtO w base s (.slice a n c) (.slice b m d) q) : Rt w s a n c b m d q := by
  obtain ⟨a', n', c', b', m', d', e1, e2, r⟩ := h.opens
  injection e1 with i1 i2 i3
  injection e2 with j1 j2 j3
  subst i1 i2 i3 j1 j2 j3
  exact r
theorem upper_any {s : Int} (h0 : 0 ≤ s) (h1 : s ≤ mostP) {w : World} {sl : Bool} {a b : Option Addr} {n c m d : Nat} (hR : Rt w sl a n c b m d (lowR s)) :
    Calls Tryz.prog 45 #[.int .u64 s, .agg #[.bool sl, .slice a n c, .slice b m d]] w fun r w' => ∃ s' v1 v2, r = .returned (.agg #[.bool s', v1, v2]) ∧ RtO w' w.heap.size s' v1 v2 (highR s) ∧ Below w.heap.size w w' := by
  by_cases h : s = mostP
  · subst h
    exact upper_most hR
  · exact upper_fin h0 (by omega)
theorem interval_inf {b : Int} (hu : U b) (hf : ef b = 2047) (w : World) :
    Calls Tryz.prog 18 #[.int .u64 b] w fun r w' => r = .returned (.tuple #[.agg #[.bool false, .slice none 0 0, .slice none 0 0], .agg #[.bool false, .slice none 0 0, .slice none 0 0], .bool false, .int .i64 120]) ∧ Below w.heap.size w w' := by
  have hS := fun w => f6Split_any hu w
  have e1 : fiE b = 60 := by unfold fiE; rw [if_pos hf]
  rw [e1] at hS
  obtain ⟨t1, t2, hb0⟩ := st_two w (.bool false) (.slice none 0 0) (.slice none 0 0) (.bool false) (.slice none 0 0) (.slice none 0 0) 26 26
  obtain ⟨w0, hw0⟩ : ∃ w0, w0 = (w.alloc (.cells #[.bool false, .slice none 0 0, .slice none 0 0] 26)).alloc (.cells #[.bool false, .slice none 0 0, .slice none 0 0] 26) := ⟨_, rfl⟩
  obtain ⟨g, hg⟩ : ∃ g, g = w.heap.size := ⟨_, rfl⟩
  have HG : Hid (w.heap.size = g) := hg.symm
  rw [← hw0] at t1 t2 hb0
  rw [← hg] at t1 t2
  have n1 : ¬ g = g + 1 := by omega
  have n2 : ¬ g + 1 = g := by omega
  go_enter Tryz.func18, Tryz.ntmps18
  go_wp2_with fail
  rw [← hw0, ← hg]
  clear hw0 hg
  refine (hS _).mono ?_
  rintro r wz ⟨rfl, hz⟩
  rw [← hz]
  clear hz hS
  obtain ⟨x0, x1, x2⟩ := t1.cells
  obtain ⟨y0, y1, y2⟩ := t2.cells
  obtain ⟨f0, f1, f2⟩ := t1.frozen
  obtain ⟨k0, k1, k2⟩ := t2.frozen
  have T1 := t1.set (.bool false) (.slice none 0 0) (.slice none 0 0)
  have T2 := t2.inn (in3 w0 g (.bool false) (.slice none 0 0) (.slice none 0 0)) (by omega)
  have T3 := T1.inn (in3 _ (g + 1) (.bool false) (.slice none 0 0) (.slice none 0 0)) (by omega)
  have T4 := T2.set (.bool false) (.slice none 0 0) (.slice none 0 0)
  have B1 := below_in hb0 (in3 w0 g (.bool false) (.slice none 0 0) (.slice none 0 0)) (by have := HG.out; omega) (Nat.le_refl _)
  have B2 := below_in B1 (in3 _ (g + 1) (.bool false) (.slice none 0 0) (.slice none 0 0)) (by have := HG.out; omega) (Nat.le_refl _)
  go_wp2
  have s1 := T3.cells
  have s2 := T4.cells
  refine bodyPost_ret (v := .tuple #[.agg #[.bool false, .slice none 0 0, .slice none 0 0], .agg #[.bool false, .slice none 0 0, .slice none 0 0], .bool false, .int .i64 120]) (by simp [results, Tryz.results18, go_sem, s1, s2]) rfl ?_
  exact ⟨rfl, B2⟩
set_option maxHeartbeats 6400000 in
set_option maxRecDepth 100000 in
theorem interval_fin {b : Int} (hu : U b) (hf : ef b ≠ 2047) (w : World) :
    Calls Tryz.prog 18 #[.int .u64 b] w fun r w' => ∃ s1 a1 n1 c1 b1 m1 d1 s2 a2 n2 c2 b2 m2 d2, r = .returned (.tuple #[.agg #[.bool s1, .slice a1 n1 c1, .slice b1 m1 d1], .agg #[.bool s2, .slice a2 n2 c2, .slice b2 m2 d2], .bool (decide (mg b % 2 = 0)), .int .i64 0]) ∧ Rt w' s1 a1 n1 c1 b1 m1 d1 (lowR (mg b)) ∧ Rt w' s2 a2 n2 c2 b2 m2 d2 (highR (mg b)) ∧ Below w.heap.size w w' := by
  have hm := mg_bd b
  have p1 : mg b ≤ mostP := by
    have := ef_bd b
    have := fr_bd b
    have := mg_parts b
    unfold mostP
    omega
  have hS := fun w => f6Split_any hu w
  have e1 : fiE b = 0 := by unfold fiE; rw [if_neg hf]
  have eN : (if spS b = true then negW b else b) = mg b := by
    unfold spS
    rw [if_neg hf]
    unfold mg negW
    unfold U at hu
    by_cases z : 9223372036854775808 ≤ b
    · rw [if_pos (by simpa using z), if_neg (by omega)]; omega
    · rw [if_neg (by simpa using z)]; omega
  have eE : ((spM b % 2) == 0) = decide (mg b % 2 = 0) := by
    have : spM b % 2 = mg b % 2 := by
      have := mg_parts b
      unfold spM
      rw [if_neg hf]
      split <;> omega
    rw [this, Bool.eq_iff_iff, beq_iff_eq, decide_eq_true_eq]
  rw [e1] at hS
  obtain ⟨up, fp, np, ep, eL⟩ := prv_is hm.1 p1
  have us : U (mg b) := U_mg b
  have hP := fun w => f6Prev_any us w
  rw [ep] at hP
  have hMd := fun w => nearMid_fin up fp np w
  rw [eL] at hMd
  have hNg := fun w => f6Neg_any hu w
  have hU : ∀ (w1 : World) (sl : Bool) (a b2 : Option Addr) (n c m d : Nat), Rt w1 sl a n c b2 m d (lowR (mg b)) → Calls Tryz.prog 45 #[.int .u64 (mg b), .agg #[.bool sl, .slice a n c, .slice b2 m d]] w1 fun r w' => ∃ s' v1 v2, r = .returned (.agg #[.bool s', v1, v2]) ∧ RtO w' w1.heap.size s' v1 v2 (highR (mg b)) ∧ Below w1.heap.size w1 w' := fun w1 sl a b2 n c m d h => upper_any hm.1 p1 h
  generalize decide (mg b % 2 = 0) = ev at *
  generalize lowR (mg b) = L at *
  generalize highR (mg b) = Hh at *
  generalize mg b = s at *
  generalize prvP s = ps at *
  generalize nxE (negW s) = ne at *
  obtain ⟨mb0, mb1⟩ := U_spM b
  generalize spM b = mt at *
  generalize spX b = ex at *
  obtain ⟨t1, t2, hb0⟩ := st_two w (.bool false) (.slice none 0 0) (.slice none 0 0) (.bool false) (.slice none 0 0) (.slice none 0 0) 26 26
  obtain ⟨w0, hw0⟩ : ∃ w0, w0 = (w.alloc (.cells #[.bool false, .slice none 0 0, .slice none 0 0] 26)).alloc (.cells #[.bool false, .slice none 0 0, .slice none 0 0] 26) := ⟨_, rfl⟩
  obtain ⟨g, hg⟩ : ∃ g, g = w.heap.size := ⟨_, rfl⟩
  have HG : Hid (w.heap.size = g) := hg.symm
  rw [← hw0] at t1 t2 hb0
  rw [← hg] at t1 t2
  clear hm p1 hf e1 eL ep fp np
  go_enter Tryz.func18, Tryz.ntmps18
  go_wp2_with fail
  rw [← hw0, ← hg]
  clear hw0 hg
  refine (hS _).mono ?_
  rintro r wz ⟨rfl, hz⟩
  rw [← hz]
  clear hz hS
  cases hsp : spS b
  · rw [hsp] at eN
    simp only [Bool.false_eq_true, if_false] at eN
    subst eN
    go_wp2_with fail
    refine (hP _).mono ?_
    rintro r wz ⟨rfl, hz⟩
    rw [← hz]
    clear hz hP
    go_wp2_with fail
    refine (hMd _).mono ?_
    rintro r w1 ⟨sl, v1, v2, rfl, R1, hb1⟩
    obtain ⟨al, nl, cl, bl, ml, dl, rfl, rfl, -⟩ := R1.opens
    have hlt0 := t2.lt
    have hsz := hb1.size
    have ha1 := alloc_below (w := w1) (.cells #[.bool sl, .slice al nl cl, .slice bl ml dl] 26)
    have H1 := hb1.trans (ha1.mono hb1.size)
    have u1 := st_new w1 (.bool sl) (.slice al nl cl) (.slice bl ml dl) 26
    have RL := R1.later ha1
    have RLr := RL.opens
    obtain ⟨z1, hz1⟩ : ∃ z, z = w1.alloc (.cells #[.bool sl, .slice al nl cl, .slice bl ml dl] 26) := ⟨_, rfl⟩
    obtain ⟨gl, hgl⟩ : ∃ z, z = w1.heap.size := ⟨_, rfl⟩
    rw [← hz1] at ha1 H1 u1 RL
    rw [← hgl] at u1
    have T1 := t1.later H1
    have T2 := t2.later H1
    have B1 := hb0.trans (H1.mono hb0.size)
    have hgl' : g + 1 < gl := by omega
    have n1 : ¬ g = g + 1 := by omega
    have n2 : ¬ g + 1 = g := by omega
    have n3 : ¬ gl = g := by omega
    have n4 : ¬ gl = g + 1 := by omega
    have n5 : ¬ g = gl := by omega
    have n6 : ¬ g + 1 = gl := by omega
    have hzs : gl < z1.heap.size := u1.lt
    have hU' := hU z1 sl al bl nl cl ml dl (RtO_rt12b RL)
    have hU2 : ∀ w2, Below z1.heap.size z1 w2 → Calls Tryz.prog 45 #[.int .u64 b, .agg #[.bool sl, .slice al nl cl, .slice bl ml dl]] w2 fun r w' => ∃ s' a n c b m d, r = .returned (.agg #[.bool s', .slice a n c, .slice b m d]) ∧ RtO w' w2.heap.size s' (.slice a n c) (.slice b m d) Hh ∧ Below z1.heap.size z1 w' ∧ Below w2.heap.size w2 w' := fun w2 h2 => (hU w2 sl al bl nl cl ml dl (RtO_rt12b (RL.later h2))).mono (by
      rintro r w' ⟨s', v1, v2, rfl, R, hb⟩
      obtain ⟨a, n, c, b, m, d, rfl, rfl, -⟩ := R.opens
      exact ⟨s', a, n, c, b, m, d, rfl, R, h2.trans (hb.mono h2.size), hb⟩)
    have hcl : ∀ w', Below z1.heap.size z1 w' → (w'.cell? ⟨gl, 0, none⟩ = some (.bool sl) ∧ w'.cell? ⟨gl, 1, none⟩ = some (.slice al nl cl) ∧ w'.cell? ⟨gl, 2, none⟩ = some (.slice bl ml dl)) ∧ (w'.cell? ⟨g, 0, none⟩ = some (.bool false) ∧ w'.cell? ⟨g, 1, none⟩ = some (.slice none 0 0) ∧ w'.cell? ⟨g, 2, none⟩ = some (.slice none 0 0)) ∧ (w'.cell? ⟨g + 1, 0, none⟩ = some (.bool false) ∧ w'.cell? ⟨g + 1, 1, none⟩ = some (.slice none 0 0) ∧ w'.cell? ⟨g + 1, 2, none⟩ = some (.slice none 0 0)) ∧ (w'.frozen? ⟨g, 0, none⟩ = false ∧ w'.frozen? ⟨g, 1, none⟩ = false ∧ w'.frozen? ⟨g, 2, none⟩ = false) ∧ (w'.frozen? ⟨g + 1, 0, none⟩ = false ∧ w'.frozen? ⟨g + 1, 1, none⟩ = false ∧ w'.frozen? ⟨g + 1, 2, none⟩ = false) := fun w' h => ⟨(u1.later h).cells, (T1.later h).cells, (T2.later h).cells, (T1.later h).frozen, (T2.later h).frozen⟩
    clear hMd R1 hb1 ha1 H1 t1 t2 hU hU' RLr
    go_upto_region 9 with fail
    rw [← hz1, ← hgl]
    clear hz1 hgl
    obtain ⟨⟨x0, x1, x2⟩, ⟨y0, y1, y2⟩, ⟨v0, v1, v2⟩, ⟨f0, f1, f2⟩, ⟨k0, k1, k2⟩⟩ := hcl z1 (Below.refl _ _)
    go_region_held3 (fun w' => w'.cell? ⟨gl, 0, none⟩ = some (.bool sl) ∧ w'.cell? ⟨gl, 1, none⟩ = some (.slice al nl cl) ∧ w'.cell? ⟨gl, 2, none⟩ = some (.slice bl ml dl)) (go_keep) (first | (go_at_call 45; refine (hU2 _ (by first | exact Below.refl _ _ | exact below_drewN (Below.refl _ _) _)).mono ?_; rintro e wA ⟨sh, ah, nh, ch, bh, mh, dh, rfl, RH, hBA, hbA⟩; clear x0 x1 x2 y0 y1 y2 v0 v1 v2 f0 f1 f2 k0 k1 k2; obtain ⟨⟨x0, x1, x2⟩, ⟨y0, y1, y2⟩, ⟨v0, v1, v2⟩, ⟨f0, f1, f2⟩, ⟨k0, k1, k2⟩⟩ := hcl wA hBA))
    go_wp2
    have S1 := (T1.later hBA).set (.bool sl) (.slice al nl cl) (.slice bl ml dl)
    have S2 := (T2.later hBA).inn (in3 wA g (.bool sl) (.slice al nl cl) (.slice bl ml dl)) (by omega)
    have S3 := S1.inn (in3 _ (g + 1) (.bool sh) (.slice ah nh ch) (.slice bh mh dh)) (by omega)
    have S4 := S2.set (.bool sh) (.slice ah nh ch) (.slice bh mh dh)
    have gw := HG.out
    have C0 := B1.trans (hBA.mono B1.size)
    have C1 := below_in C0 (in3 wA g (.bool sl) (.slice al nl cl) (.slice bl ml dl)) (by omega) (Nat.le_refl _)
    have C2 := below_in C1 (in3 _ (g + 1) (.bool sh) (.slice ah nh ch) (.slice bh mh dh)) (by omega) (Nat.le_refl _)
    have RL2 := ((RL.later hBA).inn (in3 wA g (.bool sl) (.slice al nl cl) (.slice bl ml dl)) (by omega)).inn (in3 _ (g + 1) (.bool sh) (.slice ah nh ch) (.slice bh mh dh)) (by omega)
    have zb : z1.heap.size ≤ wA.heap.size := hBA.size
    have RH2 := (RH.inn (in3 wA g (.bool sl) (.slice al nl cl) (.slice bl ml dl)) (by first | omega | (simp; omega))).inn (in3 _ (g + 1) (.bool sh) (.slice ah nh ch) (.slice bh mh dh)) (by first | omega | (simp; omega))
    have eT : (mt.tmod 2 == 0) = ev := by rw [Int.tmod_eq_emod_of_nonneg mb0]; exact eE
    have c1 := S3.cells
    have c2 := S4.cells
    refine bodyPost_ret (v := .tuple #[.agg #[.bool sl, .slice al nl cl, .slice bl ml dl], .agg #[.bool sh, .slice ah nh ch, .slice bh mh dh], .bool ev, .int .i64 0]) (by simp [results, Tryz.results18, go_sem, c1, c2, eT]) rfl ?_
    exact ⟨_, _, _, _, _, _, _, _, _, _, _, _, _, _, rfl, RtO_rt12b RL2, RtO_rt12b RH2, C2⟩
  · rw [hsp] at eN
    simp only [if_true] at eN
    rw [eN] at hNg
    go_wp2_with fail
    refine (hNg _).mono ?_
    rintro r wz ⟨rfl, hz⟩
    rw [← hz]
    clear hz hNg
    go_wp2_with fail
    refine (hP _).mono ?_
    rintro r wz ⟨rfl, hz⟩
    rw [← hz]
    clear hz hP
    go_wp2_with fail
    refine (hMd _).mono ?_
    rintro r w1 ⟨sl, v1, v2, rfl, R1, hb1⟩
    obtain ⟨al, nl, cl, bl, ml, dl, rfl, rfl, -⟩ := R1.opens
    have hlt0 := t2.lt
    have hsz := hb1.size
    have ha1 := alloc_below (w := w1) (.cells #[.bool sl, .slice al nl cl, .slice bl ml dl] 26)
    have H1 := hb1.trans (ha1.mono hb1.size)
    have u1 := st_new w1 (.bool sl) (.slice al nl cl) (.slice bl ml dl) 26
    have RL := R1.later ha1
    have RLr := RL.opens
    obtain ⟨z1, hz1⟩ : ∃ z, z = w1.alloc (.cells #[.bool sl, .slice al nl cl, .slice bl ml dl] 26) := ⟨_, rfl⟩
    obtain ⟨gl, hgl⟩ : ∃ z, z = w1.heap.size := ⟨_, rfl⟩
    rw [← hz1] at ha1 H1 u1 RL
    rw [← hgl] at u1
    have T1 := t1.later H1
    have T2 := t2.later H1
    have B1 := hb0.trans (H1.mono hb0.size)
    have hgl' : g + 1 < gl := by omega
    have n1 : ¬ g = g + 1 := by omega
    have n2 : ¬ g + 1 = g := by omega
    have n3 : ¬ gl = g := by omega
    have n4 : ¬ gl = g + 1 := by omega
    have n5 : ¬ g = gl := by omega
    have n6 : ¬ g + 1 = gl := by omega
    have hzs : gl < z1.heap.size := u1.lt
    have hU' := hU z1 sl al bl nl cl ml dl (RtO_rt12b RL)
    have hU2 : ∀ w2, Below z1.heap.size z1 w2 → Calls Tryz.prog 45 #[.int .u64 s, .agg #[.bool sl, .slice al nl cl, .slice bl ml dl]] w2 fun r w' => ∃ s' a n c b m d, r = .returned (.agg #[.bool s', .slice a n c, .slice b m d]) ∧ RtO w' w2.heap.size s' (.slice a n c) (.slice b m d) Hh ∧ Below z1.heap.size z1 w' ∧ Below w2.heap.size w2 w' := fun w2 h2 => (hU w2 sl al bl nl cl ml dl (RtO_rt12b (RL.later h2))).mono (by
      rintro r w' ⟨s', v1, v2, rfl, R, hb⟩
      obtain ⟨a, n, c, b, m, d, rfl, rfl, -⟩ := R.opens
      exact ⟨s', a, n, c, b, m, d, rfl, R, h2.trans (hb.mono h2.size), hb⟩)
    have hcl : ∀ w', Below z1.heap.size z1 w' → (w'.cell? ⟨gl, 0, none⟩ = some (.bool sl) ∧ w'.cell? ⟨gl, 1, none⟩ = some (.slice al nl cl) ∧ w'.cell? ⟨gl, 2, none⟩ = some (.slice bl ml dl)) ∧ (w'.cell? ⟨g, 0, none⟩ = some (.bool false) ∧ w'.cell? ⟨g, 1, none⟩ = some (.slice none 0 0) ∧ w'.cell? ⟨g, 2, none⟩ = some (.slice none 0 0)) ∧ (w'.cell? ⟨g + 1, 0, none⟩ = some (.bool false) ∧ w'.cell? ⟨g + 1, 1, none⟩ = some (.slice none 0 0) ∧ w'.cell? ⟨g + 1, 2, none⟩ = some (.slice none 0 0)) ∧ (w'.frozen? ⟨g, 0, none⟩ = false ∧ w'.frozen? ⟨g, 1, none⟩ = false ∧ w'.frozen? ⟨g, 2, none⟩ = false) ∧ (w'.frozen? ⟨g + 1, 0, none⟩ = false ∧ w'.frozen? ⟨g + 1, 1, none⟩ = false ∧ w'.frozen? ⟨g + 1, 2, none⟩ = false) := fun w' h => ⟨(u1.later h).cells, (T1.later h).cells, (T2.later h).cells, (T1.later h).frozen, (T2.later h).frozen⟩
    clear hMd R1 hb1 ha1 H1 t1 t2 hU hU' RLr
    go_upto_region 9 with fail
    rw [← hz1, ← hgl]
    clear hz1 hgl
    obtain ⟨⟨x0, x1, x2⟩, ⟨y0, y1, y2⟩, ⟨v0, v1, v2⟩, ⟨f0, f1, f2⟩, ⟨k0, k1, k2⟩⟩ := hcl z1 (Below.refl _ _)
    go_region_held3 (fun w' => w'.cell? ⟨gl, 0, none⟩ = some (.bool sl) ∧ w'.cell? ⟨gl, 1, none⟩ = some (.slice al nl cl) ∧ w'.cell? ⟨gl, 2, none⟩ = some (.slice bl ml dl)) (go_keep) (first | (go_at_call 45; refine (hU2 _ (by first | exact Below.refl _ _ | exact below_drewN (Below.refl _ _) _)).mono ?_; rintro e wA ⟨sh, ah, nh, ch, bh, mh, dh, rfl, RH, hBA, hbA⟩; clear x0 x1 x2 y0 y1 y2 v0 v1 v2 f0 f1 f2 k0 k1 k2; obtain ⟨⟨x0, x1, x2⟩, ⟨y0, y1, y2⟩, ⟨v0, v1, v2⟩, ⟨f0, f1, f2⟩, ⟨k0, k1, k2⟩⟩ := hcl wA hBA))
    go_wp2
    have S1 := (T1.later hBA).set (.bool sl) (.slice al nl cl) (.slice bl ml dl)
    have S2 := (T2.later hBA).inn (in3 wA g (.bool sl) (.slice al nl cl) (.slice bl ml dl)) (by omega)
    have S3 := S1.inn (in3 _ (g + 1) (.bool sh) (.slice ah nh ch) (.slice bh mh dh)) (by omega)
    have S4 := S2.set (.bool sh) (.slice ah nh ch) (.slice bh mh dh)
    have gw := HG.out
    have C0 := B1.trans (hBA.mono B1.size)
    have C1 := below_in C0 (in3 wA g (.bool sl) (.slice al nl cl) (.slice bl ml dl)) (by omega) (Nat.le_refl _)
    have C2 := below_in C1 (in3 _ (g + 1) (.bool sh) (.slice ah nh ch) (.slice bh mh dh)) (by omega) (Nat.le_refl _)
    have RL2 := ((RL.later hBA).inn (in3 wA g (.bool sl) (.slice al nl cl) (.slice bl ml dl)) (by omega)).inn (in3 _ (g + 1) (.bool sh) (.slice ah nh ch) (.slice bh mh dh)) (by omega)
    have zb : z1.heap.size ≤ wA.heap.size := hBA.size
    have RH2 := (RH.inn (in3 wA g (.bool sl) (.slice al nl cl) (.slice bl ml dl)) (by first | omega | (simp; omega))).inn (in3 _ (g + 1) (.bool sh) (.slice ah nh ch) (.slice bh mh dh)) (by first | omega | (simp; omega))
    have eT : (mt.tmod 2 == 0) = ev := by rw [Int.tmod_eq_emod_of_nonneg mb0]; exact eE
    have c1 := S3.cells
    have c2 := S4.cells
    refine bodyPost_ret (v := .tuple #[.agg #[.bool sl, .slice al nl cl, .slice bl ml dl], .agg #[.bool sh, .slice ah nh ch, .slice bh mh dh], .bool ev, .int .i64 0]) (by simp [results, Tryz.results18, go_sem, c1, c2, eT]) rfl ?_
    exact ⟨_, _, _, _, _, _, _, _, _, _, _, _, _, _, rfl, RtO_rt12b RL2, RtO_rt12b RH2, C2⟩
end Go.Proofs.YtalglldkjbinbaaGreatDoor

/- RyuEnds: there; the ends, a little within, a little beyond. -/
namespace Go.Proofs.YtalglldkjbinbaaGreatDoor
open Go.ChangeShapes Go.WideShapes Go.ChangeAt Go.RowKit
open Na Ar Ry
set_option linter.unusedVariables false
namespace Ry
/-- rounded to that size -/
def Th (q : Rat) (s : Int) : Prop := ∃ v, RoundIs (scA (q.num.natAbs : Int) 0) (scB (q.den : Int) 0) false (decide (q.num < 0)) 0 v 0 ∧ (v = s ∨ (s = 0 ∧ v = 9223372036854775808))
/-- over 2^41 times 2^1074 -/
def qz (A : Int) : Rat := mkR (decide (A < 0)) (if A < 0 then -A else A) (2199023255552 * e2 1074)
theorem qz_div (A : Int) : qz A = ((A : Int) : Rat) / (((2199023255552 * e2 1074 : Int)) : Rat) := by
  unfold qz
  rw [mkR_div _ (Int.mul_pos (by omega) (e2_pos _))]
  congr 2
  unfold sg
  by_cases h : A < 0
  · simp [h]
  · simp [h]
theorem low_div (s : Int) : lowR s = ((loN s : Int) : Rat) / (((2 * e2 1074 : Int)) : Rat) := by
  unfold lowR loN
  rw [mkR_div _ (Int.mul_pos (by omega) (e2_pos _))]
  congr 2
  unfold sg
  by_cases h : s = 0
  · simp [h]
  · simp [h]
theorem high_div (s : Int) : highR s = ((hiN s : Int) : Rat) / (((2 * e2 1074 : Int)) : Rat) := by
  unfold highR hiN
  rw [mkR_div _ (Int.mul_pos (by omega) (e2_pos _))]
  rfl
theorem bit_div : mkR false 1 1099511627776 = (1 : Rat) / (((1099511627776 : Int)) : Rat) := by
  rw [mkR_div _ (by omega)]
  rfl
theorem six {s : Int} : lowR s = qz (loN s * 1099511627776) ∧ highR s = qz (hiN s * 1099511627776) ∧
    lowR s + (highR s - lowR s) * mkR false 1 1099511627776 = qz (loN s * 1099511627776 + (hiN s - loN s)) ∧
    lowR s - (highR s - lowR s) * mkR false 1 1099511627776 = qz (loN s * 1099511627776 - (hiN s - loN s)) ∧
    highR s - (highR s - lowR s) * mkR false 1 1099511627776 = qz (hiN s * 1099511627776 - (hiN s - loN s)) ∧
    highR s + (highR s - lowR s) * mkR false 1 1099511627776 = qz (hiN s * 1099511627776 + (hiN s - loN s)) ∧
    highR s - lowR s = mkR false 1 1099511627776 * 0 + ((hiN s - loN s : Int) : Rat) / (((2 * e2 1074 : Int)) : Rat) := by
  have pE := rat_pos_ne (e2_pos 1074)
  rw [low_div, high_div, bit_div]
  simp only [qz_div, Rat.intCast_add, Rat.intCast_sub, Rat.intCast_mul]
  generalize ((e2 1074 : Int) : Rat) = e at *
  generalize ((loN s : Int) : Rat) = a
  generalize ((hiN s : Int) : Rat) = b
  have c1 : (((2 : Int)) : Rat) = 2 := rfl
  have c2 : (((1099511627776 : Int)) : Rat) = 1099511627776 := rfl
  have c3 : (((2199023255552 : Int)) : Rat) = 2199023255552 := rfl
  rw [c1, c2, c3]
  refine ⟨by grind, by grind, by grind, by grind, by grind, by grind, by grind⟩
/-- a number above 0, rounded -/
theorem th_pos {A s : Int} (hA : 0 < A) (hs : 0 < s) (h1 : s ≤ mostP) : Th (qz A) s ↔ (loN s * 1099511627776 ≤ A ∧ A ≤ hiN s * 1099511627776 ∧ ((loN s * 1099511627776 = A ∨ A = hiN s * 1099511627776) → s % 2 = 0)) := by
  have e0 : decide (A < 0) = false := by simp; omega
  have hq : qz A = mkR false A (2199023255552 * e2 1074) := by unfold qz; rw [e0, if_neg (by omega)]
  have rm := fun v => round_mk (v := v) (e := 0) (mode := 0) hA (show (0 : Int) < 2199023255552 by omega) hq
  have eL : loN s = numW (s - 1) + numW s := by unfold loN; rw [if_neg (by omega)]
  have eH : hiN s = numW s + nxtN s := rfl
  unfold Th
  rw [(rm 0).1]
  have key : (∃ v, RoundIs (scA ((qz A).num.natAbs : Int) 0) (scB ((qz A).den : Int) 0) false false 0 v 0 ∧ (v = s ∨ (s = 0 ∧ v = 9223372036854775808))) ↔ RoundIs A 2199023255552 false false 0 s 0 := by
    constructor
    · rintro ⟨v, h, hv⟩
      rcases hv with rfl | ⟨z, _⟩
      · exact (rm v).2.mp h
      · omega
    · intro h
      exact ⟨s, (rm s).2.mpr h, Or.inl rfl⟩
  rw [key, round_ends (by omega) (by omega) hs h1, ← eL, ← eH]
  generalize loN s = L
  generalize hiN s = H
  constructor
  · rintro ⟨a, b, c⟩
    exact ⟨by omega, by omega, fun q => c (by omega)⟩
  · rintro ⟨a, b, c⟩
    exact ⟨by omega, by omega, fun q => c (by omega)⟩
theorem round_null {A B : Int} {neg : Bool} (hA : 0 < A) (hB : 0 < B) : RoundIs A B false neg 0 (sgB neg) 0 ↔ 2 * A ≤ B := by
  constructor
  · intro h
    rcases even_near hB h with ⟨e, _⟩ | ⟨_, d, d0, d1, hb, g1, _⟩
    · omega
    · have : d = 0 := by omega
      subst this
      rw [num_zero', nxt_zero] at g1
      omega
  · intro h
    refine ⟨0, ⟨by omega, by decide, by rw [num_zero']; omega, Or.inr ?_⟩, Or.inl ⟨Or.inr ?_, by omega, rfl⟩⟩
    · show A < numW 1 * B
      rw [num_one']; omega
    · cases hu : upP A B false neg 0 0
      · rfl
      · have := even_up.mp hu
        rw [num_zero', nxt_zero] at this
        omega
theorem th_null {A : Int} (hA : A ≠ 0) : Th (qz A) 0 ↔ (-1099511627776 ≤ A ∧ A ≤ 1099511627776) := by
  have rm := fun v => round_mk (s := decide (A < 0)) (A := if A < 0 then -A else A) (v := v) (e := 0) (mode := 0) (by split <;> omega) (show (0 : Int) < 2199023255552 by omega) (q := qz A) rfl
  unfold Th
  rw [(rm 0).1]
  generalize hab : (if A < 0 then -A else A) = a at *
  have ha : 0 < a := by rw [← hab]; split <;> omega
  have hI : (-1099511627776 ≤ A ∧ A ≤ 1099511627776) ↔ 2 * a ≤ 2199023255552 := by rw [← hab]; split <;> omega
  rw [hI]
  constructor
  · rintro ⟨v, h, hv⟩
    have h2 := (rm v).2.mp h
    rcases even_near (by omega) h2 with ⟨e, _⟩ | ⟨_, d, d0, d1, hb, g1, _⟩
    · omega
    · have dz : d = 0 := by
        unfold mostP at d1
        unfold sgB at hb
        split at hb <;> omega
      subst dz
      rw [num_zero', nxt_zero] at g1
      omega
  · intro h
    refine ⟨sgB (decide (A < 0)), (rm _).2.mpr ((round_null ha (by omega)).mpr h), ?_⟩
    unfold sgB
    split
    · right; exact ⟨rfl, rfl⟩
    · left; rfl
/-- what lies where -/
theorem six_there {s : Int} (h0 : 0 ≤ s) (h1 : s ≤ mostP) : (Th (qz (loN s * 1099511627776)) s ↔ s % 2 = 0) ∧ (Th (qz (hiN s * 1099511627776)) s ↔ s % 2 = 0) ∧ Th (qz (loN s * 1099511627776 + (hiN s - loN s))) s ∧ Th (qz (hiN s * 1099511627776 - (hiN s - loN s))) s ∧ ¬ Th (qz (loN s * 1099511627776 - (hiN s - loN s))) s ∧ ¬ Th (qz (hiN s * 1099511627776 + (hiN s - loN s))) s ∧ loN s < hiN s := by
  by_cases z : s = 0
  · subst z
    have e1 : loN 0 = -1 := rfl
    have e2' : hiN 0 = 1 := by unfold hiN; rw [num_zero', nxt_zero]; rfl
    rw [e1, e2', th_null (by omega), th_null (by omega), th_null (by omega), th_null (by omega), th_null (by omega), th_null (by omega)]
    omega
  · have n1 := num_lt' (p := s - 1) (q := s) (by omega) (by omega) h1
    have n2 := num_nonneg' (p := s - 1) (by omega) (by omega)
    have n3 := nxt_gt s
    have eL : loN s = numW (s - 1) + numW s := by unfold loN; rw [if_neg z]
    have eH : hiN s = numW s + nxtN s := rfl
    obtain ⟨q1, q2, q3, q4, q5, q6, q7, q8, q9⟩ := parts_of (p := s) (by omega) h1
    have dc := dn_cases (mP s) (iP s)
    -- H - L is not above twice L
    have hw : hiN s - loN s ≤ 2 * loN s := by
      rw [eL, eH]
      have p := Int.pow_pos (n := (2 : Int)) (m := iP s) (by omega)
      have a1 : ((4 * mP s + 2 : Nat) : Int) * 2 ^ iP s ≤ 3 * (((4 * mP s - dnR (mP s) (iP s) : Nat) : Int) * 2 ^ iP s) := by
        rw [← Int.mul_assoc]
        exact Int.mul_le_mul_of_nonneg_right (by omega) (Int.le_of_lt p)
      omega
    have hL : 0 < loN s := by omega
    have hH : loN s < hiN s := by omega
    rw [th_pos (by omega) (by omega) h1, th_pos (by omega) (by omega) h1, th_pos (by omega) (by omega) h1, th_pos (by omega) (by omega) h1, th_pos (by omega) (by omega) h1, th_pos (by omega) (by omega) h1]
    generalize loN s = L at *
    generalize hiN s = H at *
    clear q7 q8 q9
    refine ⟨⟨fun h => h.2.2 (Or.inl rfl), fun h => ⟨by omega, by omega, fun _ => h⟩⟩, ⟨fun h => h.2.2 (Or.inr rfl), fun h => ⟨by omega, by omega, fun _ => h⟩⟩, ⟨by omega, by omega, fun h => by omega⟩, ⟨by omega, by omega, fun h => by omega⟩, fun h => by omega, fun h => by omega, hH⟩
end Ry
set_option maxHeartbeats 1600000 in
set_option maxRecDepth 100000 in
theorem there12_any {s : Int} {w : World} {sq : Bool} {a b : Option Addr} {n c m d : Nat} {q : Rat} {k : Nat} (hR : Rt w sq a n c b m d q) (z : Sz q k) (hk : k ≤ 4096) (hG : GrVar w) :
    Calls Tryz.prog 23 #[.agg #[.bool sq, .slice a n c, .slice b m d], .int .u64 s] w fun r w' => ∃ t, r = .returned (.bool t) ∧ (t = true ↔ Th q s) ∧ Below w.heap.size w w' := by
  have t0 := st_new w (.bool sq) (.slice a n c) (.slice b m d) 26
  have hb0 := alloc_below (w := w) (.cells #[.bool sq, .slice a n c, .slice b m d] 26)
  have R1 := hR.later hb0
  have hs : Hid (sq = decide (q.num < 0)) := hR.sgn
  have hQ := nearRat_ok (mode := 0) R1 z hk (by omega) (by omega) (hG.later hb0)
  obtain ⟨x0, x1, x2⟩ := t0.cells
  clear hR R1 t0
  go_enter Tryz.func23, Tryz.ntmps23
  go_wp2_with fail
  refine hQ.mono ?_
  rintro r w1 ⟨v, E, rfl, hr, hu, b1⟩
  rw [hs.out] at hr
  have B1 := hb0.trans (b1.mono hb0.size)
  have uq : ∀ v' , RoundIs (scA (q.num.natAbs : Int) 0) (scB (q.den : Int) 0) false (decide (q.num < 0)) 0 v' 0 → v' = v ∧ (0 : Int) = E := fun v' h => roundIs_uniq (scB_pos' (by have := q.den_pos; omega)) h hr
  have HR : Hid (RoundIs (scA (q.num.natAbs : Int) 0) (scB (q.den : Int) 0) false (decide (q.num < 0)) 0 v E) := hr
  have HQ : Hid (∀ v' , RoundIs (scA (q.num.natAbs : Int) 0) (scB (q.den : Int) 0) false (decide (q.num < 0)) 0 v' 0 → v' = v ∧ (0 : Int) = E) := uq
  clear hQ x0 x1 x2 hb0 b1 hr uq hs
  go_wp2_with fail
  refine (num12_same _ _).mono ?_
  rintro r vz ⟨rfl, hz⟩
  rw [hz]
  clear hz
  by_cases e0 : E = 0
  · subst e0
    by_cases c1 : v = s
    · have q1 : (v == s) = true := beq_of c1
      go_wp2
      go_ret
      exact ⟨true, rfl, ⟨fun _ => ⟨v, HR.out, Or.inl c1⟩, fun _ => rfl⟩, B1⟩
    · have q1 : (v == s) = false := beq_no c1
      by_cases c2 : s = 0
      · have q2 : (s == 0) = true := beq_of c2
        have q1' : (v == 0) = false := beq_no (by omega)
        by_cases c3 : v = 9223372036854775808
        · have q3 : (v == 9223372036854775808) = true := beq_of c3
          go_wp2
          go_ret
          exact ⟨true, rfl, ⟨fun _ => ⟨v, HR.out, Or.inr ⟨c2, c3⟩⟩, fun _ => rfl⟩, B1⟩
        · have q3 : (v == 9223372036854775808) = false := beq_no c3
          go_wp2
          go_ret
          refine ⟨false, rfl, ⟨(fun h => nomatch h), ?_⟩, B1⟩
          rintro ⟨v', h, hv⟩
          obtain ⟨rfl, _⟩ := HQ.out v' h
          rcases hv with hv | ⟨_, hv⟩
          · exact absurd hv c1
          · exact absurd hv c3
      · have q2 : (s == 0) = false := beq_no c2
        go_wp2
        go_ret
        refine ⟨false, rfl, ⟨(fun h => nomatch h), ?_⟩, B1⟩
        rintro ⟨v', h, hv⟩
        obtain ⟨rfl, _⟩ := HQ.out v' h
        rcases hv with hv | ⟨hv, _⟩
        · exact absurd hv c1
        · exact absurd hv c2
  · have q1 : (E == 0) = false := beq_no e0
    go_wp2
    go_ret
    refine ⟨false, rfl, ⟨(fun h => nomatch h), ?_⟩, B1⟩
    rintro ⟨v', h, hv⟩
    exact absurd (HQ.out v' h).2.symm e0
theorem small_words : words (((mkR false 1 1099511627776).num.natAbs : Nat) : Int) = [1] ∧ words (((mkR false 1 1099511627776).den : Nat) : Int) = [1099511627776] ∧ false = decide ((mkR false 1 1099511627776).num < 0) := by
  have a : (((mkR false 1 1099511627776).num.natAbs : Nat) : Int) = 1 := by decide
  have b : (((mkR false 1 1099511627776).den : Nat) : Int) = 1099511627776 := by decide
  have one : ∀ x : Int, 0 < x → x < 18446744073709551616 → words x = [x] := by
    intro x h h'
    have w : Ws [x] := Dg.one ⟨by omega, h'⟩
    have s := words_strip w
    have n : num [x] = x := by simp [num, val]
    rw [n] at s
    rw [← s]
    exact strip_end [] x (by omega)
  rw [a, b]
  exact ⟨one 1 (by omega) (by omega), one 1099511627776 (by omega) (by omega), by decide⟩
theorem small_rt (w : World) : Rt ((w.alloc (.cells #[.int .u64 1] 22)).alloc (.cells #[.int .u64 1099511627776] 22)) false (some ⟨w.heap.size, 0, none⟩) 1 1 (some ⟨w.heap.size + 1, 0, none⟩) 1 1 (mkR false 1 1099511627776) ∧ Below w.heap.size w ((w.alloc (.cells #[.int .u64 1] 22)).alloc (.cells #[.int .u64 1099511627776] 22)) := by
  obtain ⟨e1, e2, e3⟩ := small_words
  have r1 := rowC_one w 1 22
  have b1 := alloc_below (w := w) (.cells #[.int .u64 1] 22)
  have s1 : (w.alloc (.cells #[.int .u64 1] 22)).heap.size = w.heap.size + 1 := by simp
  generalize w.alloc (.cells #[.int .u64 1] 22) = w1 at *
  have r2 := rowC_one w1 1099511627776 22
  have b2 := alloc_below (w := w1) (.cells #[.int .u64 1099511627776] 22)
  generalize w1.alloc (.cells #[.int .u64 1099511627776] 22) = w2 at *
  rw [s1] at r2
  exact ⟨⟨e3, by rw [e1]; exact r1.later b2, by rw [e2]; exact r2⟩, b1.trans (b2.mono b1.size)⟩
theorem sz_small : Sz (mkR false 1 1099511627776) 1 := Sz.mkR (Lt.word (by omega)) (Lt.word (by omega)) (by omega)
theorem high_size {s : Int} (h0 : 0 ≤ s) (h1 : s ≤ mostP) : Sz (highR s) 40 := by
  have n0 := num_nonneg' h0 h1
  have n1 := num_mono h0 h1 (Int.le_refl _)
  have n2 := nxt_gt mostP
  have n3 : nxtN s ≤ nxtN mostP := by
    by_cases z : s = mostP
    · rw [z]; exact Int.le_refl _
    · rw [← num_succ h0 (by omega)]
      have := num_mono (p := s + 1) (q := mostP) (by omega) (by omega) (Int.le_refl _)
      omega
  have n4 := nxt_gt s
  have one : Lt 1 1 := Lt.word (by omega)
  have p1 : Lt (1 * 2 ^ 2100) 34 := one.pow2
  have p2 : Lt (1 * 2 ^ 1075) 18 := one.pow2
  have e1 : nxtN mostP = 2 ^ 2098 := nxt_most
  have e3 : (2 : Int) ^ 2100 = 2 ^ 2098 * 2 * 2 := by rw [Int.pow_succ, Int.pow_succ]
  have e4 : (2 : Int) ^ 1075 = 2 ^ 1074 * 2 := Int.pow_succ _ _
  have e5 : e2 1074 = (2 : Int) ^ 1074 := rfl
  unfold highR
  refine Sz.mkR ((p1.le (by omega) ?_).mono (by omega)) ((p2.le (Int.le_of_lt (Int.mul_pos (by omega) (e2_pos _))) ?_).mono (by omega)) (Int.mul_pos (by omega) (e2_pos _))
  · rw [e3]
    rw [e1] at n2 n3
    generalize (2 : Int) ^ 2098 = T at *
    omega
  · rw [e4, e5]
    generalize (2 : Int) ^ 1074 = T
    omega
theorem there12_is {s : Int} {t : Bool} {w : World} {sq : Bool} {a b : Option Addr} {n c m d : Nat} {q : Rat} {k : Nat} (hR : Rt w sq a n c b m d q) (z : Sz q k) (hk : k ≤ 4096) (hG : GrVar w) (ht : Th q s ↔ t = true) :
    Calls Tryz.prog 23 #[.agg #[.bool sq, .slice a n c, .slice b m d], .int .u64 s] w fun r w' => r = .returned (.bool t) ∧ Below w.heap.size w w' :=
  (there12_any hR z hk hG).mono (by
    rintro r w' ⟨t', rfl, h, hb⟩
    have : t' = t := by rw [Bool.eq_iff_iff, h, ht]
    rw [this]
    exact ⟨rfl, hb⟩)
end Go.Proofs.YtalglldkjbinbaaGreatDoor

/- RyuApart: neighbours have unlike decimals, rising. -/
namespace Go.Proofs.YtalglldkjbinbaaGreatDoor
open Go.ChangeShapes Go.WideShapes Go.ChangeAt Go.RowKit
open Na Ar Ry
set_option linter.unusedVariables false
namespace Ry
end Ry
theorem finite12_any {b : Int} (hu : U b) (w : World) : Calls Tryz.prog 12 #[.int .u64 b] w fun r w' => r = .returned (.bool (ef b != 2047)) ∧ w' = w := by
  have h := field_and hu
  go_enter Tryz.func12, Tryz.ntmps12
  go_wp2
  go_ret
  exact ⟨rfl, rfl⟩
end Go.Proofs.YtalglldkjbinbaaGreatDoor

/- RyuEnds: the walk. -/
namespace Go.Proofs.YtalglldkjbinbaaGreatDoor
open Go.ChangeShapes Go.WideShapes Go.ChangeAt Go.RowKit
open Na Ar Ry
set_option linter.unusedVariables false
theorem Ry.sgn_of {s : Int} (h : loN s < hiN s) : sgnR (highR s - lowR s) = 1 := by
  have e := (six (s := s)).2.2.2.2.2.2
  have z : mkR false 1 1099511627776 * 0 = 0 := by grind
  rw [z, Rat.zero_add] at e
  have p2 : 0 < 2 * e2 1074 := Int.mul_pos (by omega) (e2_pos _)
  have e1 : highR s - lowR s = mkR false (hiN s - loN s) (2 * e2 1074) := by
    rw [e, mkR_div _ p2]; rfl
  rw [e1]
  have nn : ¬ (mkR false (hiN s - loN s) (2 * e2 1074)).num < 0 := by
    rw [rat_num (by omega) p2, sg_false]
    have := Int.ediv_nonneg (a := hiN s - loN s) (b := (Int.gcd (hiN s - loN s) (2 * e2 1074) : Int)) (by omega) (by omega)
    omega
  have nz : (mkR false (hiN s - loN s) (2 * e2 1074)).num ≠ 0 := by
    intro q
    have c := mkR_cross false (A := hiN s - loN s) (by omega) p2
    rw [q, sg_false, Int.zero_mul] at c
    have pd : (0 : Int) < ((mkR false (hiN s - loN s) (2 * e2 1074)).den : Int) := by have := (mkR false (hiN s - loN s) (2 * e2 1074)).den_pos; omega
    have := Int.mul_pos (show 0 < hiN s - loN s by omega) pd
    omega
  unfold sgnR
  rw [if_neg nz, if_neg nn]
set_option maxHeartbeats 12800000 in
set_option maxRecDepth 100000 in
theorem ends_fin {b : Int} (hu : U b) (hf : ef b ≠ 2047) {w : World} (hG : GrVar w) :
    Calls Tryz.prog 5 #[.int .u64 b] w fun r w' => r = .returned (.bool true) ∧ Below w.heap.size w w' := by
  have hI := fun w => interval_fin hu hf w
  have hF := fun w => finite12_any hu w
  rw [bne_yes hf] at hF
  have hs := size_bits hu
  have hm := mg_bd b
  have p1 : mg b ≤ mostP := by
    have := ef_bd b
    have := fr_bd b
    have := mg_parts b
    unfold mostP
    omega
  have zL := low_size hm.1 p1
  have zH := high_size hm.1 p1
  obtain ⟨i1, i2, i3, i4, i5, i6, i7⟩ := six_there hm.1 p1
  have hsg := sgn_of i7
  obtain ⟨j1, j2, j3, j4, j5, j6, -⟩ := six (s := mg b)
  rw [← j1] at i1
  rw [← j2] at i2
  rw [← j3] at i3
  rw [← j5] at i4
  rw [← j4] at i5
  rw [← j6] at i6
  have us : U (mg b) := U_mg b
  have ha := and_one us
  have hev : ((mg b % 2) == 0) = decide (mg b % 2 = 0) := by rw [Bool.eq_iff_iff, beq_iff_eq, decide_eq_true_eq]
  have k1 : Th (lowR (mg b)) (mg b) ↔ decide (mg b % 2 = 0) = true := by rw [i1, decide_eq_true_eq]
  have k2 : Th (highR (mg b)) (mg b) ↔ decide (mg b % 2 = 0) = true := by rw [i2, decide_eq_true_eq]
  have HK : Hid ((Th (lowR (mg b)) (mg b) ↔ decide (mg b % 2 = 0) = true) ∧ (Th (highR (mg b)) (mg b) ↔ decide (mg b % 2 = 0) = true)) := ⟨k1, k2⟩
  have HI : Hid (Th (lowR (mg b) + (highR (mg b) - lowR (mg b)) * mkR false 1 1099511627776) (mg b) ∧ Th (highR (mg b) - (highR (mg b) - lowR (mg b)) * mkR false 1 1099511627776) (mg b) ∧ ¬ Th (lowR (mg b) - (highR (mg b) - lowR (mg b)) * mkR false 1 1099511627776) (mg b) ∧ ¬ Th (highR (mg b) + (highR (mg b) - lowR (mg b)) * mkR false 1 1099511627776) (mg b)) := ⟨i3, i4, i5, i6⟩
  clear i1 i2 i3 i4 i5 i6 i7 j1 j2 j3 j4 j5 j6 k1 k2 hf p1
  have zS := sz_small
  have sm := fun w => small_rt w
  generalize decide (mg b % 2 = 0) = ev at *
  generalize mg b % 2 = mo at *
  generalize lowR (mg b) = QL at *
  generalize highR (mg b) = QH at *
  generalize mkR false 1 1099511627776 = QS at *
  generalize mg b = s at *
  have qe : (ev != ev) = false := by cases ev <;> rfl
  have qe2 : (ev == ev) = true := by cases ev <;> rfl
  go_enter Tryz.func5, Tryz.ntmps5
  go_wp2_with fail
  refine (fixed12_any _).mono ?_
  rintro r v1 ⟨rfl, b1⟩
  go_wp2_with fail
  refine (hI _).mono ?_
  rintro r v2 ⟨sL, aL, nL, cL, bL, mL, dL, sH, aH, nH, cH, bH, mH, dH, rfl, RL, RH, b2⟩
  have B2 := b1.trans (b2.mono b1.size)
  clear b1 b2 hI
  obtain ⟨tL0, tH0, hb2⟩ := st_two v2 (.bool sL) (.slice aL nL cL) (.slice bL mL dL) (.bool sH) (.slice aH nH cH) (.slice bH mH dH) 26 26
  obtain ⟨W0, hW0⟩ : ∃ z, z = (v2.alloc (.cells #[.bool sL, .slice aL nL cL, .slice bL mL dL] 26)).alloc (.cells #[.bool sH, .slice aH nH cH, .slice bH mH dH] 26) := ⟨_, rfl⟩
  obtain ⟨gL, hgL⟩ : ∃ z, z = v2.heap.size := ⟨_, rfl⟩
  rw [← hW0] at tL0 tH0 hb2
  rw [← hgL] at tL0 tH0
  have qL0 := RL.later hb2
  have qH0 := RH.later hb2
  have B0 := B2.trans (hb2.mono B2.size)
  clear RL RH hb2 B2
  go_wp2_with fail
  rw [← hW0, ← hgL]
  clear hW0 hgL
  refine (hF _).mono ?_
  rintro r vz ⟨rfl, hz⟩
  rw [hz]
  clear hz hF
  go_wp2_with fail
  refine (num12_same _ _).mono ?_
  rintro r vz ⟨rfl, hz⟩
  rw [hz]
  clear hz
  have hCD := rSub_ok qH0 qL0 zH zL (by omega)
  obtain ⟨x0a, x0b, x0c⟩ := tH0.cells
  obtain ⟨x1a, x1b, x1c⟩ := tL0.cells
  go_wp2_with fail
  refine hCD.mono ?_
  rintro r wD ⟨sD, v1, v2, rfl, RD, zD, hbD⟩
  obtain ⟨aD, nD, cD, bD, mD, dD, rfl, rfl, RrD⟩ := RD.opens
  clear hCD RD x0a x0b x0c x1a x1b x1c
  have haD := alloc_below (w := wD) (.cells #[.bool sD, .slice aD nD cD, .slice bD mD dD] 26)
  have HDb := hbD.trans (haD.mono hbD.size)
  have tD1 := st_new wD (.bool sD) (.slice aD nD cD) (.slice bD mD dD) 26
  have qD1 := RrD.later haD
  obtain ⟨W1, hW1⟩ : ∃ z, z = wD.alloc (.cells #[.bool sD, .slice aD nD cD, .slice bD mD dD] 26) := ⟨_, rfl⟩
  obtain ⟨gD, hgD⟩ : ∃ z, z = wD.heap.size := ⟨_, rfl⟩
  rw [← hW1] at haD HDb tD1 qD1
  rw [← hgD] at tD1
  have tL1 := tL0.later HDb
  have qL1 := qL0.later HDb
  have tH1 := tH0.later HDb
  have qH1 := qH0.later HDb
  have B1 := B0.trans (HDb.mono B0.size)
  clear B0 haD HDb hbD RrD tL0 qL0 tH0 qH0
  go_upto_region 10 with fail
  rw [← hW1, ← hgD]
  clear hW1 hgD
  obtain ⟨Q8, hal⟩ := sm W1
  have hCT := rMul_ok (qD1.later hal) Q8 zD zS (by omega)
  obtain ⟨x0a, x0b, x0c⟩ := tD1.cells
  go_wp2_with fail
  refine hCT.mono ?_
  rintro r wT ⟨sT, v1, v2, rfl, RT, zT, hbT⟩
  obtain ⟨aT, nT, cT, bT, mT, dT, rfl, rfl, RrT⟩ := RT.opens
  clear hCT RT x0a x0b x0c
  replace hbT := hal.trans (hbT.mono hal.size)
  have haT := alloc_below (w := wT) (.cells #[.bool sT, .slice aT nT cT, .slice bT mT dT] 26)
  have HTb := hbT.trans (haT.mono hbT.size)
  have tT2 := st_new wT (.bool sT) (.slice aT nT cT) (.slice bT mT dT) 26
  have qT2 := RrT.later haT
  obtain ⟨W2, hW2⟩ : ∃ z, z = wT.alloc (.cells #[.bool sT, .slice aT nT cT, .slice bT mT dT] 26) := ⟨_, rfl⟩
  obtain ⟨gT, hgT⟩ : ∃ z, z = wT.heap.size := ⟨_, rfl⟩
  rw [← hW2] at haT HTb tT2 qT2
  rw [← hgT] at tT2
  have tL2 := tL1.later HTb
  have qL2 := qL1.later HTb
  have tH2 := tH1.later HTb
  have qH2 := qH1.later HTb
  have tD2 := tD1.later HTb
  have qD2 := qD1.later HTb
  have B2 := B1.trans (HTb.mono B1.size)
  clear B1 haT HTb hbT RrT tL1 qL1 tH1 qH1 tD1 qD1 hal Q8
  go_upto_region 11 with fail
  rw [← hW2, ← hgT]
  clear hW2 hgT
  have hCP := rAdd_ok qL2 qT2 zL zT (by omega)
  obtain ⟨x0a, x0b, x0c⟩ := tL2.cells
  obtain ⟨x1a, x1b, x1c⟩ := tT2.cells
  go_wp2_with fail
  refine hCP.mono ?_
  rintro r wP ⟨sP, v1, v2, rfl, RP, zP, hbP⟩
  obtain ⟨aP, nP, cP, bP, mP, dP, rfl, rfl, RrP⟩ := RP.opens
  clear hCP RP x0a x0b x0c x1a x1b x1c
  have haP := alloc_below (w := wP) (.cells #[.bool sP, .slice aP nP cP, .slice bP mP dP] 26)
  have HPb := hbP.trans (haP.mono hbP.size)
  have tP3 := st_new wP (.bool sP) (.slice aP nP cP) (.slice bP mP dP) 26
  have qP3 := RrP.later haP
  obtain ⟨W3, hW3⟩ : ∃ z, z = wP.alloc (.cells #[.bool sP, .slice aP nP cP, .slice bP mP dP] 26) := ⟨_, rfl⟩
  obtain ⟨gP, hgP⟩ : ∃ z, z = wP.heap.size := ⟨_, rfl⟩
  rw [← hW3] at haP HPb tP3 qP3
  rw [← hgP] at tP3
  have tL3 := tL2.later HPb
  have qL3 := qL2.later HPb
  have tH3 := tH2.later HPb
  have qH3 := qH2.later HPb
  have tD3 := tD2.later HPb
  have qD3 := qD2.later HPb
  have tT3 := tT2.later HPb
  have qT3 := qT2.later HPb
  have B3 := B2.trans (HPb.mono B2.size)
  clear B2 haP HPb hbP RrP tL2 qL2 tH2 qH2 tD2 qD2 tT2 qT2
  go_upto_region 12 with fail
  rw [← hW3, ← hgP]
  clear hW3 hgP
  have hCQ := rSub_ok qL3 qT3 zL zT (by omega)
  obtain ⟨x0a, x0b, x0c⟩ := tL3.cells
  obtain ⟨x1a, x1b, x1c⟩ := tT3.cells
  go_wp2_with fail
  refine hCQ.mono ?_
  rintro r wQ ⟨sQ, v1, v2, rfl, RQ, zQ, hbQ⟩
  obtain ⟨aQ, nQ, cQ, bQ, mQ, dQ, rfl, rfl, RrQ⟩ := RQ.opens
  clear hCQ RQ x0a x0b x0c x1a x1b x1c
  have haQ := alloc_below (w := wQ) (.cells #[.bool sQ, .slice aQ nQ cQ, .slice bQ mQ dQ] 26)
  have HQb := hbQ.trans (haQ.mono hbQ.size)
  have tQ4 := st_new wQ (.bool sQ) (.slice aQ nQ cQ) (.slice bQ mQ dQ) 26
  have qQ4 := RrQ.later haQ
  obtain ⟨W4, hW4⟩ : ∃ z, z = wQ.alloc (.cells #[.bool sQ, .slice aQ nQ cQ, .slice bQ mQ dQ] 26) := ⟨_, rfl⟩
  obtain ⟨gQ, hgQ⟩ : ∃ z, z = wQ.heap.size := ⟨_, rfl⟩
  rw [← hW4] at haQ HQb tQ4 qQ4
  rw [← hgQ] at tQ4
  have tL4 := tL3.later HQb
  have qL4 := qL3.later HQb
  have tH4 := tH3.later HQb
  have qH4 := qH3.later HQb
  have tD4 := tD3.later HQb
  have qD4 := qD3.later HQb
  have tT4 := tT3.later HQb
  have qT4 := qT3.later HQb
  have tP4 := tP3.later HQb
  have qP4 := qP3.later HQb
  have B4 := B3.trans (HQb.mono B3.size)
  clear B3 haQ HQb hbQ RrQ tL3 qL3 tH3 qH3 tD3 qD3 tT3 qT3 tP3 qP3
  go_upto_region 13 with fail
  rw [← hW4, ← hgQ]
  clear hW4 hgQ
  have hCR := rSub_ok qH4 qT4 zH zT (by omega)
  obtain ⟨x0a, x0b, x0c⟩ := tH4.cells
  obtain ⟨x1a, x1b, x1c⟩ := tT4.cells
  go_wp2_with fail
  refine hCR.mono ?_
  rintro r wR ⟨sR, v1, v2, rfl, RR, zR, hbR⟩
  obtain ⟨aR, nR, cR, bR, mR, dR, rfl, rfl, RrR⟩ := RR.opens
  clear hCR RR x0a x0b x0c x1a x1b x1c
  have haR := alloc_below (w := wR) (.cells #[.bool sR, .slice aR nR cR, .slice bR mR dR] 26)
  have HRb := hbR.trans (haR.mono hbR.size)
  have tR5 := st_new wR (.bool sR) (.slice aR nR cR) (.slice bR mR dR) 26
  have qR5 := RrR.later haR
  obtain ⟨W5, hW5⟩ : ∃ z, z = wR.alloc (.cells #[.bool sR, .slice aR nR cR, .slice bR mR dR] 26) := ⟨_, rfl⟩
  obtain ⟨gR, hgR⟩ : ∃ z, z = wR.heap.size := ⟨_, rfl⟩
  rw [← hW5] at haR HRb tR5 qR5
  rw [← hgR] at tR5
  have tL5 := tL4.later HRb
  have qL5 := qL4.later HRb
  have tH5 := tH4.later HRb
  have qH5 := qH4.later HRb
  have tD5 := tD4.later HRb
  have qD5 := qD4.later HRb
  have tT5 := tT4.later HRb
  have qT5 := qT4.later HRb
  have tP5 := tP4.later HRb
  have qP5 := qP4.later HRb
  have tQ5 := tQ4.later HRb
  have qQ5 := qQ4.later HRb
  have B5 := B4.trans (HRb.mono B4.size)
  clear B4 haR HRb hbR RrR tL4 qL4 tH4 qH4 tD4 qD4 tT4 qT4 tP4 qP4 tQ4 qQ4
  go_upto_region 14 with fail
  rw [← hW5, ← hgR]
  clear hW5 hgR
  have hCS := rAdd_ok qH5 qT5 zH zT (by omega)
  obtain ⟨x0a, x0b, x0c⟩ := tH5.cells
  obtain ⟨x1a, x1b, x1c⟩ := tT5.cells
  go_wp2_with fail
  refine hCS.mono ?_
  rintro r wS ⟨sS, v1, v2, rfl, RS, zS, hbS⟩
  obtain ⟨aS, nS, cS, bS, mS, dS, rfl, rfl, RrS⟩ := RS.opens
  clear hCS RS x0a x0b x0c x1a x1b x1c
  have haS := alloc_below (w := wS) (.cells #[.bool sS, .slice aS nS cS, .slice bS mS dS] 26)
  have HSb := hbS.trans (haS.mono hbS.size)
  have tS6 := st_new wS (.bool sS) (.slice aS nS cS) (.slice bS mS dS) 26
  have qS6 := RrS.later haS
  obtain ⟨W6, hW6⟩ : ∃ z, z = wS.alloc (.cells #[.bool sS, .slice aS nS cS, .slice bS mS dS] 26) := ⟨_, rfl⟩
  obtain ⟨gS, hgS⟩ : ∃ z, z = wS.heap.size := ⟨_, rfl⟩
  rw [← hW6] at haS HSb tS6 qS6
  rw [← hgS] at tS6
  have tL6 := tL5.later HSb
  have qL6 := qL5.later HSb
  have tH6 := tH5.later HSb
  have qH6 := qH5.later HSb
  have tD6 := tD5.later HSb
  have qD6 := qD5.later HSb
  have tT6 := tT5.later HSb
  have qT6 := qT5.later HSb
  have tP6 := tP5.later HSb
  have qP6 := qP5.later HSb
  have tQ6 := tQ5.later HSb
  have qQ6 := qQ5.later HSb
  have tR6 := tR5.later HSb
  have qR6 := qR5.later HSb
  have B6 := B5.trans (HSb.mono B5.size)
  clear B5 haS HSb hbS RrS tL5 qL5 tH5 qH5 tD5 qD5 tT5 qT5 tP5 qP5 tQ5 qQ5 tR5 qR5
  go_upto_region 15 with fail
  rw [← hW6, ← hgS]
  clear hW6 hgS
  go_wp2_with fail
  refine (num12_same _ _).mono ?_
  rintro r vz ⟨rfl, hz⟩
  rw [hz]
  clear hz
  go_wp2_with fail
  refine (num12_same _ _).mono ?_
  rintro r vz ⟨rfl, hz⟩
  rw [hz]
  clear hz
  go_wp2_with fail
  refine (num12_same _ _).mono ?_
  rintro r vz ⟨rfl, hz⟩
  rw [hz]
  clear hz
  go_wp2_with fail
  refine (num12_same _ _).mono ?_
  rintro r vz ⟨rfl, hz⟩
  rw [hz]
  clear hz
  go_wp2_with fail
  refine (num12_same _ _).mono ?_
  rintro r vz ⟨rfl, hz⟩
  rw [hz]
  clear hz
  go_wp2_with fail
  refine (num12_same _ _).mono ?_
  rintro r vz ⟨rfl, hz⟩
  rw [hz]
  clear hz
  have hSg := rSign_any qD6 (by have := qD6.le zD; omega) hsg
  obtain ⟨x0, x1, x2⟩ := tD6.cells
  go_wp2_with fail
  refine hSg.mono ?_
  rintro r W7 ⟨rfl, b7⟩
  clear hSg x0 x1 x2
  have tL7 := tL6.later b7
  have qL7 := qL6.later b7
  have tH7 := tH6.later b7
  have qH7 := qH6.later b7
  have tP7 := tP6.later b7
  have qP7 := qP6.later b7
  have tR7 := tR6.later b7
  have qR7 := qR6.later b7
  have tQ7 := tQ6.later b7
  have qQ7 := qQ6.later b7
  have tS7 := tS6.later b7
  have qS7 := qS6.later b7
  have B7 := B6.trans (b7.mono B6.size)
  clear B6 b7 tD6 qD6 tT6 qT6 tL6 qL6 tH6 qH6 tP6 qP6 tR6 qR6 tQ6 qQ6 tS6 qS6
  have hTL := there12_is (s := s) (t := ev) qL7 zL (by omega) (hG.later B7) (HK.out.1)
  obtain ⟨x0, x1, x2⟩ := tL7.cells
  go_wp2_with fail
  refine hTL.mono ?_
  rintro r W8 ⟨rfl, bb⟩
  clear hTL x0 x1 x2
  have tH8 := tH7.later bb
  have qH8 := qH7.later bb
  have tP8 := tP7.later bb
  have qP8 := qP7.later bb
  have tR8 := tR7.later bb
  have qR8 := qR7.later bb
  have tQ8 := tQ7.later bb
  have qQ8 := qQ7.later bb
  have tS8 := tS7.later bb
  have qS8 := qS7.later bb
  have B8 := B7.trans (bb.mono B7.size)
  clear B7 bb tL7 qL7 tH7 qH7 tP7 qP7 tR7 qR7 tQ7 qQ7 tS7 qS7
  have hTH := there12_is (s := s) (t := ev) qH8 zH (by omega) (hG.later B8) (HK.out.2)
  obtain ⟨x0, x1, x2⟩ := tH8.cells
  go_wp2_with fail
  refine hTH.mono ?_
  rintro r W9 ⟨rfl, bb⟩
  clear hTH x0 x1 x2
  have tP9 := tP8.later bb
  have qP9 := qP8.later bb
  have tR9 := tR8.later bb
  have qR9 := qR8.later bb
  have tQ9 := tQ8.later bb
  have qQ9 := qQ8.later bb
  have tS9 := tS8.later bb
  have qS9 := qS8.later bb
  have B9 := B8.trans (bb.mono B8.size)
  clear B8 bb tH8 qH8 tP8 qP8 tR8 qR8 tQ8 qQ8 tS8 qS8
  have hTP := there12_is (s := s) (t := true) qP9 zP (by omega) (hG.later B9) (⟨fun _ => rfl, fun _ => HI.out.1⟩)
  obtain ⟨x0, x1, x2⟩ := tP9.cells
  go_wp2_with fail
  refine hTP.mono ?_
  rintro r W10 ⟨rfl, bb⟩
  clear hTP x0 x1 x2
  have tR10 := tR9.later bb
  have qR10 := qR9.later bb
  have tQ10 := tQ9.later bb
  have qQ10 := qQ9.later bb
  have tS10 := tS9.later bb
  have qS10 := qS9.later bb
  have B10 := B9.trans (bb.mono B9.size)
  clear B9 bb tP9 qP9 tR9 qR9 tQ9 qQ9 tS9 qS9
  have hTR := there12_is (s := s) (t := true) qR10 zR (by omega) (hG.later B10) (⟨fun _ => rfl, fun _ => HI.out.2.1⟩)
  obtain ⟨x0, x1, x2⟩ := tR10.cells
  go_wp2_with fail
  refine hTR.mono ?_
  rintro r W11 ⟨rfl, bb⟩
  clear hTR x0 x1 x2
  have tQ11 := tQ10.later bb
  have qQ11 := qQ10.later bb
  have tS11 := tS10.later bb
  have qS11 := qS10.later bb
  have B11 := B10.trans (bb.mono B10.size)
  clear B10 bb tR10 qR10 tQ10 qQ10 tS10 qS10
  have hTQ := there12_is (s := s) (t := false) qQ11 zQ (by omega) (hG.later B11) (⟨fun h => absurd h HI.out.2.2.1, (fun h => nomatch h)⟩)
  obtain ⟨x0, x1, x2⟩ := tQ11.cells
  go_wp2_with fail
  refine hTQ.mono ?_
  rintro r W12 ⟨rfl, bb⟩
  clear hTQ x0 x1 x2
  have tS12 := tS11.later bb
  have qS12 := qS11.later bb
  have B12 := B11.trans (bb.mono B11.size)
  clear B11 bb tQ11 qQ11 tS11 qS11
  have hTS := there12_is (s := s) (t := false) qS12 zS (by omega) (hG.later B12) (⟨fun h => absurd h HI.out.2.2.2, (fun h => nomatch h)⟩)
  obtain ⟨x0, x1, x2⟩ := tS12.cells
  go_wp2_with fail
  refine hTS.mono ?_
  rintro r W13 ⟨rfl, bb⟩
  clear hTS x0 x1 x2
  have B13 := B12.trans (bb.mono B12.size)
  clear B12 bb tS12 qS12
  go_wp2
  go_ret
  exact ⟨rfl, B13⟩
set_option maxHeartbeats 3200000 in
set_option maxRecDepth 100000 in
theorem ends_walk12 {b : Int} (hu : U b) {w : World} (hG : GrVar w) : Calls Tryz.prog 5 #[.int .u64 b] w fun r w' => r = .returned (.bool true) ∧ Below w.heap.size w w' := by
  by_cases hf : ef b = 2047
  · have hI := fun w => interval_inf hu hf w
    have hF := fun w => finite12_any hu w
    rw [bne_of hf] at hF
    go_enter Tryz.func5, Tryz.ntmps5
    go_wp2_with fail
    refine (fixed12_any _).mono ?_
    rintro r v1 ⟨rfl, b1⟩
    go_wp2_with fail
    refine (hI _).mono ?_
    rintro r v2 ⟨rfl, b2⟩
    have B2 := b1.trans (b2.mono b1.size)
    clear b1 b2 hI
    obtain ⟨tL0, tH0, hb2⟩ := st_two v2 (.bool false) (.slice none 0 0) (.slice none 0 0) (.bool false) (.slice none 0 0) (.slice none 0 0) 26 26
    obtain ⟨W0, hW0⟩ : ∃ z, z = (v2.alloc (.cells #[.bool false, .slice none 0 0, .slice none 0 0] 26)).alloc (.cells #[.bool false, .slice none 0 0, .slice none 0 0] 26) := ⟨_, rfl⟩
    obtain ⟨gL, hgL⟩ : ∃ z, z = v2.heap.size := ⟨_, rfl⟩
    rw [← hW0] at tL0 tH0 hb2
    rw [← hgL] at tL0 tH0
    have B0 := B2.trans (hb2.mono B2.size)
    clear hb2 B2
    go_wp2_with fail
    rw [← hW0, ← hgL]
    clear hW0 hgL
    refine (hF _).mono ?_
    rintro r vz ⟨rfl, hz⟩
    rw [hz]
    clear hz hF
    go_wp2_with fail
    refine (num12_same _ _).mono ?_
    rintro r vz ⟨rfl, hz⟩
    rw [hz]
    clear hz
    obtain ⟨x0, x1, x2⟩ := tL0.cells
    obtain ⟨y0, y1, y2⟩ := tH0.cells
    go_wp2
    go_ret
    exact ⟨rfl, B0⟩
  · exact ends_fin hu hf hG
end Go.Proofs.YtalglldkjbinbaaGreatDoor

