import Derived.Below
import Derived.BigQuiet
import Derived.ChangeOld
import Derived.Deep.DeepCutAuto
import Derived.Deep.DeepFit
import Derived.Deep.LoopGhost
import Derived.Deep.QuietTactic
import Derived.Deep.RegionHeld3
import Derived.Deep.RegionWith
import Derived.Defers
import Derived.KernelRfl
import Derived.Laws.BitsAllLaws
import Derived.Laws.CopyRow
import Derived.Laws.EntriesVeiled
import Derived.Laws.IdiomCopy
import Derived.Laws.IdiomRangeMap
import Derived.Laws.IdiomStrings
import Derived.Laws.RangeAny
import Derived.Laws.ResultCell
import Derived.Laws.Strings3
import Derived.Lib.OthersKept
import Derived.Lib.Strings
import Derived.Lib.TrimByte
import Derived.Lib.Walk
import Derived.OpenShut
import Derived.Orders
import Derived.OwnWalk
import Derived.ProofKit
import Derived.Recover
import Derived.Scope
import Derived.ShutString
import Derived.WalkKit
import Derived.WalkLawsBesides
import Derived.WalkMore
import Derived.WalkSpells
import Derived.Test.YtalglldkjbinbaaGreatPt21
import Derived.Test.YtalglldkjbinbaaGreatPt23
/- package ryu: the ends of an interval. -/
namespace Go.Proofs.YtalglldkjbinbaaGreat
open Go.ChangeShapes Go.WideShapes Go.ChangeAt Go.RowKit
open Na Ar Ry
set_option linter.unusedVariables false
set_option maxHeartbeats 3200000 in
set_option maxRecDepth 100000 in
theorem upper_fin {s : Int} (h0 : 0 ≤ s) (h1 : s < mostP) {w : World} {sl : Bool} {a b : Option Addr} {n c m d : Nat} :
    Calls Tryz.prog 21 #[.int .u64 s, .agg #[.bool sl, .slice a n c, .slice b m d]] w fun r w' => ∃ s' v1 v2, r = .returned (.agg #[.bool s', v1, v2]) ∧ RtO w' w.heap.size s' v1 v2 (highR s) ∧ Below w.heap.size w w' := by
  obtain ⟨u, f, _⟩ := size_fin (p := s) h0 (by omega)
  have hM := fun w => nearMid_fin u f (by omega) w
  rw [mid_high h0 h1] at hM
  generalize highR s = Q at *
  obtain ⟨t1, t2, hb0⟩ := st_two w (.bool sl) (.slice a n c) (.slice b m d) (.bool false) (.slice none 0 0) (.slice none 0 0) 31 31
  obtain ⟨w0, hw0⟩ : ∃ w0, w0 = (w.alloc (.cells #[.bool sl, .slice a n c, .slice b m d] 31)).alloc (.cells #[.bool false, .slice none 0 0, .slice none 0 0] 31) := ⟨_, rfl⟩
  obtain ⟨g, hg⟩ : ∃ g, g = w.heap.size := ⟨_, rfl⟩
  have HG : Hid (w.heap.size = g) := hg.symm
  rw [← hw0] at t1 t2 hb0
  rw [← hg] at t1 t2
  have hlt0 := t2.lt
  go_enter Tryz.func21, Tryz.ntmps21
  go_wp2_with fail
  rw [← hw0, ← hg]
  clear hw0 hg
  refine (hM _).mono ?_
  rintro r w1 ⟨s1, v1, v2, rfl, R1, hb1⟩
  obtain ⟨a1, n1, c1, b1, m1, d1, rfl, rfl, -⟩ := R1.opens
  have ha1 := alloc_below (w := w1) (.cells #[.bool s1, .slice a1 n1 c1, .slice b1 m1 d1] 31)
  have t3 := (t2.later hb1).later ha1
  have R2 := R1.later ha1
  have hsz := hb1.size
  have B1 := hb0.trans (hb1.mono hb0.size)
  have B2 := B1.trans (ha1.mono B1.size)
  have u3 := st_new w1 (.bool s1) (.slice a1 n1 c1) (.slice b1 m1 d1) 31
  have ng : ¬ g + 1 = w1.heap.size := by omega
  have ng' : ¬ w1.heap.size = g + 1 := by omega
  obtain ⟨x0, x1, x2⟩ := u3.cells
  obtain ⟨y0, y1, y2⟩ := t3.cells
  obtain ⟨f0, f1, f2⟩ := t3.frozen
  clear hM t1 t2 R1 hb1 ha1 B1 u3
  go_wp2
  have st9 := (t3.set (.bool s1) (.slice a1 n1 c1) (.slice b1 m1 d1)).cells
  refine bodyPost_ret (v := .agg #[.bool s1, .slice a1 n1 c1, .slice b1 m1 d1]) (by simp [results, Tryz.results21, go_sem, st9]) rfl ?_
  have hgw := HG.out
  exact ⟨_, _, _, rfl, ((R2.inn (in3 _ _ _ _ _) hlt0).lower hb0.size), below_in B2 (in3 _ _ _ _ _) (by omega) (Nat.le_refl _)⟩
set_option maxHeartbeats 6400000 in
set_option maxRecDepth 100000 in
theorem upper_most {w : World} {sl : Bool} {a b : Option Addr} {n c m d : Nat} (hR : Rt w sl a n c b m d (lowR mostP)) :
    Calls Tryz.prog 21 #[.int .u64 9218868437227405311, .agg #[.bool sl, .slice a n c, .slice b m d]] w fun r w' => ∃ s' v1 v2, r = .returned (.agg #[.bool s', v1, v2]) ∧ RtO w' w.heap.size s' v1 v2 (highR mostP) ∧ Below w.heap.size w w' := by
  have hM := fun w => nearMid_most w
  have uM : U mostP := by unfold U mostP; omega
  have fM : ef mostP ≠ 2047 := by decide
  have hV : ∀ w, Calls Tryz.prog 45 #[.int .u64 9218868437227405311] w fun e w' => ∃ s v1 v2, e = .returned (.tuple #[.agg #[.bool s, v1, v2], .int .i64 0]) ∧ RtO w' w.heap.size s v1 v2 (valR mostP) ∧ Below w.heap.size w w' := fun w => nearValue_fin uM fM w
  have zV := value_size uM fM
  have zL := low_size (s := mostP) (by decide) (Int.le_refl _)
  rw [← most_high]
  generalize lowR mostP = L at *
  generalize valR mostP = V at *
  clear uM fM
  obtain ⟨t1, t2, hb0⟩ := st_two w (.bool sl) (.slice a n c) (.slice b m d) (.bool false) (.slice none 0 0) (.slice none 0 0) 31 31
  obtain ⟨w0, hw0⟩ : ∃ w0, w0 = (w.alloc (.cells #[.bool sl, .slice a n c, .slice b m d] 31)).alloc (.cells #[.bool false, .slice none 0 0, .slice none 0 0] 31) := ⟨_, rfl⟩
  obtain ⟨g, hg⟩ : ∃ g, g = w.heap.size := ⟨_, rfl⟩
  have HG : Hid (w.heap.size = g) := hg.symm
  rw [← hw0] at t1 t2 hb0
  rw [← hg] at t1 t2
  have q0 := hR.later hb0
  have hlt0 := t2.lt
  go_enter Tryz.func21, Tryz.ntmps21
  go_wp2_with fail
  rw [← hw0, ← hg]
  clear hw0 hg
  refine (hM _).mono ?_
  rintro r w1 ⟨rfl, hb1⟩
  clear hM
  have ha1 := alloc_below (w := w1) (.cells #[.bool false, .slice none 0 0, .slice none 0 0] 31)
  have H1 := hb1.trans (ha1.mono hb1.size)
  have u1 := st_new w1 (.bool false) (.slice none 0 0) (.slice none 0 0) 31
  obtain ⟨z1, hz1⟩ : ∃ z, z = w1.alloc (.cells #[.bool false, .slice none 0 0, .slice none 0 0] 31) := ⟨_, rfl⟩
  obtain ⟨g5, hg5⟩ : ∃ z, z = w1.heap.size := ⟨_, rfl⟩
  rw [← hz1] at ha1 H1 u1
  rw [← hg5] at u1
  have T1 := t1.later H1
  have T2 := t2.later H1
  have Q1 := q0.later H1
  have B1 := hb0.trans (H1.mono hb0.size)
  have hg5' : g + 1 < g5 := by have := hb1.size; omega
  clear t1 t2 q0 hb1 ha1 H1
  go_wp2_with fail
  rw [← hz1, ← hg5]
  clear hz1 hg5
  refine (hV _).mono ?_
  rintro r w2 ⟨s2, v1, v2, rfl, R2, hb2⟩
  obtain ⟨a2, n2, c2, b2, m2, d2, rfl, rfl, R2'⟩ := R2.opens
  clear hV R2
  have ha2 := alloc_below (w := w2) (.cells #[.bool s2, .slice a2 n2 c2, .slice b2 m2 d2] 31)
  have H2 := hb2.trans (ha2.mono hb2.size)
  have u2 := st_new w2 (.bool s2) (.slice a2 n2 c2) (.slice b2 m2 d2) 31
  have V2 := R2'.later ha2
  obtain ⟨z2, hz2⟩ : ∃ z, z = w2.alloc (.cells #[.bool s2, .slice a2 n2 c2, .slice b2 m2 d2] 31) := ⟨_, rfl⟩
  obtain ⟨g7, hg7⟩ : ∃ z, z = w2.heap.size := ⟨_, rfl⟩
  rw [← hz2] at ha2 H2 u2 V2
  rw [← hg7] at u2
  have T3 := T1.later H2
  have T4 := T2.later H2
  have Q2 := Q1.later H2
  have U1 := u1.later H2
  have B2 := B1.trans (H2.mono B1.size)
  have hS := rSub_ok V2 Q2 zV zL (by omega)
  obtain ⟨x0, x1, x2⟩ := T3.cells
  obtain ⟨y0, y1, y2⟩ := u2.cells
  clear T1 T2 Q1 u1 B1 hb2 ha2 H2 R2'
  go_upto_region 5 with fail
  rw [← hz2, ← hg7]
  clear hz2 hg7
  go_wp2_with fail
  refine hS.mono ?_
  rintro r w3 ⟨s3, v1, v2, rfl, R3, z3, hb3⟩
  obtain ⟨a3, n3, c3, b3, m3, d3, rfl, rfl, R3'⟩ := R3.opens
  clear hS R3 x0 x1 x2 y0 y1 y2 T3 Q2
  have ha3 := alloc_below (w := w3) (.cells #[.bool s3, .slice a3 n3 c3, .slice b3 m3 d3] 31)
  have H3 := hb3.trans (ha3.mono hb3.size)
  have u3 := st_new w3 (.bool s3) (.slice a3 n3 c3) (.slice b3 m3 d3) 31
  have V3 := V2.later H3
  have D3 := R3'.later ha3
  obtain ⟨z3w, hz3⟩ : ∃ z, z = w3.alloc (.cells #[.bool s3, .slice a3 n3 c3, .slice b3 m3 d3] 31) := ⟨_, rfl⟩
  obtain ⟨g9, hg9⟩ : ∃ z, z = w3.heap.size := ⟨_, rfl⟩
  rw [← hz3] at ha3 H3 u3 V3 D3
  rw [← hg9] at u3
  have T5 := T4.later H3
  have U5 := U1.later H3
  have U7 := u2.later H3
  have B3 := B2.trans (H3.mono B2.size)
  have hA := rAdd_ok V3 D3 zV z3 (by omega)
  obtain ⟨x0, x1, x2⟩ := U7.cells
  obtain ⟨y0, y1, y2⟩ := u3.cells
  clear T4 U1 B2 hb3 ha3 H3 R3' V2
  go_upto_region 6 with fail
  rw [← hz3, ← hg9]
  clear hz3 hg9
  go_wp2_with fail
  refine hA.mono ?_
  rintro r w4 ⟨s4, v1, v2, rfl, R4, -, hb4⟩
  obtain ⟨a4, n4, c4, b4, m4, d4, rfl, rfl, -⟩ := R4.opens
  have T6 := T5.later hb4
  have U6 := U5.later hb4
  have B4 := B3.trans (hb4.mono B3.size)
  have hz3s : g5 < z3w.heap.size := U5.lt
  have hgz : g + 1 < z3w.heap.size := T5.lt
  have ng : ¬ g + 1 = g5 := by omega
  have ng' : ¬ g5 = g + 1 := by omega
  obtain ⟨f0, f1, f2⟩ := U6.frozen
  obtain ⟨k0, k1, k2⟩ := U6.cells
  obtain ⟨l0, l1, l2⟩ := T6.cells
  obtain ⟨h0, h1, h2⟩ := T6.frozen
  clear hA x0 x1 x2 y0 y1 y2 T5 U5 B3 hb4 V3 D3 U7 u3 u2
  have B5 := below_in B4 (in3 w4 g5 (.bool s4) (.slice a4 n4 c4) (.slice b4 m4 d4)) (by have := HG.out; omega) (Nat.le_refl _)
  have R5 := R4.inn (in3 w4 g5 (.bool s4) (.slice a4 n4 c4) (.slice b4 m4 d4)) hz3s
  have T7 := T6.inn (in3 w4 g5 (.bool s4) (.slice a4 n4 c4) (.slice b4 m4 d4)) ng
  have U8 := U6.set (.bool s4) (.slice a4 n4 c4) (.slice b4 m4 d4)
  have HT7 : Hid (St (((w4.setCell ⟨g5, 0, none⟩ (.bool s4)).setCell ⟨g5, 1, none⟩ (.slice a4 n4 c4)).setCell ⟨g5, 2, none⟩ (.slice b4 m4 d4)) (g + 1) 31 (.bool false) (.slice none 0 0) (.slice none 0 0)) := T7
  obtain ⟨p0, p1, p2⟩ := U8.cells
  obtain ⟨r0, r1, r2⟩ := T7.cells
  obtain ⟨e0, e1, e2⟩ := T7.frozen
  clear T7 U8 T6 U6 B4 R4
  go_wp2
  have st9 := (HT7.out.set (.bool s4) (.slice a4 n4 c4) (.slice b4 m4 d4)).cells
  refine bodyPost_ret (v := .agg #[.bool s4, .slice a4 n4 c4, .slice b4 m4 d4]) (by simp [results, Tryz.results21, go_sem, st9]) rfl ?_
  have hgw := HG.out
  exact ⟨_, _, _, rfl, ((R5.inn (in3 _ _ _ _ _) hgz).lower (by omega)), below_in B5 (in3 _ _ _ _ _) (by omega) (Nat.le_refl _)⟩
end Go.Proofs.YtalglldkjbinbaaGreat

/- package ryu: Interval. -/
namespace Go.Proofs.YtalglldkjbinbaaGreat
open Go.ChangeShapes Go.WideShapes Go.ChangeAt Go.RowKit
open Na Ar Ry
set_option linter.unusedVariables false
theorem RtO_rt12b {w : World} {base : Nat} {s : Bool} {a b : Option Addr} {n c m d : Nat} {q : Rat} (h : RtO w base s (.slice a n c) (.slice b m d) q) : Rt w s a n c b m d q := by
  obtain ⟨a', n', c', b', m', d', e1, e2, r⟩ := h.opens
  injection e1 with i1 i2 i3
  injection e2 with j1 j2 j3
  subst i1 i2 i3 j1 j2 j3
  exact r
theorem upper_any {s : Int} (h0 : 0 ≤ s) (h1 : s ≤ mostP) {w : World} {sl : Bool} {a b : Option Addr} {n c m d : Nat} (hR : Rt w sl a n c b m d (lowR s)) :
    Calls Tryz.prog 21 #[.int .u64 s, .agg #[.bool sl, .slice a n c, .slice b m d]] w fun r w' => ∃ s' v1 v2, r = .returned (.agg #[.bool s', v1, v2]) ∧ RtO w' w.heap.size s' v1 v2 (highR s) ∧ Below w.heap.size w w' := by
  by_cases h : s = mostP
  · subst h
    exact upper_most hR
  · exact upper_fin h0 (by omega)
theorem interval_inf {b : Int} (hu : U b) (hf : ef b = 2047) (w : World) :
    Calls Tryz.prog 7 #[.int .u64 b] w fun r w' => r = .returned (.tuple #[.agg #[.bool false, .slice none 0 0, .slice none 0 0], .agg #[.bool false, .slice none 0 0, .slice none 0 0], .bool false, .int .i64 120]) ∧ Below w.heap.size w w' := by
  have hS := fun w => f6Split_any hu w
  have e1 : fiE b = 60 := by unfold fiE; rw [if_pos hf]
  rw [e1] at hS
  obtain ⟨t1, t2, hb0⟩ := st_two w (.bool false) (.slice none 0 0) (.slice none 0 0) (.bool false) (.slice none 0 0) (.slice none 0 0) 31 31
  obtain ⟨w0, hw0⟩ : ∃ w0, w0 = (w.alloc (.cells #[.bool false, .slice none 0 0, .slice none 0 0] 31)).alloc (.cells #[.bool false, .slice none 0 0, .slice none 0 0] 31) := ⟨_, rfl⟩
  obtain ⟨g, hg⟩ : ∃ g, g = w.heap.size := ⟨_, rfl⟩
  have HG : Hid (w.heap.size = g) := hg.symm
  rw [← hw0] at t1 t2 hb0
  rw [← hg] at t1 t2
  have n1 : ¬ g = g + 1 := by omega
  have n2 : ¬ g + 1 = g := by omega
  go_enter Tryz.func7, Tryz.ntmps7
  go_wp2_with fail
  rw [← hw0, ← hg]
  clear hw0 hg
  refine (hS _).mono ?_
  rintro r wz ⟨rfl, hz⟩
  rw [← hz]
  clear hz hS
  obtain ⟨x0, x1, x2⟩ := t1.cells
  obtain ⟨y0, y1, y2⟩ := t2.cells
  obtain ⟨f0, f1, f2⟩ := t1.frozen
  obtain ⟨k0, k1, k2⟩ := t2.frozen
  have T1 := t1.set (.bool false) (.slice none 0 0) (.slice none 0 0)
  have T2 := t2.inn (in3 w0 g (.bool false) (.slice none 0 0) (.slice none 0 0)) (by omega)
  have T3 := T1.inn (in3 _ (g + 1) (.bool false) (.slice none 0 0) (.slice none 0 0)) (by omega)
  have T4 := T2.set (.bool false) (.slice none 0 0) (.slice none 0 0)
  have B1 := below_in hb0 (in3 w0 g (.bool false) (.slice none 0 0) (.slice none 0 0)) (by have := HG.out; omega) (Nat.le_refl _)
  have B2 := below_in B1 (in3 _ (g + 1) (.bool false) (.slice none 0 0) (.slice none 0 0)) (by have := HG.out; omega) (Nat.le_refl _)
  go_wp2
  have s1 := T3.cells
  have s2 := T4.cells
  refine bodyPost_ret (v := .tuple #[.agg #[.bool false, .slice none 0 0, .slice none 0 0], .agg #[.bool false, .slice none 0 0, .slice none 0 0], .bool false, .int .i64 120]) (by simp [results, Tryz.results7, go_sem, s1, s2]) rfl ?_
  exact ⟨rfl, B2⟩
set_option maxHeartbeats 6400000 in
set_option maxRecDepth 100000 in
theorem interval_fin {b : Int} (hu : U b) (hf : ef b ≠ 2047) (w : World) :
    Calls Tryz.prog 7 #[.int .u64 b] w fun r w' => ∃ s1 a1 n1 c1 b1 m1 d1 s2 a2 n2 c2 b2 m2 d2, r = .returned (.tuple #[.agg #[.bool s1, .slice a1 n1 c1, .slice b1 m1 d1], .agg #[.bool s2, .slice a2 n2 c2, .slice b2 m2 d2], .bool (decide (mg b % 2 = 0)), .int .i64 0]) ∧ Rt w' s1 a1 n1 c1 b1 m1 d1 (lowR (mg b)) ∧ Rt w' s2 a2 n2 c2 b2 m2 d2 (highR (mg b)) ∧ Below w.heap.size w w' := by
  have hm := mg_bd b
  have p1 : mg b ≤ mostP := by
    have := ef_bd b
    have := fr_bd b
    have := mg_parts b
    unfold mostP
    omega
  have hS := fun w => f6Split_any hu w
  have e1 : fiE b = 0 := by unfold fiE; rw [if_neg hf]
  have eN : (if spS b = true then negW b else b) = mg b := by
    unfold spS
    rw [if_neg hf]
    unfold mg negW
    unfold U at hu
    by_cases z : 9223372036854775808 ≤ b
    · rw [if_pos (by simpa using z), if_neg (by omega)]; omega
    · rw [if_neg (by simpa using z)]; omega
  have eE : ((spM b % 2) == 0) = decide (mg b % 2 = 0) := by
    have : spM b % 2 = mg b % 2 := by
      have := mg_parts b
      unfold spM
      rw [if_neg hf]
      split <;> omega
    rw [this, Bool.eq_iff_iff, beq_iff_eq, decide_eq_true_eq]
  rw [e1] at hS
  obtain ⟨up, fp, np, ep, eL⟩ := prv_is hm.1 p1
  have us : U (mg b) := U_mg b
  have hP := fun w => f6Prev_any us w
  rw [ep] at hP
  have hMd := fun w => nearMid_fin up fp np w
  rw [eL] at hMd
  have hNg := fun w => f6Neg_any hu w
  have hU : ∀ (w1 : World) (sl : Bool) (a b2 : Option Addr) (n c m d : Nat), Rt w1 sl a n c b2 m d (lowR (mg b)) → Calls Tryz.prog 21 #[.int .u64 (mg b), .agg #[.bool sl, .slice a n c, .slice b2 m d]] w1 fun r w' => ∃ s' v1 v2, r = .returned (.agg #[.bool s', v1, v2]) ∧ RtO w' w1.heap.size s' v1 v2 (highR (mg b)) ∧ Below w1.heap.size w1 w' := fun w1 sl a b2 n c m d h => upper_any hm.1 p1 h
  generalize decide (mg b % 2 = 0) = ev at *
  generalize lowR (mg b) = L at *
  generalize highR (mg b) = Hh at *
  generalize mg b = s at *
  generalize prvP s = ps at *
  generalize nxE (negW s) = ne at *
  obtain ⟨mb0, mb1⟩ := U_spM b
  generalize spM b = mt at *
  generalize spX b = ex at *
  obtain ⟨t1, t2, hb0⟩ := st_two w (.bool false) (.slice none 0 0) (.slice none 0 0) (.bool false) (.slice none 0 0) (.slice none 0 0) 31 31
  obtain ⟨w0, hw0⟩ : ∃ w0, w0 = (w.alloc (.cells #[.bool false, .slice none 0 0, .slice none 0 0] 31)).alloc (.cells #[.bool false, .slice none 0 0, .slice none 0 0] 31) := ⟨_, rfl⟩
  obtain ⟨g, hg⟩ : ∃ g, g = w.heap.size := ⟨_, rfl⟩
  have HG : Hid (w.heap.size = g) := hg.symm
  rw [← hw0] at t1 t2 hb0
  rw [← hg] at t1 t2
  clear hm p1 hf e1 eL ep fp np
  go_enter Tryz.func7, Tryz.ntmps7
  go_wp2_with fail
  rw [← hw0, ← hg]
  clear hw0 hg
  refine (hS _).mono ?_
  rintro r wz ⟨rfl, hz⟩
  rw [← hz]
  clear hz hS
  cases hsp : spS b
  · rw [hsp] at eN
    simp only [Bool.false_eq_true, if_false] at eN
    subst eN
    go_wp2_with fail
    refine (hP _).mono ?_
    rintro r wz ⟨rfl, hz⟩
    rw [← hz]
    clear hz hP
    go_wp2_with fail
    refine (hMd _).mono ?_
    rintro r w1 ⟨sl, v1, v2, rfl, R1, hb1⟩
    obtain ⟨al, nl, cl, bl, ml, dl, rfl, rfl, -⟩ := R1.opens
    have hlt0 := t2.lt
    have hsz := hb1.size
    have ha1 := alloc_below (w := w1) (.cells #[.bool sl, .slice al nl cl, .slice bl ml dl] 31)
    have H1 := hb1.trans (ha1.mono hb1.size)
    have u1 := st_new w1 (.bool sl) (.slice al nl cl) (.slice bl ml dl) 31
    have RL := R1.later ha1
    have RLr := RL.opens
    obtain ⟨z1, hz1⟩ : ∃ z, z = w1.alloc (.cells #[.bool sl, .slice al nl cl, .slice bl ml dl] 31) := ⟨_, rfl⟩
    obtain ⟨gl, hgl⟩ : ∃ z, z = w1.heap.size := ⟨_, rfl⟩
    rw [← hz1] at ha1 H1 u1 RL
    rw [← hgl] at u1
    have T1 := t1.later H1
    have T2 := t2.later H1
    have B1 := hb0.trans (H1.mono hb0.size)
    have hgl' : g + 1 < gl := by omega
    have n1 : ¬ g = g + 1 := by omega
    have n2 : ¬ g + 1 = g := by omega
    have n3 : ¬ gl = g := by omega
    have n4 : ¬ gl = g + 1 := by omega
    have n5 : ¬ g = gl := by omega
    have n6 : ¬ g + 1 = gl := by omega
    have hzs : gl < z1.heap.size := u1.lt
    have hU' := hU z1 sl al bl nl cl ml dl (RtO_rt12b RL)
    have hU2 : ∀ w2, Below z1.heap.size z1 w2 → Calls Tryz.prog 21 #[.int .u64 b, .agg #[.bool sl, .slice al nl cl, .slice bl ml dl]] w2 fun r w' => ∃ s' a n c b m d, r = .returned (.agg #[.bool s', .slice a n c, .slice b m d]) ∧ RtO w' w2.heap.size s' (.slice a n c) (.slice b m d) Hh ∧ Below z1.heap.size z1 w' ∧ Below w2.heap.size w2 w' := fun w2 h2 => (hU w2 sl al bl nl cl ml dl (RtO_rt12b (RL.later h2))).mono (by
      rintro r w' ⟨s', v1, v2, rfl, R, hb⟩
      obtain ⟨a, n, c, b, m, d, rfl, rfl, -⟩ := R.opens
      exact ⟨s', a, n, c, b, m, d, rfl, R, h2.trans (hb.mono h2.size), hb⟩)
    have hcl : ∀ w', Below z1.heap.size z1 w' → (w'.cell? ⟨gl, 0, none⟩ = some (.bool sl) ∧ w'.cell? ⟨gl, 1, none⟩ = some (.slice al nl cl) ∧ w'.cell? ⟨gl, 2, none⟩ = some (.slice bl ml dl)) ∧ (w'.cell? ⟨g, 0, none⟩ = some (.bool false) ∧ w'.cell? ⟨g, 1, none⟩ = some (.slice none 0 0) ∧ w'.cell? ⟨g, 2, none⟩ = some (.slice none 0 0)) ∧ (w'.cell? ⟨g + 1, 0, none⟩ = some (.bool false) ∧ w'.cell? ⟨g + 1, 1, none⟩ = some (.slice none 0 0) ∧ w'.cell? ⟨g + 1, 2, none⟩ = some (.slice none 0 0)) ∧ (w'.frozen? ⟨g, 0, none⟩ = false ∧ w'.frozen? ⟨g, 1, none⟩ = false ∧ w'.frozen? ⟨g, 2, none⟩ = false) ∧ (w'.frozen? ⟨g + 1, 0, none⟩ = false ∧ w'.frozen? ⟨g + 1, 1, none⟩ = false ∧ w'.frozen? ⟨g + 1, 2, none⟩ = false) := fun w' h => ⟨(u1.later h).cells, (T1.later h).cells, (T2.later h).cells, (T1.later h).frozen, (T2.later h).frozen⟩
    clear hMd R1 hb1 ha1 H1 t1 t2 hU hU' RLr
    go_upto_region 9 with fail
    rw [← hz1, ← hgl]
    clear hz1 hgl
    obtain ⟨⟨x0, x1, x2⟩, ⟨y0, y1, y2⟩, ⟨v0, v1, v2⟩, ⟨f0, f1, f2⟩, ⟨k0, k1, k2⟩⟩ := hcl z1 (Below.refl _ _)
    go_region_held3 (fun w' => w'.cell? ⟨gl, 0, none⟩ = some (.bool sl) ∧ w'.cell? ⟨gl, 1, none⟩ = some (.slice al nl cl) ∧ w'.cell? ⟨gl, 2, none⟩ = some (.slice bl ml dl)) (go_keep) (first | (go_at_call 21; refine (hU2 _ (by first | exact Below.refl _ _ | exact below_drewN (Below.refl _ _) _)).mono ?_; rintro e wA ⟨sh, ah, nh, ch, bh, mh, dh, rfl, RH, hBA, hbA⟩; clear x0 x1 x2 y0 y1 y2 v0 v1 v2 f0 f1 f2 k0 k1 k2; obtain ⟨⟨x0, x1, x2⟩, ⟨y0, y1, y2⟩, ⟨v0, v1, v2⟩, ⟨f0, f1, f2⟩, ⟨k0, k1, k2⟩⟩ := hcl wA hBA))
    go_wp2
    have S1 := (T1.later hBA).set (.bool sl) (.slice al nl cl) (.slice bl ml dl)
    have S2 := (T2.later hBA).inn (in3 wA g (.bool sl) (.slice al nl cl) (.slice bl ml dl)) (by omega)
    have S3 := S1.inn (in3 _ (g + 1) (.bool sh) (.slice ah nh ch) (.slice bh mh dh)) (by omega)
    have S4 := S2.set (.bool sh) (.slice ah nh ch) (.slice bh mh dh)
    have gw := HG.out
    have C0 := B1.trans (hBA.mono B1.size)
    have C1 := below_in C0 (in3 wA g (.bool sl) (.slice al nl cl) (.slice bl ml dl)) (by omega) (Nat.le_refl _)
    have C2 := below_in C1 (in3 _ (g + 1) (.bool sh) (.slice ah nh ch) (.slice bh mh dh)) (by omega) (Nat.le_refl _)
    have RL2 := ((RL.later hBA).inn (in3 wA g (.bool sl) (.slice al nl cl) (.slice bl ml dl)) (by omega)).inn (in3 _ (g + 1) (.bool sh) (.slice ah nh ch) (.slice bh mh dh)) (by omega)
    have zb : z1.heap.size ≤ wA.heap.size := hBA.size
    have RH2 := (RH.inn (in3 wA g (.bool sl) (.slice al nl cl) (.slice bl ml dl)) (by first | omega | (simp; omega))).inn (in3 _ (g + 1) (.bool sh) (.slice ah nh ch) (.slice bh mh dh)) (by first | omega | (simp; omega))
    have eT : (mt.tmod 2 == 0) = ev := by rw [Int.tmod_eq_emod_of_nonneg mb0]; exact eE
    have c1 := S3.cells
    have c2 := S4.cells
    refine bodyPost_ret (v := .tuple #[.agg #[.bool sl, .slice al nl cl, .slice bl ml dl], .agg #[.bool sh, .slice ah nh ch, .slice bh mh dh], .bool ev, .int .i64 0]) (by simp [results, Tryz.results7, go_sem, c1, c2, eT]) rfl ?_
    exact ⟨_, _, _, _, _, _, _, _, _, _, _, _, _, _, rfl, RtO_rt12b RL2, RtO_rt12b RH2, C2⟩
  · rw [hsp] at eN
    simp only [if_true] at eN
    rw [eN] at hNg
    go_wp2_with fail
    refine (hNg _).mono ?_
    rintro r wz ⟨rfl, hz⟩
    rw [← hz]
    clear hz hNg
    go_wp2_with fail
    refine (hP _).mono ?_
    rintro r wz ⟨rfl, hz⟩
    rw [← hz]
    clear hz hP
    go_wp2_with fail
    refine (hMd _).mono ?_
    rintro r w1 ⟨sl, v1, v2, rfl, R1, hb1⟩
    obtain ⟨al, nl, cl, bl, ml, dl, rfl, rfl, -⟩ := R1.opens
    have hlt0 := t2.lt
    have hsz := hb1.size
    have ha1 := alloc_below (w := w1) (.cells #[.bool sl, .slice al nl cl, .slice bl ml dl] 31)
    have H1 := hb1.trans (ha1.mono hb1.size)
    have u1 := st_new w1 (.bool sl) (.slice al nl cl) (.slice bl ml dl) 31
    have RL := R1.later ha1
    have RLr := RL.opens
    obtain ⟨z1, hz1⟩ : ∃ z, z = w1.alloc (.cells #[.bool sl, .slice al nl cl, .slice bl ml dl] 31) := ⟨_, rfl⟩
    obtain ⟨gl, hgl⟩ : ∃ z, z = w1.heap.size := ⟨_, rfl⟩
    rw [← hz1] at ha1 H1 u1 RL
    rw [← hgl] at u1
    have T1 := t1.later H1
    have T2 := t2.later H1
    have B1 := hb0.trans (H1.mono hb0.size)
    have hgl' : g + 1 < gl := by omega
    have n1 : ¬ g = g + 1 := by omega
    have n2 : ¬ g + 1 = g := by omega
    have n3 : ¬ gl = g := by omega
    have n4 : ¬ gl = g + 1 := by omega
    have n5 : ¬ g = gl := by omega
    have n6 : ¬ g + 1 = gl := by omega
    have hzs : gl < z1.heap.size := u1.lt
    have hU' := hU z1 sl al bl nl cl ml dl (RtO_rt12b RL)
    have hU2 : ∀ w2, Below z1.heap.size z1 w2 → Calls Tryz.prog 21 #[.int .u64 s, .agg #[.bool sl, .slice al nl cl, .slice bl ml dl]] w2 fun r w' => ∃ s' a n c b m d, r = .returned (.agg #[.bool s', .slice a n c, .slice b m d]) ∧ RtO w' w2.heap.size s' (.slice a n c) (.slice b m d) Hh ∧ Below z1.heap.size z1 w' ∧ Below w2.heap.size w2 w' := fun w2 h2 => (hU w2 sl al bl nl cl ml dl (RtO_rt12b (RL.later h2))).mono (by
      rintro r w' ⟨s', v1, v2, rfl, R, hb⟩
      obtain ⟨a, n, c, b, m, d, rfl, rfl, -⟩ := R.opens
      exact ⟨s', a, n, c, b, m, d, rfl, R, h2.trans (hb.mono h2.size), hb⟩)
    have hcl : ∀ w', Below z1.heap.size z1 w' → (w'.cell? ⟨gl, 0, none⟩ = some (.bool sl) ∧ w'.cell? ⟨gl, 1, none⟩ = some (.slice al nl cl) ∧ w'.cell? ⟨gl, 2, none⟩ = some (.slice bl ml dl)) ∧ (w'.cell? ⟨g, 0, none⟩ = some (.bool false) ∧ w'.cell? ⟨g, 1, none⟩ = some (.slice none 0 0) ∧ w'.cell? ⟨g, 2, none⟩ = some (.slice none 0 0)) ∧ (w'.cell? ⟨g + 1, 0, none⟩ = some (.bool false) ∧ w'.cell? ⟨g + 1, 1, none⟩ = some (.slice none 0 0) ∧ w'.cell? ⟨g + 1, 2, none⟩ = some (.slice none 0 0)) ∧ (w'.frozen? ⟨g, 0, none⟩ = false ∧ w'.frozen? ⟨g, 1, none⟩ = false ∧ w'.frozen? ⟨g, 2, none⟩ = false) ∧ (w'.frozen? ⟨g + 1, 0, none⟩ = false ∧ w'.frozen? ⟨g + 1, 1, none⟩ = false ∧ w'.frozen? ⟨g + 1, 2, none⟩ = false) := fun w' h => ⟨(u1.later h).cells, (T1.later h).cells, (T2.later h).cells, (T1.later h).frozen, (T2.later h).frozen⟩
    clear hMd R1 hb1 ha1 H1 t1 t2 hU hU' RLr
    go_upto_region 9 with fail
    rw [← hz1, ← hgl]
    clear hz1 hgl
    obtain ⟨⟨x0, x1, x2⟩, ⟨y0, y1, y2⟩, ⟨v0, v1, v2⟩, ⟨f0, f1, f2⟩, ⟨k0, k1, k2⟩⟩ := hcl z1 (Below.refl _ _)
    go_region_held3 (fun w' => w'.cell? ⟨gl, 0, none⟩ = some (.bool sl) ∧ w'.cell? ⟨gl, 1, none⟩ = some (.slice al nl cl) ∧ w'.cell? ⟨gl, 2, none⟩ = some (.slice bl ml dl)) (go_keep) (first | (go_at_call 21; refine (hU2 _ (by first | exact Below.refl _ _ | exact below_drewN (Below.refl _ _) _)).mono ?_; rintro e wA ⟨sh, ah, nh, ch, bh, mh, dh, rfl, RH, hBA, hbA⟩; clear x0 x1 x2 y0 y1 y2 v0 v1 v2 f0 f1 f2 k0 k1 k2; obtain ⟨⟨x0, x1, x2⟩, ⟨y0, y1, y2⟩, ⟨v0, v1, v2⟩, ⟨f0, f1, f2⟩, ⟨k0, k1, k2⟩⟩ := hcl wA hBA))
    go_wp2
    have S1 := (T1.later hBA).set (.bool sl) (.slice al nl cl) (.slice bl ml dl)
    have S2 := (T2.later hBA).inn (in3 wA g (.bool sl) (.slice al nl cl) (.slice bl ml dl)) (by omega)
    have S3 := S1.inn (in3 _ (g + 1) (.bool sh) (.slice ah nh ch) (.slice bh mh dh)) (by omega)
    have S4 := S2.set (.bool sh) (.slice ah nh ch) (.slice bh mh dh)
    have gw := HG.out
    have C0 := B1.trans (hBA.mono B1.size)
    have C1 := below_in C0 (in3 wA g (.bool sl) (.slice al nl cl) (.slice bl ml dl)) (by omega) (Nat.le_refl _)
    have C2 := below_in C1 (in3 _ (g + 1) (.bool sh) (.slice ah nh ch) (.slice bh mh dh)) (by omega) (Nat.le_refl _)
    have RL2 := ((RL.later hBA).inn (in3 wA g (.bool sl) (.slice al nl cl) (.slice bl ml dl)) (by omega)).inn (in3 _ (g + 1) (.bool sh) (.slice ah nh ch) (.slice bh mh dh)) (by omega)
    have zb : z1.heap.size ≤ wA.heap.size := hBA.size
    have RH2 := (RH.inn (in3 wA g (.bool sl) (.slice al nl cl) (.slice bl ml dl)) (by first | omega | (simp; omega))).inn (in3 _ (g + 1) (.bool sh) (.slice ah nh ch) (.slice bh mh dh)) (by first | omega | (simp; omega))
    have eT : (mt.tmod 2 == 0) = ev := by rw [Int.tmod_eq_emod_of_nonneg mb0]; exact eE
    have c1 := S3.cells
    have c2 := S4.cells
    refine bodyPost_ret (v := .tuple #[.agg #[.bool sl, .slice al nl cl, .slice bl ml dl], .agg #[.bool sh, .slice ah nh ch, .slice bh mh dh], .bool ev, .int .i64 0]) (by simp [results, Tryz.results7, go_sem, c1, c2, eT]) rfl ?_
    exact ⟨_, _, _, _, _, _, _, _, _, _, _, _, _, _, rfl, RtO_rt12b RL2, RtO_rt12b RH2, C2⟩
end Go.Proofs.YtalglldkjbinbaaGreat

