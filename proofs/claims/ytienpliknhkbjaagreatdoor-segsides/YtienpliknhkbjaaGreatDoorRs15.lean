import Derived.Below
import Derived.BigQuiet
import Derived.ChangeOld
import Derived.Deep.Cut
import Derived.Deep.DeepCutAuto
import Derived.Deep.DeepFit
import Derived.Deep.LoopGhost
import Derived.Deep.QuietTactic
import Derived.Deep.RegionHeld3
import Derived.Deep.RegionWith
import Derived.Defers
import Derived.KernelRfl
import Derived.Laws.BitsAllLaws
import Derived.Laws.CopyRow
import Derived.Laws.EntriesVeiled
import Derived.Laws.IdiomCopy
import Derived.Laws.IdiomRangeMap
import Derived.OpenShut
import Derived.Orders
import Derived.OwnWalk
import Derived.ProofKit
import Derived.Recover
import Derived.Scope
import Derived.ShutString
import Derived.WalkKit
import Derived.WalkLawsBesides
import Derived.WalkMore
import Derived.WalkSpells
import Derived.Test.YtienpliknhkbjaaGreatDoorRs2
import Derived.Test.YtienpliknhkbjaaGreatDoorRs14
/- plumblaw23: one, of two Rats of one number. -/
namespace Go.Proofs.YtienpliknhkbjaaGreatDoor
open Go.ChangeShapes Go.WideShapes Go.ChangeAt Go.RowKit
open Na Ar
set_option linter.unusedVariables false
set_option maxHeartbeats 3200000 in
set_option maxRecDepth 100000 in
theorem one23_any {w : World} {s1 s2 : Bool} {a1 b1 a2 b2 : Option Addr} {n1 c1 m1 d1 n2 c2 m2 d2 : Nat} {q : Rat} {k : Nat} (h1 : Rt w s1 a1 n1 c1 b1 m1 d1 q) (h2 : Rt w s2 a2 n2 c2 b2 m2 d2 q) (hz : Sz q k) (hk : k ≤ 4096) :
    Calls Tryz.prog 25 #[.agg #[.bool s1, .slice a1 n1 c1, .slice b1 m1 d1], .agg #[.bool s2, .slice a2 n2 c2, .slice b2 m2 d2]] w fun r w' => r = .returned (.bool true) ∧ Below w.heap.size w w' := by
  obtain ⟨t1, t2, hb0⟩ := st_two w (.bool s1) (.slice a1 n1 c1) (.slice b1 m1 d1) (.bool s2) (.slice a2 n2 c2) (.slice b2 m2 d2) 45 45
  have e1 : s1 = s2 := h1.sgn.trans h2.sgn.symm
  subst e1
  have l1 := h1.le hz
  have l2 := h2.le hz
  have l3 := h1.leD hz
  have l4 := h2.leD hz
  have f1 : ∀ {w1 : World}, Below w.heap.size w w1 → Calls Tryz.prog 61 #[.slice a1 n1 c1, .slice a2 n2 c2] w1 fun e w' => e = .returned (.bool true) ∧ Below w1.heap.size w1 w' := fun {w1} h => by
    have := same_any (c1 := c1) (c2 := c2) (h1.later h).nu.1 (h2.later h).nu.1 (by omega) (by omega)
    rw [decide_eq_true rfl] at this
    exact this
  have f2 : ∀ {w1 : World}, Below w.heap.size w w1 → Calls Tryz.prog 61 #[.slice b1 m1 d1, .slice b2 m2 d2] w1 fun e w' => e = .returned (.bool true) ∧ Below w1.heap.size w1 w' := fun {w1} h => by
    have := same_any (c1 := d1) (c2 := d2) (h1.later h).de.1 (h2.later h).de.1 (by omega) (by omega)
    rw [decide_eq_true rfl] at this
    exact this
  obtain ⟨w0, hw0⟩ : ∃ w0, w0 = (w.alloc (.cells #[.bool s1, .slice a1 n1 c1, .slice b1 m1 d1] 45)).alloc (.cells #[.bool s1, .slice a2 n2 c2, .slice b2 m2 d2] 45) := ⟨_, rfl⟩
  rw [← hw0] at t1 t2 hb0
  obtain ⟨g, hg⟩ : ∃ g, g = w.heap.size := ⟨_, rfl⟩
  rw [← hg] at t1 t2
  clear h1 h2 hz
  go_enter Tryz.func25, Tryz.ntmps25
  go_wp2_with fail
  rw [← hw0]
  refine (f1 hb0).mono ?_
  rintro r w1 ⟨rfl, hb1⟩
  have H1 := hb0.trans (hb1.mono hb0.size)
  obtain ⟨x0, x1, x2⟩ := (t1.later hb1).cells
  obtain ⟨y0, y1, y2⟩ := (t2.later hb1).cells
  rw [← hg]
  clear f1 hw0 hg hb1
  go_wp2_with fail
  refine (f2 H1).mono ?_
  rintro r w2 ⟨rfl, hb2⟩
  have H2 := H1.trans (hb2.mono H1.size)
  clear f2 hb2
  go_wp2
  go_ret
  exact ⟨rfl, H2⟩
set_option maxHeartbeats 3200000 in
set_option maxRecDepth 100000 in
theorem one23_none (w : World) :
    Calls Tryz.prog 25 #[.agg #[.bool false, .slice none 0 0, .slice none 0 0], .agg #[.bool false, .slice none 0 0, .slice none 0 0]] w fun r w' => r = .returned (.bool true) ∧ Below w.heap.size w w' := by
  obtain ⟨t1, t2, hb0⟩ := st_two w (.bool false) (.slice none 0 0) (.slice none 0 0) (.bool false) (.slice none 0 0) (.slice none 0 0) 45 45
  have f1 : ∀ (w1 : World), Calls Tryz.prog 61 #[.slice none 0 0, .slice none 0 0] w1 fun e w' => e = .returned (.bool true) ∧ Below w1.heap.size w1 w' := fun w1 => by
    have := same_any (w := w1) (a := none) (b := none) (n := 0) (m := 0) (c1 := 0) (c2 := 0) (xs := []) (ys := []) ⟨rfl, Or.inl rfl⟩ ⟨rfl, Or.inl rfl⟩ (by omega) (by omega)
    rw [decide_eq_true rfl] at this
    exact this
  obtain ⟨w0, hw0⟩ : ∃ w0, w0 = (w.alloc (.cells #[.bool false, .slice none 0 0, .slice none 0 0] 45)).alloc (.cells #[.bool false, .slice none 0 0, .slice none 0 0] 45) := ⟨_, rfl⟩
  rw [← hw0] at t1 t2 hb0
  obtain ⟨g, hg⟩ : ∃ g, g = w.heap.size := ⟨_, rfl⟩
  rw [← hg] at t1 t2
  go_enter Tryz.func25, Tryz.ntmps25
  go_wp2_with fail
  rw [← hw0]
  refine (f1 w0).mono ?_
  rintro r w1 ⟨rfl, hb1⟩
  have H1 := hb0.trans (hb1.mono hb0.size)
  obtain ⟨x0, x1, x2⟩ := (t1.later hb1).cells
  obtain ⟨y0, y1, y2⟩ := (t2.later hb1).cells
  rw [← hg]
  clear hw0 hg hb1
  go_wp2_with fail
  refine (f1 w1).mono ?_
  rintro r w2 ⟨rfl, hb2⟩
  have H2 := H1.trans (hb2.mono H1.size)
  clear f1 hb2
  go_wp2
  go_ret
  exact ⟨rfl, H2⟩
end Go.Proofs.YtienpliknhkbjaaGreatDoor

/- Meet's answer as a relation; seen from all sides. -/
namespace Go.Proofs.YtienpliknhkbjaaGreatDoor
open Go.ChangeShapes Go.WideShapes Go.ChangeAt Go.RowKit
open Na Ar
set_option linter.unusedVariables false
/-- what Meet answers -/
def MtIs (a b c d : Int × Int) (M : (Int × Bool) × (Int × Int) × (Int × Int)) : Prop :=
  ((mtQ a b c d).1.2 = false ∧ M = mtQ a b c d) ∨
  ((mtQ a b c d).1.2 = true ∧ ∃ v u, RnIs (xcR (valR a.1) (valR a.2) (valR b.1) (valR b.2) (valR c.1) (valR c.2) (valR d.1) (valR d.2)) v ∧ RnIs (ycR (valR a.1) (valR a.2) (valR b.1) (valR b.2) (valR c.1) (valR c.2) (valR d.1) (valR d.2)) u ∧ M = ((1, true), (v, u), (0, 0)))
theorem Meet23_is {w : World} {a b c d : Int × Int} (ua : U2 a) (ub : U2 b) (uc : U2 c) (ud : U2 d) (fa : fin2 a) (fb : fin2 b) (fc : fin2 c) (fd : fin2 d) (hG : GrVar w) :
    Calls Tryz.prog 10 #[.agg #[.int .u64 a.1, .int .u64 a.2], .agg #[.int .u64 b.1, .int .u64 b.2], .agg #[.int .u64 c.1, .int .u64 c.2], .agg #[.int .u64 d.1, .int .u64 d.2]] w fun e w' => ∃ M, MtIs a b c d M ∧ e = .returned (.tuple #[mtV M, .int .i64 0]) ∧ Below w.heap.size w w' := by
  refine (Meet23_fin ua ub uc ud fa fb fc fd hG).mono ?_
  rintro e w' (⟨h, rfl, hb⟩ | ⟨h, v, u, hv, hu, _, _, rfl, hb⟩)
  · exact ⟨_, Or.inl ⟨h, rfl⟩, rfl, hb⟩
  · exact ⟨((1, true), (v, u), (0, 0)), Or.inr ⟨h, v, u, hv, hu, rfl⟩, rfl, hb⟩
theorem MtIs.eq {a b c d a' b' c' d' : Int × Int} {M N : (Int × Bool) × (Int × Int) × (Int × Int)} (h : MtIs a b c d M) (h' : MtIs a' b' c' d' N) (hQ : mtQ a' b' c' d' = mtQ a b c d)
    (hx : (mtQ a b c d).1.2 = true → xcR (valR a'.1) (valR a'.2) (valR b'.1) (valR b'.2) (valR c'.1) (valR c'.2) (valR d'.1) (valR d'.2) = xcR (valR a.1) (valR a.2) (valR b.1) (valR b.2) (valR c.1) (valR c.2) (valR d.1) (valR d.2) ∧ ycR (valR a'.1) (valR a'.2) (valR b'.1) (valR b'.2) (valR c'.1) (valR c'.2) (valR d'.1) (valR d'.2) = ycR (valR a.1) (valR a.2) (valR b.1) (valR b.2) (valR c.1) (valR c.2) (valR d.1) (valR d.2)) : N = M := by
  unfold MtIs at h h'
  rw [hQ] at h'
  rcases h with ⟨k, rfl⟩ | ⟨k, v, u, hv, hu, rfl⟩ <;> rcases h' with ⟨k', rfl⟩ | ⟨k', v', u', hv', hu', rfl⟩
  · rfl
  · rw [k] at k'; cases k'
  · rw [k] at k'; cases k'
  · rw [(hx k).1] at hv'
    rw [(hx k).2] at hu'
    rw [rn_one hv hv', rn_one hu hu']
theorem proper_fall {a b c d : Int × Int} (ua : U2 a) (ub : U2 b) (uc : U2 c) (ud : U2 d) (fa : fin2 a) (fb : fin2 b) (fc : fin2 c) (fd : fin2 d) (h : (mtQ a b c d).1.2 = true) : fallR (valR a.1) (valR a.2) (valR b.1) (valR b.2) (valR c.1) (valR c.2) (valR d.1) (valR d.2) ≠ 0 := by
  exact pr_fall ua ub uc ud fa fb fc fd h
section
variable {a b c d : Int × Int} {M N : (Int × Bool) × (Int × Int) × (Int × Int)}
theorem MtIs.ab (ua : U2 a) (ub : U2 b) (uc : U2 c) (ud : U2 d) (fa : fin2 a) (fb : fin2 b) (fc : fin2 c) (fd : fin2 d) (h : MtIs a b c d M) (h' : MtIs b a c d N) : N = M :=
  h.eq h' (mtQ_ab a b c d) (fun k => cross_ab _ _ _ _ _ _ _ _ (proper_fall ua ub uc ud fa fb fc fd k))
theorem MtIs.cd (ua : U2 a) (ub : U2 b) (uc : U2 c) (ud : U2 d) (fa : fin2 a) (fb : fin2 b) (fc : fin2 c) (fd : fin2 d) (h : MtIs a b c d M) (h' : MtIs a b d c N) : N = M :=
  h.eq h' (mtQ_cd a b c d) (fun k => cross_cd _ _ _ _ _ _ _ _ (proper_fall ua ub uc ud fa fb fc fd k))
theorem MtIs.sw (ua : U2 a) (ub : U2 b) (uc : U2 c) (ud : U2 d) (fa : fin2 a) (fb : fin2 b) (fc : fin2 c) (fd : fin2 d) (h : MtIs a b c d M) (h' : MtIs c d a b N) : N = M :=
  h.eq h' (mtQ_swap a b c d) (fun k => cross_sw _ _ _ _ _ _ _ _ (proper_fall ua ub uc ud fa fb fc fd k))
theorem MtIs.ng (ua : U2 a) (ub : U2 b) (uc : U2 c) (ud : U2 d) (fa : fin2 a) (fb : fin2 b) (fc : fin2 c) (fd : fin2 d) (h : MtIs a b c d M) (h' : MtIs (tnP a) (tnP b) (tnP c) (tnP d) N) : NgM M N := by
  have hQ := mtQ_ng ua ub uc ud fa fb fc fd
  have hP : (mtQ (tnP a) (tnP b) (tnP c) (tnP d)).1.2 = (mtQ a b c d).1.2 := by rw [hQ.1]
  rcases h with ⟨k, rfl⟩ | ⟨k, v, u, hv, hu, rfl⟩ <;> rcases h' with ⟨k', rfl⟩ | ⟨k', v', u', hv', hu', rfl⟩
  · exact hQ
  · rw [hP, k] at k'; cases k'
  · rw [hP, k] at k'; cases k'
  · refine ⟨rfl, ?_⟩
    show (if (1 : Int) = 2 then _ else _)
    rw [if_neg (by omega)]
    refine ⟨?_, ngQ_zero⟩
    have e := cross_ng (valR a.1) (valR a.2) (valR b.1) (valR b.2) (valR c.1) (valR c.2) (valR d.1) (valR d.2)
    unfold tnP at hv' hu'
    rw [val_ng ua.1 fa.1, val_ng ua.2 fa.2, val_ng ub.1 fb.1, val_ng ub.2 fb.2, val_ng uc.1 fc.1, val_ng uc.2 fc.2, val_ng ud.1 fd.1, val_ng ud.2 fd.2] at hv' hu'
    rw [e.1] at hv'
    rw [e.2] at hu'
    have r1 := rn_fin hv
    have r2 := rn_fin hu
    have r3 := rn_fin hv'
    have r4 := rn_fin hu'
    exact ⟨⟨r1.1, r2.1⟩, ⟨r1.2, r2.2⟩, ⟨r3.1, r4.1⟩, ⟨r3.2, r4.2⟩, rn_ng hv hv', rn_ng hu hu'⟩
theorem NgM.fin (h : NgM M N) : U2 M.2.1 ∧ fin2 M.2.1 ∧ U2 M.2.2 ∧ fin2 M.2.2 := by
  have h := h.2
  by_cases e : M.1.1 = 2
  · rw [if_pos e] at h; exact ⟨h.1.1, h.1.2.1, h.2.1, h.2.2.1⟩
  · rw [if_neg e] at h; exact ⟨h.1.1, h.1.2.1, h.2.1, h.2.2.1⟩
theorem sm_self (p : Int × Int) : SmP p p := by
  unfold SmP ordS
  rw [ordR_self, ordR_self]
  rfl
/-- a meeting is like itself -/
theorem like23_self (h : NgM M N) (w : World) :
    Calls Tryz.prog 24 #[mtV M, mtV M, .bool false] w fun e w' => e = .returned (.bool true) ∧ Below w.heap.size w w' := by
  obtain ⟨u1, f1, u2, f2⟩ := h.fin
  exact like23_same (p := M.2.1) (q := M.2.2) (p' := M.2.1) (q' := M.2.2) (place23_yes u1 u1 f1 f1 (sm_self _)) (place23_yes u2 u2 f2 f2 (sm_self _)) w
theorem like23_turned (h : NgM M N) (w : World) :
    Calls Tryz.prog 24 #[mtV M, mtV N, .bool true] w fun e w' => e = .returned (.bool true) ∧ Below w.heap.size w w' := by
  obtain ⟨⟨k, pr⟩, p, q⟩ := M
  obtain ⟨⟨k', pr'⟩, p', q'⟩ := N
  obtain ⟨rfl, rfl⟩ : k' = k ∧ pr' = pr := by have := h.1; simp at this; exact this
  exact like23_back h w
end
end Go.Proofs.YtienpliknhkbjaaGreatDoor

/- plumblaw23: a pattern with all bits of the exponent. -/
namespace Go.Proofs.YtienpliknhkbjaaGreatDoor
open Go.ChangeShapes Go.WideShapes Go.ChangeAt Go.RowKit
open Na Ar
set_option linter.unusedVariables false
/-- eight cells written over -/
theorem Pb.put8 {w : World} {g : Nat} {t : TypeId} {x0 x1 x2 x3 x4 x5 x6 x7 : Value} (h : Pb w g t #[x0, x1, x2, x3, x4, x5, x6, x7]) (y0 y1 y2 y3 y4 y5 y6 y7 : Value) : Pb ((((((((w.setCell ⟨g, 0, none⟩ (y0)).setCell ⟨g, 1, none⟩ (y1)).setCell ⟨g, 2, none⟩ (y2)).setCell ⟨g, 3, none⟩ (y3)).setCell ⟨g, 4, none⟩ (y4)).setCell ⟨g, 5, none⟩ (y5)).setCell ⟨g, 6, none⟩ (y6)).setCell ⟨g, 7, none⟩ (y7)) g t #[y0, y1, y2, y3, y4, y5, y6, y7] := by
  have k := (((h.set 0 y0).set 1 y1).set 2 y2).set 3 y3
  have e : (((#[x0, x1, x2, x3, x4, x5, x6, x7].setIfInBounds 0 y0).setIfInBounds 1 y1).setIfInBounds 2 y2).setIfInBounds 3 y3 = #[y0, y1, y2, y3, x4, x5, x6, x7] := rfl
  rw [e] at k
  have k2 := (((k.set 4 y4).set 5 y5).set 6 y6).set 7 y7
  have e2 : (((#[y0, y1, y2, y3, x4, x5, x6, x7].setIfInBounds 4 y4).setIfInBounds 5 y5).setIfInBounds 6 y6).setIfInBounds 7 y7 = #[y0, y1, y2, y3, y4, y5, y6, y7] := rfl
  rw [e2] at k2
  exact k2
theorem in8p (w : World) (g : Nat) (y0 y1 y2 y3 y4 y5 y6 y7 : Value) : In g (g + 1) w ((((((((w.setCell ⟨g, 0, none⟩ (y0)).setCell ⟨g, 1, none⟩ (y1)).setCell ⟨g, 2, none⟩ (y2)).setCell ⟨g, 3, none⟩ (y3)).setCell ⟨g, 4, none⟩ (y4)).setCell ⟨g, 5, none⟩ (y5)).setCell ⟨g, 6, none⟩ (y6)).setCell ⟨g, 7, none⟩ (y7)) := ((((((((In.refl g (g + 1) w).set1 0 _).set1 1 _).set1 2 _).set1 3 _).set1 4 _).set1 5 _).set1 6 _).set1 7 _
theorem Pb.cells8 {w : World} {g : Nat} {t : TypeId} {x0 x1 x2 x3 x4 x5 x6 x7 : Value} (h : Pb w g t #[x0, x1, x2, x3, x4, x5, x6, x7]) : w.cell? ⟨g, 0, none⟩ = some x0 ∧ w.cell? ⟨g, 1, none⟩ = some x1 ∧ w.cell? ⟨g, 2, none⟩ = some x2 ∧ w.cell? ⟨g, 3, none⟩ = some x3 ∧ w.cell? ⟨g, 4, none⟩ = some x4 ∧ w.cell? ⟨g, 5, none⟩ = some x5 ∧ w.cell? ⟨g, 6, none⟩ = some x6 ∧ w.cell? ⟨g, 7, none⟩ = some x7 := ⟨h.cell 0 rfl, h.cell 1 rfl, h.cell 2 rfl, h.cell 3 rfl, h.cell 4 rfl, h.cell 5 rfl, h.cell 6 rfl, h.cell 7 rfl⟩
end Go.Proofs.YtienpliknhkbjaaGreatDoor

