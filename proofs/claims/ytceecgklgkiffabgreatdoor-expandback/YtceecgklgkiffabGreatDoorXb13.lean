import Derived.Orders
import Derived.Below
import Derived.BigQuiet
import Derived.ChangeOld
import Derived.Deep.DeepCutAuto
import Derived.Deep.DeepFit
import Derived.Deep.LoopGhost
import Derived.Deep.QuietTactic
import Derived.Deep.RegionHeld3
import Derived.Deep.RegionWith
import Derived.Defers
import Derived.Laws.BitsAllLaws
import Derived.Laws.CopyRow
import Derived.Laws.IdiomCopy
import Derived.Laws.IdiomRangeMap
import Derived.OpenShut
import Derived.OwnWalk
import Derived.ProofKit
import Derived.Recover
import Derived.Scope
import Derived.ShutString
import Derived.WalkKit
import Derived.WalkLawsBesides
import Derived.WalkMore
import Derived.WalkSpells
import Derived.Test.YtceecgklgkiffabGreatDoorXb12
/- package rat: what is deferred. -/
namespace Go.Proofs.YtceecgklgkiffabGreatDoor
open Go.ChangeShapes Go.WideShapes Go.ChangeAt Go.RowKit
open Na Ar
set_option linter.unusedVariables false
/-- a region that draws its order, in a deferred call -/
theorem wpS_region_draw {P : Program} {Q : Exit → Act → List Frame → World → Prop} {a : Act} {cs : List Frame} {w : World} {id : Nat} {ops : Array Oper}
    (h : ∀ t, wpOpsS P ops Q (Region.schedule (P.follows .mixedOrders) ops t) a cs { w with drawn := w.drawn + 1 }) : (Code.region id ops true).wpS P Q a cs w :=
  fun b k hb hr => let ⟨e, a', cs', w', q, r⟩ := wp_opsS _ a cs _ (h _) b k hb hr; ⟨e, a', cs', w', q, .of_steps (.one step_region_draw) r⟩
theorem lin_step {ops : Array Oper} {fuel t : Nat} {l : Array Bool} {acc rs : List Nat} (h : Region.ready .any ops l = rs) :
    Region.linearise.go .any ops (fuel + 1) t l acc = match rs[t % rs.length]? with
      | some i => Region.linearise.go .any ops fuel (t / rs.length) (l.setIfInBounds i true) (i :: acc)
      | none => acc.reverse := by
  subst h
  rfl
theorem sched_two {ops : Array Oper} (hs : ops.size = 4) (r0 : Region.ready .any ops #[false, false, false, false] = [0, 1]) (r1 : Region.ready .any ops #[true, false, false, false] = [1])
    (r2 : Region.ready .any ops #[false, true, false, false] = [0]) (r3 : Region.ready .any ops #[true, true, false, false] = [2]) (r4 : Region.ready .any ops #[true, true, true, false] = [3]) (t : Nat) :
    Region.schedule true ops t = [0, 1, 2, 3] ∨ Region.schedule true ops t = [1, 0, 2, 3] := by
  have e : Region.schedule true ops t = Region.linearise.go .any ops 4 t #[false, false, false, false] [] := by
    unfold Region.schedule Region.linearise
    rw [hs]
    rfl
  rw [e]
  have hm : t % 2 = 0 ∨ t % 2 = 1 := by omega
  rcases hm with hm | hm
  · left
    rw [lin_step r0]
    simp [hm]
    rw [lin_step r1]
    simp [Nat.mod_one]
    rw [lin_step r3]
    simp [Nat.mod_one]
    rw [lin_step r4]
    simp [Nat.mod_one, Region.linearise.go]
  · right
    rw [lin_step r0]
    simp [hm]
    rw [lin_step r2]
    simp [Nat.mod_one]
    rw [lin_step r3]
    simp [Nat.mod_one]
    rw [lin_step r4]
    simp [Nat.mod_one, Region.linearise.go]
theorem wpS_region_two {P : Program} {Q : Exit → Act → List Frame → World → Prop} {a : Act} {cs : List Frame} {w : World} {id : Nat} {ops : Array Oper} (hm : P.follows .mixedOrders = true) (hs : ops.size = 4) (r0 : Region.ready .any ops #[false, false, false, false] = [0, 1]) (r1 : Region.ready .any ops #[true, false, false, false] = [1])
    (r2 : Region.ready .any ops #[false, true, false, false] = [0]) (r3 : Region.ready .any ops #[true, true, false, false] = [2]) (r4 : Region.ready .any ops #[true, true, true, false] = [3])
    (h1 : wpOpsS P ops Q [0, 1, 2, 3] a cs w.drew) (h2 : wpOpsS P ops Q [1, 0, 2, 3] a cs w.drew) : (Code.region id ops true).wpS P Q a cs w := by
  refine wpS_region_draw fun t => ?_
  rw [hm]
  rcases sched_two hs r0 r1 r2 r3 r4 t with e | e
  · rw [e]; exact h1
  · rw [e]; exact h2
theorem mixed : Tryz.prog.follows .mixedOrders = true := by kernel_rfl
theorem caught_nil (x : Int) (w : World) : Calls Tryz.prog 36 #[.nilIface, .int .i64 x] w fun e w' => e = .returned (.int .i64 x) ∧ w' = w := by
  go_enter Tryz.func36, Tryz.ntmps36
  go_wp2
  go_ret
  exact ⟨rfl, rfl⟩
theorem idleAdd (g : Nat) (x : Int) (w : World) (hc : w.cell? ⟨g, 0, none⟩ = some (.int .i64 x)) (hz : w.frozen? ⟨g, 0, none⟩ = false) :
    CallsD Tryz.prog 136 #[.pointer (some ⟨g, 0, none⟩)] .returning w fun e u' w' => e = .returned (.tuple #[]) ∧ u' = .returning ∧ w' = (w.setCell ⟨g, 0, none⟩ (.int .i64 x)).drew := by
  have hk := caught_nil x w.drew
  have hc' : w.drew.cell? ⟨g, 0, none⟩ = some (.int .i64 x) := hc
  have hz' : w.drew.frozen? ⟨g, 0, none⟩ = false := hz
  refine callsD_of_wpS Tryz.func136 rfl fun c₀ cs hu => ?_
  refine wpS_region_two mixed rfl (by kernel_rfl) (by kernel_rfl) (by kernel_rfl) (by kernel_rfl) (by kernel_rfl) ?_ ?_
  · simp [wpOpsS, go_sem, recoverD, hu, Tryz.ntmps136, hc']
    refine hk.mono ?_
    rintro e w' ⟨rfl, rfl⟩
    cases c₀
    simp_all [go_sem, bodyPostS, results, Tryz.results136]
  · simp [wpOpsS, go_sem, recoverD, hu, Tryz.ntmps136, hc']
    refine hk.mono ?_
    rintro e w' ⟨rfl, rfl⟩
    cases c₀
    simp_all [go_sem, bodyPostS, results, Tryz.results136]
theorem idleSub (g : Nat) (x : Int) (w : World) (hc : w.cell? ⟨g, 0, none⟩ = some (.int .i64 x)) (hz : w.frozen? ⟨g, 0, none⟩ = false) :
    CallsD Tryz.prog 35 #[.pointer (some ⟨g, 0, none⟩)] .returning w fun e u' w' => e = .returned (.tuple #[]) ∧ u' = .returning ∧ w' = (w.setCell ⟨g, 0, none⟩ (.int .i64 x)).drew := by
  have hk := caught_nil x w.drew
  have hc' : w.drew.cell? ⟨g, 0, none⟩ = some (.int .i64 x) := hc
  have hz' : w.drew.frozen? ⟨g, 0, none⟩ = false := hz
  refine callsD_of_wpS Tryz.func35 rfl fun c₀ cs hu => ?_
  refine wpS_region_two mixed rfl (by kernel_rfl) (by kernel_rfl) (by kernel_rfl) (by kernel_rfl) (by kernel_rfl) ?_ ?_
  · simp [wpOpsS, go_sem, recoverD, hu, Tryz.ntmps35, hc']
    refine hk.mono ?_
    rintro e w' ⟨rfl, rfl⟩
    cases c₀
    simp_all [go_sem, bodyPostS, results, Tryz.results35]
  · simp [wpOpsS, go_sem, recoverD, hu, Tryz.ntmps35, hc']
    refine hk.mono ?_
    rintro e w' ⟨rfl, rfl⟩
    cases c₀
    simp_all [go_sem, bodyPostS, results, Tryz.results35]
end Go.Proofs.YtceecgklgkiffabGreatDoor

/- package rat: Add, Sub, Mul, Div, where nothing is too long. -/
namespace Go.Proofs.YtceecgklgkiffabGreatDoor
open Go.ChangeShapes Go.WideShapes Go.ChangeAt Go.RowKit
open Na Ar
set_option linter.unusedVariables false
/-- one cell in its block -/
def E1 (w : World) (g : Nat) (t : TypeId) (x : Value) : Prop := w.heap[g]? = some (.cells #[x] t (0, 0))
section
variable {w w' : World} {g : Nat} {t : TypeId} {x : Value}
theorem E1.lt (h : E1 w g t x) : g < w.heap.size := by
  by_cases hlt : g < w.heap.size
  · exact hlt
  · unfold E1 at h; simp [Array.getElem?_eq_none (Nat.le_of_not_lt hlt)] at h
theorem E1.later (h : E1 w g t x) (hb : Below w.heap.size w w') : E1 w' g t x := by
  have := h.lt
  unfold E1
  rw [hb.block g this]; exact h
theorem E1.cell (h : E1 w g t x) : w.cell? ⟨g, 0, none⟩ = some x := by
  unfold E1 at h
  simp [World.cell?, h]
theorem E1.frozen (h : E1 w g t x) : w.frozen? ⟨g, 0, none⟩ = false := by
  unfold E1 at h
  simp [World.frozen?, h]
theorem E1.set (h : E1 w g t x) (y : Value) : E1 (w.setCell ⟨g, 0, none⟩ y) g t y := set_block h
theorem E1.inn {g' : Nat} (h : E1 w g t x) (hi : In g' (g' + 1) w w') (hne : g ≠ g') : E1 w' g t x := by
  have := h.lt
  unfold E1
  rw [hi.block g this (by omega)]; exact h
theorem in1 (w : World) (g : Nat) (y : Value) : In g (g + 1) w (w.setCell ⟨g, 0, none⟩ y) := (In.refl g (g + 1) w).set1 0 _
theorem E1.drew (h : E1 w g t x) : E1 w.drew g t x := h
theorem St.drew {y z : Value} (h : St w g t x y z) : St w.drew g t x y z := h
theorem in_drew (g : Nat) (w : World) : In g (g + 1) w w.drew := ⟨rfl, rfl, rfl, Nat.le_refl _, fun _ _ _ => rfl⟩
end
theorem st_four (w : World) (x y z x' y' z' : Value) : St ((((w.alloc (.cells #[x, y, z] 36)).alloc (.cells #[x', y', z'] 36)).alloc (.cells #[.bool false, .slice none 0 0, .slice none 0 0] 36)).alloc (.cells #[.int .i64 0] 24)) w.heap.size 36 x y z ∧ St ((((w.alloc (.cells #[x, y, z] 36)).alloc (.cells #[x', y', z'] 36)).alloc (.cells #[.bool false, .slice none 0 0, .slice none 0 0] 36)).alloc (.cells #[.int .i64 0] 24)) (w.heap.size + 1) 36 x' y' z' ∧ St ((((w.alloc (.cells #[x, y, z] 36)).alloc (.cells #[x', y', z'] 36)).alloc (.cells #[.bool false, .slice none 0 0, .slice none 0 0] 36)).alloc (.cells #[.int .i64 0] 24)) (w.heap.size + 1 + 1) 36 (.bool false) (.slice none 0 0) (.slice none 0 0) ∧ E1 ((((w.alloc (.cells #[x, y, z] 36)).alloc (.cells #[x', y', z'] 36)).alloc (.cells #[.bool false, .slice none 0 0, .slice none 0 0] 36)).alloc (.cells #[.int .i64 0] 24)) (w.heap.size + 1 + 1 + 1) 24 (.int .i64 0) ∧ Below w.heap.size w ((((w.alloc (.cells #[x, y, z] 36)).alloc (.cells #[x', y', z'] 36)).alloc (.cells #[.bool false, .slice none 0 0, .slice none 0 0] 36)).alloc (.cells #[.int .i64 0] 24)) ∧ ((((w.alloc (.cells #[x, y, z] 36)).alloc (.cells #[x', y', z'] 36)).alloc (.cells #[.bool false, .slice none 0 0, .slice none 0 0] 36)).alloc (.cells #[.int .i64 0] 24)).heap.size = w.heap.size + 4 := by
  obtain ⟨s1, s2, s3, b⟩ := st_three w x y z x' y' z' (.bool false) (.slice none 0 0) (.slice none 0 0) 36 36 36
  have e1 : (((w.alloc (.cells #[x, y, z] 36)).alloc (.cells #[x', y', z'] 36)).alloc (.cells #[.bool false, .slice none 0 0, .slice none 0 0] 36)).heap.size = w.heap.size + 1 + 1 + 1 := by simp
  generalize ((w.alloc (.cells #[x, y, z] 36)).alloc (.cells #[x', y', z'] 36)).alloc (.cells #[.bool false, .slice none 0 0, .slice none 0 0] 36) = w1 at *
  have b2 := alloc_below (w := w1) (.cells #[.int .i64 0] 24)
  have s4 : E1 (w1.alloc (.cells #[.int .i64 0] 24)) w1.heap.size 24 (.int .i64 0) := heap_alloc_new _ _
  rw [e1] at s4
  exact ⟨s1.later b2, s2.later b2, s3.later b2, s4, b.trans (b2.mono b.size), by simp [e1]⟩
section
variable {w : World} {s1 s2 : Bool} {a1 b1 a2 b2 : Option Addr} {n1 c1 m1 d1 n2 c2 m2 d2 : Nat} {p q : Rat} {k l : Nat}
set_option maxHeartbeats 6400000 in
set_option maxRecDepth 100000 in
theorem rAdd_ok (h1 : Rt w s1 a1 n1 c1 b1 m1 d1 p) (h2 : Rt w s2 a2 n2 c2 b2 m2 d2 q) (z1 : Sz p k) (z2 : Sz q l) (hk : k + l + 1 ≤ 4096) :
    Calls Tryz.prog 112 #[.agg #[.bool s1, .slice a1 n1 c1, .slice b1 m1 d1], .agg #[.bool s2, .slice a2 n2 c2, .slice b2 m2 d2]] w fun e w' => ∃ s v1 v2, e = .returned (.tuple #[.agg #[.bool s, v1, v2], .int .i64 0]) ∧ RtO w' w.heap.size s v1 v2 (p + q) ∧ Sz (p + q) (k + l + 1) ∧ Below w.heap.size w w' := by
  have HC : Hid ((if s2 = decide (q.num < 0) then p + q else p - q) = p + q) := by
    show _ = _
    rw [h2.sgn]
    first | exact if_pos rfl | exact if_neg (by cases decide (q.num < 0) <;> simp)
  have hmf : ∀ (fn : Fn) (first cap : Array Value) (w : World), (Instr.makeFunc fn first cap).run Tryz.prog w = .ok (.func fn first cap) w := fun _ _ _ _ => rfl
  obtain ⟨t1, t2, t3, t4, hb0, e0⟩ := st_four w (.bool s1) (.slice a1 n1 c1) (.slice b1 m1 d1) (.bool s2) (.slice a2 n2 c2) (.slice b2 m2 d2)
  obtain ⟨w0, hw0⟩ : ∃ w0, w0 = (((w.alloc (.cells #[.bool s1, .slice a1 n1 c1, .slice b1 m1 d1] 36)).alloc (.cells #[.bool s2, .slice a2 n2 c2, .slice b2 m2 d2] 36)).alloc (.cells #[.bool false, .slice none 0 0, .slice none 0 0] 36)).alloc (.cells #[.int .i64 0] 24) := ⟨_, rfl⟩
  rw [← hw0] at t1 t2 t3 t4 hb0 e0
  have r1 := h1.later hb0
  have r2 := h2.later hb0
  obtain ⟨g, hg⟩ : ∃ g, g = w.heap.size := ⟨_, rfl⟩
  have HG : Hid (w.heap.size = g) := hg.symm
  rw [← hg] at t1 t2 t3 t4 hb0 e0
  have HS : g ≤ w0.heap.size := by rw [hg]; exact hb0.size
  go_enter_defers Tryz.func112, Tryz.ntmps112
  go_wp2_with fail
  rw [← hw0, ← hg]
  refine (areRats_ok r1 r2 z1 z2 (by omega) (by omega)).mono ?_
  rintro e wA ⟨rfl, hbA⟩
  have r1A := r1.later hbA
  have r2A := r2.later hbA
  have t1A := t1.later hbA
  have t2A := t2.later hbA
  have t3A := t3.later hbA
  have t4A := t4.later hbA
  have HA := hb0.trans (hbA.mono HS)
  have HAs : w0.heap.size ≤ wA.heap.size := hbA.size
  clear hw0 hg t1 t2 t3 t4 r1 r2 hbA hb0 h1 h2
  obtain ⟨x0, x1, x2⟩ := t1A.cells
  obtain ⟨y0, y1, y2⟩ := t2A.cells
  have f1 := sum_ok r1A r2A z1 z2 hk s2
  rw [HC.out] at f1
  clear r1A r2A HC
  go_wp2_with fail
  refine f1.mono ?_
  rintro e wB ⟨s9, v1, v2, rfl, hR, hsz, hbB⟩
  clear f1
  obtain ⟨a9, n9, c9, b9, m9, d9, rfl, rfl, _⟩ := hR.opens
  have t3B := t3A.later hbB
  have t4B := t4A.later hbB
  obtain ⟨u0, u1, u2⟩ := t3B.cells
  obtain ⟨v0, v1, v2⟩ := t3B.frozen
  have o0 := t4B.cell
  have o1 := t4B.frozen
  have sA := t3A.lt
  have sB := t4A.lt
  go_wp2
  have t3C := (t3B.set (.bool s9) (.slice a9 n9 c9) (.slice b9 m9 d9)).inn (in1 _ (g + 1 + 1 + 1) (.int .i64 0)) (by omega)
  have t4C := (t4B.inn (in3 _ (g + 1 + 1) (.bool s9) (.slice a9 n9 c9) (.slice b9 m9 d9)) (by omega)).set (.int .i64 0)
  have hRC := (hR.inn (in3 _ (g + 1 + 1) (.bool s9) (.slice a9 n9 c9) (.slice b9 m9 d9)) (by omega)).inn (in1 _ (g + 1 + 1 + 1) (.int .i64 0)) (by omega)
  have HC := below_in (below_in (HA.trans (hbB.mono (by omega))) (in3 _ (g + 1 + 1) (.bool s9) (.slice a9 n9 c9) (.slice b9 m9 d9)) (by omega) (by rw [HG.out]; exact Nat.le_refl _)) (in1 _ (g + 1 + 1 + 1) (.int .i64 0)) (by omega) (by rw [HG.out]; exact Nat.le_refl _)
  clear u0 u1 u2 v0 v1 v2 o0 o1 t3B t4B hR x0 x1 x2 y0 y1 y2
  generalize (((wB.setCell ⟨g + 1 + 1, 0, none⟩ (.bool s9)).setCell ⟨g + 1 + 1, 1, none⟩ (.slice a9 n9 c9)).setCell ⟨g + 1 + 1, 2, none⟩ (.slice b9 m9 d9)).setCell ⟨g + 1 + 1 + 1, 0, none⟩ (.int .i64 0) = wC at *
  refine leaves_cons (f := 136) (args := #[.pointer (some ⟨g + 1 + 1 + 1, 0, none⟩)]) (by simp) (by simp [go_sem]) ?_
  refine (idleAdd (g + 1 + 1 + 1) 0 _ t4C.cell t4C.frozen).mono ?_
  rintro e u' w'' ⟨rfl, rfl, rfl⟩
  have t3D := (t3C.inn (in1 _ (g + 1 + 1 + 1) (.int .i64 0)) (by omega)).drew
  have t4D := (t4C.set (.int .i64 0)).drew
  have hRD := (hRC.inn (in1 _ (g + 1 + 1 + 1) (.int .i64 0)) (by omega)).inn (in_drew (g + 1 + 1 + 1) _) (by omega)
  have HD := below_in (below_in HC (in1 _ (g + 1 + 1 + 1) (.int .i64 0)) (by omega) (by rw [HG.out]; exact Nat.le_refl _)) (in_drew (g + 1 + 1 + 1) _) (by omega) (by rw [HG.out]; exact Nat.le_refl _)
  clear t3C t4C hRC HC
  generalize ((wC.setCell ⟨g + 1 + 1 + 1, 0, none⟩ (.int .i64 0)).drew) = wD at *
  obtain ⟨u0, u1, u2⟩ := t3D.cells
  have o0 := t4D.cell
  refine ⟨.tuple #[.agg #[.bool s9, .slice a9 n9 c9, .slice b9 m9 d9], .int .i64 0], by simp [results, Tryz.results112, go_sem, u0, u1, u2, o0], ?_⟩
  rw [HG.out]
  exact ⟨_, _, _, rfl, hRD.lower (by omega), hsz, HD⟩
set_option maxHeartbeats 6400000 in
set_option maxRecDepth 100000 in
theorem rSub_ok (h1 : Rt w s1 a1 n1 c1 b1 m1 d1 p) (h2 : Rt w s2 a2 n2 c2 b2 m2 d2 q) (z1 : Sz p k) (z2 : Sz q l) (hk : k + l + 1 ≤ 4096) :
    Calls Tryz.prog 13 #[.agg #[.bool s1, .slice a1 n1 c1, .slice b1 m1 d1], .agg #[.bool s2, .slice a2 n2 c2, .slice b2 m2 d2]] w fun e w' => ∃ s v1 v2, e = .returned (.tuple #[.agg #[.bool s, v1, v2], .int .i64 0]) ∧ RtO w' w.heap.size s v1 v2 (p - q) ∧ Sz (p - q) (k + l + 1) ∧ Below w.heap.size w w' := by
  have HC : Hid ((if (!s2) = decide (q.num < 0) then p + q else p - q) = p - q) := by
    show _ = _
    rw [h2.sgn]
    first | exact if_pos rfl | exact if_neg (by cases decide (q.num < 0) <;> simp)
  have hmf : ∀ (fn : Fn) (first cap : Array Value) (w : World), (Instr.makeFunc fn first cap).run Tryz.prog w = .ok (.func fn first cap) w := fun _ _ _ _ => rfl
  obtain ⟨t1, t2, t3, t4, hb0, e0⟩ := st_four w (.bool s1) (.slice a1 n1 c1) (.slice b1 m1 d1) (.bool s2) (.slice a2 n2 c2) (.slice b2 m2 d2)
  obtain ⟨w0, hw0⟩ : ∃ w0, w0 = (((w.alloc (.cells #[.bool s1, .slice a1 n1 c1, .slice b1 m1 d1] 36)).alloc (.cells #[.bool s2, .slice a2 n2 c2, .slice b2 m2 d2] 36)).alloc (.cells #[.bool false, .slice none 0 0, .slice none 0 0] 36)).alloc (.cells #[.int .i64 0] 24) := ⟨_, rfl⟩
  rw [← hw0] at t1 t2 t3 t4 hb0 e0
  have r1 := h1.later hb0
  have r2 := h2.later hb0
  obtain ⟨g, hg⟩ : ∃ g, g = w.heap.size := ⟨_, rfl⟩
  have HG : Hid (w.heap.size = g) := hg.symm
  rw [← hg] at t1 t2 t3 t4 hb0 e0
  have HS : g ≤ w0.heap.size := by rw [hg]; exact hb0.size
  go_enter_defers Tryz.func13, Tryz.ntmps13
  go_wp2_with fail
  rw [← hw0, ← hg]
  refine (areRats_ok r1 r2 z1 z2 (by omega) (by omega)).mono ?_
  rintro e wA ⟨rfl, hbA⟩
  have r1A := r1.later hbA
  have r2A := r2.later hbA
  have t1A := t1.later hbA
  have t2A := t2.later hbA
  have t3A := t3.later hbA
  have t4A := t4.later hbA
  have HA := hb0.trans (hbA.mono HS)
  have HAs : w0.heap.size ≤ wA.heap.size := hbA.size
  clear hw0 hg t1 t2 t3 t4 r1 r2 hbA hb0 h1 h2
  obtain ⟨x0, x1, x2⟩ := t1A.cells
  obtain ⟨y0, y1, y2⟩ := t2A.cells
  have f1 := sum_ok r1A r2A z1 z2 hk (!s2)
  rw [HC.out] at f1
  clear r1A r2A HC
  go_wp2_with fail
  refine f1.mono ?_
  rintro e wB ⟨s9, v1, v2, rfl, hR, hsz, hbB⟩
  clear f1
  obtain ⟨a9, n9, c9, b9, m9, d9, rfl, rfl, _⟩ := hR.opens
  have t3B := t3A.later hbB
  have t4B := t4A.later hbB
  obtain ⟨u0, u1, u2⟩ := t3B.cells
  obtain ⟨v0, v1, v2⟩ := t3B.frozen
  have o0 := t4B.cell
  have o1 := t4B.frozen
  have sA := t3A.lt
  have sB := t4A.lt
  go_wp2
  have t3C := (t3B.set (.bool s9) (.slice a9 n9 c9) (.slice b9 m9 d9)).inn (in1 _ (g + 1 + 1 + 1) (.int .i64 0)) (by omega)
  have t4C := (t4B.inn (in3 _ (g + 1 + 1) (.bool s9) (.slice a9 n9 c9) (.slice b9 m9 d9)) (by omega)).set (.int .i64 0)
  have hRC := (hR.inn (in3 _ (g + 1 + 1) (.bool s9) (.slice a9 n9 c9) (.slice b9 m9 d9)) (by omega)).inn (in1 _ (g + 1 + 1 + 1) (.int .i64 0)) (by omega)
  have HC := below_in (below_in (HA.trans (hbB.mono (by omega))) (in3 _ (g + 1 + 1) (.bool s9) (.slice a9 n9 c9) (.slice b9 m9 d9)) (by omega) (by rw [HG.out]; exact Nat.le_refl _)) (in1 _ (g + 1 + 1 + 1) (.int .i64 0)) (by omega) (by rw [HG.out]; exact Nat.le_refl _)
  clear u0 u1 u2 v0 v1 v2 o0 o1 t3B t4B hR x0 x1 x2 y0 y1 y2
  generalize (((wB.setCell ⟨g + 1 + 1, 0, none⟩ (.bool s9)).setCell ⟨g + 1 + 1, 1, none⟩ (.slice a9 n9 c9)).setCell ⟨g + 1 + 1, 2, none⟩ (.slice b9 m9 d9)).setCell ⟨g + 1 + 1 + 1, 0, none⟩ (.int .i64 0) = wC at *
  refine leaves_cons (f := 35) (args := #[.pointer (some ⟨g + 1 + 1 + 1, 0, none⟩)]) (by simp) (by simp [go_sem]) ?_
  refine (idleSub (g + 1 + 1 + 1) 0 _ t4C.cell t4C.frozen).mono ?_
  rintro e u' w'' ⟨rfl, rfl, rfl⟩
  have t3D := (t3C.inn (in1 _ (g + 1 + 1 + 1) (.int .i64 0)) (by omega)).drew
  have t4D := (t4C.set (.int .i64 0)).drew
  have hRD := (hRC.inn (in1 _ (g + 1 + 1 + 1) (.int .i64 0)) (by omega)).inn (in_drew (g + 1 + 1 + 1) _) (by omega)
  have HD := below_in (below_in HC (in1 _ (g + 1 + 1 + 1) (.int .i64 0)) (by omega) (by rw [HG.out]; exact Nat.le_refl _)) (in_drew (g + 1 + 1 + 1) _) (by omega) (by rw [HG.out]; exact Nat.le_refl _)
  clear t3C t4C hRC HC
  generalize ((wC.setCell ⟨g + 1 + 1 + 1, 0, none⟩ (.int .i64 0)).drew) = wD at *
  obtain ⟨u0, u1, u2⟩ := t3D.cells
  have o0 := t4D.cell
  refine ⟨.tuple #[.agg #[.bool s9, .slice a9 n9 c9, .slice b9 m9 d9], .int .i64 0], by simp [results, Tryz.results13, go_sem, u0, u1, u2, o0], ?_⟩
  rw [HG.out]
  exact ⟨_, _, _, rfl, hRD.lower (by omega), hsz, HD⟩
end
end Go.Proofs.YtceecgklgkiffabGreatDoor

/- package rat: New, Int, Floor, where nothing is too long. -/
namespace Go.Proofs.YtceecgklgkiffabGreatDoor
open Go.ChangeShapes Go.WideShapes Go.ChangeAt Go.RowKit
open Na Ar
set_option linter.unusedVariables false
theorem RtO.whole {w : World} {base : Nat} {s : Bool} {v1 v2 : Value} {Z A : Int} (hs : s = decide (Z < 0)) (hA : A = (Z.natAbs : Int)) (h1 : Own .u64 w base 22 v1 (words A)) (h2 : Own .u64 w base 22 v2 (words 1)) (ap : Apart v1 v2) : RtO w base s v1 v2 ((Z : Int) : Rat) :=
  ⟨by rw [Rat.num_intCast]; exact hs, by rw [Rat.num_intCast, ← hA]; exact h1, by rw [Rat.den_intCast]; exact h2, ap⟩
theorem apart_later {w : World} {b1 b2 : Nat} {e : TypeId} {v1 v2 : Value} {xs ys : List Int} {w' : World} (h1 : Own .u64 w b1 e v1 xs) (h2 : Own .u64 w' b2 e v2 ys) (hb : w.heap.size ≤ b2) : Apart v1 v2 := fun g hg hg' => by
  have a := (own_blk h1 hg).2
  have b := (own_blk h2 hg').1
  omega
theorem Apart.symm {v1 v2 : Value} (h : Apart v1 v2) : Apart v2 v1 := fun g hg hg' => h g hg' hg
section
variable {w : World} {a b : Option Addr} {n c m d : Nat} {xs ys : List Int} {A B : Int} {k : Nat}
set_option maxHeartbeats 6400000 in
set_option maxRecDepth 100000 in
theorem rNew_ok {neg : Bool} (hr1 : RowC w a n c xs) (hr2 : RowC w b m d ys) (h1 : Nm xs A) (h2 : Nm ys B) (hB : 0 < B) (lA : Lt A 4096) (lB : Lt B 4096) (hn : n ≤ 3700000) (hm : m ≤ 3700000) :
    Calls Tryz.prog 32 #[.bool neg, .slice a n c, .slice b m d] w fun e w' => ∃ s v1 v2, e = .returned (.tuple #[.agg #[.bool s, v1, v2], .int .i64 0]) ∧ RtO w' w.heap.size s v1 v2 (mkR neg A B) ∧ Below w.heap.size w w' := by
  have hb0 := alloc_below (w := w) (.cells #[.bool false, .slice none 0 0, .slice none 0 0] 36)
  have st0 := st_new w (.bool false) (.slice none 0 0) (.slice none 0 0) 36
  replace hr1 := hr1.later hb0
  replace hr2 := hr2.later hb0
  have k1 := bits0_any hr1 h1.ws (by omega)
  have k2 := bits0_any hr2 h2.ws (by omega)
  rw [h1.num] at k1
  rw [h2.num] at k2
  obtain ⟨j, hj, _⟩ := bits_some hB
  have bA := bits_le lA.1 lA.2
  have bB := bits_le lB.1 lB.2
  rw [hj] at k2 bB
  have tj : (((j : Int) + 1) == 0) = false := beq_no (by omega)
  have tA : ¬ 262144 < bitsN A := by omega
  have tB : ¬ 262144 < (j : Int) + 1 := by omega
  generalize bitsN A = bA' at *
  generalize (j : Int) + 1 = bB' at *
  have low := rlow_any (neg := neg) hr1 hr2 h1 h2 hB hn hm
  clear hr1 hr2 h1 h2 hB hn hm hj bA bB lA lB
  go_enter Tryz.func32, Tryz.ntmps32
  go_wp2_with fail
  refine k2.mono ?_
  rintro e w1 ⟨rfl, rfl⟩
  go_wp2_with fail
  refine k1.mono ?_
  rintro e w1 ⟨rfl, rfl⟩
  go_wp2_with fail
  refine k2.mono ?_
  rintro e w1 ⟨rfl, rfl⟩
  go_wp2_with fail
  refine low.mono ?_
  rintro e wE ⟨s9, v1, v2, rfl, hR, hbE⟩
  obtain ⟨a9, n9, c9, b9, m9, d9, rfl, rfl, _⟩ := hR.opens
  have tE := st0.later hbE
  obtain ⟨x0, x1, x2⟩ := tE.cells
  obtain ⟨y0, y1, y2⟩ := tE.frozen
  clear k1 k2 low
  go_wp2
  have st9 := (tE.set (.bool s9) (.slice a9 n9 c9) (.slice b9 m9 d9)).cells
  refine bodyPost_ret (v := .tuple #[.agg #[.bool s9, .slice a9 n9 c9, .slice b9 m9 d9], .int .i64 0]) (by simp [results, Tryz.results32, go_sem, st9]) rfl ?_
  exact ⟨_, _, _, rfl, (hR.inn (in3 _ _ _ _ _) (by simp)).lower (by simp), below_in (hb0.trans (hbE.mono hb0.size)) (in3 _ _ _ _ _) (Nat.le_refl _) (Nat.le_refl _)⟩
end
set_option maxHeartbeats 6400000 in
set_option maxRecDepth 100000 in
theorem rInt_any {v : Int} (h0 : -9223372036854775808 ≤ v) (h1 : v ≤ 9223372036854775807) (w : World) :
    Calls Tryz.prog 72 #[.int .i64 v] w fun e w' => ∃ s v1 v2, e = .returned (.agg #[.bool s, v1, v2]) ∧ RtO w' w.heap.size s v1 v2 ((v : Int) : Rat) ∧ Below w.heap.size w w' := by
  have hb0 := alloc_below (w := w) (.cells #[.bool false, .slice none 0 0, .slice none 0 0] 36)
  have st0 := st_new w (.bool false) (.slice none 0 0) (.slice none 0 0) 36
  by_cases hv : v < 0
  · have f1 := fun w => natFrom_any (v := (v.natAbs : Int)) (by omega) w
    have f2 := fun w => natFrom_any (v := 1) (by omega) w
    have e1 : IntKind.u64.wrap (-IntKind.u64.wrap v) = (v.natAbs : Int) := by rw [wrapU, wrapU]; omega
    have HV : Hid (true = decide (v < 0)) := by exact (decide_eq_true hv).symm
    go_enter Tryz.func72, Tryz.ntmps72
    go_wp2_with fail
    refine (f1 _).mono ?_
    rintro e wA ⟨u1, rfl, o1, hbA⟩
    obtain ⟨a1, c1, rfl, _⟩ := o1.readsC
    clear f1 h0 h1 hv
    go_wp2_with fail
    refine (f2 _).mono ?_
    rintro e wB ⟨u2, rfl, o2, hbB⟩
    have hap := apart_later o1 o2 (Nat.le_refl _)
    obtain ⟨a2, c2, rfl, _⟩ := o2.readsC
    have o1B := own_same o1 fun g hg => hbB.block g (own_blk o1 hg).2
    have o2B := own_lower o2 hbA.size
    have hbAB := hbA.trans (hbB.mono hbA.size)
    have tE := st0.later hbAB
    obtain ⟨x0, x1, x2⟩ := tE.cells
    obtain ⟨y0, y1, y2⟩ := tE.frozen
    clear f2 st0 o1 o2 hbA hbB
    go_wp2
    have st9 := (tE.set (.bool true) (.slice a1 (words (v.natAbs : Int)).length c1) (.slice a2 (words 1).length c2)).cells
    refine bodyPost_ret (v := .agg #[.bool true, .slice a1 (words (v.natAbs : Int)).length c1, .slice a2 (words 1).length c2]) (by simp [results, Tryz.results72, go_sem, st9]) rfl ?_
    exact ⟨_, _, _, rfl, ((RtO.whole HV.out rfl o1B o2B hap).inn (in3 _ _ _ _ _) (by simp)).lower (by simp), below_in (hb0.trans (hbAB.mono hb0.size)) (in3 _ _ _ _ _) (Nat.le_refl _) (Nat.le_refl _)⟩
  · have f1 := fun w => natFrom_any (v := (v.natAbs : Int)) (by omega) w
    have f2 := fun w => natFrom_any (v := 1) (by omega) w
    have e1 : IntKind.u64.wrap v = (v.natAbs : Int) := by rw [wrapU]; omega
    have HV : Hid (false = decide (v < 0)) := by exact (decide_eq_false hv).symm
    go_enter Tryz.func72, Tryz.ntmps72
    go_wp2_with fail
    refine (f1 _).mono ?_
    rintro e wA ⟨u1, rfl, o1, hbA⟩
    obtain ⟨a1, c1, rfl, _⟩ := o1.readsC
    clear f1 h0 h1 hv
    go_wp2_with fail
    refine (f2 _).mono ?_
    rintro e wB ⟨u2, rfl, o2, hbB⟩
    have hap := apart_later o1 o2 (Nat.le_refl _)
    obtain ⟨a2, c2, rfl, _⟩ := o2.readsC
    have o1B := own_same o1 fun g hg => hbB.block g (own_blk o1 hg).2
    have o2B := own_lower o2 hbA.size
    have hbAB := hbA.trans (hbB.mono hbA.size)
    have tE := st0.later hbAB
    obtain ⟨x0, x1, x2⟩ := tE.cells
    obtain ⟨y0, y1, y2⟩ := tE.frozen
    clear f2 st0 o1 o2 hbA hbB
    go_wp2
    have st9 := (tE.set (.bool false) (.slice a1 (words (v.natAbs : Int)).length c1) (.slice a2 (words 1).length c2)).cells
    refine bodyPost_ret (v := .agg #[.bool false, .slice a1 (words (v.natAbs : Int)).length c1, .slice a2 (words 1).length c2]) (by simp [results, Tryz.results72, go_sem, st9]) rfl ?_
    exact ⟨_, _, _, rfl, ((RtO.whole HV.out rfl o1B o2B hap).inn (in3 _ _ _ _ _) (by simp)).lower (by simp), below_in (hb0.trans (hbAB.mono hb0.size)) (in3 _ _ _ _ _) (Nat.le_refl _) (Nat.le_refl _)⟩
end Go.Proofs.YtceecgklgkiffabGreatDoor

