import Derived.Orders
import Derived.Below
import Derived.BigQuiet
import Derived.ChangeOld
import Derived.Deep.DeepCutAuto
import Derived.Deep.DeepFit
import Derived.Deep.LoopGhost
import Derived.Deep.QuietTactic
import Derived.Deep.RegionHeld3
import Derived.Deep.RegionWith
import Derived.Defers
import Derived.Laws.BitsAllLaws
import Derived.Laws.CopyRow
import Derived.Laws.IdiomCopy
import Derived.Laws.IdiomRangeMap
import Derived.OpenShut
import Derived.OwnWalk
import Derived.ProofKit
import Derived.Recover
import Derived.Scope
import Derived.ShutString
import Derived.WalkKit
import Derived.WalkLawsBesides
import Derived.WalkMore
import Derived.WalkSpells
import Derived.Test.YtienpliknhkbjaaGreatDoorRp10
/- package rat: what is deferred. -/
namespace Go.Proofs.YtienpliknhkbjaaGreatDoor
open Go.ChangeShapes Go.WideShapes Go.ChangeAt Go.RowKit
open Na Ar
set_option linter.unusedVariables false
/-- a region that draws its order, in a deferred call -/
theorem wpS_region_draw {P : Program} {Q : Exit → Act → List Frame → World → Prop} {a : Act} {cs : List Frame} {w : World} {id : Nat} {ops : Array Oper}
    (h : ∀ t, wpOpsS P ops Q (Region.schedule (P.follows .mixedOrders) ops t) a cs { w with drawn := w.drawn + 1 }) : (Code.region id ops true).wpS P Q a cs w :=
  fun b k hb hr => let ⟨e, a', cs', w', q, r⟩ := wp_opsS _ a cs _ (h _) b k hb hr; ⟨e, a', cs', w', q, .of_steps (.one step_region_draw) r⟩
theorem lin_step {ops : Array Oper} {fuel t : Nat} {l : Array Bool} {acc rs : List Nat} (h : Region.ready .any ops l = rs) :
    Region.linearise.go .any ops (fuel + 1) t l acc = match rs[t % rs.length]? with
      | some i => Region.linearise.go .any ops fuel (t / rs.length) (l.setIfInBounds i true) (i :: acc)
      | none => acc.reverse := by
  subst h
  rfl
theorem sched_two {ops : Array Oper} (hs : ops.size = 4) (r0 : Region.ready .any ops #[false, false, false, false] = [0, 1]) (r1 : Region.ready .any ops #[true, false, false, false] = [1])
    (r2 : Region.ready .any ops #[false, true, false, false] = [0]) (r3 : Region.ready .any ops #[true, true, false, false] = [2]) (r4 : Region.ready .any ops #[true, true, true, false] = [3]) (t : Nat) :
    Region.schedule true ops t = [0, 1, 2, 3] ∨ Region.schedule true ops t = [1, 0, 2, 3] := by
  have e : Region.schedule true ops t = Region.linearise.go .any ops 4 t #[false, false, false, false] [] := by
    unfold Region.schedule Region.linearise
    rw [hs]
    rfl
  rw [e]
  have hm : t % 2 = 0 ∨ t % 2 = 1 := by omega
  rcases hm with hm | hm
  · left
    rw [lin_step r0]
    simp [hm]
    rw [lin_step r1]
    simp [Nat.mod_one]
    rw [lin_step r3]
    simp [Nat.mod_one]
    rw [lin_step r4]
    simp [Nat.mod_one, Region.linearise.go]
  · right
    rw [lin_step r0]
    simp [hm]
    rw [lin_step r2]
    simp [Nat.mod_one]
    rw [lin_step r3]
    simp [Nat.mod_one]
    rw [lin_step r4]
    simp [Nat.mod_one, Region.linearise.go]
theorem wpS_region_two {P : Program} {Q : Exit → Act → List Frame → World → Prop} {a : Act} {cs : List Frame} {w : World} {id : Nat} {ops : Array Oper} (hm : P.follows .mixedOrders = true) (hs : ops.size = 4) (r0 : Region.ready .any ops #[false, false, false, false] = [0, 1]) (r1 : Region.ready .any ops #[true, false, false, false] = [1])
    (r2 : Region.ready .any ops #[false, true, false, false] = [0]) (r3 : Region.ready .any ops #[true, true, false, false] = [2]) (r4 : Region.ready .any ops #[true, true, true, false] = [3])
    (h1 : wpOpsS P ops Q [0, 1, 2, 3] a cs w.drew) (h2 : wpOpsS P ops Q [1, 0, 2, 3] a cs w.drew) : (Code.region id ops true).wpS P Q a cs w := by
  refine wpS_region_draw fun t => ?_
  rw [hm]
  rcases sched_two hs r0 r1 r2 r3 r4 t with e | e
  · rw [e]; exact h1
  · rw [e]; exact h2
theorem mixed : Tryz.prog.follows .mixedOrders = true := by kernel_rfl
theorem caught_nil (x : Int) (w : World) : Calls Tryz.prog 51 #[.nilIface, .int .i64 x] w fun e w' => e = .returned (.int .i64 x) ∧ w' = w := by
  go_enter Tryz.func51, Tryz.ntmps51
  go_wp2
  go_ret
  exact ⟨rfl, rfl⟩
theorem idleAdd (g : Nat) (x : Int) (w : World) (hc : w.cell? ⟨g, 0, none⟩ = some (.int .i64 x)) (hz : w.frozen? ⟨g, 0, none⟩ = false) :
    CallsD Tryz.prog 102 #[.pointer (some ⟨g, 0, none⟩)] .returning w fun e u' w' => e = .returned (.tuple #[]) ∧ u' = .returning ∧ w' = (w.setCell ⟨g, 0, none⟩ (.int .i64 x)).drew := by
  have hk := caught_nil x w.drew
  have hc' : w.drew.cell? ⟨g, 0, none⟩ = some (.int .i64 x) := hc
  have hz' : w.drew.frozen? ⟨g, 0, none⟩ = false := hz
  refine callsD_of_wpS Tryz.func102 rfl fun c₀ cs hu => ?_
  refine wpS_region_two mixed rfl (by kernel_rfl) (by kernel_rfl) (by kernel_rfl) (by kernel_rfl) (by kernel_rfl) ?_ ?_
  · simp [wpOpsS, go_sem, recoverD, hu, Tryz.ntmps102, hc']
    refine hk.mono ?_
    rintro e w' ⟨rfl, rfl⟩
    cases c₀
    simp_all [go_sem, bodyPostS, results, Tryz.results102]
  · simp [wpOpsS, go_sem, recoverD, hu, Tryz.ntmps102, hc']
    refine hk.mono ?_
    rintro e w' ⟨rfl, rfl⟩
    cases c₀
    simp_all [go_sem, bodyPostS, results, Tryz.results102]
theorem idleSub (g : Nat) (x : Int) (w : World) (hc : w.cell? ⟨g, 0, none⟩ = some (.int .i64 x)) (hz : w.frozen? ⟨g, 0, none⟩ = false) :
    CallsD Tryz.prog 77 #[.pointer (some ⟨g, 0, none⟩)] .returning w fun e u' w' => e = .returned (.tuple #[]) ∧ u' = .returning ∧ w' = (w.setCell ⟨g, 0, none⟩ (.int .i64 x)).drew := by
  have hk := caught_nil x w.drew
  have hc' : w.drew.cell? ⟨g, 0, none⟩ = some (.int .i64 x) := hc
  have hz' : w.drew.frozen? ⟨g, 0, none⟩ = false := hz
  refine callsD_of_wpS Tryz.func77 rfl fun c₀ cs hu => ?_
  refine wpS_region_two mixed rfl (by kernel_rfl) (by kernel_rfl) (by kernel_rfl) (by kernel_rfl) (by kernel_rfl) ?_ ?_
  · simp [wpOpsS, go_sem, recoverD, hu, Tryz.ntmps77, hc']
    refine hk.mono ?_
    rintro e w' ⟨rfl, rfl⟩
    cases c₀
    simp_all [go_sem, bodyPostS, results, Tryz.results77]
  · simp [wpOpsS, go_sem, recoverD, hu, Tryz.ntmps77, hc']
    refine hk.mono ?_
    rintro e w' ⟨rfl, rfl⟩
    cases c₀
    simp_all [go_sem, bodyPostS, results, Tryz.results77]
theorem idleMul (g : Nat) (x : Int) (w : World) (hc : w.cell? ⟨g, 0, none⟩ = some (.int .i64 x)) (hz : w.frozen? ⟨g, 0, none⟩ = false) :
    CallsD Tryz.prog 89 #[.pointer (some ⟨g, 0, none⟩)] .returning w fun e u' w' => e = .returned (.tuple #[]) ∧ u' = .returning ∧ w' = (w.setCell ⟨g, 0, none⟩ (.int .i64 x)).drew := by
  have hk := caught_nil x w.drew
  have hc' : w.drew.cell? ⟨g, 0, none⟩ = some (.int .i64 x) := hc
  have hz' : w.drew.frozen? ⟨g, 0, none⟩ = false := hz
  refine callsD_of_wpS Tryz.func89 rfl fun c₀ cs hu => ?_
  refine wpS_region_two mixed rfl (by kernel_rfl) (by kernel_rfl) (by kernel_rfl) (by kernel_rfl) (by kernel_rfl) ?_ ?_
  · simp [wpOpsS, go_sem, recoverD, hu, Tryz.ntmps89, hc']
    refine hk.mono ?_
    rintro e w' ⟨rfl, rfl⟩
    cases c₀
    simp_all [go_sem, bodyPostS, results, Tryz.results89]
  · simp [wpOpsS, go_sem, recoverD, hu, Tryz.ntmps89, hc']
    refine hk.mono ?_
    rintro e w' ⟨rfl, rfl⟩
    cases c₀
    simp_all [go_sem, bodyPostS, results, Tryz.results89]
theorem idleDiv (g : Nat) (x : Int) (w : World) (hc : w.cell? ⟨g, 0, none⟩ = some (.int .i64 x)) (hz : w.frozen? ⟨g, 0, none⟩ = false) :
    CallsD Tryz.prog 79 #[.pointer (some ⟨g, 0, none⟩)] .returning w fun e u' w' => e = .returned (.tuple #[]) ∧ u' = .returning ∧ w' = (w.setCell ⟨g, 0, none⟩ (.int .i64 x)).drew := by
  have hk := caught_nil x w.drew
  have hc' : w.drew.cell? ⟨g, 0, none⟩ = some (.int .i64 x) := hc
  have hz' : w.drew.frozen? ⟨g, 0, none⟩ = false := hz
  refine callsD_of_wpS Tryz.func79 rfl fun c₀ cs hu => ?_
  refine wpS_region_two mixed rfl (by kernel_rfl) (by kernel_rfl) (by kernel_rfl) (by kernel_rfl) (by kernel_rfl) ?_ ?_
  · simp [wpOpsS, go_sem, recoverD, hu, Tryz.ntmps79, hc']
    refine hk.mono ?_
    rintro e w' ⟨rfl, rfl⟩
    cases c₀
    simp_all [go_sem, bodyPostS, results, Tryz.results79]
  · simp [wpOpsS, go_sem, recoverD, hu, Tryz.ntmps79, hc']
    refine hk.mono ?_
    rintro e w' ⟨rfl, rfl⟩
    cases c₀
    simp_all [go_sem, bodyPostS, results, Tryz.results79]
theorem idleCmp (g : Nat) (x : Int) (w : World) (hc : w.cell? ⟨g, 0, none⟩ = some (.int .i64 x)) (hz : w.frozen? ⟨g, 0, none⟩ = false) :
    CallsD Tryz.prog 50 #[.pointer (some ⟨g, 0, none⟩)] .returning w fun e u' w' => e = .returned (.tuple #[]) ∧ u' = .returning ∧ w' = (w.setCell ⟨g, 0, none⟩ (.int .i64 x)).drew := by
  have hk := caught_nil x w.drew
  have hc' : w.drew.cell? ⟨g, 0, none⟩ = some (.int .i64 x) := hc
  have hz' : w.drew.frozen? ⟨g, 0, none⟩ = false := hz
  refine callsD_of_wpS Tryz.func50 rfl fun c₀ cs hu => ?_
  refine wpS_region_two mixed rfl (by kernel_rfl) (by kernel_rfl) (by kernel_rfl) (by kernel_rfl) (by kernel_rfl) ?_ ?_
  · simp [wpOpsS, go_sem, recoverD, hu, Tryz.ntmps50, hc']
    refine hk.mono ?_
    rintro e w' ⟨rfl, rfl⟩
    cases c₀
    simp_all [go_sem, bodyPostS, results, Tryz.results50]
  · simp [wpOpsS, go_sem, recoverD, hu, Tryz.ntmps50, hc']
    refine hk.mono ?_
    rintro e w' ⟨rfl, rfl⟩
    cases c₀
    simp_all [go_sem, bodyPostS, results, Tryz.results50]
end Go.Proofs.YtienpliknhkbjaaGreatDoor

/- package rat: Add, Sub, Mul, Div, where nothing is too long. -/
namespace Go.Proofs.YtienpliknhkbjaaGreatDoor
open Go.ChangeShapes Go.WideShapes Go.ChangeAt Go.RowKit
open Na Ar
set_option linter.unusedVariables false
/-- one cell in its block -/
def E1 (w : World) (g : Nat) (t : TypeId) (x : Value) : Prop := w.heap[g]? = some (.cells #[x] t (0, 0))
section
variable {w w' : World} {g : Nat} {t : TypeId} {x : Value}
theorem E1.lt (h : E1 w g t x) : g < w.heap.size := by
  by_cases hlt : g < w.heap.size
  · exact hlt
  · unfold E1 at h; simp [Array.getElem?_eq_none (Nat.le_of_not_lt hlt)] at h
theorem E1.later (h : E1 w g t x) (hb : Below w.heap.size w w') : E1 w' g t x := by
  have := h.lt
  unfold E1
  rw [hb.block g this]; exact h
theorem E1.cell (h : E1 w g t x) : w.cell? ⟨g, 0, none⟩ = some x := by
  unfold E1 at h
  simp [World.cell?, h]
theorem E1.frozen (h : E1 w g t x) : w.frozen? ⟨g, 0, none⟩ = false := by
  unfold E1 at h
  simp [World.frozen?, h]
theorem E1.set (h : E1 w g t x) (y : Value) : E1 (w.setCell ⟨g, 0, none⟩ y) g t y := set_block h
theorem E1.inn {g' : Nat} (h : E1 w g t x) (hi : In g' (g' + 1) w w') (hne : g ≠ g') : E1 w' g t x := by
  have := h.lt
  unfold E1
  rw [hi.block g this (by omega)]; exact h
theorem in1 (w : World) (g : Nat) (y : Value) : In g (g + 1) w (w.setCell ⟨g, 0, none⟩ y) := (In.refl g (g + 1) w).set1 0 _
theorem E1.drew (h : E1 w g t x) : E1 w.drew g t x := h
theorem St.drew {y z : Value} (h : St w g t x y z) : St w.drew g t x y z := h
theorem in_drew (g : Nat) (w : World) : In g (g + 1) w w.drew := ⟨rfl, rfl, rfl, Nat.le_refl _, fun _ _ _ => rfl⟩
end
theorem st_four (w : World) (x y z x' y' z' : Value) : St ((((w.alloc (.cells #[x, y, z] 45)).alloc (.cells #[x', y', z'] 45)).alloc (.cells #[.bool false, .slice none 0 0, .slice none 0 0] 45)).alloc (.cells #[.int .i64 0] 30)) w.heap.size 45 x y z ∧ St ((((w.alloc (.cells #[x, y, z] 45)).alloc (.cells #[x', y', z'] 45)).alloc (.cells #[.bool false, .slice none 0 0, .slice none 0 0] 45)).alloc (.cells #[.int .i64 0] 30)) (w.heap.size + 1) 45 x' y' z' ∧ St ((((w.alloc (.cells #[x, y, z] 45)).alloc (.cells #[x', y', z'] 45)).alloc (.cells #[.bool false, .slice none 0 0, .slice none 0 0] 45)).alloc (.cells #[.int .i64 0] 30)) (w.heap.size + 1 + 1) 45 (.bool false) (.slice none 0 0) (.slice none 0 0) ∧ E1 ((((w.alloc (.cells #[x, y, z] 45)).alloc (.cells #[x', y', z'] 45)).alloc (.cells #[.bool false, .slice none 0 0, .slice none 0 0] 45)).alloc (.cells #[.int .i64 0] 30)) (w.heap.size + 1 + 1 + 1) 30 (.int .i64 0) ∧ Below w.heap.size w ((((w.alloc (.cells #[x, y, z] 45)).alloc (.cells #[x', y', z'] 45)).alloc (.cells #[.bool false, .slice none 0 0, .slice none 0 0] 45)).alloc (.cells #[.int .i64 0] 30)) ∧ ((((w.alloc (.cells #[x, y, z] 45)).alloc (.cells #[x', y', z'] 45)).alloc (.cells #[.bool false, .slice none 0 0, .slice none 0 0] 45)).alloc (.cells #[.int .i64 0] 30)).heap.size = w.heap.size + 4 := by
  obtain ⟨s1, s2, s3, b⟩ := st_three w x y z x' y' z' (.bool false) (.slice none 0 0) (.slice none 0 0) 45 45 45
  have e1 : (((w.alloc (.cells #[x, y, z] 45)).alloc (.cells #[x', y', z'] 45)).alloc (.cells #[.bool false, .slice none 0 0, .slice none 0 0] 45)).heap.size = w.heap.size + 1 + 1 + 1 := by simp
  generalize ((w.alloc (.cells #[x, y, z] 45)).alloc (.cells #[x', y', z'] 45)).alloc (.cells #[.bool false, .slice none 0 0, .slice none 0 0] 45) = w1 at *
  have b2 := alloc_below (w := w1) (.cells #[.int .i64 0] 30)
  have s4 : E1 (w1.alloc (.cells #[.int .i64 0] 30)) w1.heap.size 30 (.int .i64 0) := heap_alloc_new _ _
  rw [e1] at s4
  exact ⟨s1.later b2, s2.later b2, s3.later b2, s4, b.trans (b2.mono b.size), by simp [e1]⟩
section
variable {w : World} {s1 s2 : Bool} {a1 b1 a2 b2 : Option Addr} {n1 c1 m1 d1 n2 c2 m2 d2 : Nat} {p q : Rat} {k l : Nat}
set_option maxHeartbeats 6400000 in
set_option maxRecDepth 100000 in
theorem rAdd_ok (h1 : Rt w s1 a1 n1 c1 b1 m1 d1 p) (h2 : Rt w s2 a2 n2 c2 b2 m2 d2 q) (z1 : Sz p k) (z2 : Sz q l) (hk : k + l + 1 ≤ 4096) :
    Calls Tryz.prog 66 #[.agg #[.bool s1, .slice a1 n1 c1, .slice b1 m1 d1], .agg #[.bool s2, .slice a2 n2 c2, .slice b2 m2 d2]] w fun e w' => ∃ s v1 v2, e = .returned (.tuple #[.agg #[.bool s, v1, v2], .int .i64 0]) ∧ RtO w' w.heap.size s v1 v2 (p + q) ∧ Sz (p + q) (k + l + 1) ∧ Below w.heap.size w w' := by
  have HC : Hid ((if s2 = decide (q.num < 0) then p + q else p - q) = p + q) := by
    show _ = _
    rw [h2.sgn]
    first | exact if_pos rfl | exact if_neg (by cases decide (q.num < 0) <;> simp)
  have hmf : ∀ (fn : Fn) (first cap : Array Value) (w : World), (Instr.makeFunc fn first cap).run Tryz.prog w = .ok (.func fn first cap) w := fun _ _ _ _ => rfl
  obtain ⟨t1, t2, t3, t4, hb0, e0⟩ := st_four w (.bool s1) (.slice a1 n1 c1) (.slice b1 m1 d1) (.bool s2) (.slice a2 n2 c2) (.slice b2 m2 d2)
  obtain ⟨w0, hw0⟩ : ∃ w0, w0 = (((w.alloc (.cells #[.bool s1, .slice a1 n1 c1, .slice b1 m1 d1] 45)).alloc (.cells #[.bool s2, .slice a2 n2 c2, .slice b2 m2 d2] 45)).alloc (.cells #[.bool false, .slice none 0 0, .slice none 0 0] 45)).alloc (.cells #[.int .i64 0] 30) := ⟨_, rfl⟩
  rw [← hw0] at t1 t2 t3 t4 hb0 e0
  have r1 := h1.later hb0
  have r2 := h2.later hb0
  obtain ⟨g, hg⟩ : ∃ g, g = w.heap.size := ⟨_, rfl⟩
  have HG : Hid (w.heap.size = g) := hg.symm
  rw [← hg] at t1 t2 t3 t4 hb0 e0
  have HS : g ≤ w0.heap.size := by rw [hg]; exact hb0.size
  go_enter_defers Tryz.func66, Tryz.ntmps66
  go_wp2_with fail
  rw [← hw0, ← hg]
  refine (areRats_ok r1 r2 z1 z2 (by omega) (by omega)).mono ?_
  rintro e wA ⟨rfl, hbA⟩
  have r1A := r1.later hbA
  have r2A := r2.later hbA
  have t1A := t1.later hbA
  have t2A := t2.later hbA
  have t3A := t3.later hbA
  have t4A := t4.later hbA
  have HA := hb0.trans (hbA.mono HS)
  have HAs : w0.heap.size ≤ wA.heap.size := hbA.size
  clear hw0 hg t1 t2 t3 t4 r1 r2 hbA hb0 h1 h2
  obtain ⟨x0, x1, x2⟩ := t1A.cells
  obtain ⟨y0, y1, y2⟩ := t2A.cells
  have f1 := sum_ok r1A r2A z1 z2 hk s2
  rw [HC.out] at f1
  clear r1A r2A HC
  go_wp2_with fail
  refine f1.mono ?_
  rintro e wB ⟨s9, v1, v2, rfl, hR, hsz, hbB⟩
  clear f1
  obtain ⟨a9, n9, c9, b9, m9, d9, rfl, rfl, _⟩ := hR.opens
  have t3B := t3A.later hbB
  have t4B := t4A.later hbB
  obtain ⟨u0, u1, u2⟩ := t3B.cells
  obtain ⟨v0, v1, v2⟩ := t3B.frozen
  have o0 := t4B.cell
  have o1 := t4B.frozen
  have sA := t3A.lt
  have sB := t4A.lt
  go_wp2
  have t3C := (t3B.set (.bool s9) (.slice a9 n9 c9) (.slice b9 m9 d9)).inn (in1 _ (g + 1 + 1 + 1) (.int .i64 0)) (by omega)
  have t4C := (t4B.inn (in3 _ (g + 1 + 1) (.bool s9) (.slice a9 n9 c9) (.slice b9 m9 d9)) (by omega)).set (.int .i64 0)
  have hRC := (hR.inn (in3 _ (g + 1 + 1) (.bool s9) (.slice a9 n9 c9) (.slice b9 m9 d9)) (by omega)).inn (in1 _ (g + 1 + 1 + 1) (.int .i64 0)) (by omega)
  have HC := below_in (below_in (HA.trans (hbB.mono (by omega))) (in3 _ (g + 1 + 1) (.bool s9) (.slice a9 n9 c9) (.slice b9 m9 d9)) (by omega) (by rw [HG.out]; exact Nat.le_refl _)) (in1 _ (g + 1 + 1 + 1) (.int .i64 0)) (by omega) (by rw [HG.out]; exact Nat.le_refl _)
  clear u0 u1 u2 v0 v1 v2 o0 o1 t3B t4B hR x0 x1 x2 y0 y1 y2
  generalize (((wB.setCell ⟨g + 1 + 1, 0, none⟩ (.bool s9)).setCell ⟨g + 1 + 1, 1, none⟩ (.slice a9 n9 c9)).setCell ⟨g + 1 + 1, 2, none⟩ (.slice b9 m9 d9)).setCell ⟨g + 1 + 1 + 1, 0, none⟩ (.int .i64 0) = wC at *
  refine leaves_cons (f := 102) (args := #[.pointer (some ⟨g + 1 + 1 + 1, 0, none⟩)]) (by simp) (by simp [go_sem]) ?_
  refine (idleAdd (g + 1 + 1 + 1) 0 _ t4C.cell t4C.frozen).mono ?_
  rintro e u' w'' ⟨rfl, rfl, rfl⟩
  have t3D := (t3C.inn (in1 _ (g + 1 + 1 + 1) (.int .i64 0)) (by omega)).drew
  have t4D := (t4C.set (.int .i64 0)).drew
  have hRD := (hRC.inn (in1 _ (g + 1 + 1 + 1) (.int .i64 0)) (by omega)).inn (in_drew (g + 1 + 1 + 1) _) (by omega)
  have HD := below_in (below_in HC (in1 _ (g + 1 + 1 + 1) (.int .i64 0)) (by omega) (by rw [HG.out]; exact Nat.le_refl _)) (in_drew (g + 1 + 1 + 1) _) (by omega) (by rw [HG.out]; exact Nat.le_refl _)
  clear t3C t4C hRC HC
  generalize ((wC.setCell ⟨g + 1 + 1 + 1, 0, none⟩ (.int .i64 0)).drew) = wD at *
  obtain ⟨u0, u1, u2⟩ := t3D.cells
  have o0 := t4D.cell
  refine ⟨.tuple #[.agg #[.bool s9, .slice a9 n9 c9, .slice b9 m9 d9], .int .i64 0], by simp [results, Tryz.results66, go_sem, u0, u1, u2, o0], ?_⟩
  rw [HG.out]
  exact ⟨_, _, _, rfl, hRD.lower (by omega), hsz, HD⟩
set_option maxHeartbeats 6400000 in
set_option maxRecDepth 100000 in
theorem rSub_ok (h1 : Rt w s1 a1 n1 c1 b1 m1 d1 p) (h2 : Rt w s2 a2 n2 c2 b2 m2 d2 q) (z1 : Sz p k) (z2 : Sz q l) (hk : k + l + 1 ≤ 4096) :
    Calls Tryz.prog 43 #[.agg #[.bool s1, .slice a1 n1 c1, .slice b1 m1 d1], .agg #[.bool s2, .slice a2 n2 c2, .slice b2 m2 d2]] w fun e w' => ∃ s v1 v2, e = .returned (.tuple #[.agg #[.bool s, v1, v2], .int .i64 0]) ∧ RtO w' w.heap.size s v1 v2 (p - q) ∧ Sz (p - q) (k + l + 1) ∧ Below w.heap.size w w' := by
  have HC : Hid ((if (!s2) = decide (q.num < 0) then p + q else p - q) = p - q) := by
    show _ = _
    rw [h2.sgn]
    first | exact if_pos rfl | exact if_neg (by cases decide (q.num < 0) <;> simp)
  have hmf : ∀ (fn : Fn) (first cap : Array Value) (w : World), (Instr.makeFunc fn first cap).run Tryz.prog w = .ok (.func fn first cap) w := fun _ _ _ _ => rfl
  obtain ⟨t1, t2, t3, t4, hb0, e0⟩ := st_four w (.bool s1) (.slice a1 n1 c1) (.slice b1 m1 d1) (.bool s2) (.slice a2 n2 c2) (.slice b2 m2 d2)
  obtain ⟨w0, hw0⟩ : ∃ w0, w0 = (((w.alloc (.cells #[.bool s1, .slice a1 n1 c1, .slice b1 m1 d1] 45)).alloc (.cells #[.bool s2, .slice a2 n2 c2, .slice b2 m2 d2] 45)).alloc (.cells #[.bool false, .slice none 0 0, .slice none 0 0] 45)).alloc (.cells #[.int .i64 0] 30) := ⟨_, rfl⟩
  rw [← hw0] at t1 t2 t3 t4 hb0 e0
  have r1 := h1.later hb0
  have r2 := h2.later hb0
  obtain ⟨g, hg⟩ : ∃ g, g = w.heap.size := ⟨_, rfl⟩
  have HG : Hid (w.heap.size = g) := hg.symm
  rw [← hg] at t1 t2 t3 t4 hb0 e0
  have HS : g ≤ w0.heap.size := by rw [hg]; exact hb0.size
  go_enter_defers Tryz.func43, Tryz.ntmps43
  go_wp2_with fail
  rw [← hw0, ← hg]
  refine (areRats_ok r1 r2 z1 z2 (by omega) (by omega)).mono ?_
  rintro e wA ⟨rfl, hbA⟩
  have r1A := r1.later hbA
  have r2A := r2.later hbA
  have t1A := t1.later hbA
  have t2A := t2.later hbA
  have t3A := t3.later hbA
  have t4A := t4.later hbA
  have HA := hb0.trans (hbA.mono HS)
  have HAs : w0.heap.size ≤ wA.heap.size := hbA.size
  clear hw0 hg t1 t2 t3 t4 r1 r2 hbA hb0 h1 h2
  obtain ⟨x0, x1, x2⟩ := t1A.cells
  obtain ⟨y0, y1, y2⟩ := t2A.cells
  have f1 := sum_ok r1A r2A z1 z2 hk (!s2)
  rw [HC.out] at f1
  clear r1A r2A HC
  go_wp2_with fail
  refine f1.mono ?_
  rintro e wB ⟨s9, v1, v2, rfl, hR, hsz, hbB⟩
  clear f1
  obtain ⟨a9, n9, c9, b9, m9, d9, rfl, rfl, _⟩ := hR.opens
  have t3B := t3A.later hbB
  have t4B := t4A.later hbB
  obtain ⟨u0, u1, u2⟩ := t3B.cells
  obtain ⟨v0, v1, v2⟩ := t3B.frozen
  have o0 := t4B.cell
  have o1 := t4B.frozen
  have sA := t3A.lt
  have sB := t4A.lt
  go_wp2
  have t3C := (t3B.set (.bool s9) (.slice a9 n9 c9) (.slice b9 m9 d9)).inn (in1 _ (g + 1 + 1 + 1) (.int .i64 0)) (by omega)
  have t4C := (t4B.inn (in3 _ (g + 1 + 1) (.bool s9) (.slice a9 n9 c9) (.slice b9 m9 d9)) (by omega)).set (.int .i64 0)
  have hRC := (hR.inn (in3 _ (g + 1 + 1) (.bool s9) (.slice a9 n9 c9) (.slice b9 m9 d9)) (by omega)).inn (in1 _ (g + 1 + 1 + 1) (.int .i64 0)) (by omega)
  have HC := below_in (below_in (HA.trans (hbB.mono (by omega))) (in3 _ (g + 1 + 1) (.bool s9) (.slice a9 n9 c9) (.slice b9 m9 d9)) (by omega) (by rw [HG.out]; exact Nat.le_refl _)) (in1 _ (g + 1 + 1 + 1) (.int .i64 0)) (by omega) (by rw [HG.out]; exact Nat.le_refl _)
  clear u0 u1 u2 v0 v1 v2 o0 o1 t3B t4B hR x0 x1 x2 y0 y1 y2
  generalize (((wB.setCell ⟨g + 1 + 1, 0, none⟩ (.bool s9)).setCell ⟨g + 1 + 1, 1, none⟩ (.slice a9 n9 c9)).setCell ⟨g + 1 + 1, 2, none⟩ (.slice b9 m9 d9)).setCell ⟨g + 1 + 1 + 1, 0, none⟩ (.int .i64 0) = wC at *
  refine leaves_cons (f := 77) (args := #[.pointer (some ⟨g + 1 + 1 + 1, 0, none⟩)]) (by simp) (by simp [go_sem]) ?_
  refine (idleSub (g + 1 + 1 + 1) 0 _ t4C.cell t4C.frozen).mono ?_
  rintro e u' w'' ⟨rfl, rfl, rfl⟩
  have t3D := (t3C.inn (in1 _ (g + 1 + 1 + 1) (.int .i64 0)) (by omega)).drew
  have t4D := (t4C.set (.int .i64 0)).drew
  have hRD := (hRC.inn (in1 _ (g + 1 + 1 + 1) (.int .i64 0)) (by omega)).inn (in_drew (g + 1 + 1 + 1) _) (by omega)
  have HD := below_in (below_in HC (in1 _ (g + 1 + 1 + 1) (.int .i64 0)) (by omega) (by rw [HG.out]; exact Nat.le_refl _)) (in_drew (g + 1 + 1 + 1) _) (by omega) (by rw [HG.out]; exact Nat.le_refl _)
  clear t3C t4C hRC HC
  generalize ((wC.setCell ⟨g + 1 + 1 + 1, 0, none⟩ (.int .i64 0)).drew) = wD at *
  obtain ⟨u0, u1, u2⟩ := t3D.cells
  have o0 := t4D.cell
  refine ⟨.tuple #[.agg #[.bool s9, .slice a9 n9 c9, .slice b9 m9 d9], .int .i64 0], by simp [results, Tryz.results43, go_sem, u0, u1, u2, o0], ?_⟩
  rw [HG.out]
  exact ⟨_, _, _, rfl, hRD.lower (by omega), hsz, HD⟩
set_option maxHeartbeats 6400000 in
set_option maxRecDepth 100000 in
theorem rMul_ok (h1 : Rt w s1 a1 n1 c1 b1 m1 d1 p) (h2 : Rt w s2 a2 n2 c2 b2 m2 d2 q) (z1 : Sz p k) (z2 : Sz q l) (hk : k + l ≤ 4096) :
    Calls Tryz.prog 49 #[.agg #[.bool s1, .slice a1 n1 c1, .slice b1 m1 d1], .agg #[.bool s2, .slice a2 n2 c2, .slice b2 m2 d2]] w fun e w' => ∃ s v1 v2, e = .returned (.tuple #[.agg #[.bool s, v1, v2], .int .i64 0]) ∧ RtO w' w.heap.size s v1 v2 (p * q) ∧ Sz (p * q) (k + l) ∧ Below w.heap.size w w' := by
  have lN : Lt ((p.num.natAbs : Int) * (q.num.natAbs : Int)) (k + l) := z1.1.mul z2.1
  have lD : Lt ((p.den : Int) * (q.den : Int)) (k + l) := z1.2.mul z2.2
  have hD : 0 < (p.den : Int) * (q.den : Int) := Int.mul_pos (den_pos p) (den_pos q)
  have HQ := mul_rat p q
  rw [← h1.sgn, ← h2.sgn] at HQ
  have hsz := Sz.mkR (s := (s1 != s2)) lN lD hD
  rw [HQ] at hsz
  have HQh : Hid (mkR (!(s1 == s2)) ((p.num.natAbs : Int) * (q.num.natAbs : Int)) ((p.den : Int) * (q.den : Int)) = p * q) := HQ
  clear HQ
  have hmf : ∀ (fn : Fn) (first cap : Array Value) (w : World), (Instr.makeFunc fn first cap).run Tryz.prog w = .ok (.func fn first cap) w := fun _ _ _ _ => rfl
  obtain ⟨t1, t2, t3, t4, hb0, e0⟩ := st_four w (.bool s1) (.slice a1 n1 c1) (.slice b1 m1 d1) (.bool s2) (.slice a2 n2 c2) (.slice b2 m2 d2)
  obtain ⟨w0, hw0⟩ : ∃ w0, w0 = (((w.alloc (.cells #[.bool s1, .slice a1 n1 c1, .slice b1 m1 d1] 45)).alloc (.cells #[.bool s2, .slice a2 n2 c2, .slice b2 m2 d2] 45)).alloc (.cells #[.bool false, .slice none 0 0, .slice none 0 0] 45)).alloc (.cells #[.int .i64 0] 30) := ⟨_, rfl⟩
  rw [← hw0] at t1 t2 t3 t4 hb0 e0
  have r1 := h1.later hb0
  have r2 := h2.later hb0
  obtain ⟨g, hg⟩ : ∃ g, g = w.heap.size := ⟨_, rfl⟩
  have HG : Hid (w.heap.size = g) := hg.symm
  rw [← hg] at t1 t2 t3 t4 hb0 e0
  have HS : g ≤ w0.heap.size := by rw [hg]; exact hb0.size
  go_enter_defers Tryz.func49, Tryz.ntmps49
  go_wp2_with fail
  rw [← hw0, ← hg]
  refine (areRats_ok r1 r2 z1 z2 (by omega) (by omega)).mono ?_
  rintro e wA ⟨rfl, hbA⟩
  have r1A := r1.later hbA
  have r2A := r2.later hbA
  have t1A := t1.later hbA
  have t2A := t2.later hbA
  have t3A := t3.later hbA
  have t4A := t4.later hbA
  have HA := hb0.trans (hbA.mono HS)
  have HAs : w0.heap.size ≤ wA.heap.size := hbA.size
  clear hw0 hg t1 t2 t3 t4 r1 r2 hbA hb0 h1 h2
  obtain ⟨x0, x1, x2⟩ := t1A.cells
  obtain ⟨y0, y1, y2⟩ := t2A.cells
  have hcl : ∀ w1, Below wA.heap.size wA w1 → w1.cell? ⟨g, 0, none⟩ = some (.bool s1) ∧ w1.cell? ⟨g, 1, none⟩ = some (.slice a1 n1 c1) ∧ w1.cell? ⟨g, 2, none⟩ = some (.slice b1 m1 d1) ∧ w1.cell? ⟨g + 1, 0, none⟩ = some (.bool s2) ∧ w1.cell? ⟨g + 1, 1, none⟩ = some (.slice a2 n2 c2) ∧ w1.cell? ⟨g + 1, 2, none⟩ = some (.slice b2 m2 d2) := fun w1 h => by
    obtain ⟨x0, x1, x2⟩ := (t1A.later h).cells
    obtain ⟨y0, y1, y2⟩ := (t2A.later h).cells
    exact ⟨x0, x1, x2, y0, y1, y2⟩
  have f1 := fun w1 h => times_at (w0 := wA) (w1 := w1) h r1A.nu r2A.nu (nm_abs z1 (by omega)) (nm_abs z2 (by omega)) lN (by omega)
  have f2 := fun w1 h => times_at (w0 := wA) (w1 := w1) h r1A.de r2A.de (nm_den z1 (by omega)) (nm_den z2 (by omega)) lD (by omega)
  clear r1A r2A z1 z2
  generalize (p.num.natAbs : Int) * (q.num.natAbs : Int) = N at *
  generalize (p.den : Int) * (q.den : Int) = D at *
  have ne1 : ¬ g = g + 1 + 1 := by omega
  have ne2 : ¬ g = g + 1 + 1 + 1 := by omega
  have ne3 : ¬ g + 1 + 1 = g := by omega
  have ne4 : ¬ g + 1 + 1 + 1 = g := by omega
  go_wp2
  go_region_held3 (fun w' => w'.cell? ⟨g, 0, none⟩ = some (.bool s1) ∧ w'.cell? ⟨g, 1, none⟩ = some (.slice a1 n1 c1) ∧ w'.cell? ⟨g, 2, none⟩ = some (.slice b1 m1 d1) ∧ w'.cell? ⟨g + 1, 0, none⟩ = some (.bool s2) ∧ w'.cell? ⟨g + 1, 1, none⟩ = some (.slice a2 n2 c2) ∧ w'.cell? ⟨g + 1, 2, none⟩ = some (.slice b2 m2 d2)) (go_keep) (first | (go_at_call_of 55 a1; refine (f1 _ (by first | exact Below.refl _ _ | exact below_drewN (Below.refl _ _) _)).mono ?_; rintro e wX ⟨xa, xn, xc, xl, rfl, rx, mx, lx, hBX, hbX⟩; obtain ⟨x0, x1, x2, y0, y1, y2⟩ := hcl wX hBX) | (go_at_call 55; refine (f2 _ (by first | exact hBX | exact below_drewN hBX _)).mono ?_; rintro e wY ⟨ya, yn, yc, yl, rfl, ry, my, ly, hBY, hbY⟩; obtain ⟨x0, x1, x2, y0, y1, y2⟩ := hcl wY hBY; have rxY := rx.later hbY) | (go_at_call 80; refine (rlow_any rxY ry mx my hD (by omega) (by omega)).mono ?_; rintro e wB ⟨s9, v1, v2, rfl, hR0, hbZ⟩; have hR := hR0.lower hBY.size; have hbB := hBY.trans (hbZ.mono hBY.size); obtain ⟨a9, n9, c9, b9, m9, d9, rfl, rfl, _⟩ := hR.opens; obtain ⟨x0, x1, x2, y0, y1, y2⟩ := hcl wB hbB; have t3B := t3A.later hbB; have t4B := t4A.later hbB; obtain ⟨u0, u1, u2⟩ := t3B.cells; obtain ⟨v0, v1, v2⟩ := t3B.frozen; have o0 := t4B.cell; have o1 := t4B.frozen; have sA := t3A.lt; have sB := t4A.lt))
  rw [HQh.out] at hR
  go_wp2
  have t3C := (t3B.set (.bool s9) (.slice a9 n9 c9) (.slice b9 m9 d9)).inn (in1 _ (g + 1 + 1 + 1) (.int .i64 0)) (by omega)
  have t4C := (t4B.inn (in3 _ (g + 1 + 1) (.bool s9) (.slice a9 n9 c9) (.slice b9 m9 d9)) (by omega)).set (.int .i64 0)
  have hRC := (hR.inn (in3 _ (g + 1 + 1) (.bool s9) (.slice a9 n9 c9) (.slice b9 m9 d9)) (by omega)).inn (in1 _ (g + 1 + 1 + 1) (.int .i64 0)) (by omega)
  have HC := below_in (below_in (HA.trans (hbB.mono (by omega))) (in3 _ (g + 1 + 1) (.bool s9) (.slice a9 n9 c9) (.slice b9 m9 d9)) (by omega) (by rw [HG.out]; exact Nat.le_refl _)) (in1 _ (g + 1 + 1 + 1) (.int .i64 0)) (by omega) (by rw [HG.out]; exact Nat.le_refl _)
  clear u0 u1 u2 v0 v1 v2 o0 o1 t3B t4B hR x0 x1 x2 y0 y1 y2
  generalize (((wB.setCell ⟨g + 1 + 1, 0, none⟩ (.bool s9)).setCell ⟨g + 1 + 1, 1, none⟩ (.slice a9 n9 c9)).setCell ⟨g + 1 + 1, 2, none⟩ (.slice b9 m9 d9)).setCell ⟨g + 1 + 1 + 1, 0, none⟩ (.int .i64 0) = wC at *
  refine leaves_cons (f := 89) (args := #[.pointer (some ⟨g + 1 + 1 + 1, 0, none⟩)]) (by simp) (by simp [go_sem]) ?_
  refine (idleMul (g + 1 + 1 + 1) 0 _ t4C.cell t4C.frozen).mono ?_
  rintro e u' w'' ⟨rfl, rfl, rfl⟩
  have t3D := (t3C.inn (in1 _ (g + 1 + 1 + 1) (.int .i64 0)) (by omega)).drew
  have t4D := (t4C.set (.int .i64 0)).drew
  have hRD := (hRC.inn (in1 _ (g + 1 + 1 + 1) (.int .i64 0)) (by omega)).inn (in_drew (g + 1 + 1 + 1) _) (by omega)
  have HD := below_in (below_in HC (in1 _ (g + 1 + 1 + 1) (.int .i64 0)) (by omega) (by rw [HG.out]; exact Nat.le_refl _)) (in_drew (g + 1 + 1 + 1) _) (by omega) (by rw [HG.out]; exact Nat.le_refl _)
  clear t3C t4C hRC HC
  generalize ((wC.setCell ⟨g + 1 + 1 + 1, 0, none⟩ (.int .i64 0)).drew) = wD at *
  obtain ⟨u0, u1, u2⟩ := t3D.cells
  have o0 := t4D.cell
  refine ⟨.tuple #[.agg #[.bool s9, .slice a9 n9 c9, .slice b9 m9 d9], .int .i64 0], by simp [results, Tryz.results49, go_sem, u0, u1, u2, o0], ?_⟩
  rw [HG.out]
  exact ⟨_, _, _, rfl, hRD.lower (by omega), hsz, HD⟩
set_option maxHeartbeats 6400000 in
set_option maxRecDepth 100000 in
theorem rDiv_ok (h1 : Rt w s1 a1 n1 c1 b1 m1 d1 p) (h2 : Rt w s2 a2 n2 c2 b2 m2 d2 q) (z1 : Sz p k) (z2 : Sz q l) (hk : k + l ≤ 4096) (hq : q ≠ 0) :
    Calls Tryz.prog 44 #[.agg #[.bool s1, .slice a1 n1 c1, .slice b1 m1 d1], .agg #[.bool s2, .slice a2 n2 c2, .slice b2 m2 d2]] w fun e w' => ∃ s v1 v2, e = .returned (.tuple #[.agg #[.bool s, v1, v2], .int .i64 0]) ∧ RtO w' w.heap.size s v1 v2 (p / q) ∧ Sz (p / q) (k + l) ∧ Below w.heap.size w w' := by
  have lN : Lt ((p.num.natAbs : Int) * (q.den : Int)) (k + l) := z1.1.mul z2.2
  have lD : Lt ((p.den : Int) * (q.num.natAbs : Int)) (k + l) := z1.2.mul z2.1
  have hD : 0 < (p.den : Int) * (q.num.natAbs : Int) := Int.mul_pos (den_pos p) (by have : q.num ≠ 0 := fun h => hq (Rat.num_eq_zero.mp h); omega)
  have HQ := div_rat p q hq
  rw [← h1.sgn, ← h2.sgn] at HQ
  have hsz := Sz.mkR (s := (s1 != s2)) lN lD hD
  rw [HQ] at hsz
  have HQh : Hid (mkR (!(s1 == s2)) ((p.num.natAbs : Int) * (q.den : Int)) ((p.den : Int) * (q.num.natAbs : Int)) = p / q) := HQ
  have tq : ((n2 : Int) == 0) = false := beq_no (by
    have e := h2.len
    have z := (words_nil (N := (q.num.natAbs : Int)) (by omega)).mp
    intro e0
    have z1 := z (by omega)
    have : q.num ≠ 0 := fun h => hq (Rat.num_eq_zero.mp h)
    omega)
  clear HQ
  have hmf : ∀ (fn : Fn) (first cap : Array Value) (w : World), (Instr.makeFunc fn first cap).run Tryz.prog w = .ok (.func fn first cap) w := fun _ _ _ _ => rfl
  obtain ⟨t1, t2, t3, t4, hb0, e0⟩ := st_four w (.bool s1) (.slice a1 n1 c1) (.slice b1 m1 d1) (.bool s2) (.slice a2 n2 c2) (.slice b2 m2 d2)
  obtain ⟨w0, hw0⟩ : ∃ w0, w0 = (((w.alloc (.cells #[.bool s1, .slice a1 n1 c1, .slice b1 m1 d1] 45)).alloc (.cells #[.bool s2, .slice a2 n2 c2, .slice b2 m2 d2] 45)).alloc (.cells #[.bool false, .slice none 0 0, .slice none 0 0] 45)).alloc (.cells #[.int .i64 0] 30) := ⟨_, rfl⟩
  rw [← hw0] at t1 t2 t3 t4 hb0 e0
  have r1 := h1.later hb0
  have r2 := h2.later hb0
  obtain ⟨g, hg⟩ : ∃ g, g = w.heap.size := ⟨_, rfl⟩
  have HG : Hid (w.heap.size = g) := hg.symm
  rw [← hg] at t1 t2 t3 t4 hb0 e0
  have HS : g ≤ w0.heap.size := by rw [hg]; exact hb0.size
  go_enter_defers Tryz.func44, Tryz.ntmps44
  go_wp2_with fail
  rw [← hw0, ← hg]
  refine (areRats_ok r1 r2 z1 z2 (by omega) (by omega)).mono ?_
  rintro e wA ⟨rfl, hbA⟩
  have r1A := r1.later hbA
  have r2A := r2.later hbA
  have t1A := t1.later hbA
  have t2A := t2.later hbA
  have t3A := t3.later hbA
  have t4A := t4.later hbA
  have HA := hb0.trans (hbA.mono HS)
  have HAs : w0.heap.size ≤ wA.heap.size := hbA.size
  clear hw0 hg t1 t2 t3 t4 r1 r2 hbA hb0 h1 h2
  obtain ⟨x0, x1, x2⟩ := t1A.cells
  obtain ⟨y0, y1, y2⟩ := t2A.cells
  have hcl : ∀ w1, Below wA.heap.size wA w1 → w1.cell? ⟨g, 0, none⟩ = some (.bool s1) ∧ w1.cell? ⟨g, 1, none⟩ = some (.slice a1 n1 c1) ∧ w1.cell? ⟨g, 2, none⟩ = some (.slice b1 m1 d1) ∧ w1.cell? ⟨g + 1, 0, none⟩ = some (.bool s2) ∧ w1.cell? ⟨g + 1, 1, none⟩ = some (.slice a2 n2 c2) ∧ w1.cell? ⟨g + 1, 2, none⟩ = some (.slice b2 m2 d2) := fun w1 h => by
    obtain ⟨x0, x1, x2⟩ := (t1A.later h).cells
    obtain ⟨y0, y1, y2⟩ := (t2A.later h).cells
    exact ⟨x0, x1, x2, y0, y1, y2⟩
  have f1 := fun w1 h => times_at (w0 := wA) (w1 := w1) h r1A.nu r2A.de (nm_abs z1 (by omega)) (nm_den z2 (by omega)) lN (by omega)
  have f2 := fun w1 h => times_at (w0 := wA) (w1 := w1) h r1A.de r2A.nu (nm_den z1 (by omega)) (nm_abs z2 (by omega)) lD (by omega)
  clear r1A r2A z1 z2
  generalize (p.num.natAbs : Int) * (q.den : Int) = N at *
  generalize (p.den : Int) * (q.num.natAbs : Int) = D at *
  have ne1 : ¬ g = g + 1 + 1 := by omega
  have ne2 : ¬ g = g + 1 + 1 + 1 := by omega
  have ne3 : ¬ g + 1 + 1 = g := by omega
  have ne4 : ¬ g + 1 + 1 + 1 = g := by omega
  go_wp2
  go_region_held3 (fun w' => w'.cell? ⟨g, 0, none⟩ = some (.bool s1) ∧ w'.cell? ⟨g, 1, none⟩ = some (.slice a1 n1 c1) ∧ w'.cell? ⟨g, 2, none⟩ = some (.slice b1 m1 d1) ∧ w'.cell? ⟨g + 1, 0, none⟩ = some (.bool s2) ∧ w'.cell? ⟨g + 1, 1, none⟩ = some (.slice a2 n2 c2) ∧ w'.cell? ⟨g + 1, 2, none⟩ = some (.slice b2 m2 d2)) (go_keep) (first | (go_at_call_of 55 a1; refine (f1 _ (by first | exact Below.refl _ _ | exact below_drewN (Below.refl _ _) _)).mono ?_; rintro e wX ⟨xa, xn, xc, xl, rfl, rx, mx, lx, hBX, hbX⟩; obtain ⟨x0, x1, x2, y0, y1, y2⟩ := hcl wX hBX) | (go_at_call 55; refine (f2 _ (by first | exact hBX | exact below_drewN hBX _)).mono ?_; rintro e wY ⟨ya, yn, yc, yl, rfl, ry, my, ly, hBY, hbY⟩; obtain ⟨x0, x1, x2, y0, y1, y2⟩ := hcl wY hBY; have rxY := rx.later hbY) | (go_at_call 80; refine (rlow_any rxY ry mx my hD (by omega) (by omega)).mono ?_; rintro e wB ⟨s9, v1, v2, rfl, hR0, hbZ⟩; have hR := hR0.lower hBY.size; have hbB := hBY.trans (hbZ.mono hBY.size); obtain ⟨a9, n9, c9, b9, m9, d9, rfl, rfl, _⟩ := hR.opens; obtain ⟨x0, x1, x2, y0, y1, y2⟩ := hcl wB hbB; have t3B := t3A.later hbB; have t4B := t4A.later hbB; obtain ⟨u0, u1, u2⟩ := t3B.cells; obtain ⟨v0, v1, v2⟩ := t3B.frozen; have o0 := t4B.cell; have o1 := t4B.frozen; have sA := t3A.lt; have sB := t4A.lt))
  rw [HQh.out] at hR
  go_wp2
  have t3C := (t3B.set (.bool s9) (.slice a9 n9 c9) (.slice b9 m9 d9)).inn (in1 _ (g + 1 + 1 + 1) (.int .i64 0)) (by omega)
  have t4C := (t4B.inn (in3 _ (g + 1 + 1) (.bool s9) (.slice a9 n9 c9) (.slice b9 m9 d9)) (by omega)).set (.int .i64 0)
  have hRC := (hR.inn (in3 _ (g + 1 + 1) (.bool s9) (.slice a9 n9 c9) (.slice b9 m9 d9)) (by omega)).inn (in1 _ (g + 1 + 1 + 1) (.int .i64 0)) (by omega)
  have HC := below_in (below_in (HA.trans (hbB.mono (by omega))) (in3 _ (g + 1 + 1) (.bool s9) (.slice a9 n9 c9) (.slice b9 m9 d9)) (by omega) (by rw [HG.out]; exact Nat.le_refl _)) (in1 _ (g + 1 + 1 + 1) (.int .i64 0)) (by omega) (by rw [HG.out]; exact Nat.le_refl _)
  clear u0 u1 u2 v0 v1 v2 o0 o1 t3B t4B hR x0 x1 x2 y0 y1 y2
  generalize (((wB.setCell ⟨g + 1 + 1, 0, none⟩ (.bool s9)).setCell ⟨g + 1 + 1, 1, none⟩ (.slice a9 n9 c9)).setCell ⟨g + 1 + 1, 2, none⟩ (.slice b9 m9 d9)).setCell ⟨g + 1 + 1 + 1, 0, none⟩ (.int .i64 0) = wC at *
  refine leaves_cons (f := 79) (args := #[.pointer (some ⟨g + 1 + 1 + 1, 0, none⟩)]) (by simp) (by simp [go_sem]) ?_
  refine (idleDiv (g + 1 + 1 + 1) 0 _ t4C.cell t4C.frozen).mono ?_
  rintro e u' w'' ⟨rfl, rfl, rfl⟩
  have t3D := (t3C.inn (in1 _ (g + 1 + 1 + 1) (.int .i64 0)) (by omega)).drew
  have t4D := (t4C.set (.int .i64 0)).drew
  have hRD := (hRC.inn (in1 _ (g + 1 + 1 + 1) (.int .i64 0)) (by omega)).inn (in_drew (g + 1 + 1 + 1) _) (by omega)
  have HD := below_in (below_in HC (in1 _ (g + 1 + 1 + 1) (.int .i64 0)) (by omega) (by rw [HG.out]; exact Nat.le_refl _)) (in_drew (g + 1 + 1 + 1) _) (by omega) (by rw [HG.out]; exact Nat.le_refl _)
  clear t3C t4C hRC HC
  generalize ((wC.setCell ⟨g + 1 + 1 + 1, 0, none⟩ (.int .i64 0)).drew) = wD at *
  obtain ⟨u0, u1, u2⟩ := t3D.cells
  have o0 := t4D.cell
  refine ⟨.tuple #[.agg #[.bool s9, .slice a9 n9 c9, .slice b9 m9 d9], .int .i64 0], by simp [results, Tryz.results44, go_sem, u0, u1, u2, o0], ?_⟩
  rw [HG.out]
  exact ⟨_, _, _, rfl, hRD.lower (by omega), hsz, HD⟩
end
end Go.Proofs.YtienpliknhkbjaaGreatDoor

/- package rat: Sign, Cmp, New, Int, Floor, where nothing is too long. -/
namespace Go.Proofs.YtienpliknhkbjaaGreatDoor
open Go.ChangeShapes Go.WideShapes Go.ChangeAt Go.RowKit
open Na Ar
set_option linter.unusedVariables false
section
variable {w : World} {s1 s2 : Bool} {a1 b1 a2 b2 : Option Addr} {n1 c1 m1 d1 n2 c2 m2 d2 : Nat} {p q : Rat} {k l : Nat}
set_option maxHeartbeats 1600000 in
theorem rSign_any {K : Int} (h1 : Rt w s1 a1 n1 c1 b1 m1 d1 p) (hn : n1 ≤ 4000000) (hK : sgnR p = K) :
    Calls Tryz.prog 21 #[.agg #[.bool s1, .slice a1 n1 c1, .slice b1 m1 d1]] w fun e w' => e = .returned (.int .i64 K) ∧ Below w.heap.size w w' := by
  have hb0 := alloc_below (w := w) (.cells #[.bool s1, .slice a1 n1 c1, .slice b1 m1 d1] 45)
  have st := st_new w (.bool s1) (.slice a1 n1 c1) (.slice b1 m1 d1) 45
  have bt := natBits_any (h1.nu.later hb0) (Dg_words _) hn
  rw [num_words (by omega)] at bt
  have hs := h1.sgn
  clear h1
  by_cases h0 : p.num = 0
  · have HK : Hid (0 = K) := by show _ = _; rw [← hK]; unfold sgnR; rw [if_pos h0]
    have e : (p.num.natAbs : Int) = 0 := by omega
    rw [e, bits_none] at bt
    clear hK h0 e hs
    go_enter Tryz.func21, Tryz.ntmps21
    go_wp2_with fail
    refine bt.mono ?_
    rintro e w1 ⟨rfl, hb1⟩
    go_wp2
    go_ret
    exact ⟨ret_i HK.out, hb0.trans (hb1.mono hb0.size)⟩
  · obtain ⟨j, hj, _⟩ := bits_some (N := (p.num.natAbs : Int)) (by omega)
    rw [hj] at bt
    have tj : (((j : Int) + 1) == 0) = false := beq_no (by omega)
    by_cases hl : p.num < 0
    · have HK : Hid (-1 = K) := by show _ = _; rw [← hK]; unfold sgnR; rw [if_neg h0, if_pos hl]
      have hs1 : s1 = true := by rw [hs]; exact decide_eq_true hl
      subst hs1
      clear hK h0 hl hs hj
      go_enter Tryz.func21, Tryz.ntmps21
      go_wp2_with fail
      refine bt.mono ?_
      rintro e w1 ⟨rfl, hb1⟩
      obtain ⟨x0, x1, x2⟩ := (st.later hb1).cells
      go_wp2
      go_ret
      exact ⟨ret_i HK.out, hb0.trans (hb1.mono hb0.size)⟩
    · have HK : Hid (1 = K) := by show _ = _; rw [← hK]; unfold sgnR; rw [if_neg h0, if_neg hl]
      have hs1 : s1 = false := by rw [hs]; exact decide_eq_false hl
      subst hs1
      clear hK h0 hl hs hj
      go_enter Tryz.func21, Tryz.ntmps21
      go_wp2_with fail
      refine bt.mono ?_
      rintro e w1 ⟨rfl, hb1⟩
      obtain ⟨x0, x1, x2⟩ := (st.later hb1).cells
      go_wp2
      go_ret
      exact ⟨ret_i HK.out, hb0.trans (hb1.mono hb0.size)⟩
theorem isNaN_int (x : Int) (w : World) : Calls Tryz.prog 90 #[.int .i64 x] w fun e w' => e = .returned (.bool false) ∧ w' = w := by
  have t : (x != x) = false := by simp
  go_enter Tryz.func90, Tryz.ntmps90
  go_wp2
  go_ret
  exact ⟨by simp, rfl⟩
theorem compare_int (x y : Int) {K : Int} (hxy : x ≠ y) (hK : (if x < y then (-1 : Int) else 1) = K) (w : World) : Calls Tryz.prog 53 #[.int .i64 x, .int .i64 y] w fun e w' => e = .returned (.int .i64 K) ∧ w' = w := by
  by_cases h : x < y
  · rw [if_pos h] at hK
    subst hK
    go_enter Tryz.func53, Tryz.ntmps53
    go_wp2_with (go_at_call 90; refine (isNaN_int _ _).mono ?_; rintro e w' ⟨rfl, rfl⟩)
    go_ret
    exact ⟨rfl, rfl⟩
  · rw [if_neg h] at hK
    have h' : y < x := by omega
    subst hK
    go_enter Tryz.func53, Tryz.ntmps53
    go_wp2_with (go_at_call 90; refine (isNaN_int _ _).mono ?_; rintro e w' ⟨rfl, rfl⟩)
    go_ret
    exact ⟨rfl, rfl⟩
theorem ordN_alt (N M : Int) : (if N < M then (-1 : Int) else if N = M then 0 else 1) = ordN N M := by
  unfold ordN; (repeat' split) <;> omega
theorem sign_at {w0 w1 : World} {K : Int} (h : Below w0.heap.size w0 w1) (h1 : Rt w0 s1 a1 n1 c1 b1 m1 d1 p) (hn : n1 ≤ 4000000) (hK : sgnR p = K) :
    Calls Tryz.prog 21 #[.agg #[.bool s1, .slice a1 n1 c1, .slice b1 m1 d1]] w1 fun e w' => e = .returned (.int .i64 K) ∧ Below w0.heap.size w0 w' ∧ Below w1.heap.size w1 w' := by
  refine (rSign_any (h1.later h) hn hK).mono ?_
  rintro e w' ⟨rfl, hb⟩
  exact ⟨rfl, h.trans (hb.mono h.size), hb⟩
theorem st_cmp (w : World) (x y z x' y' z' : Value) : St (((w.alloc (.cells #[x, y, z] 45)).alloc (.cells #[x', y', z'] 45)).alloc (.cells #[.int .i64 0] 30)) w.heap.size 45 x y z ∧ St (((w.alloc (.cells #[x, y, z] 45)).alloc (.cells #[x', y', z'] 45)).alloc (.cells #[.int .i64 0] 30)) (w.heap.size + 1) 45 x' y' z' ∧ E1 (((w.alloc (.cells #[x, y, z] 45)).alloc (.cells #[x', y', z'] 45)).alloc (.cells #[.int .i64 0] 30)) (w.heap.size + 1 + 1) 30 (.int .i64 0) ∧ Below w.heap.size w (((w.alloc (.cells #[x, y, z] 45)).alloc (.cells #[x', y', z'] 45)).alloc (.cells #[.int .i64 0] 30)) ∧ (((w.alloc (.cells #[x, y, z] 45)).alloc (.cells #[x', y', z'] 45)).alloc (.cells #[.int .i64 0] 30)).heap.size = w.heap.size + 3 := by
  obtain ⟨s1, s2, b⟩ := st_two w x y z x' y' z' 45 45
  have e1 : ((w.alloc (.cells #[x, y, z] 45)).alloc (.cells #[x', y', z'] 45)).heap.size = w.heap.size + 1 + 1 := by simp
  generalize (w.alloc (.cells #[x, y, z] 45)).alloc (.cells #[x', y', z'] 45) = w1 at *
  have b2 := alloc_below (w := w1) (.cells #[.int .i64 0] 30)
  have s4 : E1 (w1.alloc (.cells #[.int .i64 0] 30)) w1.heap.size 30 (.int .i64 0) := heap_alloc_new _ _
  rw [e1] at s4
  exact ⟨s1.later b2, s2.later b2, s4, b.trans (b2.mono b.size), by simp [e1]⟩
set_option maxHeartbeats 6400000 in
set_option maxRecDepth 100000 in
theorem rCmp_ok {K : Int} (h1 : Rt w s1 a1 n1 c1 b1 m1 d1 p) (h2 : Rt w s2 a2 n2 c2 b2 m2 d2 q) (z1 : Sz p k) (z2 : Sz q l) (hk : k + l ≤ 4096) (hK : ordR p q = K) :
    Calls Tryz.prog 20 #[.agg #[.bool s1, .slice a1 n1 c1, .slice b1 m1 d1], .agg #[.bool s2, .slice a2 n2 c2, .slice b2 m2 d2]] w fun e w' => e = .returned (.tuple #[.int .i64 K, .int .i64 0]) ∧ Below w.heap.size w w' := by
  have hmf : ∀ (fn : Fn) (first cap : Array Value) (w : World), (Instr.makeFunc fn first cap).run Tryz.prog w = .ok (.func fn first cap) w := fun _ _ _ _ => rfl
  obtain ⟨t1, t2, t3, hb0, e0⟩ := st_cmp w (.bool s1) (.slice a1 n1 c1) (.slice b1 m1 d1) (.bool s2) (.slice a2 n2 c2) (.slice b2 m2 d2)
  obtain ⟨w0, hw0⟩ : ∃ w0, w0 = ((w.alloc (.cells #[.bool s1, .slice a1 n1 c1, .slice b1 m1 d1] 45)).alloc (.cells #[.bool s2, .slice a2 n2 c2, .slice b2 m2 d2] 45)).alloc (.cells #[.int .i64 0] 30) := ⟨_, rfl⟩
  rw [← hw0] at t1 t2 t3 hb0 e0
  have r1 := h1.later hb0
  have r2 := h2.later hb0
  have l1 := h1.le z1
  have l2 := h2.le z2
  have hS : Hid (s1 = decide (p.num < 0)) := h1.sgn
  obtain ⟨g, hg⟩ : ∃ g, g = w.heap.size := ⟨_, rfl⟩
  have HG : Hid (w.heap.size = g) := hg.symm
  rw [← hg] at t1 t2 t3 hb0 e0
  have HS : g ≤ w0.heap.size := by rw [hg]; exact hb0.size
  go_enter_defers Tryz.func20, Tryz.ntmps20
  go_wp2_with fail
  rw [← hw0, ← hg]
  refine (areRats_ok r1 r2 z1 z2 (by omega) (by omega)).mono ?_
  rintro e wA ⟨rfl, hbA⟩
  have r1A := r1.later hbA
  have r2A := r2.later hbA
  have t1A := t1.later hbA
  have t2A := t2.later hbA
  have t3A := t3.later hbA
  have HA := hb0.trans (hbA.mono HS)
  have HAs : w0.heap.size ≤ wA.heap.size := hbA.size
  clear hw0 hg t1 t2 t3 r1 r2 hbA hb0 h1 h2
  have hcl : ∀ w1, Below wA.heap.size wA w1 → w1.cell? ⟨g, 0, none⟩ = some (.bool s1) ∧ w1.cell? ⟨g, 1, none⟩ = some (.slice a1 n1 c1) ∧ w1.cell? ⟨g, 2, none⟩ = some (.slice b1 m1 d1) ∧ w1.cell? ⟨g + 1, 0, none⟩ = some (.bool s2) ∧ w1.cell? ⟨g + 1, 1, none⟩ = some (.slice a2 n2 c2) ∧ w1.cell? ⟨g + 1, 2, none⟩ = some (.slice b2 m2 d2) := fun w1 h => by
    obtain ⟨x0, x1, x2⟩ := (t1A.later h).cells
    obtain ⟨y0, y1, y2⟩ := (t2A.later h).cells
    exact ⟨x0, x1, x2, y0, y1, y2⟩
  obtain ⟨x0, x1, x2, y0, y1, y2⟩ := hcl wA (Below.refl _ _)
  have ne1 : ¬ g = g + 1 + 1 := by omega
  have ne2 : ¬ g + 1 + 1 = g := by omega
  have sA := t3A.lt
  obtain ⟨P0, hP0⟩ : ∃ P0, sgnR p = P0 := ⟨_, rfl⟩
  obtain ⟨Q0, hQ0⟩ : ∃ Q0, sgnR q = Q0 := ⟨_, rfl⟩
  have g1 := fun w1 h => sign_at (w0 := wA) (w1 := w1) h r1A (by omega) hP0
  have g2 := fun w1 h => sign_at (w0 := wA) (w1 := w1) h r2A (by omega) hQ0
  by_cases hpq : P0 = Q0
  · have tpq : (P0 != Q0) = false := bne_of hpq
    have hK2 := abs_cmp p q (by rw [hP0, hQ0]; exact hpq)
    rw [hK, ordN_alt, ← hS.out] at hK2
    have lN : Lt ((p.num.natAbs : Int) * (q.den : Int)) (k + l) := z1.1.mul z2.2
    have lM : Lt ((q.num.natAbs : Int) * (p.den : Int)) (k + l) := (z2.1.mul z1.2).mono (by omega)
    have f1 := fun w1 h => times_at (w0 := wA) (w1 := w1) h r1A.nu r2A.de (nm_abs z1 (by omega)) (nm_den z2 (by omega)) lN (by omega)
    have f2 := fun w1 h => times_at (w0 := wA) (w1 := w1) h r2A.nu r1A.de (nm_abs z2 (by omega)) (nm_den z1 (by omega)) lM (by omega)
    clear r1A r2A z1 z2 hS hP0 hQ0
    generalize (p.num.natAbs : Int) * (q.den : Int) = N at *
    generalize (q.num.natAbs : Int) * (p.den : Int) = M at *
    obtain ⟨S, hSS⟩ : ∃ S, ordN N M = S := ⟨_, rfl⟩
    have bd := ordN_bd N M
    rw [hSS] at hK2 bd
    clear hpq
    go_wp2
    go_region_held3 (fun w' => w'.cell? ⟨g, 0, none⟩ = some (.bool s1) ∧ w'.cell? ⟨g, 1, none⟩ = some (.slice a1 n1 c1) ∧ w'.cell? ⟨g, 2, none⟩ = some (.slice b1 m1 d1) ∧ w'.cell? ⟨g + 1, 0, none⟩ = some (.bool s2) ∧ w'.cell? ⟨g + 1, 1, none⟩ = some (.slice a2 n2 c2) ∧ w'.cell? ⟨g + 1, 2, none⟩ = some (.slice b2 m2 d2)) (go_keep) (first | (go_at_call_of 21 a1; refine (g1 _ (by first | exact Below.refl _ _ | exact below_drewN (Below.refl _ _) _)).mono ?_; rintro e wS ⟨rfl, hBS, _⟩; obtain ⟨x0, x1, x2, y0, y1, y2⟩ := hcl wS hBS) | (go_at_call_of 21 a2; refine (g2 _ (by first | exact hBS | exact below_drewN hBS _)).mono ?_; rintro e wT ⟨rfl, hBT, _⟩; obtain ⟨x0, x1, x2, y0, y1, y2⟩ := hcl wT hBT))
    go_wp2
    go_region_held3 (fun w' => w'.cell? ⟨g, 0, none⟩ = some (.bool s1) ∧ w'.cell? ⟨g, 1, none⟩ = some (.slice a1 n1 c1) ∧ w'.cell? ⟨g, 2, none⟩ = some (.slice b1 m1 d1) ∧ w'.cell? ⟨g + 1, 0, none⟩ = some (.bool s2) ∧ w'.cell? ⟨g + 1, 1, none⟩ = some (.slice a2 n2 c2) ∧ w'.cell? ⟨g + 1, 2, none⟩ = some (.slice b2 m2 d2)) (go_keep) (first | (go_at_call_of 55 a1; refine (f1 _ (by first | exact hBT | exact below_drewN hBT _)).mono ?_; rintro e wX ⟨xa, xn, xc, xl, rfl, rx, mx, lx, hBX, hbX⟩; obtain ⟨x0, x1, x2, y0, y1, y2⟩ := hcl wX hBX) | (go_at_call 55; refine (f2 _ (by first | exact hBX | exact below_drewN hBX _)).mono ?_; rintro e wY ⟨ya, yn, yc, yl, rfl, ry, my, ly, hBY, hbY⟩; obtain ⟨x0, x1, x2, y0, y1, y2⟩ := hcl wY hBY; have rxY := rx.later hbY) | (go_at_call 54; refine (cmpK rxY ry mx my hSS).mono ?_; rintro e wZ ⟨rfl, hbZ⟩; have HBZ := hBY.trans (hbZ.mono hBY.size); obtain ⟨x0, x1, x2, y0, y1, y2⟩ := hcl wZ HBZ))
    clear f1 f2 g1 g2
    cases s1
    · have HK : Hid (S = K) := hK2.symm
      clear hK2 hSS
      have t3Z := t3A.later HBZ
      have o0 := t3Z.cell
      have o1 := t3Z.frozen
      go_wp2
      have t4C := t3Z.set (.int .i64 0)
      have HC := below_in (HA.trans (HBZ.mono (by omega))) (in1 _ (g + 1 + 1) (.int .i64 0)) (by omega) (by rw [HG.out]; exact Nat.le_refl _)
      clear o0 o1 t3Z
      generalize (wZ.setCell ⟨g + 1 + 1, 0, none⟩ (.int .i64 0)) = wC at *
      refine leaves_cons (f := 50) (args := #[.pointer (some ⟨g + 1 + 1, 0, none⟩)]) (by simp) (by simp [go_sem]) ?_
      refine (idleCmp (g + 1 + 1) 0 _ t4C.cell t4C.frozen).mono ?_
      rintro e u' w'' ⟨rfl, rfl, rfl⟩
      have t4D := (t4C.set (.int .i64 0)).drew
      have HD := below_in (below_in HC (in1 _ (g + 1 + 1) (.int .i64 0)) (by omega) (by rw [HG.out]; exact Nat.le_refl _)) (in_drew (g + 1 + 1) _) (by omega) (by rw [HG.out]; exact Nat.le_refl _)
      clear t4C HC
      generalize ((wC.setCell ⟨g + 1 + 1, 0, none⟩ (.int .i64 0)).drew) = wD at *
      have o0 := t4D.cell
      refine ⟨.tuple #[.int .i64 S, .int .i64 0], by simp [results, Tryz.results20, go_sem, o0], ?_⟩
      rw [HG.out]
      exact ⟨by rw [HK.out], HD⟩
    · have HK : Hid (-S = K) := hK2.symm
      clear hK2 hSS
      have t3Z := t3A.later HBZ
      have o0 := t3Z.cell
      have o1 := t3Z.frozen
      go_wp2
      have t4C := t3Z.set (.int .i64 0)
      have HC := below_in (HA.trans (HBZ.mono (by omega))) (in1 _ (g + 1 + 1) (.int .i64 0)) (by omega) (by rw [HG.out]; exact Nat.le_refl _)
      clear o0 o1 t3Z
      generalize (wZ.setCell ⟨g + 1 + 1, 0, none⟩ (.int .i64 0)) = wC at *
      refine leaves_cons (f := 50) (args := #[.pointer (some ⟨g + 1 + 1, 0, none⟩)]) (by simp) (by simp [go_sem]) ?_
      refine (idleCmp (g + 1 + 1) 0 _ t4C.cell t4C.frozen).mono ?_
      rintro e u' w'' ⟨rfl, rfl, rfl⟩
      have t4D := (t4C.set (.int .i64 0)).drew
      have HD := below_in (below_in HC (in1 _ (g + 1 + 1) (.int .i64 0)) (by omega) (by rw [HG.out]; exact Nat.le_refl _)) (in_drew (g + 1 + 1) _) (by omega) (by rw [HG.out]; exact Nat.le_refl _)
      clear t4C HC
      generalize ((wC.setCell ⟨g + 1 + 1, 0, none⟩ (.int .i64 0)).drew) = wD at *
      have o0 := t4D.cell
      refine ⟨.tuple #[.int .i64 (-S), .int .i64 0], by simp [results, Tryz.results20, go_sem, o0], ?_⟩
      rw [HG.out]
      exact ⟨by rw [HK.out], HD⟩
  · have tpq : (P0 != Q0) = true := bne_yes hpq
    have hK2 := sgn_cmp p q (by rw [hP0, hQ0]; exact hpq)
    rw [hK, hP0, hQ0] at hK2
    have g3 := fun w => compare_int P0 Q0 hpq hK2.symm w
    clear r1A r2A z1 z2 hS hP0 hQ0 hK2
    go_wp2
    go_region_held3 (fun w' => w'.cell? ⟨g, 0, none⟩ = some (.bool s1) ∧ w'.cell? ⟨g, 1, none⟩ = some (.slice a1 n1 c1) ∧ w'.cell? ⟨g, 2, none⟩ = some (.slice b1 m1 d1) ∧ w'.cell? ⟨g + 1, 0, none⟩ = some (.bool s2) ∧ w'.cell? ⟨g + 1, 1, none⟩ = some (.slice a2 n2 c2) ∧ w'.cell? ⟨g + 1, 2, none⟩ = some (.slice b2 m2 d2)) (go_keep) (first | (go_at_call_of 21 a1; refine (g1 _ (by first | exact Below.refl _ _ | exact below_drewN (Below.refl _ _) _)).mono ?_; rintro e wS ⟨rfl, hBS, _⟩; obtain ⟨x0, x1, x2, y0, y1, y2⟩ := hcl wS hBS) | (go_at_call_of 21 a2; refine (g2 _ (by first | exact hBS | exact below_drewN hBS _)).mono ?_; rintro e wT ⟨rfl, hBT, _⟩; obtain ⟨x0, x1, x2, y0, y1, y2⟩ := hcl wT hBT))
    go_wp2
    go_region_held3 (fun w' => w'.cell? ⟨g, 0, none⟩ = some (.bool s1) ∧ w'.cell? ⟨g, 1, none⟩ = some (.slice a1 n1 c1) ∧ w'.cell? ⟨g, 2, none⟩ = some (.slice b1 m1 d1) ∧ w'.cell? ⟨g + 1, 0, none⟩ = some (.bool s2) ∧ w'.cell? ⟨g + 1, 1, none⟩ = some (.slice a2 n2 c2) ∧ w'.cell? ⟨g + 1, 2, none⟩ = some (.slice b2 m2 d2)) (go_keep) (first | (go_at_call_of 21 a1; refine (g1 _ (by first | exact hBT | exact below_drewN hBT _)).mono ?_; rintro e wX ⟨rfl, hBX, _⟩; obtain ⟨x0, x1, x2, y0, y1, y2⟩ := hcl wX hBX) | (go_at_call_of 21 a2; refine (g2 _ (by first | exact hBX | exact below_drewN hBX _)).mono ?_; rintro e wZ0 ⟨rfl, HBZ, _⟩; obtain ⟨x0, x1, x2, y0, y1, y2⟩ := hcl wZ0 HBZ; have t3Z := t3A.later HBZ; have o0 := t3Z.cell; have o1 := t3Z.frozen) | (go_at_call 53; refine (g3 _).mono ?_; rintro e wZ ⟨rfl, rfl⟩))
    clear g1 g2 g3
    go_wp2
    have t4C := t3Z.set (.int .i64 0)
    have HC := below_in (HA.trans (HBZ.mono (by omega))) (in1 _ (g + 1 + 1) (.int .i64 0)) (by omega) (by rw [HG.out]; exact Nat.le_refl _)
    clear o0 o1 t3Z
    generalize (wZ.setCell ⟨g + 1 + 1, 0, none⟩ (.int .i64 0)) = wC at *
    refine leaves_cons (f := 50) (args := #[.pointer (some ⟨g + 1 + 1, 0, none⟩)]) (by simp) (by simp [go_sem]) ?_
    refine (idleCmp (g + 1 + 1) 0 _ t4C.cell t4C.frozen).mono ?_
    rintro e u' w'' ⟨rfl, rfl, rfl⟩
    have t4D := (t4C.set (.int .i64 0)).drew
    have HD := below_in (below_in HC (in1 _ (g + 1 + 1) (.int .i64 0)) (by omega) (by rw [HG.out]; exact Nat.le_refl _)) (in_drew (g + 1 + 1) _) (by omega) (by rw [HG.out]; exact Nat.le_refl _)
    clear t4C HC
    generalize ((wC.setCell ⟨g + 1 + 1, 0, none⟩ (.int .i64 0)).drew) = wD at *
    have o0 := t4D.cell
    refine ⟨.tuple #[.int .i64 K, .int .i64 0], by simp [results, Tryz.results20, go_sem, o0], ?_⟩
    rw [HG.out]
    exact ⟨rfl, HD⟩

end
end Go.Proofs.YtienpliknhkbjaaGreatDoor

/- package rat: New, Int, Floor, where nothing is too long. -/
namespace Go.Proofs.YtienpliknhkbjaaGreatDoor
open Go.ChangeShapes Go.WideShapes Go.ChangeAt Go.RowKit
open Na Ar
set_option linter.unusedVariables false
theorem RtO.whole {w : World} {base : Nat} {s : Bool} {v1 v2 : Value} {Z A : Int} (hs : s = decide (Z < 0)) (hA : A = (Z.natAbs : Int)) (h1 : Own .u64 w base 22 v1 (words A)) (h2 : Own .u64 w base 22 v2 (words 1)) (ap : Apart v1 v2) : RtO w base s v1 v2 ((Z : Int) : Rat) :=
  ⟨by rw [Rat.num_intCast]; exact hs, by rw [Rat.num_intCast, ← hA]; exact h1, by rw [Rat.den_intCast]; exact h2, ap⟩
theorem apart_later {w : World} {b1 b2 : Nat} {e : TypeId} {v1 v2 : Value} {xs ys : List Int} {w' : World} (h1 : Own .u64 w b1 e v1 xs) (h2 : Own .u64 w' b2 e v2 ys) (hb : w.heap.size ≤ b2) : Apart v1 v2 := fun g hg hg' => by
  have a := (own_blk h1 hg).2
  have b := (own_blk h2 hg').1
  omega
theorem Apart.symm {v1 v2 : Value} (h : Apart v1 v2) : Apart v2 v1 := fun g hg hg' => h g hg' hg
section
variable {w : World} {a b : Option Addr} {n c m d : Nat} {xs ys : List Int} {A B : Int} {k : Nat}
end
set_option maxHeartbeats 6400000 in
set_option maxRecDepth 100000 in
theorem rInt_any {v : Int} (h0 : -9223372036854775808 ≤ v) (h1 : v ≤ 9223372036854775807) (w : World) :
    Calls Tryz.prog 85 #[.int .i64 v] w fun e w' => ∃ s v1 v2, e = .returned (.agg #[.bool s, v1, v2]) ∧ RtO w' w.heap.size s v1 v2 ((v : Int) : Rat) ∧ Below w.heap.size w w' := by
  have hb0 := alloc_below (w := w) (.cells #[.bool false, .slice none 0 0, .slice none 0 0] 45)
  have st0 := st_new w (.bool false) (.slice none 0 0) (.slice none 0 0) 45
  by_cases hv : v < 0
  · have f1 := fun w => natFrom_any (v := (v.natAbs : Int)) (by omega) w
    have f2 := fun w => natFrom_any (v := 1) (by omega) w
    have e1 : IntKind.u64.wrap (-IntKind.u64.wrap v) = (v.natAbs : Int) := by rw [wrapU, wrapU]; omega
    have HV : Hid (true = decide (v < 0)) := by exact (decide_eq_true hv).symm
    go_enter Tryz.func85, Tryz.ntmps85
    go_wp2_with fail
    refine (f1 _).mono ?_
    rintro e wA ⟨u1, rfl, o1, hbA⟩
    obtain ⟨a1, c1, rfl, _⟩ := o1.readsC
    clear f1 h0 h1 hv
    go_wp2_with fail
    refine (f2 _).mono ?_
    rintro e wB ⟨u2, rfl, o2, hbB⟩
    have hap := apart_later o1 o2 (Nat.le_refl _)
    obtain ⟨a2, c2, rfl, _⟩ := o2.readsC
    have o1B := own_same o1 fun g hg => hbB.block g (own_blk o1 hg).2
    have o2B := own_lower o2 hbA.size
    have hbAB := hbA.trans (hbB.mono hbA.size)
    have tE := st0.later hbAB
    obtain ⟨x0, x1, x2⟩ := tE.cells
    obtain ⟨y0, y1, y2⟩ := tE.frozen
    clear f2 st0 o1 o2 hbA hbB
    go_wp2
    have st9 := (tE.set (.bool true) (.slice a1 (words (v.natAbs : Int)).length c1) (.slice a2 (words 1).length c2)).cells
    refine bodyPost_ret (v := .agg #[.bool true, .slice a1 (words (v.natAbs : Int)).length c1, .slice a2 (words 1).length c2]) (by simp [results, Tryz.results85, go_sem, st9]) rfl ?_
    exact ⟨_, _, _, rfl, ((RtO.whole HV.out rfl o1B o2B hap).inn (in3 _ _ _ _ _) (by simp)).lower (by simp), below_in (hb0.trans (hbAB.mono hb0.size)) (in3 _ _ _ _ _) (Nat.le_refl _) (Nat.le_refl _)⟩
  · have f1 := fun w => natFrom_any (v := (v.natAbs : Int)) (by omega) w
    have f2 := fun w => natFrom_any (v := 1) (by omega) w
    have e1 : IntKind.u64.wrap v = (v.natAbs : Int) := by rw [wrapU]; omega
    have HV : Hid (false = decide (v < 0)) := by exact (decide_eq_false hv).symm
    go_enter Tryz.func85, Tryz.ntmps85
    go_wp2_with fail
    refine (f1 _).mono ?_
    rintro e wA ⟨u1, rfl, o1, hbA⟩
    obtain ⟨a1, c1, rfl, _⟩ := o1.readsC
    clear f1 h0 h1 hv
    go_wp2_with fail
    refine (f2 _).mono ?_
    rintro e wB ⟨u2, rfl, o2, hbB⟩
    have hap := apart_later o1 o2 (Nat.le_refl _)
    obtain ⟨a2, c2, rfl, _⟩ := o2.readsC
    have o1B := own_same o1 fun g hg => hbB.block g (own_blk o1 hg).2
    have o2B := own_lower o2 hbA.size
    have hbAB := hbA.trans (hbB.mono hbA.size)
    have tE := st0.later hbAB
    obtain ⟨x0, x1, x2⟩ := tE.cells
    obtain ⟨y0, y1, y2⟩ := tE.frozen
    clear f2 st0 o1 o2 hbA hbB
    go_wp2
    have st9 := (tE.set (.bool false) (.slice a1 (words (v.natAbs : Int)).length c1) (.slice a2 (words 1).length c2)).cells
    refine bodyPost_ret (v := .agg #[.bool false, .slice a1 (words (v.natAbs : Int)).length c1, .slice a2 (words 1).length c2]) (by simp [results, Tryz.results85, go_sem, st9]) rfl ?_
    exact ⟨_, _, _, rfl, ((RtO.whole HV.out rfl o1B o2B hap).inn (in3 _ _ _ _ _) (by simp)).lower (by simp), below_in (hb0.trans (hbAB.mono hb0.size)) (in3 _ _ _ _ _) (Nat.le_refl _) (Nat.le_refl _)⟩
end Go.Proofs.YtienpliknhkbjaaGreatDoor

