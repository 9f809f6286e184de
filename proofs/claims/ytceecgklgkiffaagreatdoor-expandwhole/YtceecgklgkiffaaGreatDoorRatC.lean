/- package rat: what is deferred. -/
import Derived.Test.YtceecgklgkiffaaGreatDoorRatB
import Derived.Orders
namespace Go.Proofs.YtceecgklgkiffaaGreatDoor
open Go.ChangeShapes Go.WideShapes Go.ChangeAt Go.RowKit
open Na Ar
set_option linter.unusedVariables false
/-- a region that draws its order, in a deferred call -/
theorem wpS_region_draw {P : Program} {Q : Exit → Act → List Frame → World → Prop} {a : Act} {cs : List Frame} {w : World} {id : Nat} {ops : Array Oper}
    (h : ∀ t, wpOpsS P ops Q (Region.schedule (P.follows .mixedOrders) ops t) a cs { w with drawn := w.drawn + 1 }) : (Code.region id ops true).wpS P Q a cs w :=
  fun b k hb hr => let ⟨e, a', cs', w', q, r⟩ := wp_opsS _ a cs _ (h _) b k hb hr; ⟨e, a', cs', w', q, .of_steps (.one step_region_draw) r⟩
theorem lin_step {ops : Array Oper} {fuel t : Nat} {l : Array Bool} {acc rs : List Nat} (h : Region.ready .any ops l = rs) :
    Region.linearise.go .any ops (fuel + 1) t l acc = match rs[t % rs.length]? with
      | some i => Region.linearise.go .any ops fuel (t / rs.length) (l.setIfInBounds i true) (i :: acc)
      | none => acc.reverse := by
  subst h
  rfl
theorem sched_two {ops : Array Oper} (hs : ops.size = 4) (r0 : Region.ready .any ops #[false, false, false, false] = [0, 1]) (r1 : Region.ready .any ops #[true, false, false, false] = [1])
    (r2 : Region.ready .any ops #[false, true, false, false] = [0]) (r3 : Region.ready .any ops #[true, true, false, false] = [2]) (r4 : Region.ready .any ops #[true, true, true, false] = [3]) (t : Nat) :
    Region.schedule true ops t = [0, 1, 2, 3] ∨ Region.schedule true ops t = [1, 0, 2, 3] := by
  have e : Region.schedule true ops t = Region.linearise.go .any ops 4 t #[false, false, false, false] [] := by
    unfold Region.schedule Region.linearise
    rw [hs]
    rfl
  rw [e]
  have hm : t % 2 = 0 ∨ t % 2 = 1 := by omega
  rcases hm with hm | hm
  · left
    rw [lin_step r0]
    simp [hm]
    rw [lin_step r1]
    simp [Nat.mod_one]
    rw [lin_step r3]
    simp [Nat.mod_one]
    rw [lin_step r4]
    simp [Nat.mod_one, Region.linearise.go]
  · right
    rw [lin_step r0]
    simp [hm]
    rw [lin_step r2]
    simp [Nat.mod_one]
    rw [lin_step r3]
    simp [Nat.mod_one]
    rw [lin_step r4]
    simp [Nat.mod_one, Region.linearise.go]
theorem wpS_region_two {P : Program} {Q : Exit → Act → List Frame → World → Prop} {a : Act} {cs : List Frame} {w : World} {id : Nat} {ops : Array Oper} (hm : P.follows .mixedOrders = true) (hs : ops.size = 4) (r0 : Region.ready .any ops #[false, false, false, false] = [0, 1]) (r1 : Region.ready .any ops #[true, false, false, false] = [1])
    (r2 : Region.ready .any ops #[false, true, false, false] = [0]) (r3 : Region.ready .any ops #[true, true, false, false] = [2]) (r4 : Region.ready .any ops #[true, true, true, false] = [3])
    (h1 : wpOpsS P ops Q [0, 1, 2, 3] a cs w.drew) (h2 : wpOpsS P ops Q [1, 0, 2, 3] a cs w.drew) : (Code.region id ops true).wpS P Q a cs w := by
  refine wpS_region_draw fun t => ?_
  rw [hm]
  rcases sched_two hs r0 r1 r2 r3 r4 t with e | e
  · rw [e]; exact h1
  · rw [e]; exact h2
theorem mixed : Tryz.prog.follows .mixedOrders = true := by kernel_rfl
theorem caught_nil (x : Int) (w : World) : Calls Tryz.prog 62 #[.nilIface, .int .i64 x] w fun e w' => e = .returned (.int .i64 x) ∧ w' = w := by
  go_enter Tryz.func62, Tryz.ntmps62
  go_wp2
  go_ret
  exact ⟨rfl, rfl⟩
set_option maxRecDepth 100000 in
theorem caught_long (x : Int) (w : World) : Calls Tryz.prog 62 #[.iface 154 (.agg #[]), .int .i64 x] w fun e w' => e = .returned (.int .i64 21) ∧ w' = w := by
  have ha : ∀ w : World, (Instr.typeAssert (.iface 154 (.agg #[])) 20 154 true).run Tryz.prog w = .ok (.tuple #[.agg #[], .bool true]) w := fun _ => by kernel_rfl
  go_enter Tryz.func62, Tryz.ntmps62
  go_wp2
  go_ret
  exact ⟨rfl, rfl⟩
theorem idleAdd (g : Nat) (x : Int) (w : World) (hc : w.cell? ⟨g, 0, none⟩ = some (.int .i64 x)) (hz : w.frozen? ⟨g, 0, none⟩ = false) :
    CallsD Tryz.prog 168 #[.pointer (some ⟨g, 0, none⟩)] .returning w fun e u' w' => e = .returned (.tuple #[]) ∧ u' = .returning ∧ w' = (w.setCell ⟨g, 0, none⟩ (.int .i64 x)).drew := by
  have hk := caught_nil x w.drew
  have hc' : w.drew.cell? ⟨g, 0, none⟩ = some (.int .i64 x) := hc
  have hz' : w.drew.frozen? ⟨g, 0, none⟩ = false := hz
  refine callsD_of_wpS Tryz.func168 rfl fun c₀ cs hu => ?_
  refine wpS_region_two mixed rfl (by kernel_rfl) (by kernel_rfl) (by kernel_rfl) (by kernel_rfl) (by kernel_rfl) ?_ ?_
  · simp [wpOpsS, go_sem, recoverD, hu, Tryz.ntmps168, hc']
    refine hk.mono ?_
    rintro e w' ⟨rfl, rfl⟩
    cases c₀
    simp_all [go_sem, bodyPostS, results, Tryz.results168]
  · simp [wpOpsS, go_sem, recoverD, hu, Tryz.ntmps168, hc']
    refine hk.mono ?_
    rintro e w' ⟨rfl, rfl⟩
    cases c₀
    simp_all [go_sem, bodyPostS, results, Tryz.results168]
theorem catchAdd (g : Nat) (x : Int) (w : World) (hc : w.cell? ⟨g, 0, none⟩ = some (.int .i64 x)) (hz : w.frozen? ⟨g, 0, none⟩ = false) :
    CallsD Tryz.prog 168 #[.pointer (some ⟨g, 0, none⟩)] (.panicking [{ v := .iface 154 (.agg #[]), recovered := false }]) w fun e u' w' => e = .returned (.tuple #[]) ∧ u' = .panicking [{ v := .iface 154 (.agg #[]), recovered := true }] ∧ w' = (w.setCell ⟨g, 0, none⟩ (.int .i64 21)).drew := by
  have hk := caught_long x w.drew
  have hc' : w.drew.cell? ⟨g, 0, none⟩ = some (.int .i64 x) := hc
  have hz' : w.drew.frozen? ⟨g, 0, none⟩ = false := hz
  refine callsD_of_wpS Tryz.func168 rfl fun c₀ cs hu => ?_
  refine wpS_region_two mixed rfl (by kernel_rfl) (by kernel_rfl) (by kernel_rfl) (by kernel_rfl) (by kernel_rfl) ?_ ?_
  · simp [wpOpsS, go_sem, recoverD, hu, Tryz.ntmps168, hc']
    refine hk.mono ?_
    rintro e w' ⟨rfl, rfl⟩
    cases c₀
    simp_all [go_sem, bodyPostS, results, Tryz.results168]
  · simp [wpOpsS, go_sem, recoverD, hu, Tryz.ntmps168, hc']
    refine hk.mono ?_
    rintro e w' ⟨rfl, rfl⟩
    cases c₀
    simp_all [go_sem, bodyPostS, results, Tryz.results168]
theorem idleSub (g : Nat) (x : Int) (w : World) (hc : w.cell? ⟨g, 0, none⟩ = some (.int .i64 x)) (hz : w.frozen? ⟨g, 0, none⟩ = false) :
    CallsD Tryz.prog 65 #[.pointer (some ⟨g, 0, none⟩)] .returning w fun e u' w' => e = .returned (.tuple #[]) ∧ u' = .returning ∧ w' = (w.setCell ⟨g, 0, none⟩ (.int .i64 x)).drew := by
  have hk := caught_nil x w.drew
  have hc' : w.drew.cell? ⟨g, 0, none⟩ = some (.int .i64 x) := hc
  have hz' : w.drew.frozen? ⟨g, 0, none⟩ = false := hz
  refine callsD_of_wpS Tryz.func65 rfl fun c₀ cs hu => ?_
  refine wpS_region_two mixed rfl (by kernel_rfl) (by kernel_rfl) (by kernel_rfl) (by kernel_rfl) (by kernel_rfl) ?_ ?_
  · simp [wpOpsS, go_sem, recoverD, hu, Tryz.ntmps65, hc']
    refine hk.mono ?_
    rintro e w' ⟨rfl, rfl⟩
    cases c₀
    simp_all [go_sem, bodyPostS, results, Tryz.results65]
  · simp [wpOpsS, go_sem, recoverD, hu, Tryz.ntmps65, hc']
    refine hk.mono ?_
    rintro e w' ⟨rfl, rfl⟩
    cases c₀
    simp_all [go_sem, bodyPostS, results, Tryz.results65]
theorem catchSub (g : Nat) (x : Int) (w : World) (hc : w.cell? ⟨g, 0, none⟩ = some (.int .i64 x)) (hz : w.frozen? ⟨g, 0, none⟩ = false) :
    CallsD Tryz.prog 65 #[.pointer (some ⟨g, 0, none⟩)] (.panicking [{ v := .iface 154 (.agg #[]), recovered := false }]) w fun e u' w' => e = .returned (.tuple #[]) ∧ u' = .panicking [{ v := .iface 154 (.agg #[]), recovered := true }] ∧ w' = (w.setCell ⟨g, 0, none⟩ (.int .i64 21)).drew := by
  have hk := caught_long x w.drew
  have hc' : w.drew.cell? ⟨g, 0, none⟩ = some (.int .i64 x) := hc
  have hz' : w.drew.frozen? ⟨g, 0, none⟩ = false := hz
  refine callsD_of_wpS Tryz.func65 rfl fun c₀ cs hu => ?_
  refine wpS_region_two mixed rfl (by kernel_rfl) (by kernel_rfl) (by kernel_rfl) (by kernel_rfl) (by kernel_rfl) ?_ ?_
  · simp [wpOpsS, go_sem, recoverD, hu, Tryz.ntmps65, hc']
    refine hk.mono ?_
    rintro e w' ⟨rfl, rfl⟩
    cases c₀
    simp_all [go_sem, bodyPostS, results, Tryz.results65]
  · simp [wpOpsS, go_sem, recoverD, hu, Tryz.ntmps65, hc']
    refine hk.mono ?_
    rintro e w' ⟨rfl, rfl⟩
    cases c₀
    simp_all [go_sem, bodyPostS, results, Tryz.results65]
theorem idleCmp (g : Nat) (x : Int) (w : World) (hc : w.cell? ⟨g, 0, none⟩ = some (.int .i64 x)) (hz : w.frozen? ⟨g, 0, none⟩ = false) :
    CallsD Tryz.prog 61 #[.pointer (some ⟨g, 0, none⟩)] .returning w fun e u' w' => e = .returned (.tuple #[]) ∧ u' = .returning ∧ w' = (w.setCell ⟨g, 0, none⟩ (.int .i64 x)).drew := by
  have hk := caught_nil x w.drew
  have hc' : w.drew.cell? ⟨g, 0, none⟩ = some (.int .i64 x) := hc
  have hz' : w.drew.frozen? ⟨g, 0, none⟩ = false := hz
  refine callsD_of_wpS Tryz.func61 rfl fun c₀ cs hu => ?_
  refine wpS_region_two mixed rfl (by kernel_rfl) (by kernel_rfl) (by kernel_rfl) (by kernel_rfl) (by kernel_rfl) ?_ ?_
  · simp [wpOpsS, go_sem, recoverD, hu, Tryz.ntmps61, hc']
    refine hk.mono ?_
    rintro e w' ⟨rfl, rfl⟩
    cases c₀
    simp_all [go_sem, bodyPostS, results, Tryz.results61]
  · simp [wpOpsS, go_sem, recoverD, hu, Tryz.ntmps61, hc']
    refine hk.mono ?_
    rintro e w' ⟨rfl, rfl⟩
    cases c₀
    simp_all [go_sem, bodyPostS, results, Tryz.results61]
theorem catchCmp (g : Nat) (x : Int) (w : World) (hc : w.cell? ⟨g, 0, none⟩ = some (.int .i64 x)) (hz : w.frozen? ⟨g, 0, none⟩ = false) :
    CallsD Tryz.prog 61 #[.pointer (some ⟨g, 0, none⟩)] (.panicking [{ v := .iface 154 (.agg #[]), recovered := false }]) w fun e u' w' => e = .returned (.tuple #[]) ∧ u' = .panicking [{ v := .iface 154 (.agg #[]), recovered := true }] ∧ w' = (w.setCell ⟨g, 0, none⟩ (.int .i64 21)).drew := by
  have hk := caught_long x w.drew
  have hc' : w.drew.cell? ⟨g, 0, none⟩ = some (.int .i64 x) := hc
  have hz' : w.drew.frozen? ⟨g, 0, none⟩ = false := hz
  refine callsD_of_wpS Tryz.func61 rfl fun c₀ cs hu => ?_
  refine wpS_region_two mixed rfl (by kernel_rfl) (by kernel_rfl) (by kernel_rfl) (by kernel_rfl) (by kernel_rfl) ?_ ?_
  · simp [wpOpsS, go_sem, recoverD, hu, Tryz.ntmps61, hc']
    refine hk.mono ?_
    rintro e w' ⟨rfl, rfl⟩
    cases c₀
    simp_all [go_sem, bodyPostS, results, Tryz.results61]
  · simp [wpOpsS, go_sem, recoverD, hu, Tryz.ntmps61, hc']
    refine hk.mono ?_
    rintro e w' ⟨rfl, rfl⟩
    cases c₀
    simp_all [go_sem, bodyPostS, results, Tryz.results61]
end Go.Proofs.YtceecgklgkiffaaGreatDoor
