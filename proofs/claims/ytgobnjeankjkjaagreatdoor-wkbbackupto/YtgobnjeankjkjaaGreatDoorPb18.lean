import Derived.Recover
import Derived.Orders
import Derived.Below
import Derived.BigQuiet
import Derived.ChangeOld
import Derived.Deep.DeepCutAuto
import Derived.Deep.QuietTactic
import Derived.Deep.RegionHeld3
import Derived.Deep.RegionLaw
import Derived.Deep.RegionWith
import Derived.LaidEql
import Derived.Laws.BitsAllLaws
import Derived.Laws.CopyRow
import Derived.Laws.IdiomCopy
import Derived.Laws.IdiomRangeMap
import Derived.Laws.Rows
import Derived.Laws.StructEq
import Derived.Maps.AppendAt
import Derived.OpenShut
import Derived.OwnWalk
import Derived.ProofKit
import Derived.RowKitTokens
import Derived.ShutString
import Derived.Stop.Asserts
import Derived.WalkKit
import Derived.WalkLawsBesides
import Derived.WalkSpells
import Derived.Test.YtgobnjeankjkjaaGreatDoorPb14
/- Layer 17: a walk's end is caught. -/
namespace Go.Proofs.YtgobnjeankjkjaaGreatDoor
open Go.ChangeShapes Go.WideShapes Go.ChangeAt Go.RowKit
open Ep Oc Tr Wk
set_option linter.unusedVariables false
namespace Wk
/-- all orders of a region -/
def linAll (md : Region.Mode) (ops : Array Oper) : Nat → Array Bool → List (List Nat)
  | 0, _ => [[]]
  | fuel + 1, listed =>
    match Region.ready md ops listed with
    | [] => [[]]
    | r :: rs => (r :: rs).flatMap fun i => (linAll md ops fuel (listed.setIfInBounds i true)).map (i :: ·)
theorem lin_mem (md : Region.Mode) (ops : Array Oper) : ∀ (fuel t : Nat) (listed : Array Bool), Region.linearise.go md ops fuel t listed [] ∈ linAll md ops fuel listed := by
  intro fuel
  induction fuel with
  | zero => intro t listed; simp [Region.linearise.go, linAll]
  | succ fuel ih =>
    intro t listed
    simp only [Region.linearise.go]
    change (match (Region.ready md ops listed)[t % (Region.ready md ops listed).length]? with
      | some i => Region.linearise.go md ops fuel (t / (Region.ready md ops listed).length) (listed.setIfInBounds i true) [i]
      | none => [].reverse) ∈ _
    cases hr : Region.ready md ops listed with
    | nil => simp [linAll, hr]
    | cons x xs =>
      have hlt : t % (x :: xs).length < (x :: xs).length := Nat.mod_lt _ (by simp)
      rw [List.getElem?_eq_getElem hlt]
      simp only []
      rw [linearise_go_acc, List.reverse_singleton, List.singleton_append]
      simp only [linAll, hr]
      exact List.mem_flatMap.2 ⟨_, List.getElem_mem hlt, List.mem_map.2 ⟨_, ih _ _, rfl⟩⟩
theorem wpS_region_any {P : Program} {id : Nat} {ops : Array Oper} {Q : Exit → Act → List Frame → World → Prop} {a : Act} {cs : List Frame} {w : World} (hm : P.follows .mixedOrders = true) (ss : List (List Nat)) (hss : linAll .any ops ops.size (Array.replicate ops.size false) = ss)
    (h : ∀ s ∈ ss, wpOpsS P ops Q s a cs { w with drawn := w.drawn + 1 }) : (Code.region id ops true).wpS P Q a cs w := by
  intro b k hb hr
  subst hss
  have hs : ∀ t, Region.schedule (P.follows .mixedOrders) ops t ∈ linAll .any ops ops.size (Array.replicate ops.size false) := fun t => by
    simp only [Region.schedule, hm, Bool.true_or, if_true]
    exact lin_mem .any ops ops.size t _
  obtain ⟨e, a', cs', w', q, r⟩ := wp_opsS _ a cs _ (h _ (hs _)) b k hb hr
  exact ⟨e, a', cs', w', q, .of_steps (.one step_region_draw) r⟩
end Wk
set_option maxHeartbeats 1600000 in
set_option maxRecDepth 100000 in
theorem caught_nil (w : World) :
    Calls Tryz.prog 52 #[.nilIface, .nilIface] w fun e w' => e = .returned .nilIface ∧ w' = w := by
  go_enter Tryz.func52, Tryz.ntmps52
  go_wp2
  go_ret
  exact ⟨rfl, rfl⟩
set_option maxHeartbeats 1600000 in
set_option maxRecDepth 100000 in
theorem caught_flaw (p c : Nat) (w : World) :
    Calls Tryz.prog 52 #[.iface 161 (.agg #[.int .i64 (p : Int), .int .i64 (c : Int)]), .nilIface] w fun e w' => ∃ g, e = .returned (.iface 114 (.pointer (some ⟨g, 0, none⟩))) ∧ FaultAt w' g (p : Int) (c : Int) ∧ Below w.heap.size w w' := by
  have ha : ∀ w : World, (Instr.typeAssert (.iface 161 (.agg #[.int .i64 (p : Int), .int .i64 (c : Int)])) 20 161 true).run Tryz.prog w = .ok (.tuple #[.agg #[.int .i64 (p : Int), .int .i64 (c : Int)], .bool true]) w := fun _ => by kernel_rfl
  go_enter Tryz.func52, Tryz.ntmps52
  go_wp2_with fail
  refine (wrapF_any (p : Int) (c : Int) _).mono ?_
  rintro e w' ⟨g, rfl, hF, hb⟩
  have hb2 : Below w.heap.size w w' := (alloc_below _).trans (hb.mono (by simp))
  go_wp2
  go_ret
  exact ⟨g, rfl, hF, hb2⟩
set_option maxHeartbeats 3200000 in
set_option maxRecDepth 100000 in
theorem read1_panic (b : Nat) (p c : Nat) (older : List PanicEntry) (w : World) (hc : w.cell? ⟨b, 0, none⟩ = some .nilIface) (hz : w.frozen? ⟨b, 0, none⟩ = false) :
    CallsD Tryz.prog 51 #[.pointer (some ⟨b, 0, none⟩)] (.panicking ({ v := .iface 161 (.agg #[.int .i64 (p : Int), .int .i64 (c : Int)]), recovered := false } :: older)) w fun e u' w' =>
      ∃ g, e = .returned (.tuple #[]) ∧ u' = .panicking ({ v := .iface 161 (.agg #[.int .i64 (p : Int), .int .i64 (c : Int)]), recovered := true } :: older) ∧ FaultAt w' g (p : Int) (c : Int) ∧ w'.cell? ⟨b, 0, none⟩ = some (.iface 114 (.pointer (some ⟨g, 0, none⟩))) ∧ In b (b + 1) w w' := by
  refine callsD_of_wpS Tryz.func51 rfl fun c₀ cs hu => ?_
  have hK := fun w => caught_flaw p c w
  refine wpS_region_any (by kernel_rfl) [[0, 1, 2, 3], [1, 0, 2, 3]] (by kernel_rfl) fun s hs => ?_
  simp only [List.mem_cons, List.mem_nil_iff, or_false] at hs
  rcases hs with rfl | rfl
  · simp [wpOpsS, go_sem, recoverD, hu, Tryz.ntmps51, hc]
    refine (hK _).mono ?_
    rintro e w' ⟨g, rfl, hF, hb⟩
    have hb' : Below w.heap.size w w' := ⟨hb.os, hb.tape, hb.output, hb.size, hb.block⟩
    have c1 := (hb'.cell (p := ⟨b, 0, none⟩) (cell_lt hc)).trans hc
    have z1 : w'.frozen? ⟨b, 0, none⟩ = false := (World.frozen?_of_block (a := ⟨b, 0, none⟩) (hb'.block b (cell_lt hc))).trans hz
    have hne : g ≠ b := by
      rintro rfl
      have := hF.1
      rw [c1] at this
      cases this
    have hI : In b (b + 1) w (w'.setCell ⟨b, 0, none⟩ (.iface 114 (.pointer (some ⟨g, 0, none⟩)))) := (In.of_below hb').set1 0 _
    have hF2 : FaultAt (w'.setCell ⟨b, 0, none⟩ (.iface 114 (.pointer (some ⟨g, 0, none⟩)))) g (p : Int) (c : Int) := hF.inn ((In.refl _ _ _).set1 0 _) hne
    have hC2 : (w'.setCell ⟨b, 0, none⟩ (.iface 114 (.pointer (some ⟨g, 0, none⟩)))).cell? ⟨b, 0, none⟩ = some (.iface 114 (.pointer (some ⟨g, 0, none⟩))) := World.cell?_setCell_same _ _ _ c1
    simp [go_sem, c1, z1, storeCells, bodyPostS, results, Tryz.results51]
    exact ⟨g, hF2, rfl, hI⟩
  · simp [wpOpsS, go_sem, recoverD, hu, Tryz.ntmps51, hc]
    refine (hK _).mono ?_
    rintro e w' ⟨g, rfl, hF, hb⟩
    have hb' : Below w.heap.size w w' := ⟨hb.os, hb.tape, hb.output, hb.size, hb.block⟩
    have c1 := (hb'.cell (p := ⟨b, 0, none⟩) (cell_lt hc)).trans hc
    have z1 : w'.frozen? ⟨b, 0, none⟩ = false := (World.frozen?_of_block (a := ⟨b, 0, none⟩) (hb'.block b (cell_lt hc))).trans hz
    have hne : g ≠ b := by
      rintro rfl
      have := hF.1
      rw [c1] at this
      cases this
    have hI : In b (b + 1) w (w'.setCell ⟨b, 0, none⟩ (.iface 114 (.pointer (some ⟨g, 0, none⟩)))) := (In.of_below hb').set1 0 _
    have hF2 : FaultAt (w'.setCell ⟨b, 0, none⟩ (.iface 114 (.pointer (some ⟨g, 0, none⟩)))) g (p : Int) (c : Int) := hF.inn ((In.refl _ _ _).set1 0 _) hne
    have hC2 : (w'.setCell ⟨b, 0, none⟩ (.iface 114 (.pointer (some ⟨g, 0, none⟩)))).cell? ⟨b, 0, none⟩ = some (.iface 114 (.pointer (some ⟨g, 0, none⟩))) := World.cell?_setCell_same _ _ _ c1
    simp [go_sem, c1, z1, storeCells, bodyPostS, results, Tryz.results51]
    exact ⟨g, hF2, rfl, hI⟩
set_option maxHeartbeats 3200000 in
set_option maxRecDepth 100000 in
theorem read1_idle (b : Nat) (w : World) (hc : w.cell? ⟨b, 0, none⟩ = some .nilIface) (hz : w.frozen? ⟨b, 0, none⟩ = false) :
    CallsD Tryz.prog 51 #[.pointer (some ⟨b, 0, none⟩)] .returning w fun e u' w' =>
      e = .returned (.tuple #[]) ∧ u' = .returning ∧ w'.cell? ⟨b, 0, none⟩ = some .nilIface ∧ In b (b + 1) w w' := by
  refine callsD_of_wpS Tryz.func51 rfl fun c₀ cs hu => ?_
  have hK := fun w => caught_nil w
  refine wpS_region_any (by kernel_rfl) [[0, 1, 2, 3], [1, 0, 2, 3]] (by kernel_rfl) fun s hs => ?_
  simp only [List.mem_cons, List.mem_nil_iff, or_false] at hs
  rcases hs with rfl | rfl
  · simp [wpOpsS, go_sem, recoverD, hu, Tryz.ntmps51, hc]
    refine (hK _).mono ?_
    rintro e w' ⟨rfl, rfl⟩
    have hI : In b (b + 1) w (w.drew.setCell ⟨b, 0, none⟩ .nilIface) := (In.of_below ⟨rfl, rfl, rfl, Nat.le_refl _, fun _ _ => rfl⟩ : In b (b + 1) w w.drew).set1 0 _
    have hC2 : (w.drew.setCell ⟨b, 0, none⟩ .nilIface).cell? ⟨b, 0, none⟩ = some .nilIface := World.cell?_setCell_same _ _ _ (u := .nilIface) hc
    simp [go_sem, hc, hz, storeCells, bodyPostS, results, Tryz.results51]
    refine ⟨.returning, ?_, rfl, hI⟩
    cases c₀
    simp only at hu
    subst hu
    rfl
  · simp [wpOpsS, go_sem, recoverD, hu, Tryz.ntmps51, hc]
    refine (hK _).mono ?_
    rintro e w' ⟨rfl, rfl⟩
    have hI : In b (b + 1) w (w.drew.setCell ⟨b, 0, none⟩ .nilIface) := (In.of_below ⟨rfl, rfl, rfl, Nat.le_refl _, fun _ _ => rfl⟩ : In b (b + 1) w w.drew).set1 0 _
    have hC2 : (w.drew.setCell ⟨b, 0, none⟩ .nilIface).cell? ⟨b, 0, none⟩ = some .nilIface := World.cell?_setCell_same _ _ _ (u := .nilIface) hc
    simp [go_sem, hc, hz, storeCells, bodyPostS, results, Tryz.results51]
    refine ⟨.returning, ?_, rfl, hI⟩
    cases c₀
    simp only at hu
    subst hu
    rfl
end Go.Proofs.YtgobnjeankjkjaaGreatDoor

