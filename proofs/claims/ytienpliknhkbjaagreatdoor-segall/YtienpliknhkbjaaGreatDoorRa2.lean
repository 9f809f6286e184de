import Derived.WalkKit
import Derived.ProofKit
import Derived.OpenShut
import Derived.ShutString
import Derived.ChangeOld
import Derived.Below
import Derived.BigQuiet
import Derived.Deep.DeepCutAuto
import Derived.Deep.DeepFit
import Derived.Deep.LoopGhost
import Derived.Deep.QuietTactic
import Derived.Deep.RegionHeld3
import Derived.Deep.RegionWith
import Derived.Defers
import Derived.KernelRfl
import Derived.Laws.BitsAllLaws
import Derived.Laws.CopyRow
import Derived.Laws.EntriesVeiled
import Derived.Laws.IdiomCopy
import Derived.Laws.IdiomRangeMap
import Derived.Orders
import Derived.OwnWalk
import Derived.Recover
import Derived.Scope
import Derived.WalkLawsBesides
import Derived.WalkMore
import Derived.WalkSpells
import Derived.Test.YtienpliknhkbjaaGreatDoorRp1
import Derived.Test.YtienpliknhkbjaaGreatDoorRp2
import Derived.Test.YtienpliknhkbjaaGreatDoorRp3
import Derived.Test.YtienpliknhkbjaaGreatDoorRp4
import Derived.Test.YtienpliknhkbjaaGreatDoorRp5
import Derived.Test.YtienpliknhkbjaaGreatDoorRp6
import Derived.Test.YtienpliknhkbjaaGreatDoorRp7
import Derived.Test.YtienpliknhkbjaaGreatDoorRp8
import Derived.Test.YtienpliknhkbjaaGreatDoorRp9
import Derived.Test.YtienpliknhkbjaaGreatDoorRp10
import Derived.Test.YtienpliknhkbjaaGreatDoorRp11
import Derived.Test.YtienpliknhkbjaaGreatDoorRp12
import Derived.Test.YtienpliknhkbjaaGreatDoorRp13
import Derived.Test.YtienpliknhkbjaaGreatDoorRp14
import Derived.Test.YtienpliknhkbjaaGreatDoorRp15
/- Points among the inputs: a []api.Point. -/
namespace Go.Proofs.YtienpliknhkbjaaGreatDoor
open Go.ChangeShapes Go.WideShapes Go.ChangeAt Go.RowKit
open Na Ar
set_option linter.unusedVariables false
/-- a slice of points that may be read -/
def PnAt (w : World) (v : Value) (n : Nat) (P : Nat → Int × Int) : Prop := n ≤ maxLen ∧ ((n = 0 ∧ ∃ a c, v = .slice a 0 c) ∨ ∃ b o c, v = .slice (some ⟨b, o, none⟩) n c ∧ PtAt w b o P n ∧ (0 < n → b < w.heap.size))
theorem add_noneP (b o j : Nat) : (⟨b, o, none⟩ : Addr).add j = ⟨b, o + j, none⟩ := by
  unfold Addr.add
  split <;> simp_all
theorem spot_ofP {w : World} {a : Addr} {v : Value} (h : w.cell? (a.add 0) = some v) : ∃ b o, a = ⟨b, o, none⟩ := by
  have e : a.add 0 = a := by unfold Addr.add; simp
  rw [e] at h
  have hs := World.cell?_spot h
  obtain ⟨b, o, s⟩ := a
  have hn : s = none := hs
  subst hn
  exact ⟨b, o, rfl⟩
theorem cell_ltP {w : World} {b o : Nat} {v : Value} (h : w.cell? ⟨b, o, none⟩ = some v) : b < w.heap.size := by
  cases ho : w.heap[b]? with
  | none => simp [World.cell?, ho] at h
  | some x => exact (Array.getElem?_eq_some_iff.1 ho).1
theorem cells_u64P : Tryz.prog.cellsOf 22 = 1 := by kernel_rfl
theorem cells_pointP : Tryz.prog.cellsOf 24 = 2 := by kernel_rfl
set_option maxRecDepth 100000 in
theorem trod_u64P {H : Type} {enc : TypeId × Value → H} {w : World} {base m : Nat} {spare : Nat → Bool} {held : Bool} {cs : Value} {x : DataW H × List MemPlace}
    (hf : DataW.trod enc Tryz.prog w base spare held m 22 [cs] = some x) : ∃ s, cs = .int .u64 s ∧ U s := by
  obtain ⟨s, e0, _, hw⟩ := DataW.trod_int Tryz.underlying22 hf
  simp at e0
  simp only [Lit.wf, Bool.and_eq_true, decide_eq_true_eq] at hw
  have h1 : IntKind.u64.min = 0 := rfl
  have h2 : IntKind.u64.max = 18446744073709551615 := rfl
  exact ⟨s, e0, by unfold U; omega⟩
set_option maxRecDepth 100000 in
theorem trod_pointP {H : Type} {enc : TypeId × Value → H} {w : World} {base fuel : Nat} {spare : Nat → Bool} {held : Bool} {cs : List Value} {y : DataW H × List MemPlace}
    (hf : DataW.trod enc Tryz.prog w base spare held fuel 24 cs = some y) : ∃ p : Int × Int, cs = [.int .u64 p.1, .int .u64 p.2] ∧ U2 p := by
  obtain ⟨xs, m, _, hy, hl, hx, hi⟩ := DataW.trod_struct Tryz.underlying24 hf
  rw [cells_pointP] at hl
  match cs, hl with
  | [c0, c1], _ =>
    have i0 := hi 0 _ rfl
    have i1 := hi 1 _ rfl
    match xs, hx with
    | [x0, x1], _ =>
      simp [cells_u64P] at i0 i1
      obtain ⟨s, rfl, k0⟩ := trod_u64P i0
      obtain ⟨t, rfl, k1⟩ := trod_u64P i1
      exact ⟨(s, t), rfl, k0, k1⟩
set_option maxRecDepth 100000 in
theorem open_points {H : Type} {enc : TypeId × Value → H} {w : World} {r : Reach} {base b0 : Nat} {spare : Nat → Bool} {held : Bool} {v : Value} {d : DataW H} {p : List MemPlace}
    (hv : Value.okWide Tryz.prog w r b0 37 v) (h : DataW.Trod enc Tryz.prog w base spare held 37 v d p) :
    ∃ (n : Nat) (P : Nat → Int × Int), PnAt w v n P := by
  obtain ⟨a, n, c, rfl⟩ := okWide_slice Tryz.underlying37 hv
  obtain ⟨fuel, hf⟩ := h
  rcases DataW.trod_slice Tryz.underlying37 hf with ⟨hcs, _⟩ | ⟨x, len, cap, elems, rest, m, _, hcs, hd, hbb, hl, hm, hlen, hel, hsp, hns⟩
  · simp [Value.cells] at hcs
    obtain ⟨rfl, rfl, rfl⟩ := hcs
    exact ⟨0, fun _ => (0, 0), by unfold maxLen; omega, Or.inl ⟨rfl, none, 0, rfl⟩⟩
  · simp [Value.cells] at hcs
    obtain ⟨rfl, rfl, rfl⟩ := hcs
    have each : ∀ i, i < n → ∃ t : Int × Int, ∃ b o, x = ⟨b, o, none⟩ ∧ w.cell? ⟨b, o + i * 2, none⟩ = some (.int .u64 t.1) ∧ w.cell? ⟨b, o + i * 2 + 1, none⟩ = some (.int .u64 t.2) ∧ U2 t := by
      intro i hi
      have hb' := hel i hi
      rw [List.getElem?_eq_getElem (by omega), cells_pointP, Option.bind_eq_some_iff] at hb'
      obtain ⟨cs', hcs, hy⟩ := hb'
      obtain ⟨t, rfl, hz⟩ := trod_pointP hy
      obtain ⟨_, hlen9, hcell⟩ := World.cells?_some hcs
      have spot : ∃ b o, x = ⟨b, o, none⟩ := by
        have hb0 := hel 0 (by omega)
        rw [List.getElem?_eq_getElem (by omega), cells_pointP, Option.bind_eq_some_iff] at hb0
        obtain ⟨cs0, hcs0, hy0⟩ := hb0
        obtain ⟨t0, rfl, _⟩ := trod_pointP hy0
        obtain ⟨_, _, hcell0⟩ := World.cells?_some hcs0
        have q0 := hcell0 0 (by omega)
        have e : x.add (0 * 2) = x := by unfold Addr.add; simp
        rw [e] at q0
        exact spot_ofP q0
      obtain ⟨b, o, rfl⟩ := spot
      have q0 := hcell 0 (by omega)
      have q1 := hcell 1 (by omega)
      rw [add_noneP, add_noneP] at q0 q1
      exact ⟨t, b, o, rfl, by simpa using q0, by simpa using q1, hz⟩
    have pick : ∃ f : Nat → Int × Int, ∀ i, i < n → ∃ b o, x = ⟨b, o, none⟩ ∧ w.cell? ⟨b, o + i * 2, none⟩ = some (.int .u64 (f i).1) ∧ w.cell? ⟨b, o + i * 2 + 1, none⟩ = some (.int .u64 (f i).2) ∧ U2 (f i) := by
      refine ⟨fun i => if hi : i < n then (each i hi).choose else (0, 0), fun i hi => ?_⟩
      simp only [dif_pos hi]
      exact (each i hi).choose_spec
    obtain ⟨f, hf2⟩ := pick
    refine ⟨n, f, by unfold maxLen at *; omega, ?_⟩
    by_cases h0 : n = 0
    · subst h0
      exact Or.inl ⟨rfl, _, _, rfl⟩
    · obtain ⟨b, o, hx2, _⟩ := hf2 0 (by omega)
      refine Or.inr ⟨b, o, c, by rw [hx2], fun i hi => ?_, fun _ => ?_⟩
      · obtain ⟨b', o', hx3, q0, q1, q2⟩ := hf2 i hi
        rw [hx2] at hx3
        obtain ⟨rfl, rfl⟩ : b = b' ∧ o = o' := by simpa using hx3
        exact ⟨q0, q1, q2.1, q2.2⟩
      · obtain ⟨b', o', hx3, q0, q1, q2⟩ := hf2 0 (by omega)
        rw [hx2] at hx3
        obtain ⟨rfl, rfl⟩ : b = b' ∧ o = o' := by simpa using hx3
        exact cell_ltP q0
end Go.Proofs.YtienpliknhkbjaaGreatDoor

