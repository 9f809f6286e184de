/- api.Wrap, api.Code, api.Place: a Fault with its place and number. -/
import Derived.Test.YtmenhfnakcdnnabGreatDoorApiCode
import Derived.Test.YtmenhfnakcdnnabGreatDoorBaseB
namespace Go.Proofs.YtmenhfnakcdnnabGreatDoor
open Go.ChangeShapes Go.WideShapes Go.ChangeAt Go.RowKit
set_option linter.unusedVariables false
/-- block g is a Fault: a place, a number -/
def FaultAt (w : World) (g : Nat) (p c : Int) : Prop := w.cell? ⟨g, 0, none⟩ = some (.int .i64 p) ∧ w.cell? ⟨g, 1, none⟩ = some (.iface 35 (.int .i64 c))
theorem FaultAt.later {w w' : World} {g : Nat} {p c : Int} (h : FaultAt w g p c) (hb : Below w.heap.size w w') : FaultAt w' g p c :=
  ⟨(hb.cell (p := ⟨g, 0, none⟩) (cell_lt h.1)).trans h.1, (hb.cell (p := ⟨g, 1, none⟩) (cell_lt h.2)).trans h.2⟩
theorem ErrVar.later {w w' : World} (h : ErrVar w) (hb : Below w.heap.size w w') : ErrVar w' := (hb.cell (p := ⟨0, 0, none⟩) (cell_lt h)).trans h
theorem wrapF_any (p c : Int) (w : World) :
    Calls Tryz.prog 10 #[.int .i64 p, .int .i64 c] w fun e w' => ∃ g, e = .returned (.iface 51 (.pointer (some ⟨g, 0, none⟩))) ∧ FaultAt w' g p c ∧ Below w.heap.size w w' := by
  go_enter Tryz.func10, Tryz.ntmps10
  go_wp2
  go_ret
  exact ⟨_, rfl, ⟨by simp, by simp⟩, (Below.refl _ _).alloc (Nat.le_refl _) _⟩
theorem asErrnoQ (g t : Nat) (c : Int) (old : Value) (w : World) (he : w.cell? ⟨g, 1, none⟩ = some (.iface 35 (.int .i64 c))) (hg : ErrVar w) (ht0 : w.cell? ⟨t, 0, none⟩ = some old) (hf0 : w.frozen? ⟨t, 0, none⟩ = false) :
    Calls Tryz.prog 37 #[.iface 51 (.pointer (some ⟨g, 0, none⟩)), .iface 73 (.pointer (some ⟨t, 0, none⟩))] w fun ev w' => ev = .returned (.bool true) ∧ w'.cell? ⟨t, 0, none⟩ = some (.int .i64 c) ∧ In t (t + 1) w w' := by
  refine (asErrno g ⟨t, 0, none⟩ c old w he hg ht0 hf0).mono ?_
  rintro ev w' ⟨rfl, rfl⟩
  have hlt := cell_lt ht0
  have hB : Below w.heap.size w ((((w.alloc (.cells #[.pointer (some ⟨t, 0, none⟩)] 73)).alloc (.cells #[As.hnd 73, .pointer (some ⟨w.heap.size, 0, none⟩), .int .u64 150] 91)).alloc (.cells #[As.hnd 73, .pointer (some ⟨w.heap.size, 0, none⟩), .int .u64 150] 91)).alloc (.cells #[.int .i64 c] 35)) :=
    ((((Below.refl _ _).alloc (Nat.le_refl _) _).alloc (by simp) _).alloc (by simp; omega) _).alloc (by simp; omega) _
  refine ⟨rfl, World.cell?_setCell_same _ _ _ ((hB.cell (p := ⟨t, 0, none⟩) hlt).trans ht0), ?_⟩
  exact (In.of_below hB).set1 _ _
theorem asFaultQ (e : Addr) (t : Nat) (old : Value) (w : World) (hg : ErrVar w) (ht0 : w.cell? ⟨t, 0, none⟩ = some old) (hf0 : w.frozen? ⟨t, 0, none⟩ = false) :
    Calls Tryz.prog 37 #[.iface 51 (.pointer (some e)), .iface 74 (.pointer (some ⟨t, 0, none⟩))] w fun ev w' => ev = .returned (.bool true) ∧ w'.cell? ⟨t, 0, none⟩ = some (.pointer (some e)) ∧ In t (t + 1) w w' := by
  refine (asFault e ⟨t, 0, none⟩ old w hg ht0 hf0).mono ?_
  rintro ev w' ⟨rfl, rfl⟩
  have hlt := cell_lt ht0
  have hB : Below w.heap.size w ((((w.alloc (.cells #[.pointer (some ⟨t, 0, none⟩)] 74)).alloc (.cells #[As.hnd 74, .pointer (some ⟨w.heap.size, 0, none⟩), .int .u64 150] 91)).alloc (.cells #[As.hnd 74, .pointer (some ⟨w.heap.size, 0, none⟩), .int .u64 150] 91)).alloc (.cells #[.pointer (some e)] 51)) :=
    ((((Below.refl _ _).alloc (Nat.le_refl _) _).alloc (by simp) _).alloc (by simp; omega) _).alloc (by simp; omega) _
  refine ⟨rfl, World.cell?_setCell_same _ _ _ ((hB.cell (p := ⟨t, 0, none⟩) hlt).trans ht0), ?_⟩
  exact (In.of_below hB).set1 _ _
theorem codeNil_any (w : World) :
    Calls Tryz.prog 20 #[.nilIface] w fun e w' => e = .returned (.int .i64 0) ∧ Below w.heap.size w w' := by
  go_enter Tryz.func20, Tryz.ntmps20
  go_wp2
  go_ret
  exact ⟨rfl, (Below.refl _ _).alloc (Nat.le_refl _) _⟩
theorem placeNil_any (w : World) :
    Calls Tryz.prog 21 #[.nilIface] w fun e w' => e = .returned (.int .i64 (-1)) ∧ Below w.heap.size w w' := by
  go_enter Tryz.func21, Tryz.ntmps21
  go_wp2_with fail
  refine (as_nil _ _).mono ?_
  rintro e w' ⟨rfl, rfl⟩
  go_wp2
  go_ret
  exact ⟨rfl, (Below.refl _ _).alloc (Nat.le_refl _) _⟩
set_option maxHeartbeats 1000000 in
theorem codeFault_any {g : Nat} {p c : Int} {w : World} (hF : FaultAt w g p c) (hg : ErrVar w) :
    Calls Tryz.prog 20 #[.iface 51 (.pointer (some ⟨g, 0, none⟩))] w fun e w' => e = .returned (.int .i64 c) ∧ Below w.heap.size w w' := by
  have hB : Below w.heap.size w (w.alloc (.cells #[.int .i64 0] 35)) := (Below.refl _ _).alloc (Nat.le_refl _) _
  have ac := asErrnoQ g w.heap.size c (.int .i64 0) (w.alloc (.cells #[.int .i64 0] 35)) (hF.later hB).2 (hg.later hB) (by simp) (by simp)
  go_enter Tryz.func20, Tryz.ntmps20
  go_wp2_with fail
  refine ac.mono ?_
  rintro e w' ⟨rfl, hc, hi⟩
  have hB2 := below_inn hB hi (Nat.le_refl _) (Nat.le_refl _)
  clear ac hi
  go_wp2
  go_ret
  exact ⟨rfl, hB2⟩
set_option maxHeartbeats 1000000 in
theorem placeFault_any {g : Nat} {p c : Int} {w : World} (hF : FaultAt w g p c) (hg : ErrVar w) :
    Calls Tryz.prog 21 #[.iface 51 (.pointer (some ⟨g, 0, none⟩))] w fun e w' => e = .returned (.int .i64 p) ∧ Below w.heap.size w w' := by
  have hB : Below w.heap.size w (w.alloc (.cells #[.pointer none] 51)) := (Below.refl _ _).alloc (Nat.le_refl _) _
  have ac := asFaultQ ⟨g, 0, none⟩ w.heap.size (.pointer none) (w.alloc (.cells #[.pointer none] 51)) (hg.later hB) (by simp) (by simp)
  have hlt : g < w.heap.size := cell_lt hF.1
  have hF2 := (hF.later hB).1
  go_enter Tryz.func21, Tryz.ntmps21
  go_wp2_with fail
  refine ac.mono ?_
  rintro e w' ⟨rfl, hc, hi⟩
  have hB2 := below_inn hB hi (Nat.le_refl _) (Nat.le_refl _)
  have hp : w'.cell? ⟨g, 0, none⟩ = some (.int .i64 p) := (hB2.cell (p := ⟨g, 0, none⟩) hlt).trans hF.1
  clear ac hi hF2
  go_wp2
  go_ret
  exact ⟨rfl, hB2⟩
end Go.Proofs.YtmenhfnakcdnnabGreatDoor
