/- package near: the table, the five modes. -/
import Derived.Test.YtceecgklgkiffabGreatDoorBaseK
import Derived.Test.YtceecgklgkiffabGreatDoorBaseB
import Derived.Laws.EntriesVeiled
namespace Go.Proofs.YtceecgklgkiffabGreatDoor
open Go.ChangeShapes Go.WideShapes Go.ChangeAt Go.RowKit
open Na Ar
set_option linter.unusedVariables false
/-- which numbers beyond the greatest stay there: the table's cells -/
def GrVar (w : World) : Prop :=
  (w.cell? ⟨3, 0, none⟩ = some (.bool false) ∧ w.cell? ⟨3, 1, none⟩ = some (.bool false)) ∧ (w.cell? ⟨3, 2, none⟩ = some (.bool true) ∧ w.cell? ⟨3, 3, none⟩ = some (.bool true)) ∧
  (w.cell? ⟨3, 4, none⟩ = some (.bool false) ∧ w.cell? ⟨3, 5, none⟩ = some (.bool false)) ∧ (w.cell? ⟨3, 6, none⟩ = some (.bool false) ∧ w.cell? ⟨3, 7, none⟩ = some (.bool true)) ∧
  w.cell? ⟨3, 8, none⟩ = some (.bool true) ∧ w.cell? ⟨3, 9, none⟩ = some (.bool false)
theorem cell_lt7 {w : World} {a : Addr} {v : Value} (h : w.cell? a = some v) : a.block < w.heap.size := by
  unfold World.cell? at h
  apply Decidable.byContradiction
  intro hc
  rw [Array.getElem?_eq_none (by omega)] at h
  cases h
theorem GrVar.lt {w : World} (h : GrVar w) : 3 < w.heap.size := cell_lt7 h.1.1
theorem GrVar.later {w w' : World} (h : GrVar w) (hb : Below w.heap.size w w') : GrVar w' := by
  have hl := h.lt
  have hc : ∀ i, w'.cell? ⟨3, i, none⟩ = w.cell? ⟨3, i, none⟩ := fun i => hb.cell (p := ⟨3, i, none⟩) hl
  unfold GrVar at *
  simp only [hc]
  exact h
theorem known_yes {m : Int} (h0 : 0 ≤ m) (h1 : m ≤ 4) (w : World) : Calls Tryz.prog 84 #[.int .i64 m] w fun e w' => e = .returned (.bool true) ∧ w = w' := by
  rcases mode_cases h0 h1 with rfl | rfl | rfl | rfl | rfl <;> (go_enter Tryz.func84, Tryz.ntmps84; go_wp2; go_ret; exact ⟨rfl, rfl⟩)
theorem known_no {m : Int} (h : m < 0 ∨ 4 < m) (w : World) : Calls Tryz.prog 84 #[.int .i64 m] w fun e w' => e = .returned (.bool false) ∧ w = w' := by
  rcases h with h | h
  · have t1 : decide (m ≥ 0) = false := by simp; omega
    have t2 : decide (0 ≤ m) = false := by simp; omega
    go_enter Tryz.func84, Tryz.ntmps84; go_wp2; go_ret; exact ⟨rfl, rfl⟩
  · have t1 : decide (m ≥ 0) = true := by simp; omega
    have t2 : decide (0 ≤ m) = true := by simp; omega
    have t3 : decide (m ≤ 4) = false := by simp; omega
    go_enter Tryz.func84, Tryz.ntmps84; go_wp2; go_ret; exact ⟨rfl, rfl⟩
/-- a mode's function -/
def fnK (neg : Bool) (mode : Int) : Nat := if mode = 0 then 174 else if stK neg mode = true then 175 else 173
theorem way_alloc (w : World) (x y : Value) (t : TypeId) : Below w.heap.size w (w.alloc (.cells #[x, y] t)) := alloc_below _
set_option maxHeartbeats 1600000 in
set_option maxRecDepth 100000 in
theorem wayOf_any {neg : Bool} {mode : Int} (h0 : 0 ≤ mode) (h1 : mode ≤ 4) {w : World} (hG : GrVar w) :
    Calls Tryz.prog 144 #[.bool neg, .int .i64 mode] w fun e w' => e = .returned (.agg #[.bool (stK neg mode), .func (.func (fnK neg mode)) #[] #[]]) ∧ Below w.heap.size w w' := by
  have hl := hG.lt
  have q2 : ∀ (A B : Obj) (k : Nat), ((w.alloc A).alloc B).cell? ⟨3, k, none⟩ = w.cell? ⟨3, k, none⟩ := fun A B k => by
    have b1 := alloc_below (w := w) A
    have b2 := alloc_below (w := w.alloc A) B
    exact (b1.trans (b2.mono b1.size)).cell (p := ⟨3, k, none⟩) hl
  have g0 := fun A B => (q2 A B 0).trans hG.1.1
  have g1 := fun A B => (q2 A B 1).trans hG.1.2
  have g2 := fun A B => (q2 A B 2).trans hG.2.1.1
  have g3 := fun A B => (q2 A B 3).trans hG.2.1.2
  have g4 := fun A B => (q2 A B 4).trans hG.2.2.1.1
  have g5 := fun A B => (q2 A B 5).trans hG.2.2.1.2
  have g6 := fun A B => (q2 A B 6).trans hG.2.2.2.1.1
  have g7 := fun A B => (q2 A B 7).trans hG.2.2.2.1.2
  have g8 := fun A B => (q2 A B 8).trans hG.2.2.2.2.1
  have g9 := fun A B => (q2 A B 9).trans hG.2.2.2.2.2
  clear q2
  obtain ⟨⟨c0, c1⟩, ⟨c2, c3⟩, ⟨c4, c5⟩, ⟨c6, c7⟩, c8, c9⟩ := hG
  obtain ⟨V, hV⟩ : ∃ V, V = Value.agg #[.bool (stK neg mode), .func (.func (fnK neg mode)) #[] #[]] := ⟨_, rfl⟩
  rw [← hV]
  have HV : Hid (V = Value.agg #[.bool (stK neg mode), .func (.func (fnK neg mode)) #[] #[]]) := hV
  clear hV
  rcases mode_cases h0 h1 with rfl | rfl | rfl | rfl | rfl <;> cases neg
  all_goals
    go_enter Tryz.func144, Tryz.ntmps144
    go_wp2
    refine bodyPost_ret (v := V) (by rw [HV.out]; simp [results, Tryz.results144, go_sem] <;> exact ⟨rfl, rfl⟩) rfl ?_
    refine ⟨rfl, ?_⟩
    repeat (first | exact Below.refl _ _ | refine Below.setCell ?_ (by simp) _ | refine Below.alloc ?_ (by simp) _)
/-- what is asked of a mode's function -/
theorem nearest_any {m k : Int} (hm : U m) (w : World) : Calls Tryz.prog 174 #[.int .u64 m, .int .i64 k] w fun e w' => e = .returned (.bool (onK false 0 m k)) ∧ w = w' := by
  by_cases k3 : k = 3
  · subst k3
    go_enter Tryz.func174, Tryz.ntmps174; go_wp2; go_ret; exact ⟨rfl, rfl⟩
  · have t1 : (k == 3) = false := by simp [k3]
    by_cases k2 : k = 2
    · have t2 : (k == 2) = true := by simp [k2]
      have HE : Hid ((m.tmod 2 == 1) = onK false 0 m k) := by
        show _ = _
        rw [Int.tmod_eq_emod_of_nonneg hm.1]
        unfold onK; rw [if_pos rfl, k2]; simp; rw [Bool.eq_iff_iff]; simp
      clear k2 k3
      go_enter Tryz.func174, Tryz.ntmps174; go_wp2; go_ret
      exact ⟨by rw [← HE.out]; rfl, rfl⟩
    · have t2 : (k == 2) = false := by simp [k2]
      have HE : Hid (false = onK false 0 m k) := by
        show _ = _
        unfold onK; rw [if_pos rfl]; simp [k2, k3]
      clear k2 k3
      go_enter Tryz.func174, Tryz.ntmps174; go_wp2; go_ret
      exact ⟨by rw [← HE.out]; rfl, rfl⟩
theorem inward_any (m k : Int) (w : World) : Calls Tryz.prog 175 #[.int .u64 m, .int .i64 k] w fun e w' => e = .returned (.bool false) ∧ w = w' := by
  go_enter Tryz.func175, Tryz.ntmps175; go_wp2; go_ret; exact ⟨rfl, rfl⟩
theorem outward_any (m k : Int) (w : World) : Calls Tryz.prog 173 #[.int .u64 m, .int .i64 k] w fun e w' => e = .returned (.bool (k != 0)) ∧ w = w' := by
  go_enter Tryz.func173, Tryz.ntmps173; go_wp2; go_ret; exact ⟨rfl, rfl⟩
/-- which of the three -/
theorem fnK_cases {neg : Bool} {mode : Int} (h0 : 0 ≤ mode) (h1 : mode ≤ 4) : (fnK neg mode = 174 ∧ mode = 0 ∧ stK neg mode = false) ∨ (fnK neg mode = 175 ∧ stK neg mode = true ∧ ∀ m k, onK neg mode m k = false) ∨ (fnK neg mode = 173 ∧ stK neg mode = false ∧ ∀ m k, onK neg mode m k = (k != 0)) := by
  rcases mode_cases h0 h1 with rfl | rfl | rfl | rfl | rfl <;> cases neg
  · left; exact ⟨rfl, rfl, rfl⟩
  · left; exact ⟨rfl, rfl, rfl⟩
  · right; left; exact ⟨rfl, rfl, fun _ _ => rfl⟩
  · right; left; exact ⟨rfl, rfl, fun _ _ => rfl⟩
  · right; right; refine ⟨rfl, rfl, fun _ k => ?_⟩; simp [onK]; rw [Bool.eq_iff_iff]; simp
  · right; right; refine ⟨rfl, rfl, fun _ k => ?_⟩; simp [onK]; rw [Bool.eq_iff_iff]; simp
  · right; right; refine ⟨rfl, rfl, fun _ k => ?_⟩; simp [onK]; rw [Bool.eq_iff_iff]; simp
  · right; left; exact ⟨rfl, rfl, fun _ _ => rfl⟩
  · right; left; exact ⟨rfl, rfl, fun _ _ => rfl⟩
  · right; right; refine ⟨rfl, rfl, fun _ k => ?_⟩; simp [onK]; rw [Bool.eq_iff_iff]; simp
end Go.Proofs.YtceecgklgkiffabGreatDoor
