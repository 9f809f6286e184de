import Derived.Below
import Derived.BigQuiet
import Derived.ChangeOld
import Derived.Deep.DeepCutAuto
import Derived.Deep.DeepFit
import Derived.Deep.LoopGhost
import Derived.Deep.QuietTactic
import Derived.Deep.RegionHeld3
import Derived.Deep.RegionWith
import Derived.Defers
import Derived.KernelRfl
import Derived.Laws.BitsAllLaws
import Derived.Laws.CopyRow
import Derived.Laws.EntriesVeiled
import Derived.Laws.IdiomCopy
import Derived.Laws.IdiomRangeMap
import Derived.Laws.IdiomStrings
import Derived.Laws.RangeAny
import Derived.Laws.Strings3
import Derived.Lib.OthersKept
import Derived.Lib.Strings
import Derived.Lib.TrimByte
import Derived.Lib.Walk
import Derived.OpenShut
import Derived.Orders
import Derived.OwnWalk
import Derived.ProofKit
import Derived.Recover
import Derived.Scope
import Derived.ShutString
import Derived.WalkKit
import Derived.WalkLawsBesides
import Derived.WalkMore
import Derived.WalkSpells
import Derived.Test.YtceecgklgkiffabGreatDoorXb14
import Derived.Test.YtceecgklgkiffabGreatDoorXb17
/- package ryu: the ends of an interval, by numbers. -/
namespace Go.Proofs.YtceecgklgkiffabGreatDoor
open Go.ChangeShapes Go.WideShapes Go.ChangeAt Go.RowKit
open Na Ar Ry
set_option linter.unusedVariables false
namespace Ry
def hiN (s : Int) : Int := numW s + nxtN s
def lowR (s : Int) : Rat := mkR (decide (s = 0)) (if s = 0 then 1 else numW (s - 1) + numW s) (2 * e2 1074)
def highR (s : Int) : Rat := mkR false (numW s + nxtN s) (2 * e2 1074)
def prvP (s : Int) : Int := if s = 0 then 9223372036854775809 else s - 1
theorem prv_is {s : Int} (h0 : 0 ≤ s) (h1 : s ≤ mostP) : U (prvP s) ∧ ef (prvP s) ≠ 2047 ∧ prvP s ≠ mostP ∧ pvW s = prvP s ∧ midR (prvP s) = lowR s := by
  unfold prvP lowR
  by_cases z : s = 0
  · subst z
    have u : U 9223372036854775809 := by unfold U; omega
    have f : ef 9223372036854775809 ≠ 2047 := by decide
    rw [if_pos rfl, if_pos rfl]
    refine ⟨u, f, by decide, by decide, ?_⟩
    rw [mid_form u f]
    have e1 : mg (innB 9223372036854775809) = 0 := by decide
    rw [e1, num_zero', nxt_zero]
    rfl
  · rw [if_neg z, if_neg z]
    obtain ⟨u, f, m⟩ := size_fin (p := s - 1) (by omega) (by omega)
    have e0 : decide (s = 0) = false := by simpa using z
    unfold mostP at h1
    refine ⟨u, f, by unfold mostP; omega, ?_, ?_⟩
    · have hb : ef s ≠ 2047 := (size_fin (p := s) h0 h1).2.1
      have us : U s := by unfold U; omega
      have n1 : negW s = s + 9223372036854775808 := by unfold negW; rw [if_pos (by omega)]
      unfold pvW
      have n2 : nxE (negW s) = 0 := nxt_ok (by rw [ef_negW us]; exact hb) (by rw [n1]; unfold mostP; omega)
      rw [if_pos n2]
      have n3 : nxW (negW s) = s + 9223372036854775808 - 1 := by
        rw [n1]
        unfold nxW
        have : ef (s + 9223372036854775808) ≠ 2047 := by rw [← n1, ef_negW us]; exact hb
        rw [if_neg this, if_neg (by omega), if_neg (by omega), if_neg (by omega)]
      rw [n3]
      unfold negW
      rw [if_neg (by omega)]
      omega
    · rw [mid_form u f]
      have e1 : innB (s - 1) = s - 1 := by unfold innB; rw [if_neg (by omega)]
      have e2' : decide (9223372036854775808 < s - 1) = false := by simp; omega
      have e3 := num_succ (p := s - 1) (by omega) (by unfold mostP; omega)
      rw [show s - 1 + 1 = s by omega] at e3
      rw [e1, m, e2', e0, ← e3]
theorem mid_high {s : Int} (h0 : 0 ≤ s) (h1 : s < mostP) : midR s = highR s := by
  obtain ⟨u, f, m⟩ := size_fin (p := s) h0 (by omega)
  rw [mid_form u f]
  unfold mostP at h1
  have e1 : innB s = s := by unfold innB; rw [if_neg (by omega)]
  have e2' : decide (9223372036854775808 < s) = false := by simp; omega
  rw [e1, m, e2']
  rfl
theorem reach_most : numW mostP + (numW mostP - numW (mostP - 1)) = nxtN mostP := by
  have h := num_succ (p := mostP - 1) (by unfold mostP; omega) (by omega)
  rw [show mostP - 1 + 1 = mostP by omega] at h
  have s : stepN (mostP - 1) = stepN mostP := by decide
  unfold nxtN at h ⊢
  rw [s] at h
  omega
theorem far_gen {n0 n1 E : Int} (hE : 0 < E) : mkR false n1 E + (mkR false n1 E - mkR false (n0 + n1) (2 * E)) = mkR false (n1 + (n1 + (n1 - n0))) (2 * E) := by
  have p := rat_pos_ne hE
  rw [mkR_div false (show 0 < 2 * E by omega), mkR_div false hE, mkR_div false (show 0 < 2 * E by omega)]
  unfold sg
  simp only [Bool.false_eq_true, if_false, Rat.intCast_add, Rat.intCast_sub, Rat.intCast_mul]
  generalize ((E : Int) : Rat) = e at *
  generalize ((n0 : Int) : Rat) = a
  generalize ((n1 : Int) : Rat) = b
  grind
theorem most_high : valR mostP + (valR mostP - lowR mostP) = highR mostP := by
  rw [valR_low (by decide) (Int.le_refl _)]
  unfold lowR highR
  rw [if_neg (by decide), show decide (mostP = 0) = false by decide, far_gen (e2_pos _), reach_most]
theorem low_size {s : Int} (h0 : 0 ≤ s) (h1 : s ≤ mostP) : Sz (lowR s) 20 := by
  obtain ⟨u, f, _, _, e⟩ := prv_is h0 h1
  rw [← e]
  exact mid_size u f
end Ry
end Go.Proofs.YtceecgklgkiffabGreatDoor

