/- plumblaw22: within, sign, pattern, at, side, far. -/
import Derived.Test.YtbonkgmcpjaepaaGreatPwB

import Derived.Deep.QuietTactic
import Derived.BigQuiet
import Derived.Deep.RegionHeld3
namespace Go.Proofs.YtbonkgmcpjaepaaGreat
open Go.ChangeShapes Go.WideShapes Go.ChangeAt Go.RowKit
open Na Ar
set_option linter.unusedVariables false
/-- a whole number from -4095 to 4095 -/
def Wn (n : Int) : Int := n.tmod 4096
theorem wn_bd (n : Int) : -4095 ≤ Wn n ∧ Wn n ≤ 4095 := by
  unfold Wn
  have h1 := Int.tmod_lt_of_pos n (show (0 : Int) < 4096 by omega)
  have h2 := Int.lt_tmod_of_pos n (show (0 : Int) < 4096 by omega)
  omega
theorem within22_same (n : Int) (hn : -9223372036854775808 ≤ n ∧ n ≤ 9223372036854775807) (w : World) : Calls Tryz.prog 11 #[.int .i64 n] w fun e w' => e = .returned (.int .i64 (Wn n)) ∧ w = w' := by
  go_enter Tryz.func11, Tryz.ntmps11
  go_wp2
  go_ret
  exact ⟨rfl, rfl⟩
theorem sign22_same (v : Int) (w : World) : Calls Tryz.prog 10 #[.int .i64 v] w fun e w' => e = .returned (.int .i64 (sgI v)) ∧ w = w' := by
  rcases Int.lt_trichotomy v 0 with h | h | h
  · rw [sgI_ng h]
    go_enter Tryz.func10, Tryz.ntmps10
    go_wp2
    go_ret
    exact ⟨rfl, rfl⟩
  · subst h
    rw [sgI_zero]
    go_enter Tryz.func10, Tryz.ntmps10
    go_wp2
    go_ret
    exact ⟨rfl, rfl⟩
  · rw [sgI_pos h]
    have h2 : ¬ v < 0 := by omega
    go_enter Tryz.func10, Tryz.ntmps10
    go_wp2
    go_ret
    exact ⟨rfl, rfl⟩
/-- a pattern that bears v times two to the k -/
def PtV (v k b : Int) : Prop := U b ∧ ef b ≠ 2047 ∧ valR b = (v : Rat) * P2 k
set_option maxRecDepth 100000 in
theorem pattern22_any {v k : Int} (hv : -4095 ≤ v ∧ v ≤ 4095) (hk : -899 ≤ k ∧ k ≤ 899) (w : World) :
    Calls Tryz.prog 25 #[.int .i64 v, .int .i64 k] w fun e w' => ∃ b, e = .returned (.int .u64 b) ∧ PtV v k b ∧ Below w.heap.size w w' := by
  have hw := fun (b c : Int) (h : JoinIs (decide (v < 0)) (v.natAbs : Int) k b c) => (join_whole hv hk h).2
  by_cases h : v < 0
  · have hJ := fun (w : World) => f6Join_any (m := -v) true k (by unfold U; omega) w
    have e1 : (v.natAbs : Int) = -v := by omega
    rw [decide_eq_true h, e1] at hw
    have HW := HL.mk hw
    clear hw e1
    go_enter Tryz.func25, Tryz.ntmps25
    go_wp2_with fail
    refine (hJ w).mono ?_
    rintro e w1 ⟨b, c, rfl, hg, hj⟩
    clear hJ
    go_wp2
    go_ret
    exact ⟨b, rfl, HW.out b c hj, hg.2⟩
  · have hJ := fun (w : World) => f6Join_any (m := v) false k (by unfold U; omega) w
    have e1 : (v.natAbs : Int) = v := by omega
    rw [decide_eq_false h, e1] at hw
    have HW := HL.mk hw
    clear hw e1
    go_enter Tryz.func25, Tryz.ntmps25
    go_wp2_with fail
    refine (hJ w).mono ?_
    rintro e w1 ⟨b, c, rfl, hg, hj⟩
    clear hJ
    go_wp2
    go_ret
    exact ⟨b, rfl, HW.out b c hj, hg.2⟩
end Go.Proofs.YtbonkgmcpjaepaaGreat
