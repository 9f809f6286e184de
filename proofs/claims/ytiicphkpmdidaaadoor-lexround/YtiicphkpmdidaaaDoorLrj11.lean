import Derived.Lib.BufferRead
import Derived.Below
import Derived.BigQuiet
import Derived.ChangeOld
import Derived.Deep.LoopGhost
import Derived.Deep.QuietTactic
import Derived.Deep.RegionWith
import Derived.Deep.WholeRow
import Derived.KernelRfl
import Derived.Laws.BitsAllLaws
import Derived.Laws.EntriesVeiled
import Derived.Laws.Externs
import Derived.Laws.RangeString
import Derived.Laws.ResultCell
import Derived.Laws.Runes
import Derived.Laws.Strings3
import Derived.Lib.AsciiSet
import Derived.Lib.Bytealg
import Derived.Lib.IndexBytes
import Derived.Lib.Strings
import Derived.Lib.TrimByte
import Derived.Lib.Walk
import Derived.OpenShut
import Derived.OwnWalk
import Derived.ProofKit
import Derived.ShutString
import Derived.WalkKit
import Derived.WalkLawsBesides
import Derived.WalkSpells
import Derived.Test.YtiicphkpmdidaaaDoorLrj4
import Derived.Test.YtiicphkpmdidaaaDoorLrj8
/- Layer 9: a text put together byte by byte; into. -/
namespace Go.Proofs.YtiicphkpmdidaaaDoor
open Go.ChangeShapes Go.WideShapes Go.ChangeAt Go.RowKit
open Lx
set_option linter.unusedVariables false
namespace Lx
/-- bytes as whole numbers -/
def intb (l : B) : List Int := l.map fun b => (b.toNat : Int)
theorem lowF_intb (x : UInt8) : ((lowF x).toNat : Int) = if 65 ≤ (x.toNat : Int) ∧ (x.toNat : Int) ≤ 70 then (x.toNat : Int) + 32 else (x.toNat : Int) := by
  unfold lowF
  by_cases h : 65 ≤ x.toNat ∧ x.toNat ≤ 70
  · rw [if_pos h, if_pos (by omega), UInt8.toNat_ofNat']
    omega
  · rw [if_neg h, if_neg (by omega)]
theorem intb_len (l : B) : (intb l).length = l.length := by unfold intb; rw [List.length_map]
end Lx
theorem info9_u8 : (Tryd.prog.info? 5).map (fun i => (i.zero, i.size, i.bytes)) = some (some (.int .u8 0), 1, 1) := by kernel_rfl
theorem conv9b {w : World} {base : Nat} {v : Value} {l : B} (h : Own .u8 w base 5 v (intb l)) :
    ∃ (a : Option Addr) (n c : Nat), v = .slice a n c ∧ (convert 45 9 (.slice a n c)).run Tryd.prog w = .ok (.string (str l)) w := by
  obtain ⟨oa, oc, rfl, hr⟩ := h.reads
  refine ⟨_, _, _, rfl, ?_⟩
  obtain ⟨_, _, hl, hr⟩ := hr
  rw [intb_len] at *
  by_cases hz : l = []
  · subst hz
    cases oa with
    | none =>
      have := Lib.run_convert_nil_bytes (P := Tryd.prog) w 45 9 5 oc Tryd.underlying45 Tryd.underlying5 Tryd.underlying9
      exact this
    | some a => exact run_convert_bytes_back (P := Tryd.prog) w 45 9 5 a oc [] Tryd.underlying45 Tryd.underlying5 Tryd.underlying9 (fun j hj => absurd hj (Nat.not_lt_zero _))
  · rcases hr with h0 | ⟨g, off, rfl, hg, hc⟩
    · exact absurd (List.length_eq_zero_iff.mp h0) hz
    · refine run_convert_bytes_back (P := Tryd.prog) w 45 9 5 ⟨g, off, none⟩ oc l Tryd.underlying45 Tryd.underlying5 Tryd.underlying9 (fun j hj => ?_)
      have ea : (⟨g, off, none⟩ : Addr).add j = ⟨g, off + j, none⟩ := by
        unfold Addr.add
        by_cases hi0 : j = 0
        · subst hi0; simp
        · simp [hi0]
      rw [ea, hc j hj]
      congr 2
      unfold intb
      rw [List.getD_eq_getElem?_getD, List.getElem?_map, List.getElem?_eq_getElem hj]
      rfl
theorem into9b_any {n top : Int} (h0 : 0 < top) (h1 : top ≤ 1000000) (w : World) :
    Calls Tryd.prog 6 #[.int .i64 n, .int .i64 top] w fun e w' => e = .returned (.int .i64 (n % top)) ∧ w' = w := by
  have z : (top == 0) = false := by simp; omega
  have hne : ¬ top = -1 := by omega
  have hz0 : ¬ top = 0 := by omega
  have e1 : n.tmod top < top := Int.tmod_lt_of_pos n h0
  have e2 : -top < n.tmod top := Int.lt_tmod_of_pos n h0
  have hd := Int.emod_emod_of_dvd n (Int.dvd_refl top)
  have hm : n % top = if n.tmod top < 0 then n.tmod top + top else n.tmod top := by
    have q1 := Int.emod_nonneg n hz0
    have q2 := Int.emod_lt_of_pos n h0
    have hN : (top.natAbs : Int) = top := by omega
    rw [Int.tmod_eq_emod]
    split
    · split <;> omega
    · rw [hN]; split <;> omega
  rw [hm]
  clear hm hd
  generalize hq : n.tmod top = q at *
  by_cases h : q < 0
  · rw [if_pos h]
    have d : decide (q < 0) = true := by simp; omega
    go_enter Tryd.func6, Tryd.ntmps6
    go_wp2
    go_ret
    exact ⟨rfl, rfl⟩
  · rw [if_neg h]
    have d : decide (q < 0) = false := by simp; omega
    go_enter Tryd.func6, Tryd.ntmps6
    go_wp2
    go_ret
    exact ⟨rfl, rfl⟩
end Go.Proofs.YtiicphkpmdidaaaDoor

