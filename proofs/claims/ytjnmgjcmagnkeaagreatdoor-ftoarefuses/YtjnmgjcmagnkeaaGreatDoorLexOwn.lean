/- Layer 9: a text put together byte by byte; into. -/
import Derived.Test.YtjnmgjcmagnkeaaGreatDoorLexExp
import Derived.Test.YtjnmgjcmagnkeaaGreatDoorBaseA
import Derived.Lib.BufferRead
namespace Go.Proofs.YtjnmgjcmagnkeaaGreatDoor
open Go.ChangeShapes Go.WideShapes Go.ChangeAt Go.RowKit
open Lx
set_option linter.unusedVariables false
namespace Lx
/-- bytes as whole numbers -/
def intb (l : B) : List Int := l.map fun b => (b.toNat : Int)
theorem lowF_intb (x : UInt8) : ((lowF x).toNat : Int) = if 65 ≤ (x.toNat : Int) ∧ (x.toNat : Int) ≤ 70 then (x.toNat : Int) + 32 else (x.toNat : Int) := by
  unfold lowF
  by_cases h : 65 ≤ x.toNat ∧ x.toNat ≤ 70
  · rw [if_pos h, if_pos (by omega), UInt8.toNat_ofNat']
    omega
  · rw [if_neg h, if_neg (by omega)]
theorem intb_len (l : B) : (intb l).length = l.length := by unfold intb; rw [List.length_map]
end Lx
theorem info9_u8 : (Tryz.prog.info? 5).map (fun i => (i.zero, i.size, i.bytes)) = some (some (.int .u8 0), 1, 1) := by kernel_rfl
theorem conv9b {w : World} {base : Nat} {v : Value} {l : B} (h : Own .u8 w base 5 v (intb l)) :
    ∃ (a : Option Addr) (n c : Nat), v = .slice a n c ∧ (convert 45 9 (.slice a n c)).run Tryz.prog w = .ok (.string (str l)) w := by
  obtain ⟨oa, oc, rfl, hr⟩ := h.reads
  refine ⟨_, _, _, rfl, ?_⟩
  obtain ⟨_, _, hl, hr⟩ := hr
  rw [intb_len] at *
  by_cases hz : l = []
  · subst hz
    cases oa with
    | none =>
      have := Lib.run_convert_nil_bytes (P := Tryz.prog) w 45 9 5 oc Tryz.underlying45 Tryz.underlying5 Tryz.underlying9
      exact this
    | some a => exact run_convert_bytes_back (P := Tryz.prog) w 45 9 5 a oc [] Tryz.underlying45 Tryz.underlying5 Tryz.underlying9 (fun j hj => absurd hj (Nat.not_lt_zero _))
  · rcases hr with h0 | ⟨g, off, rfl, hg, hc⟩
    · exact absurd (List.length_eq_zero_iff.mp h0) hz
    · refine run_convert_bytes_back (P := Tryz.prog) w 45 9 5 ⟨g, off, none⟩ oc l Tryz.underlying45 Tryz.underlying5 Tryz.underlying9 (fun j hj => ?_)
      have ea : (⟨g, off, none⟩ : Addr).add j = ⟨g, off + j, none⟩ := by
        unfold Addr.add
        by_cases hi0 : j = 0
        · subst hi0; simp
        · simp [hi0]
      rw [ea, hc j hj]
      congr 2
      unfold intb
      rw [List.getD_eq_getElem?_getD, List.getElem?_map, List.getElem?_eq_getElem hj]
      rfl
end Go.Proofs.YtjnmgjcmagnkeaaGreatDoor
