import Derived.Below
import Derived.BigQuiet
import Derived.ChangeOld
import Derived.Deep.CutRange
import Derived.Deep.DeepCutAuto
import Derived.Deep.LoopGhost
import Derived.Deep.QuietTactic
import Derived.Deep.RegionHeld3
import Derived.Deep.RegionWith
import Derived.Deep.WholeRow
import Derived.KernelRfl
import Derived.Laws.BitsAllLaws
import Derived.Laws.CopyRow
import Derived.Laws.EntriesVeiled
import Derived.Laws.Externs
import Derived.Laws.IdiomCopy
import Derived.Laws.IdiomRangeMap
import Derived.Laws.IdiomStrings
import Derived.Laws.RangeAny
import Derived.Laws.RangeString
import Derived.Laws.ResultCell
import Derived.Laws.Runes
import Derived.Laws.Strings3
import Derived.Lib.AsciiSet
import Derived.Lib.AtoiErrMem
import Derived.Lib.Bytealg
import Derived.Lib.ConvBytes
import Derived.Lib.IndexBytes
import Derived.Lib.OthersKept
import Derived.Lib.Strings
import Derived.Lib.TrimByte
import Derived.Lib.Walk
import Derived.OpenShut
import Derived.OwnWalk
import Derived.ProofKit
import Derived.Scope
import Derived.Shelf.Strconv.Clone
import Derived.Shelf.Strings.OnBuilder
import Derived.ShutString
import Derived.WalkKit
import Derived.WalkLawsBesides
import Derived.WalkMore
import Derived.WalkSpells
import Derived.Test.YtiicphkpmdidaaaGreatDoorLvj1
import Derived.Test.YtiicphkpmdidaaaGreatDoorLvj3
import Derived.Test.YtiicphkpmdidaaaGreatDoorLvj9
import Derived.Test.YtiicphkpmdidaaaGreatDoorLvj23
/- package atof: shortened. -/
namespace Go.Proofs.YtiicphkpmdidaaaGreatDoor
open Go.ChangeShapes Go.WideShapes Go.ChangeAt Go.RowKit
open Na Ar Lx
set_option linter.unusedVariables false
theorem Bk.drew {w : World} {g : Nat} {t : TypeId} {vs : Array Value} (h : Bk w g t vs) : Bk w.drew g t vs := h
end Go.Proofs.YtiicphkpmdidaaaGreatDoor

/- package atof: refused, pattern, Bits, Slow. -/
namespace Go.Proofs.YtiicphkpmdidaaaGreatDoor
open Go.ChangeShapes Go.WideShapes Go.ChangeAt Go.RowKit
open Na Ar Lx
set_option linter.unusedVariables false
/-- why a numeral has no number -/
def refE (k : Int) (num : B) (e : Int) (den : B) : Int := if rightB k num e den = true then (if k = 3 ∧ den = [] then 50 else 0) else 110
end Go.Proofs.YtiicphkpmdidaaaGreatDoor

/- package atof: Bits, Slow. -/
namespace Go.Proofs.YtiicphkpmdidaaaGreatDoor
open Go.ChangeShapes Go.WideShapes Go.ChangeAt Go.RowKit
open Na Ar Lx
set_option linter.unusedVariables false
namespace Lx
set_option maxRecDepth 100000 in
theorem smal_fin : ∀ b : Fin 256, smal9.contains (UInt8.ofNat b.val) = true → valN ((UInt8.ofNat b.val).toNat : Int) < 16 := by decide
theorem smal_val {c : UInt8} (h : smal9.contains c = true) : valN (c.toNat : Int) < 16 := by
  have := smal_fin ⟨c.toNat, c.toNat_lt⟩
  simp only [UInt8.ofNat_toNat] at this
  exact this h
set_option maxRecDepth 100000 in
theorem digs_fin : ∀ b : Fin 256, digs9.contains (UInt8.ofNat b.val) = true → isD (UInt8.ofNat b.val) = true := by decide
theorem digs_isD {c : UInt8} (h : digs9.contains c = true) : isD c = true := by
  have := digs_fin ⟨c.toNat, c.toNat_lt⟩
  simp only [UInt8.ofNat_toNat] at this
  exact this h
theorem lead_of {l : B} (h : fst [48] l = false) (hn : l ≠ []) : lead l := by
  cases l with
  | nil => exact absurd rfl hn
  | cons c r =>
    refine ⟨c, r, rfl, fun hc => ?_⟩
    subst hc
    simp [fst] at h
theorem kept_dec {l : B} (h : keptB digs9 l = true) (hn : l ≠ []) : l.length ≤ 65536 ∧ lead l ∧ (∀ c ∈ l, isD c = true) ∧ 0 < l.length := by
  unfold keptB at h
  simp only [Bool.and_eq_true, decide_eq_true_eq, Bool.not_eq_true', List.all_eq_true] at h
  exact ⟨h.1, lead_of h.2.1 hn, fun c hc => digs_isD (h.2.2 c hc), List.length_pos_iff.mpr hn⟩
theorem kept_hex {l : B} (h : keptB smal9 l = true) (hn : l ≠ []) : l.length ≤ 65536 ∧ lead l ∧ okB 16 l ∧ 0 < l.length := by
  unfold keptB at h
  simp only [Bool.and_eq_true, decide_eq_true_eq, Bool.not_eq_true', List.all_eq_true] at h
  exact ⟨h.1, lead_of h.2.1 hn, fun c hc => smal_val (h.2.2 c hc), List.length_pos_iff.mpr hn⟩
/-- the three kinds of right numerals -/
theorem right_kinds {k e : Int} {num den : B} (h : rightB k num e den = true) :
    (k = 1 ∧ keptB digs9 num = true ∧ den = [] ∧ withB e = true) ∨ (k = 2 ∧ keptB smal9 num = true ∧ den = [] ∧ withB e = true) ∨ (k = 3 ∧ keptB digs9 num = true ∧ keptB digs9 den = true ∧ e = 0) := by
  unfold rightB at h
  by_cases h1 : k = 1
  · rw [if_pos h1] at h
    simp only [Bool.and_eq_true, List.isEmpty_iff] at h
    exact Or.inl ⟨h1, h.1, h.2.1, h.2.2⟩
  · rw [if_neg h1] at h
    by_cases h2 : k = 2
    · rw [if_pos h2] at h
      simp only [Bool.and_eq_true, List.isEmpty_iff] at h
      exact Or.inr (Or.inl ⟨h2, h.1, h.2.1, h.2.2⟩)
    · rw [if_neg h2] at h
      by_cases h3 : k = 3
      · rw [if_pos h3] at h
        simp only [Bool.and_eq_true, decide_eq_true_eq] at h
        exact Or.inr (Or.inr ⟨h3, h.1, h.2.1, h.2.2⟩)
      · rw [if_neg h3] at h
        cases h
end Lx
theorem refE_right {k e : Int} {num den : B} (h : refE k num e den = 0) : rightB k num e den = true ∧ ¬ (k = 3 ∧ den = []) := by
  unfold refE at h
  cases hr : rightB k num e den
  · rw [hr, if_neg (by decide)] at h; exact absurd h (by decide)
  · rw [hr, if_pos rfl] at h
    refine ⟨rfl, fun q => ?_⟩
    rw [if_pos q] at h
    exact absurd h (by decide)
theorem val_pos_den {den : B} (h : keptB digs9 den = true) (hn : den ≠ []) : 0 < nv 10 den := by
  have := (kept_dec h hn).2.1.ge (b := 10) (by omega)
  have p : (0 : Int) < 10 ^ (den.length - 1) := Int.pow_pos (by omega)
  omega
end Go.Proofs.YtiicphkpmdidaaaGreatDoor

