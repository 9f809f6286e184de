import Derived.Below
import Derived.BigQuiet
import Derived.ChangeOld
import Derived.Deep.CutRange
import Derived.Deep.DeepCutAuto
import Derived.Deep.LoopGhost
import Derived.Deep.QuietTactic
import Derived.Deep.RegionHeld3
import Derived.Deep.RegionWith
import Derived.Deep.WholeRow
import Derived.KernelRfl
import Derived.Laws.BitsAllLaws
import Derived.Laws.CopyRow
import Derived.Laws.EntriesVeiled
import Derived.Laws.Externs
import Derived.Laws.IdiomCopy
import Derived.Laws.IdiomRangeMap
import Derived.Laws.IdiomStrings
import Derived.Laws.RangeAny
import Derived.Laws.RangeString
import Derived.Laws.ResultCell
import Derived.Laws.Runes
import Derived.Laws.Strings3
import Derived.Lib.AsciiSet
import Derived.Lib.Bytealg
import Derived.Lib.IndexBytes
import Derived.Lib.OthersKept
import Derived.Lib.Strings
import Derived.Lib.TrimByte
import Derived.Lib.Walk
import Derived.OpenShut
import Derived.OwnWalk
import Derived.ProofKit
import Derived.Scope
import Derived.Shelf.Strconv.Clone
import Derived.Shelf.Strings.OnBuilder
import Derived.ShutString
import Derived.WalkKit
import Derived.WalkLawsBesides
import Derived.WalkMore
import Derived.WalkSpells
import Derived.Test.YtiicphkpmdidaaaGreatDoorLvj5
import Derived.Test.YtiicphkpmdidaaaGreatDoorLvj6
import Derived.Test.YtiicphkpmdidaaaGreatDoorLvj7
import Derived.Test.YtiicphkpmdidaaaGreatDoorLvj16
import Derived.Test.YtiicphkpmdidaaaGreatDoorLvj17
import Derived.Test.YtiicphkpmdidaaaGreatDoorLvj19
/- package atof: number, decimal. -/
namespace Go.Proofs.YtiicphkpmdidaaaGreatDoor
open Go.ChangeShapes Go.WideShapes Go.ChangeAt Go.RowKit
open Na Ar Lx
set_option linter.unusedVariables false
namespace Lx
/-- the number that digits say, in a base -/
def nv (b : Int) (l : B) : Int := numB (str l) b l.length
theorem nv_of (b : Int) (s : ByteArray) : numB s b s.size = nv b s.data.toList := by unfold nv; rw [str_of, ← Lib.size_eq]
theorem str_app (l m : B) : str l ++ str m = str (l ++ m) := by
  rw [← str_of (str l ++ str m)]
  congr 1
theorem nv_app (b : Int) (l m : B) : nv b (l ++ m) = nv b l * b ^ m.length + nv b m := by
  have h := app_num (str l) (str m) b
  rw [str_app, nv_of, nv_of, nv_of, str_list, str_list, str_list, str_size] at h
  exact h
theorem dgt_str (l : B) {i : Nat} (h : i < l.length) : dgt (str l) i = valN ((l[i]'h).toNat : Int) := by
  unfold dgt
  rw [byte_list, str_list, List.getD_eq_getElem?_getD, List.getElem?_eq_getElem h]
  rfl
theorem nv_one (b : Int) (c : UInt8) : nv b [c] = valN (c.toNat : Int) := by
  have : nv b [c] = 0 * b + dgt (str [c]) 0 := rfl
  rw [this, dgt_str [c] (by simp)]
  simp
/-- all are digits of the base -/
def okB (b : Int) (l : B) : Prop := ∀ c ∈ l, valN (c.toNat : Int) < b
theorem okB.dgt {b : Int} {l : B} (h : okB b l) : ∀ i, i < l.length → dgt (str l) i < b := fun i hi => by
  rw [dgt_str l hi]; exact h _ (List.getElem_mem hi)
theorem nv_nonneg {b : Int} (hb : 0 ≤ b) (l : B) : 0 ≤ nv b l := numB_nonneg hb _
theorem nv_lt {b : Int} {l : B} (hb : 2 ≤ b) (h : okB b l) : nv b l < b ^ l.length := numB_lt hb h.dgt
theorem nv_ge {b : Int} {c : UInt8} {r : B} (hb : 2 ≤ b) (h : c ≠ 48) : b ^ r.length ≤ nv b (c :: r) := by
  refine numB_ge hb ?_ r.length
  refine dgt_pos ?_
  rw [byte_list, str_list]
  simpa using h
theorem okB_ten {l : B} (h : ∀ c ∈ l, isD c = true) : okB 10 l := fun c hc => by
  obtain ⟨b0, b1⟩ := isD_bd (h c hc)
  unfold valN
  rw [if_pos (by omega)]; omega
theorem pow_16 (n : Nat) : (16 : Int) ^ n = 2 ^ (4 * n) := by rw [Int.pow_mul]; rfl
theorem nv_words {b : Int} {l : B} (hb : b = 10 ∨ b = 16) (h : okB b l) (hl : l.length ≤ 65536) : (words (nv b l)).length ≤ 4096 := by
  have h1 := nv_lt (by omega) h
  have h2 : b ^ l.length ≤ (16 : Int) ^ l.length := by
    rcases hb with rfl | rfl
    · generalize l.length = n
      induction n with
      | zero => simp
      | succ n ih =>
        rw [Int.pow_succ, Int.pow_succ]
        exact Int.mul_le_mul ih (by omega) (by omega) (Int.pow_nonneg (by omega))
    · exact Int.le_refl _
  rw [pow_16] at h2
  exact bits_words (nv_nonneg (by omega) l) (Int.lt_of_lt_of_le h1 h2) (by omega)
end Lx
theorem nm_words {T : Int} (h0 : 0 ≤ T) (h : (words T).length ≤ 4000000) : Nm (words T) T := ⟨Dg_words T, num_words h0, h⟩
end Go.Proofs.YtiicphkpmdidaaaGreatDoor

/- package atof: shortened: the numbers. -/
namespace Go.Proofs.YtiicphkpmdidaaaGreatDoor
open Go.RowKit
open Na Ar Lx
set_option linter.unusedVariables false
namespace Lx
/-- is there nothing but zeros? -/
def zeros (l : B) : Bool := (trimL [48] (trimR [48] l)).isEmpty
theorem okB.take {b : Int} {l : B} (h : okB b l) (n : Nat) : okB b (l.take n) := fun c hc => h c (List.mem_of_mem_take hc)
theorem okB.drop {b : Int} {l : B} (h : okB b l) (n : Nat) : okB b (l.drop n) := fun c hc => h c (List.mem_of_mem_drop hc)
/-- first is no zero -/
def lead (l : B) : Prop := ∃ c r, l = c :: r ∧ c ≠ 48
theorem lead.ge {b : Int} {l : B} (hb : 2 ≤ b) (h : lead l) : b ^ (l.length - 1) ≤ nv b l := by
  obtain ⟨c, r, rfl, hc⟩ := h
  exact nv_ge hb hc
theorem lead.take {l : B} (h : lead l) {n : Nat} (hn : 0 < n) : lead (l.take n) := by
  obtain ⟨c, r, rfl, hc⟩ := h
  obtain ⟨m, rfl⟩ : ∃ m, n = m + 1 := ⟨n - 1, by omega⟩
  exact ⟨c, r.take m, rfl, hc⟩
theorem lead.pos {l : B} (h : lead l) : 0 < l.length := by obtain ⟨c, r, rfl, _⟩ := h; simp
end Lx
/-! ### what the quick roads tell of the numeral -/
end Go.Proofs.YtiicphkpmdidaaaGreatDoor

