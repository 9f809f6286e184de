import Derived.Lib.Builder
import Derived.Lib.AppendIntMem
import Derived.Below
import Derived.BigQuiet
import Derived.Deep.CutRange
import Derived.Deep.LoopGhost
import Derived.Deep.QuietTactic
import Derived.Deep.RegionHeld3
import Derived.Deep.RegionWith
import Derived.Deep.WholeRow
import Derived.KernelRfl
import Derived.Laws.EntriesVeiled
import Derived.Laws.Externs
import Derived.Laws.RangeString
import Derived.Laws.ResultCell
import Derived.Laws.Runes
import Derived.Laws.Strings3
import Derived.Lib.AsciiSet
import Derived.Lib.Bytealg
import Derived.Lib.IndexBytes
import Derived.Lib.Strings
import Derived.Lib.TrimByte
import Derived.Lib.Walk
import Derived.OpenShut
import Derived.ProofKit
import Derived.Shelf.Strconv.Clone
import Derived.Shelf.Strconv.Itoa3
import Derived.Shelf.Strings.OnBuilder
import Derived.ShutString
import Derived.WalkKit
import Derived.WalkLawsBesides
import Derived.WalkSpells
import Derived.Test.YtfgpjplfplbcdaaGreatDoorPt3
import Derived.Test.YtfgpjplfplbcdaaGreatDoorPt11
/- Layer 9: lex.Text. -/
namespace Go.Proofs.YtfgpjplfplbcdaaGreatDoor
open Go.ChangeShapes Go.WideShapes Go.ChangeAt Go.RowKit
open Lx Go.Shelf
set_option linter.unusedVariables false
namespace Lx
def ozL (l : B) : B := if l = [] then [48] else l
/-- one way to write a numeral -/
def txL (k : Int) (ng : Bool) (num : B) (e : Int) (den : B) : B :=
  (if ng = true then [45] else []) ++ ((if k = 2 then [48, 120] else []) ++ (ozL num ++ (if k = 3 then 47 :: ozL den else if k = 2 then 112 :: Lib.itoa e else if e ≠ 0 then 101 :: Lib.itoa e else [])))
theorem cat_str9b (a b : B) : str a ++ str b = str (a ++ b) := by apply ByteArray.ext; simp [str]
abbrev PowTab (w : World) : Prop := Lib.TabIs Tryz.prog w "internal/strconv.uint64pow10" .u64 Lib.pow10Tab
end Lx
theorem orZero9_any (s : ByteArray) (w : World) :
    Calls Tryz.prog 35 #[.string s] w fun r w' => r = .returned (.string (str (ozL s.data.toList))) ∧ w' = w := by
  unfold ozL
  by_cases h : s.data.toList = []
  · have hs : s = ByteArray.mk #[] := by rw [← str_of s, h]; rfl
    subst hs
    go_enter Tryz.func35, Tryz.ntmps35
    go_wp2
    go_ret
    exact ⟨rfl, rfl⟩
  · rw [if_neg h, str_of]
    have hE : s.toList.isEmpty = false := by rw [Lib.toList_data]; exact isEmpty_ne h
    clear h
    go_enter Tryz.func35, Tryz.ntmps35
    go_wp2
    go_ret
    exact ⟨rfl, rfl⟩
theorem bWrite9 (b : Nat) (l : B) (s : ByteArray) (w : World) (h : Lib.IsBuilder 65 5 b b (Lib.byteCells l) w) (hl : l.length ≤ 1000000) (hs : s.size ≤ 1000000) :
    Calls Tryz.prog 29 #[.pointer (some ⟨b, 0, none⟩), .string s] w fun r w' => r = .returned (.tuple #[.int .i64 s.size, .nilIface]) ∧ Lib.IsBuilder 65 5 b b (Lib.byteCells (l ++ s.data.toList)) w' ∧ Below b w w' := by
  have hlt : b < w.heap.size := by rcases h with h | h <;> exact h.lt
  have := Any.Builder_WriteString lays166 layBuilderExtra2 b b (Lib.byteCells l) s w h (by rw [Lib.byteCells_length]; omega) (by omega)
  refine this.mono ?_
  rintro r w' ⟨rfl, h1, h2⟩
  refine ⟨rfl, Or.inr ?_, h2⟩
  have e : Lib.byteCells (l ++ s.data.toList) = Lib.byteCells l ++ Lib.strCells s := by unfold Lib.byteCells Lib.strCells; rw [List.map_append]
  rw [e]
  exact h1
theorem bString9 (b : Nat) (l : B) (w : World) (h : Lib.IsBuilder 65 5 b b (Lib.byteCells l) w) :
    Calls Tryz.prog 30 #[.pointer (some ⟨b, 0, none⟩)] w fun r w' => r = .returned (.string (str l)) ∧ Below b w w' := by
  have hlt : b < w.heap.size := by rcases h with h | h <;> exact h.lt
  exact Any.Builder_String_any lays169 layBuilderExtra2 b b l w h (by omega)
theorem itoa9 {n : Int} (h0 : -1073741824 ≤ n) (h1 : n ≤ 1073741824) (w : World) (hT : PowTab w) :
    Calls Tryz.prog 36 #[.int .i64 n] w fun r w' => r = .returned (.string (str (Lib.itoa n))) ∧ Below w.heap.size w w' := by
  refine (Any.strconv_Itoa lays171m n (by omega) (by omega) w hT).mono ?_
  rintro r w' ⟨rfl, k, os, rfl⟩
  exact ⟨rfl, Go.Lib.below_grow _ w (Nat.le_refl _) k os⟩
end Go.Proofs.YtfgpjplfplbcdaaGreatDoor

