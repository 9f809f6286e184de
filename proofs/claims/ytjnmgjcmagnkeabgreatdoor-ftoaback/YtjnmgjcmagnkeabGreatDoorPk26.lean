import Derived.Below
import Derived.BigQuiet
import Derived.ChangeOld
import Derived.Deep.CutRange
import Derived.Deep.DeepCutAuto
import Derived.Deep.LoopGhost
import Derived.Deep.QuietTactic
import Derived.Deep.RegionHeld3
import Derived.Deep.RegionWith
import Derived.Deep.WholeRow
import Derived.KernelRfl
import Derived.Laws.BitsAllLaws
import Derived.Laws.CopyRow
import Derived.Laws.EntriesVeiled
import Derived.Laws.Externs
import Derived.Laws.IdiomCopy
import Derived.Laws.IdiomRangeMap
import Derived.Laws.RangeString
import Derived.Laws.ResultCell
import Derived.Laws.Runes
import Derived.Laws.Strings3
import Derived.Lib.AsciiSet
import Derived.Lib.AtoiErrMem
import Derived.Lib.BufferRead
import Derived.Lib.Bytealg
import Derived.Lib.ConvBytes
import Derived.Lib.IndexBytes
import Derived.Lib.Strings
import Derived.Lib.TrimByte
import Derived.Lib.Walk
import Derived.OpenShut
import Derived.OwnWalk
import Derived.ProofKit
import Derived.Shelf.Strconv.Clone
import Derived.Shelf.Strings.OnBuilder
import Derived.ShutString
import Derived.WalkKit
import Derived.WalkLawsBesides
import Derived.WalkSpells
import Derived.Test.YtjnmgjcmagnkeabGreatDoorPk1
import Derived.Test.YtjnmgjcmagnkeabGreatDoorPk20
import Derived.Test.YtjnmgjcmagnkeabGreatDoorPk21
import Derived.Test.YtjnmgjcmagnkeabGreatDoorPk25
/- plumblaw09: a piece is made, and what it says. -/
namespace Go.Proofs.YtjnmgjcmagnkeabGreatDoor
open Go.ChangeShapes Go.WideShapes Go.ChangeAt Go.RowKit
open Lx
set_option linter.unusedVariables false
namespace Lx
/-- this text says this, whatever that can't go on stands behind it -/
def Reads (S : B) (N : Nm) : Prop := ∀ R : B, Stops R → (longestL (S ++ R)).kind ≠ 0 ∧ (longestL (S ++ R)).stop = S.length ∧ numOf (longestL (S ++ R)) = N
end Lx
end Go.Proofs.YtjnmgjcmagnkeabGreatDoor

/- plumblaw09: what is written is read (alone, and at its place), and is right. -/
namespace Go.Proofs.YtjnmgjcmagnkeabGreatDoor
open Go.ChangeShapes Go.WideShapes Go.ChangeAt Go.RowKit
open Lx
set_option linter.unusedVariables false
theorem parse_said9 {S : B} {p : Pc} (hl : S.length ≤ 60000) (hp : scanP S 0 = p) (hk : p.kind ≠ 0) (hst : p.stop = S.length) (w : World) :
    Calls Tryz.prog 19 #[.string (str S)] w fun r w' => r = .returned (.tuple #[.agg (nmA (Lx.numOf p)), .nilIface]) ∧ Below w.heap.size w w' := by
  refine (parse9_any (str S) (by rw [str_size]; unfold maxLen; omega) w).mono ?_
  rintro r w' ⟨⟨g, at_, c, rfl, _, _, _, hn⟩ | ⟨_, _, rfl⟩, hb⟩
  · exfalso
    rw [str_list, hp] at hn
    rcases hn with ⟨q, _⟩ | ⟨_, q, _⟩
    · exact hk q
    · rw [str_size] at q; omega
  · rw [str_list, hp]
    exact ⟨rfl, hb⟩
theorem parse_reads {S : B} {N : Nm} (h : Reads S N) (hl : S.length ≤ 60000) (w : World) :
    Calls Tryz.prog 19 #[.string (str S)] w fun r w' => r = .returned (.tuple #[.agg (nmA N), .nilIface]) ∧ Below w.heap.size w w' := by
  obtain ⟨k1, k2, k3⟩ := h [] Stops.nil
  rw [List.append_nil] at k1 k2 k3
  have := parse_said9 hl (p := longestL S) (by unfold scanP; rw [List.drop_zero, List.take_of_length_le (by omega)]) k1 k2 w
  rw [k3] at this
  exact this
theorem scan_good {A S R : B} {N : Nm} (h : Reads S N) (hR : Stops R) (hl : A.length + S.length + R.length ≤ 60000) (w : World) :
    Calls Tryz.prog 24 #[.string (str (A ++ (S ++ R))), .int .i64 (A.length : Int)] w fun r w' => r = .returned (.tuple #[.agg (nmA N), .int .i64 ((A.length : Int) + (S.length : Int)), .nilIface]) ∧ Below w.heap.size w w' := by
  obtain ⟨k1, k2, k3⟩ := h R hR
  have hsc : scanP (str (A ++ (S ++ R))).data.toList A.length = longestL (S ++ R) := by
    unfold scanP
    rw [str_list, List.drop_left, List.take_of_length_le (by rw [List.length_append]; omega)]
  refine (scan_in (str (A ++ (S ++ R))) (by rw [str_size, List.length_append, List.length_append]; unfold maxLen; omega) A.length (by rw [str_size, List.length_append]; omega) w).mono ?_
  have e0 : ((A.length : Int)).toNat = A.length := by omega
  rintro r w' ⟨⟨g, rfl, _, _, _, hn⟩ | ⟨_, _, _, rfl⟩, hb⟩
  · exfalso
    rw [e0, hsc] at hn
    rcases hn with q | q | q
    · omega
    · rw [str_size, List.length_append] at q; omega
    · exact k1 q
  · rw [e0, hsc, k3, k2]
    exact ⟨rfl, hb⟩
namespace Lx
end Lx
end Go.Proofs.YtjnmgjcmagnkeabGreatDoor

