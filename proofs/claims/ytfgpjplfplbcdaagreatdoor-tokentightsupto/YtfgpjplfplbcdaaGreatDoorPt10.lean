import Derived.Below
import Derived.BigQuiet
import Derived.Deep.LoopGhost
import Derived.Deep.QuietTactic
import Derived.Deep.RegionWith
import Derived.Deep.WholeRow
import Derived.KernelRfl
import Derived.Laws.EntriesVeiled
import Derived.Laws.Externs
import Derived.Laws.RangeString
import Derived.Laws.ResultCell
import Derived.Laws.Runes
import Derived.Laws.Strings3
import Derived.Lib.AsciiSet
import Derived.Lib.Bytealg
import Derived.Lib.IndexBytes
import Derived.Lib.Strings
import Derived.Lib.TrimByte
import Derived.Lib.Walk
import Derived.OpenShut
import Derived.ProofKit
import Derived.Shelf.Strconv.Clone
import Derived.Shelf.Strings.OnBuilder
import Derived.ShutString
import Derived.WalkKit
import Derived.WalkLawsBesides
import Derived.WalkSpells
import Derived.Test.YtfgpjplfplbcdaaGreatDoorPt2
import Derived.Test.YtfgpjplfplbcdaaGreatDoorPt9
/- Layer 9: lex.strip. -/
namespace Go.Proofs.YtfgpjplfplbcdaaGreatDoor
open Go.ChangeShapes Go.WideShapes Go.ChangeAt Go.RowKit
open Lx
set_option linter.unusedVariables false
namespace Lx
theorem low_eq (l : B) : Lib.toLowerA l = l.map lowB := by
  unfold Lib.toLowerA
  apply List.map_congr_left
  intro b _
  have h := List.all_eq_true.mp (show (List.range 256).all (fun n => Lib.lowerB (UInt8.ofNat n) == lowB (UInt8.ofNat n)) = true from by kernel_rfl) b.toNat (List.mem_range.mpr (UInt8.toNat_lt b))
  rw [UInt8.ofNat_toNat] at h
  exact eq_of_beq h
theorem ascii_H {l : B} (h : l.all isH = true) : ∀ (j : Nat) (b : UInt8), l[j]? = some b → b.toNat < 128 := by
  intro j b hb
  have := List.all_eq_true.mp h b (List.mem_of_getElem? hb)
  unfold isH isD at this
  simp only [Bool.or_eq_true, Bool.and_eq_true, decide_eq_true_eq] at this
  omega
end Lx
theorem toLower_any (s : ByteArray) (h : s.data.toList.all isH = true) (hs : s.size ≤ 200000) (w : World) :
    Calls Tryz.prog 128 #[.string s] w fun e w' => e = .returned (.string (str (s.data.toList.map lowB))) ∧ Below w.heap.size w w' := by
  have := Any.strings_ToLower_ascii lays159 layBuilderExtra s w (by omega) (ascii_H h)
  rw [low_eq] at this
  exact this
theorem clone_any (s : ByteArray) (hs : s.size ≤ 200000) (w : World) :
    Calls Tryz.prog 88 #[.string s] w fun e w' => e = .returned (.string s) ∧ Below w.heap.size w w' := by
  have c : ∀ w, Calls Tryz.prog 108 #[.string s] w fun e w' => e = .returned (.string s) ∧ Below w.heap.size w w' := fun w => Any.stringslite_Clone lays316m s w (by omega)
  go_enter Tryz.func88, Tryz.ntmps88
  go_wp2_with (go_at_call 108; refine (c _).mono ?_; rintro e w' ⟨rfl, hb⟩)
  go_ret
  exact ⟨rfl, hb⟩
theorem strip_any (s : ByteArray) (h : s.data.toList.all isH = true) (hs : s.size ≤ 200000) (w : World) :
    Calls Tryz.prog 113 #[.string s] w fun e w' => e = .returned (.string (str (strip s.data.toList))) ∧ Below w.heap.size w w' := by
  have l1 : (trimL [48] s.data.toList).length ≤ s.size := by
    have := (List.dropWhile_suffix (l := s.data.toList) (fun b => ([48] : B).contains b)).length_le
    rw [← Lib.size_eq] at this
    exact this
  have c2 := fun w => toLower_any (str (trimL [48] s.data.toList)) (by rw [str_list]; exact all_dk h) (by rw [str_size]; omega) w
  rw [str_list] at c2
  have c3 := fun w => clone_any (str ((trimL [48] s.data.toList).map lowB)) (by rw [str_size, List.length_map]; omega) w
  have e : strip s.data.toList = (trimL [48] s.data.toList).map lowB := rfl
  rw [e]
  clear e
  go_enter Tryz.func113, Tryz.ntmps113
  go_wp2_with fail
  refine (trimLeft_zero _ _).mono ?_
  rintro e w1 ⟨rfl, rfl⟩
  go_wp2_with fail
  refine (c2 _).mono ?_
  rintro e w2 ⟨rfl, hb2⟩
  go_wp2_with fail
  refine (c3 _).mono ?_
  rintro e w3 ⟨rfl, hb3⟩
  go_wp2
  go_ret
  exact ⟨rfl, hb2.trans (hb3.mono hb2.size)⟩
end Go.Proofs.YtfgpjplfplbcdaaGreatDoor

