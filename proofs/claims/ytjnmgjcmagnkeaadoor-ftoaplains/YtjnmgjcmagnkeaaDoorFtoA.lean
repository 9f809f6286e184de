/- Layer 14: ftoa: zeros, exponent; strconv.FormatUint. -/
import Derived.Test.YtjnmgjcmagnkeaaDoorFtoHex
import Derived.Test.YtjnmgjcmagnkeaaDoorFtoRen
import Derived.Test.YtjnmgjcmagnkeaaDoorLexBase
import Derived.Test.YtjnmgjcmagnkeaaDoorRyuB
import Derived.Lib.AppendIntMem
import Derived.Lib.ItoaLen
import Derived.Deep.RegionHeld3
namespace Go.Proofs.YtjnmgjcmagnkeaaDoor
open Go.ChangeShapes Go.WideShapes Go.ChangeAt Go.RowKit
open Lx Go.Shelf
set_option linter.unusedVariables false
namespace Ft
abbrev PowTb (w : World) : Prop := Lib.TabIs Tryd.prog w "internal/strconv.uint64pow10" .u64 Lib.pow10Tab
theorem powTb_later {w w' : World} (h : PowTb w) (hb : Below w.heap.size w w') : PowTb w' := by
  cases hg : Tryd.prog.globalNamed "internal/strconv.uint64pow10" with
  | none =>
    unfold PowTb Lib.TabIs World.var? at h
    rw [hg] at h
    cases h
  | some g =>
    unfold PowTb Lib.TabIs World.var? at h ⊢
    rw [hg] at h ⊢
    simp only [Option.bind_some] at h ⊢
    have hlt : g < w.heap.size := by
      by_cases q : g < w.heap.size
      · exact q
      · rw [Array.getElem?_eq_none (Nat.le_of_not_lt q)] at h
        simp at h
    rw [hb.block g hlt]
    exact h
theorem rep_is (n : Nat) : Lib.repeatL [48] n = List.replicate n 48 := by
  induction n with
  | zero => rfl
  | succ n ih => rw [Lib.repeatL, ih, List.replicate_succ]; rfl
theorem catS (a b : B) : str a ++ str b = str (a ++ b) := by apply ByteArray.ext; simp [str]
/-- two texts, one behind the other, under a name -/
theorem catE (a b : ByteArray) : ∃ c : ByteArray, a ++ b = c ∧ c.size = a.size + b.size ∧ Hid (c.data.toList = a.data.toList ++ b.data.toList) := ⟨a ++ b, rfl, ByteArray.size_append, by show (a ++ b).data.toList = _; simp⟩
theorem str_eq {s : ByteArray} {l : B} (h : s.data.toList = l) : s = str l := by rw [← h, str_of]
theorem str_lit (l : B) : (ByteArray.mk l.toArray) = str l := rfl
end Ft
open Ft
theorem zeros14_any {n : Nat} (h : n ≤ 1000000) (w : World) :
    Calls Tryd.prog 19 #[.int .i64 (n : Int)] w fun e w' => e = .returned (.string (str (List.replicate n 48))) ∧ Below w.heap.size w w' := by
  have hR := fun w => Any.strings_Repeat lays3_105 layBuilderExtra3 (str [48]) n w (by omega) (by rw [str_size]; simp; omega)
  rw [str_list, rep_is] at hR
  go_enter Tryd.func19, Tryd.ntmps19
  go_wp2_with (go_at_call 25; refine (hR _).mono ?_; rintro e w' ⟨rfl, hb⟩)
  go_ret
  exact ⟨rfl, hb⟩
namespace Ft
theorem dd_len {n : Nat} (h : n < 18446744073709551616) : (Lib.decDigits n).length ≤ 20 := by
  rw [Lib.decDigits_length]
  by_cases h1 : 1 ≤ n
  · have := Lib.numDigits_eq n h1 h
    split at this <;> omega
  · have : n = 0 := by omega
    subst this
    rw [Lib.nDigits_small (by omega)]; omega
end Ft
end Go.Proofs.YtjnmgjcmagnkeaaDoor
