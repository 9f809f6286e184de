import Derived.Laws.RangeString
import Derived.Laws.Runes
import Derived.Below
import Derived.BigQuiet
import Derived.Deep.LoopGhost
import Derived.Deep.QuietTactic
import Derived.Deep.RegionWith
import Derived.Deep.WholeRow
import Derived.KernelRfl
import Derived.Laws.EntriesVeiled
import Derived.Laws.Externs
import Derived.Laws.ResultCell
import Derived.Laws.Strings3
import Derived.Lib.AsciiSet
import Derived.Lib.Bytealg
import Derived.Lib.IndexBytes
import Derived.Lib.Strings
import Derived.Lib.TrimByte
import Derived.Lib.Walk
import Derived.OpenShut
import Derived.ProofKit
import Derived.ShutString
import Derived.WalkKit
import Derived.WalkLawsBesides
import Derived.WalkSpells
import Derived.Test.YtjeoiffloghonaaGreatDoorAbj13
/- Layer 9: strings.HasPrefix at one byte, lex.held, lex.exponent. -/
namespace Go.Proofs.YtjeoiffloghonaaGreatDoor
open Go.ChangeShapes Go.WideShapes Go.ChangeAt Go.RowKit
open Lx
set_option linter.unusedVariables false
set_option maxRecDepth 100000 in
theorem slPrefix_any (s : ByteArray) (c : UInt8) (w : World) :
    Calls Tryz.prog 146 #[.string s, .string ⟨#[c]⟩] w fun e w' => e = .returned (.bool (fst [c] s.data.toList)) ∧ w' = w := by
  by_cases h : 0 < s.size
  · have hl : (1 : Int) ≤ (s.size : Int) := by omega
    have e1 : (s.extract 0 1).toList = [s[0]'h] := by
      rw [Lib.toList_data, ext_str, str_list, List.drop_zero]
      have := drop_cons_of h
      rw [List.drop_zero] at this
      rw [this]; rfl
    have e2 : fst [c] s.data.toList = (s[0]'h == c) := by
      have := drop_cons_of h
      rw [List.drop_zero] at this
      rw [this, fst_cons, List.contains_cons]; simp only [List.contains_nil, Bool.or_false]
    have e3 : (ByteArray.mk #[c]).toList = [c] := by rw [Lib.toList_data]
    rw [e2]
    clear e2
    generalize s[0]'h = x at *
    cases hb : (x == c)
    · have e4 : ([x] == [c]) = false := by simpa using hb
      clear hb
      go_enter Tryz.func146, Tryz.ntmps146
      go_wp2
      go_ret
      exact ⟨rfl, rfl⟩
    · have e4 : ([x] == [c]) = true := by simpa using hb
      clear hb
      go_enter Tryz.func146, Tryz.ntmps146
      go_wp2
      go_ret
      exact ⟨rfl, rfl⟩
  · have hl : ¬ (1 : Int) ≤ (s.size : Int) := by omega
    have e2 : fst [c] s.data.toList = false := by
      rw [empty_of h]; rfl
    rw [e2]
    clear e2 h
    go_enter Tryz.func146, Tryz.ntmps146
    go_wp2
    go_ret
    exact ⟨rfl, rfl⟩
theorem prefix_any (s : ByteArray) (c : UInt8) (w : World) :
    Calls Tryz.prog 87 #[.string s, .string ⟨#[c]⟩] w fun e w' => e = .returned (.bool (fst [c] s.data.toList)) ∧ w' = w := by
  go_enter Tryz.func87, Tryz.ntmps87
  go_wp2_with (go_at_call 146; refine (slPrefix_any _ c _).mono ?_; rintro e w' ⟨rfl, rfl⟩)
  go_ret
  exact ⟨rfl, rfl⟩
namespace Lx
theorem held_max (x : Int) : max (-1073741824) (min x 1073741824) = heldI x := by
  unfold heldI
  split <;> split <;> omega
end Lx
set_option maxRecDepth 100000 in
theorem held9_any (x : Int) (w : World) :
    Calls Tryz.prog 89 #[.int .i64 x] w fun e w' => e = .returned (.int .i64 (heldI x)) ∧ w' = w := by
  rw [← held_max]
  go_enter Tryz.func89, Tryz.ntmps89
  go_wp2
  go_ret
  exact ⟨rfl, rfl⟩
end Go.Proofs.YtjeoiffloghonaaGreatDoor

