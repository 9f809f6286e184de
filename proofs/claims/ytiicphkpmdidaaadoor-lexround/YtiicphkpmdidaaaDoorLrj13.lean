import Derived.WalkKit
import Derived.ProofKit
import Derived.OpenShut
import Derived.ShutString
import Derived.ChangeOld
import Derived.Below
import Derived.BigQuiet
import Derived.Deep.CutRange
import Derived.Deep.LoopGhost
import Derived.Deep.QuietTactic
import Derived.Deep.RegionHeld3
import Derived.Deep.RegionWith
import Derived.Deep.WholeRow
import Derived.KernelRfl
import Derived.Laws.EntriesVeiled
import Derived.Laws.Externs
import Derived.Laws.RangeString
import Derived.Laws.ResultCell
import Derived.Laws.Runes
import Derived.Laws.Strings3
import Derived.Lib.AsciiSet
import Derived.Lib.Bytealg
import Derived.Lib.IndexBytes
import Derived.Lib.Strings
import Derived.Lib.TrimByte
import Derived.Lib.Walk
import Derived.Shelf.Strconv.Clone
import Derived.Shelf.Strings.OnBuilder
import Derived.WalkLawsBesides
import Derived.WalkSpells
import Derived.Test.YtiicphkpmdidaaaDoorLrj10
/- an api.Numeral among the inputs. -/
namespace Go.Proofs.YtiicphkpmdidaaaDoor
open Go.ChangeShapes Go.WideShapes Go.ChangeAt Go.RowKit
open Lx
set_option linter.unusedVariables false
theorem cells_numeral : Tryd.prog.cellsOf 28 = 5 := by kernel_rfl
theorem cells_str11 : Tryd.prog.cellsOf 9 = 1 := by kernel_rfl
theorem cells_i6411 : Tryd.prog.cellsOf 3 = 1 := by kernel_rfl
theorem cells_bool11 : Tryd.prog.cellsOf 4 = 1 := by kernel_rfl
set_option maxRecDepth 100000 in
theorem open_numeral {H : Type} {enc : TypeId × Value → H} {w : World} {r : Reach} {base b0 : Nat} {spare : Nat → Bool} {held : Bool} {v : Value} {d : DataW H} {p : List MemPlace}
    (hv : Value.okWide Tryd.prog w r b0 28 v) (h : DataW.Trod enc Tryd.prog w base spare held 28 v d p) :
    ∃ k ng nu e de, v = .agg (numC k ng nu e de) ∧ -9223372036854775808 ≤ k ∧ k ≤ 9223372036854775807 ∧ -9223372036854775808 ≤ e ∧ e ≤ 9223372036854775807 ∧ nu.size ≤ 9223372036854775807 ∧ de.size ≤ 9223372036854775807 := by
  obtain ⟨cs, rfl, hsz⟩ := okWide_struct Tryd.underlying28 hv
  obtain ⟨fuel, hf⟩ := h
  obtain ⟨xs, m, _, _, hl, hx, hi⟩ := DataW.trod_struct Tryd.underlying28 hf
  rw [cells_numeral] at hsz
  obtain ⟨c0, c1, c2, c3, c4, rfl⟩ : ∃ c0 c1 c2 c3 c4, cs = #[c0, c1, c2, c3, c4] := by
    match cs, hsz with
    | ⟨[c0, c1, c2, c3, c4]⟩, _ => exact ⟨c0, c1, c2, c3, c4, rfl⟩
  have i0 := hi 0 _ rfl
  have i1 := hi 1 _ rfl
  have i2 := hi 2 _ rfl
  have i3 := hi 3 _ rfl
  have i4 := hi 4 _ rfl
  match xs, hx with
  | [x0, x1, x2, x3, x4], _ =>
    simp [Value.cells, cells_str11, cells_bool11, cells_i6411] at i0 i1 i2 i3 i4
    have bo : ∀ {cs : Value} {x : DataW H × List MemPlace}, DataW.trod enc Tryd.prog w base spare held m 4 [cs] = some x → ∃ s, cs = .bool s := by
      intro cs x hf
      obtain ⟨s, e0, _⟩ := DataW.trod_bool Tryd.underlying4 hf
      simp at e0
      exact ⟨s, e0⟩
    have nt : ∀ {cs : Value} {x : DataW H × List MemPlace}, DataW.trod enc Tryd.prog w base spare held m 3 [cs] = some x → ∃ s, cs = .int .i64 s ∧ -9223372036854775808 ≤ s ∧ s ≤ 9223372036854775807 := by
      intro cs x hf
      obtain ⟨s, e0, _, hw⟩ := DataW.trod_int Tryd.underlying3 hf
      simp at e0
      simp only [Lit.wf, Bool.and_eq_true, decide_eq_true_eq] at hw
      have h1 : IntKind.i64.min = -9223372036854775808 := rfl
      have h2 : IntKind.i64.max = 9223372036854775807 := rfl
      exact ⟨s, e0, by omega, by omega⟩
    have st : ∀ {cs : Value} {x : DataW H × List MemPlace}, DataW.trod enc Tryd.prog w base spare held m 9 [cs] = some x → ∃ s : ByteArray, cs = .string s ∧ s.size ≤ 9223372036854775807 := by
      intro cs x hf
      obtain ⟨s, e0, _, hw⟩ := DataW.trod_string Tryd.underlying9 hf
      simp at e0
      unfold maxLen at hw
      exact ⟨s, e0, by omega⟩
    obtain ⟨k, rfl, k0, k1⟩ := nt i0
    obtain ⟨ng, rfl⟩ := bo i1
    obtain ⟨nu, rfl, n0⟩ := st i2
    obtain ⟨e, rfl, e0, e1⟩ := nt i3
    obtain ⟨de, rfl, d0⟩ := st i4
    exact ⟨k, ng, nu, e, de, rfl, k0, k1, e0, e1, n0, d0⟩
end Go.Proofs.YtiicphkpmdidaaaDoor

