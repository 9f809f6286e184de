/- plumblaw22.Four (four points) among the inputs, opened. -/
import Derived.Test.YtbonkgmcpjaepaaPdA
import Derived.WalkKit
import Derived.ProofKit
import Derived.OpenShut
import Derived.ShutString
import Derived.ChangeOld
namespace Go.Proofs.Ytbonkgmcpjaepaa
open Go.ChangeShapes Go.WideShapes Go.ChangeAt Go.RowKit
open Na Ar
set_option linter.unusedVariables false
theorem cells_u64f : Try.prog.cellsOf 22 = 1 := by kernel_rfl
theorem cells_pointf : Try.prog.cellsOf 24 = 2 := by kernel_rfl
theorem cells_four : Try.prog.cellsOf 26 = 8 := by kernel_rfl
set_option maxRecDepth 100000 in
theorem trod_u64f {H : Type} {enc : TypeId × Value → H} {w : World} {base m : Nat} {spare : Nat → Bool} {held : Bool} {cs : Value} {x : DataW H × List MemPlace}
    (hf : DataW.trod enc Try.prog w base spare held m 22 [cs] = some x) : ∃ s, cs = .int .u64 s ∧ U s := by
  obtain ⟨s, e0, _, hw⟩ := DataW.trod_int Try.underlying22 hf
  simp at e0
  simp only [Lit.wf, Bool.and_eq_true, decide_eq_true_eq] at hw
  have h1 : IntKind.u64.min = 0 := rfl
  have h2 : IntKind.u64.max = 18446744073709551615 := rfl
  exact ⟨s, e0, by unfold U; omega⟩
set_option maxRecDepth 100000 in
theorem trod_pointf {H : Type} {enc : TypeId × Value → H} {w : World} {base m : Nat} {spare : Nat → Bool} {held : Bool} {c0 c1 : Value} {x : DataW H × List MemPlace}
    (hf : DataW.trod enc Try.prog w base spare held m 24 [c0, c1] = some x) : ∃ s t, c0 = .int .u64 s ∧ c1 = .int .u64 t ∧ U s ∧ U t := by
  obtain ⟨xs, m, _, _, hl, hx, hi⟩ := DataW.trod_struct Try.underlying24 hf
  have i0 := hi 0 _ rfl
  have i1 := hi 1 _ rfl
  match xs, hx with
  | [x0, x1], _ =>
    simp [cells_u64f] at i0 i1
    obtain ⟨s, rfl, k0⟩ := trod_u64f i0
    obtain ⟨t, rfl, k1⟩ := trod_u64f i1
    exact ⟨s, t, rfl, rfl, k0, k1⟩
set_option maxRecDepth 100000 in
theorem open_four {H : Type} {enc : TypeId × Value → H} {w : World} {r : Reach} {base b0 : Nat} {spare : Nat → Bool} {held : Bool} {v : Value} {d : DataW H} {p : List MemPlace}
    (hv : Value.okWide Try.prog w r b0 26 v) (h : DataW.Trod enc Try.prog w base spare held 26 v d p) :
    ∃ x0 x1 x2 x3 x4 x5 x6 x7, v = .agg #[.int .u64 x0, .int .u64 x1, .int .u64 x2, .int .u64 x3, .int .u64 x4, .int .u64 x5, .int .u64 x6, .int .u64 x7] ∧ U x0 ∧ U x1 ∧ U x2 ∧ U x3 ∧ U x4 ∧ U x5 ∧ U x6 ∧ U x7 := by
  obtain ⟨cs, rfl, hsz⟩ := okWide_struct Try.underlying26 hv
  obtain ⟨fuel, hf⟩ := h
  obtain ⟨xs, m, _, _, hl, hx, hi⟩ := DataW.trod_struct Try.underlying26 hf
  rw [cells_four] at hsz
  obtain ⟨c0, c1, c2, c3, c4, c5, c6, c7, rfl⟩ : ∃ c0 c1 c2 c3 c4 c5 c6 c7, cs = #[c0, c1, c2, c3, c4, c5, c6, c7] := by
    match cs, hsz with
    | ⟨[c0, c1, c2, c3, c4, c5, c6, c7]⟩, _ => exact ⟨c0, c1, c2, c3, c4, c5, c6, c7, rfl⟩
  have i0 := hi 0 _ rfl
  have i1 := hi 1 _ rfl
  have i2 := hi 2 _ rfl
  have i3 := hi 3 _ rfl
  match xs, hx with
  | [x0, x1, x2, x3], _ =>
    simp [Value.cells, cells_pointf] at i0 i1 i2 i3
    obtain ⟨y0, y1, rfl, rfl, k0, k1⟩ := trod_pointf i0
    obtain ⟨y2, y3, rfl, rfl, k2, k3⟩ := trod_pointf i1
    obtain ⟨y4, y5, rfl, rfl, k4, k5⟩ := trod_pointf i2
    obtain ⟨y6, y7, rfl, rfl, k6, k7⟩ := trod_pointf i3
    exact ⟨y0, y1, y2, y3, y4, y5, y6, y7, rfl, k0, k1, k2, k3, k4, k5, k6, k7⟩
end Go.Proofs.Ytbonkgmcpjaepaa
