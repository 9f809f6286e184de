/- plumblaw22.Quad (four places with whole coordinates, and a number) among the inputs, opened. -/
import Derived.Test.YtbonkgmcpjaepaaGreatPwD
import Derived.WalkKit
import Derived.ProofKit
import Derived.OpenShut
import Derived.ShutString
import Derived.ChangeOld
namespace Go.Proofs.YtbonkgmcpjaepaaGreat
open Go.ChangeShapes Go.WideShapes Go.ChangeAt Go.RowKit
open Na Ar
set_option linter.unusedVariables false
theorem cells_i64q : Tryz.prog.cellsOf 3 = 1 := by kernel_rfl
theorem cells_spotq : Tryz.prog.cellsOf 23 = 2 := by kernel_rfl
theorem cells_quadq : Tryz.prog.cellsOf 25 = 9 := by kernel_rfl
set_option maxRecDepth 100000 in
theorem trod_i64q {H : Type} {enc : TypeId × Value → H} {w : World} {base m : Nat} {spare : Nat → Bool} {held : Bool} {cs : Value} {x : DataW H × List MemPlace}
    (hf : DataW.trod enc Tryz.prog w base spare held m 3 [cs] = some x) : ∃ s, cs = .int .i64 s ∧ I64 s := by
  obtain ⟨s, e0, _, hw⟩ := DataW.trod_int Tryz.underlying3 hf
  simp at e0
  simp only [Lit.wf, Bool.and_eq_true, decide_eq_true_eq] at hw
  have h1 : IntKind.i64.min = -9223372036854775808 := rfl
  have h2 : IntKind.i64.max = 9223372036854775807 := rfl
  exact ⟨s, e0, by unfold I64; omega⟩
set_option maxRecDepth 100000 in
theorem trod_spotq {H : Type} {enc : TypeId × Value → H} {w : World} {base m : Nat} {spare : Nat → Bool} {held : Bool} {c0 c1 : Value} {x : DataW H × List MemPlace}
    (hf : DataW.trod enc Tryz.prog w base spare held m 23 [c0, c1] = some x) : ∃ s t, c0 = .int .i64 s ∧ c1 = .int .i64 t ∧ I64 s ∧ I64 t := by
  obtain ⟨xs, m, _, _, hl, hx, hi⟩ := DataW.trod_struct Tryz.underlying23 hf
  have i0 := hi 0 _ rfl
  have i1 := hi 1 _ rfl
  match xs, hx with
  | [x0, x1], _ =>
    simp [cells_i64q] at i0 i1
    obtain ⟨s, rfl, k0⟩ := trod_i64q i0
    obtain ⟨t, rfl, k1⟩ := trod_i64q i1
    exact ⟨s, t, rfl, rfl, k0, k1⟩
set_option maxRecDepth 100000 in
theorem open_quad {H : Type} {enc : TypeId × Value → H} {w : World} {r : Reach} {base b0 : Nat} {spare : Nat → Bool} {held : Bool} {v : Value} {d : DataW H} {p : List MemPlace}
    (hv : Value.okWide Tryz.prog w r b0 25 v) (h : DataW.Trod enc Tryz.prog w base spare held 25 v d p) :
    ∃ x0 x1 x2 x3 x4 x5 x6 x7 x8, v = .agg #[.int .i64 x0, .int .i64 x1, .int .i64 x2, .int .i64 x3, .int .i64 x4, .int .i64 x5, .int .i64 x6, .int .i64 x7, .int .i64 x8] ∧ I64 x0 ∧ I64 x1 ∧ I64 x2 ∧ I64 x3 ∧ I64 x4 ∧ I64 x5 ∧ I64 x6 ∧ I64 x7 ∧ I64 x8 := by
  obtain ⟨cs, rfl, hsz⟩ := okWide_struct Tryz.underlying25 hv
  obtain ⟨fuel, hf⟩ := h
  obtain ⟨xs, m, _, _, hl, hx, hi⟩ := DataW.trod_struct Tryz.underlying25 hf
  rw [cells_quadq] at hsz
  obtain ⟨c0, c1, c2, c3, c4, c5, c6, c7, c8, rfl⟩ : ∃ c0 c1 c2 c3 c4 c5 c6 c7 c8, cs = #[c0, c1, c2, c3, c4, c5, c6, c7, c8] := by
    match cs, hsz with
    | ⟨[c0, c1, c2, c3, c4, c5, c6, c7, c8]⟩, _ => exact ⟨c0, c1, c2, c3, c4, c5, c6, c7, c8, rfl⟩
  have i0 := hi 0 _ rfl
  have i1 := hi 1 _ rfl
  have i2 := hi 2 _ rfl
  have i3 := hi 3 _ rfl
  have i4 := hi 4 _ rfl
  match xs, hx with
  | [x0, x1, x2, x3, x4], _ =>
    simp [Value.cells, cells_spotq, cells_i64q] at i0 i1 i2 i3 i4
    obtain ⟨y0, y1, rfl, rfl, k0, k1⟩ := trod_spotq i0
    obtain ⟨y2, y3, rfl, rfl, k2, k3⟩ := trod_spotq i1
    obtain ⟨y4, y5, rfl, rfl, k4, k5⟩ := trod_spotq i2
    obtain ⟨y6, y7, rfl, rfl, k6, k7⟩ := trod_spotq i3
    obtain ⟨y8, rfl, k8⟩ := trod_i64q i4
    exact ⟨y0, y1, y2, y3, y4, y5, y6, y7, y8, rfl, k0, k1, k2, k3, k4, k5, k6, k7, k8⟩
end Go.Proofs.YtbonkgmcpjaepaaGreat
