/- A Part among the inputs, opened. -/
import Derived.Test.YtopcdpeepchgfacGreatDoorRatN
import Derived.WalkKit
import Derived.ProofKit
import Derived.OpenShut
import Derived.ShutString
import Derived.ChangeOld
namespace Go.Proofs.YtopcdpeepchgfacGreatDoor
open Go.ChangeShapes Go.WideShapes Go.ChangeAt Go.RowKit
open Na Ar
set_option linter.unusedVariables false
theorem cells_part : Tryz.prog.cellsOf 24 = 3 := by kernel_rfl
theorem cells_su : Tryz.prog.cellsOf 22 = 1 := by kernel_rfl
theorem cells_bool : Tryz.prog.cellsOf 4 = 1 := by kernel_rfl
set_option maxRecDepth 100000 in
theorem open_part {H : Type} {enc : TypeId × Value → H} {w : World} {r : Reach} {base b0 : Nat} {spare : Nat → Bool} {held : Bool} {v : Value} {d : DataW H} {p : List MemPlace}
    (hv : Value.okWide Tryz.prog w r b0 24 v) (h : DataW.Trod enc Tryz.prog w base spare held 24 v d p) (hall : ∀ g, spare g = true) :
    ∃ s a n c b m e xs ys, v = .agg #[.bool s, .slice a n c, .slice b m e] ∧ RowAt .u64 w a n xs ∧ Ws xs ∧ n ≤ maxLen ∧ RowAt .u64 w b m ys ∧ Ws ys ∧ m ≤ maxLen := by
  obtain ⟨cs, rfl, hsz⟩ := okWide_struct Tryz.underlying24 hv
  obtain ⟨fuel, hf⟩ := h
  obtain ⟨xs, m, _, _, hl, hx, hi⟩ := DataW.trod_struct Tryz.underlying24 hf
  rw [cells_part] at hsz
  obtain ⟨c0, c1, c2, rfl⟩ : ∃ c0 c1 c2, cs = #[c0, c1, c2] := by
    match cs, hsz with
    | ⟨[c0, c1, c2]⟩, _ => exact ⟨c0, c1, c2, rfl⟩
  have i0 := hi 0 _ rfl
  have i1 := hi 1 _ rfl
  have i2 := hi 2 _ rfl
  match xs, hx with
  | [x0, x1, x2], _ =>
    simp [Value.cells, cells_su, cells_bool] at i0 i1 i2
    obtain ⟨s, e0, _⟩ := DataW.trod_bool Tryz.underlying4 i0
    simp at e0
    subst e0
    have sl : ∀ {cs : Value} {x : DataW H × List MemPlace}, DataW.trod enc Tryz.prog w base spare held m 22 [cs] = some x → (∀ g, spare g = true) → ∃ a n c xs, cs = .slice a n c ∧ RowAt .u64 w a n xs ∧ Ws xs ∧ n ≤ maxLen := by
      intro cs x hf hsp
      rcases open_ints Tryz.underlying22 Tryz.underlying46 (by kernel_rfl) hf with ⟨hcs, _⟩ | ⟨x, l, c, zs, hcs, _, hl, hm, hz, _, hcell, hwz⟩
      · simp at hcs
        subst hcs
        exact ⟨none, 0, 0, _, rfl, row_of (cap := 0) (zs := []) (.inl ⟨rfl, rfl, rfl, rfl⟩)⟩
      · simp at hcs
        subst hcs
        rw [if_pos (hsp _)] at hz
        exact ⟨some x, l, c, _, rfl, row_of (cap := c) (zs := zs) (.inr ⟨_, rfl, hl, hm, hz, hcell, hwz⟩)⟩
    obtain ⟨a, n, c, us, rfl, r1, r2, r3⟩ := sl i1 hall
    obtain ⟨b, k, e, vs, rfl, q1, q2, q3⟩ := sl i2 hall
    exact ⟨s, a, n, c, b, k, e, us, vs, rfl, r1, r2, r3, q1, q2, q3⟩
end Go.Proofs.YtopcdpeepchgfacGreatDoor
