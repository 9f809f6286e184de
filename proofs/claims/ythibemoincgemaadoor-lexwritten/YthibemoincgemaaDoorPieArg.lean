/- A Piece among the inputs, opened. -/
import Derived.Test.YthibemoincgemaaDoorLexMe
import Derived.WalkKit
import Derived.ProofKit
import Derived.OpenShut
import Derived.ShutString
import Derived.ChangeOld
namespace Go.Proofs.YthibemoincgemaaDoor
open Go.ChangeShapes Go.WideShapes Go.ChangeAt Go.RowKit
open Lx
set_option linter.unusedVariables false
theorem cells_piece : Tryd.prog.cellsOf 44 = 9 := by kernel_rfl
theorem cells_sint9 : Tryd.prog.cellsOf 33 = 1 := by kernel_rfl
theorem cells_i649 : Tryd.prog.cellsOf 3 = 1 := by kernel_rfl
theorem cells_bool9 : Tryd.prog.cellsOf 4 = 1 := by kernel_rfl
theorem row_of9 {w : World} {x : Addr} {l c : Nat} {zs : List Int} (hl : l ≤ c) (hz : zs.length = c) (hcell : ∀ i, i < zs.length → w.cell? (x.add i) = some (.int .i64 (zs.getD i 0))) : RowAt .i64 w (some x) l (zs.take l) := by
  refine ⟨by rw [List.length_take]; omega, ?_⟩
  by_cases h0 : l = 0
  · exact Or.inl h0
  · right
    obtain ⟨b, off, spot⟩ := x
    have h1 := hcell 0 (by omega)
    have hs : spot = none := by simpa [Addr.add] using World.cell?_spot h1
    subst hs
    refine ⟨b, off, rfl, ?_, fun i hi => ?_⟩
    · by_cases hlt : b < w.heap.size
      · exact hlt
      · have := Array.getElem?_eq_none (xs := w.heap) (i := b) (Nat.le_of_not_lt hlt)
        simp [World.cell?, Addr.add, this] at h1
    · have h2 := hcell i (by omega)
      have e : (zs.take l).getD i 0 = zs.getD i 0 := by simp [List.getD_eq_getElem?_getD, List.getElem?_take_of_lt hi]
      have ea : (⟨b, off, none⟩ : Addr).add i = ⟨b, off + i, none⟩ := by
        unfold Addr.add
        by_cases hi0 : i = 0
        · subst hi0; simp
        · simp [hi0]
      rw [ea] at h2
      rw [e]
      exact h2
set_option maxRecDepth 100000 in
theorem open_piece {H : Type} {enc : TypeId × Value → H} {w : World} {r : Reach} {base b0 : Nat} {spare : Nat → Bool} {held : Bool} {v : Value} {d : DataW H} {p : List MemPlace}
    (hv : Value.okWide Tryd.prog w r b0 44 v) (h : DataW.Trod enc Tryd.prog w base spare held 44 v d p) (hall : ∀ g, spare g = true) :
    ∃ kd sg a n c b m f z1 z2 pt ne e plus big, v = .agg (pieA kd sg (.slice a n c) (.slice b m f) pt ne e plus big) ∧ RowAt .i64 w a n z1 ∧ n ≤ 9223372036854775807 ∧ RowAt .i64 w b m z2 ∧ m ≤ 9223372036854775807 := by
  obtain ⟨cs, rfl, hsz⟩ := okWide_struct Tryd.underlying44 hv
  obtain ⟨fuel, hf⟩ := h
  obtain ⟨xs, m, _, _, hl, hx, hi⟩ := DataW.trod_struct Tryd.underlying44 hf
  rw [cells_piece] at hsz
  obtain ⟨c0, c1, c2, c3, c4, c5, c6, c7, c8, rfl⟩ : ∃ c0 c1 c2 c3 c4 c5 c6 c7 c8, cs = #[c0, c1, c2, c3, c4, c5, c6, c7, c8] := by
    match cs, hsz with
    | ⟨[c0, c1, c2, c3, c4, c5, c6, c7, c8]⟩, _ => exact ⟨c0, c1, c2, c3, c4, c5, c6, c7, c8, rfl⟩
  have i0 := hi 0 _ rfl
  have i1 := hi 1 _ rfl
  have i2 := hi 2 _ rfl
  have i3 := hi 3 _ rfl
  have i4 := hi 4 _ rfl
  have i5 := hi 5 _ rfl
  have i6 := hi 6 _ rfl
  have i7 := hi 7 _ rfl
  have i8 := hi 8 _ rfl
  match xs, hx with
  | [x0, x1, x2, x3, x4, x5, x6, x7, x8], _ =>
    simp [Value.cells, cells_sint9, cells_bool9, cells_i649] at i0 i1 i2 i3 i4 i5 i6 i7 i8
    have bo : ∀ {cs : Value} {x : DataW H × List MemPlace}, DataW.trod enc Tryd.prog w base spare held m 4 [cs] = some x → ∃ s, cs = .bool s := by
      intro cs x hf
      obtain ⟨s, e0, _⟩ := DataW.trod_bool Tryd.underlying4 hf
      simp at e0
      exact ⟨s, e0⟩
    have nt : ∀ {cs : Value} {x : DataW H × List MemPlace}, DataW.trod enc Tryd.prog w base spare held m 3 [cs] = some x → ∃ s, cs = .int .i64 s := by
      intro cs x hf
      obtain ⟨s, e0, _⟩ := DataW.trod_int Tryd.underlying3 hf
      simp at e0
      exact ⟨s, e0⟩
    have sl : ∀ {cs : Value} {x : DataW H × List MemPlace}, DataW.trod enc Tryd.prog w base spare held m 33 [cs] = some x → (∀ g, spare g = true) → ∃ a n c xs, cs = .slice a n c ∧ RowAt .i64 w a n xs ∧ n ≤ 9223372036854775807 := by
      intro cs x hf hsp
      rcases open_ints Tryd.underlying33 Tryd.underlying3 (by kernel_rfl) hf with ⟨hcs, _⟩ | ⟨x, l, c, zs, hcs, _, hl, hm, hz, _, hcell, hwz⟩
      · simp at hcs
        subst hcs
        exact ⟨none, 0, 0, [], rfl, ⟨rfl, Or.inl rfl⟩, by omega⟩
      · simp at hcs
        subst hcs
        rw [if_pos (hsp _)] at hz
        exact ⟨some x, l, c, _, rfl, row_of9 hl hz hcell, by unfold maxLen at hm; omega⟩
    obtain ⟨kd, rfl⟩ := nt i0
    obtain ⟨sg, rfl⟩ := nt i1
    obtain ⟨a, n, c, us, rfl, r1, r3⟩ := sl i2 hall
    obtain ⟨b, k, f, vs, rfl, q1, q3⟩ := sl i3 hall
    obtain ⟨pt, rfl⟩ := bo i4
    obtain ⟨ne, rfl⟩ := bo i5
    obtain ⟨e, rfl⟩ := nt i6
    obtain ⟨plus, rfl⟩ := bo i7
    obtain ⟨big, rfl⟩ := bo i8
    exact ⟨kd, sg, a, n, c, b, k, f, us, vs, pt, ne, e, plus, big, rfl, r1, r3, q1, q3⟩
end Go.Proofs.YthibemoincgemaaDoor
