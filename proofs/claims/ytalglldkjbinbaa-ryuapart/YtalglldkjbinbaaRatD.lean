/- package rat: Add, Sub, Mul, Div, where nothing is too long. -/
import Derived.Test.YtalglldkjbinbaaRatC
namespace Go.Proofs.Ytalglldkjbinbaa
open Go.ChangeShapes Go.WideShapes Go.ChangeAt Go.RowKit
open Na Ar
set_option linter.unusedVariables false
/-- one cell in its block -/
def E1 (w : World) (g : Nat) (t : TypeId) (x : Value) : Prop := w.heap[g]? = some (.cells #[x] t (0, 0))
section
variable {w w' : World} {g : Nat} {t : TypeId} {x : Value}
theorem E1.lt (h : E1 w g t x) : g < w.heap.size := by
  by_cases hlt : g < w.heap.size
  · exact hlt
  · unfold E1 at h; simp [Array.getElem?_eq_none (Nat.le_of_not_lt hlt)] at h
theorem E1.later (h : E1 w g t x) (hb : Below w.heap.size w w') : E1 w' g t x := by
  have := h.lt
  unfold E1
  rw [hb.block g this]; exact h
theorem E1.cell (h : E1 w g t x) : w.cell? ⟨g, 0, none⟩ = some x := by
  unfold E1 at h
  simp [World.cell?, h]
theorem E1.frozen (h : E1 w g t x) : w.frozen? ⟨g, 0, none⟩ = false := by
  unfold E1 at h
  simp [World.frozen?, h]
theorem E1.set (h : E1 w g t x) (y : Value) : E1 (w.setCell ⟨g, 0, none⟩ y) g t y := set_block h
theorem E1.inn {g' : Nat} (h : E1 w g t x) (hi : In g' (g' + 1) w w') (hne : g ≠ g') : E1 w' g t x := by
  have := h.lt
  unfold E1
  rw [hi.block g this (by omega)]; exact h
theorem in1 (w : World) (g : Nat) (y : Value) : In g (g + 1) w (w.setCell ⟨g, 0, none⟩ y) := (In.refl g (g + 1) w).set1 0 _
theorem E1.drew (h : E1 w g t x) : E1 w.drew g t x := h
theorem St.drew {y z : Value} (h : St w g t x y z) : St w.drew g t x y z := h
theorem in_drew (g : Nat) (w : World) : In g (g + 1) w w.drew := ⟨rfl, rfl, rfl, Nat.le_refl _, fun _ _ _ => rfl⟩
end
theorem st_four (w : World) (x y z x' y' z' : Value) : St ((((w.alloc (.cells #[x, y, z] 33)).alloc (.cells #[x', y', z'] 33)).alloc (.cells #[.bool false, .slice none 0 0, .slice none 0 0] 33)).alloc (.cells #[.int .i64 0] 25)) w.heap.size 33 x y z ∧ St ((((w.alloc (.cells #[x, y, z] 33)).alloc (.cells #[x', y', z'] 33)).alloc (.cells #[.bool false, .slice none 0 0, .slice none 0 0] 33)).alloc (.cells #[.int .i64 0] 25)) (w.heap.size + 1) 33 x' y' z' ∧ St ((((w.alloc (.cells #[x, y, z] 33)).alloc (.cells #[x', y', z'] 33)).alloc (.cells #[.bool false, .slice none 0 0, .slice none 0 0] 33)).alloc (.cells #[.int .i64 0] 25)) (w.heap.size + 1 + 1) 33 (.bool false) (.slice none 0 0) (.slice none 0 0) ∧ E1 ((((w.alloc (.cells #[x, y, z] 33)).alloc (.cells #[x', y', z'] 33)).alloc (.cells #[.bool false, .slice none 0 0, .slice none 0 0] 33)).alloc (.cells #[.int .i64 0] 25)) (w.heap.size + 1 + 1 + 1) 25 (.int .i64 0) ∧ Below w.heap.size w ((((w.alloc (.cells #[x, y, z] 33)).alloc (.cells #[x', y', z'] 33)).alloc (.cells #[.bool false, .slice none 0 0, .slice none 0 0] 33)).alloc (.cells #[.int .i64 0] 25)) ∧ ((((w.alloc (.cells #[x, y, z] 33)).alloc (.cells #[x', y', z'] 33)).alloc (.cells #[.bool false, .slice none 0 0, .slice none 0 0] 33)).alloc (.cells #[.int .i64 0] 25)).heap.size = w.heap.size + 4 := by
  obtain ⟨s1, s2, s3, b⟩ := st_three w x y z x' y' z' (.bool false) (.slice none 0 0) (.slice none 0 0) 33 33 33
  have e1 : (((w.alloc (.cells #[x, y, z] 33)).alloc (.cells #[x', y', z'] 33)).alloc (.cells #[.bool false, .slice none 0 0, .slice none 0 0] 33)).heap.size = w.heap.size + 1 + 1 + 1 := by simp
  generalize ((w.alloc (.cells #[x, y, z] 33)).alloc (.cells #[x', y', z'] 33)).alloc (.cells #[.bool false, .slice none 0 0, .slice none 0 0] 33) = w1 at *
  have b2 := alloc_below (w := w1) (.cells #[.int .i64 0] 25)
  have s4 : E1 (w1.alloc (.cells #[.int .i64 0] 25)) w1.heap.size 25 (.int .i64 0) := heap_alloc_new _ _
  rw [e1] at s4
  exact ⟨s1.later b2, s2.later b2, s3.later b2, s4, b.trans (b2.mono b.size), by simp [e1]⟩
section
variable {w : World} {s1 s2 : Bool} {a1 b1 a2 b2 : Option Addr} {n1 c1 m1 d1 n2 c2 m2 d2 : Nat} {p q : Rat} {k l : Nat}
end
end Go.Proofs.Ytalglldkjbinbaa
