/- plumblaw03: lent, kept. -/
import Derived.Test.YthjfjpdgjhidfabGreatRef3Cmp
namespace Go.Proofs.YthjfjpdgjhidfabGreat
open Go.ChangeShapes Go.WideShapes Go.ChangeAt Go.RowKit
open Na Ar
set_option linter.unusedVariables false
theorem row_news {w : World} {b off n : Nat} {xs : List Int} (hl : xs.length = n) (hc : ∀ i, i < n → w.cell? ⟨b, off + i, none⟩ = some (.int .u64 (xs.getD i 0))) : ∀ j u, (xs.map (Value.int .u64))[j]? = some u → w.cell? ((⟨b, off, none⟩ : Addr).add j) = some u := by
  intro j u hj
  have hjl : j < xs.length := by
    by_cases q : j < xs.length
    · exact q
    · rw [List.getElem?_eq_none (by simp; omega)] at hj; simp at hj
  have ea : (⟨b, off, none⟩ : Addr).add j = ⟨b, off + j, none⟩ := by
    unfold Addr.add
    by_cases hi0 : j = 0
    · subst hi0; simp
    · simp [hi0]
  rw [ea, hc j (by omega), ← hj]
  simp [List.getElem?_eq_getElem hjl, List.getD_eq_getElem?_getD]
theorem ints_one {xs : List Int} : ∀ u ∈ xs.map (Value.int .u64), u.oneCell' = true := by
  intro u hu
  simp only [List.mem_map] at hu
  obtain ⟨x, _, rfl⟩ := hu
  rfl
theorem own_more {w1 : World} {base : Nat} {e : TypeId} {v : Value} {n m : Nat} {xs ys : List Int} (h : w1.ownsRow base e 1 v (n + m) (xs.map (Value.int .u64) ++ ys.map (Value.int .u64))) (hn : n = xs.length) (hm : m = ys.length) : Own .u64 w1 base e v (xs ++ ys) := by
  subst hn hm; unfold Own; rw [List.map_append, List.length_append]; exact h
theorem two_new {wr : World} {e : TypeId} {v u : Value} : ∀ j x, ([v, u] : List Value)[j]? = some x → (wr.alloc (.cells #[v, u] e)).cell? ((⟨wr.heap.size, 0, none⟩ : Addr).add j) = some x := by
  intro j x hj
  match j, hj with
  | 0, hj => simp at hj; subst hj; simp [Addr.add]
  | 1, hj => simp at hj; subst hj; simp [Addr.add]
theorem two_cell {k : IntKind} {x y : Int} : ∀ u ∈ [Value.int k x, Value.int k y], u.oneCell' = true := by
  intro u hu
  simp at hu
  rcases hu with rfl | rfl <;> rfl
end Go.Proofs.YthjfjpdgjhidfabGreat
