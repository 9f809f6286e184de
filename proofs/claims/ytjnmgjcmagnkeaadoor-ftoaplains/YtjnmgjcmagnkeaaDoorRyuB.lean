/- package ryu: how far an interval reaches down; fives; digits taken away; the nearest. -/
import Derived.Test.YtjnmgjcmagnkeaaDoorBaseA
import Derived.Test.YtjnmgjcmagnkeaaDoorRyuSho
import Derived.Laws.ResultCell
import Derived.Scope
import Derived.WalkMore
import Derived.Deep.LoopGhost
import Derived.Deep.QuietTactic
import Derived.BigQuiet
namespace Go.Proofs.YtjnmgjcmagnkeaaDoor
open Go.ChangeShapes Go.WideShapes Go.ChangeAt Go.RowKit
open Ar
set_option linter.unusedVariables false
namespace Ry
/-- a block with its cells -/
def Bk (w : World) (g : Nat) (t : TypeId) (vs : Array Value) : Prop := w.heap[g]? = some (.cells vs t (0, 0))
theorem Bk.lt {w : World} {g : Nat} {t : TypeId} {vs : Array Value} (h : Bk w g t vs) : g < w.heap.size := by
  by_cases hlt : g < w.heap.size
  · exact hlt
  · unfold Bk at h; simp [Array.getElem?_eq_none (Nat.le_of_not_lt hlt)] at h
theorem Bk.cell {w : World} {g : Nat} {t : TypeId} {vs : Array Value} (h : Bk w g t vs) (i : Nat) {v : Value} (hv : vs[i]? = some v) : w.cell? ⟨g, i, none⟩ = some v := by
  unfold Bk at h
  simp [World.cell?, h, hv]
theorem Bk.frozen {w : World} {g : Nat} {t : TypeId} {vs : Array Value} (h : Bk w g t vs) (i : Nat) : w.frozen? ⟨g, i, none⟩ = false := by
  unfold Bk at h
  simp [World.frozen?, h]
theorem Bk.later {w w' : World} {g : Nat} {t : TypeId} {vs : Array Value} (h : Bk w g t vs) (hb : Below w.heap.size w w') : Bk w' g t vs := by
  have := h.lt
  unfold Bk
  rw [hb.block g this]; exact h
theorem Bk.set {w : World} {g : Nat} {t : TypeId} {vs : Array Value} (h : Bk w g t vs) (i : Nat) (v : Value) : Bk (w.setCell ⟨g, i, none⟩ v) g t (vs.setIfInBounds i v) := by
  unfold Bk at *
  simp [World.setCell, Array.getElem?_modify, h]
theorem Bk.all6 {w : World} {g : Nat} {t : TypeId} {z0 z1 z2 z3 z4 z5 : Value} (h : Bk w g t #[z0, z1, z2, z3, z4, z5]) (a b c d e f : Value) :
    Bk ((((((w.setCell ⟨g, 0, none⟩ a).setCell ⟨g, 1, none⟩ b).setCell ⟨g, 2, none⟩ c).setCell ⟨g, 3, none⟩ d).setCell ⟨g, 4, none⟩ e).setCell ⟨g, 5, none⟩ f) g t #[a, b, c, d, e, f] := by
  have := (((((h.set 0 a).set 1 b).set 2 c).set 3 d).set 4 e).set 5 f
  simpa using this
theorem Bk.set_ne {w : World} {g g' i : Nat} {t : TypeId} {vs : Array Value} {v : Value} (h : Bk w g t vs) (hn : g ≠ g') : Bk (w.setCell ⟨g', i, none⟩ v) g t vs := by
  unfold Bk at *
  rw [← h]
  exact Below.heap_setCell _ _ _ _ (by simp only; omega)
theorem below_cell {n g i : Nat} {a w : World} {v : Value} (h : Below n a w) (hg : n ≤ g) (hn : n ≤ a.heap.size) : Below n a (w.setCell ⟨g, i, none⟩ v) :=
  ⟨h.os, h.tape, h.output, by have := h.size; simpa [World.setCell] using this, fun k hk => (Below.heap_setCell _ _ _ _ (by simp only; omega)).trans (h.block k hk)⟩
theorem Bk.new (w : World) (t : TypeId) (vs : Array Value) : Bk (w.alloc (.cells vs t)) w.heap.size t vs := heap_alloc_new _ _
end Ry
open Ry
/-- a span as a value -/
def spC (s : Sp) : Array Value := #[.int .u64 (s.low : Int), .int .u64 (s.high : Int), .int .u64 (s.own : Int), .int .u64 (s.last : Int), .bool s.more, .int .i64 ((s.tens : Int) - 400)]
def spV (s : Sp) : Value := .agg (spC s)
end Go.Proofs.YtjnmgjcmagnkeaaDoor
