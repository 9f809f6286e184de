import Derived.Defers
import Derived.Recover
import Derived.Below
import Derived.BigQuiet
import Derived.ChangeOld
import Derived.Deep.DeepCutAuto
import Derived.Deep.LoopGhost
import Derived.Deep.QuietTactic
import Derived.Deep.RegionHeld3
import Derived.Deep.RegionWith
import Derived.Laws.BitsAllLaws
import Derived.Laws.CopyRow
import Derived.Laws.IdiomCopy
import Derived.Laws.IdiomRangeMap
import Derived.OpenShut
import Derived.OwnWalk
import Derived.ProofKit
import Derived.Scope
import Derived.ShutString
import Derived.WalkKit
import Derived.WalkLawsBesides
import Derived.WalkMore
import Derived.WalkSpells
import Derived.Test.YtceecgklgkiffaaGreatDoorXf3
import Derived.Test.YtceecgklgkiffaaGreatDoorXf11
/- package rat: a Rat in memory; normal, isOne, Check, lowest, times, plus, New, Int, Sign. -/
namespace Go.Proofs.YtceecgklgkiffaaGreatDoor
open Go.ChangeShapes Go.WideShapes Go.ChangeAt Go.RowKit
open Na Ar
set_option linter.unusedVariables false

/-- a struct of three fields in its block -/
def St (w : World) (g : Nat) (t : TypeId) (x y z : Value) : Prop := w.heap[g]? = some (.cells #[x, y, z] t (0, 0))
section
variable {w w' : World} {g : Nat} {t : TypeId} {x y z : Value}
theorem St.lt (h : St w g t x y z) : g < w.heap.size := by
  by_cases hlt : g < w.heap.size
  · exact hlt
  · unfold St at h; simp [Array.getElem?_eq_none (Nat.le_of_not_lt hlt)] at h
theorem St.later (h : St w g t x y z) (hb : Below w.heap.size w w') : St w' g t x y z := by
  have := h.lt
  unfold St
  rw [hb.block g this]; exact h
theorem St.cells (h : St w g t x y z) : w.cell? ⟨g, 0, none⟩ = some x ∧ w.cell? ⟨g, 1, none⟩ = some y ∧ w.cell? ⟨g, 2, none⟩ = some z := by
  unfold St at h
  simp [World.cell?, h]
theorem St.frozen (h : St w g t x y z) : w.frozen? ⟨g, 0, none⟩ = false ∧ w.frozen? ⟨g, 1, none⟩ = false ∧ w.frozen? ⟨g, 2, none⟩ = false := by
  unfold St at h
  simp [World.frozen?, h]
theorem st_new (w : World) (x y z : Value) (t : TypeId) : St (w.alloc (.cells #[x, y, z] t)) w.heap.size t x y z := heap_alloc_new _ _
theorem St.set (h : St w g t x y z) (x' y' z' : Value) : St (((w.setCell ⟨g, 0, none⟩ x').setCell ⟨g, 1, none⟩ y').setCell ⟨g, 2, none⟩ z') g t x' y' z' :=
  set_block (set_block (set_block h))
theorem in3 (w : World) (g : Nat) (x' y' z' : Value) : In g (g + 1) w (((w.setCell ⟨g, 0, none⟩ x').setCell ⟨g, 1, none⟩ y').setCell ⟨g, 2, none⟩ z') :=
  (((In.refl g (g + 1) w).set1 0 _).set1 1 _).set1 2 _
theorem St.inn {g' : Nat} (h : St w g t x y z) (hi : In g' (g' + 1) w w') (hne : g ≠ g') : St w' g t x y z := by
  have := h.lt
  unfold St
  rw [hi.block g this (by omega)]; exact h
theorem own_inn {k : IntKind} {base : Nat} {e : TypeId} {v : Value} {xs : List Int} (h : Own k w base e v xs) (hi : In g (g + 1) w w') (hg : g < base) : Own k w' base e v xs :=
  own_same h fun g' hg' => hi.block g' (own_blk h hg').2 (by have := (own_blk h hg').1; omega)
theorem own_lower {k : IntKind} {base base' : Nat} {e : TypeId} {v : Value} {xs : List Int} (h : Own k w base e v xs) (hl : base' ≤ base) : Own k w base' e v xs := by
  obtain ⟨h1, h2⟩ := h
  refine ⟨h1, ?_⟩
  rcases h2 with h2 | ⟨g, c, cur, hv, hg, r⟩
  · exact Or.inl h2
  · exact Or.inr ⟨g, c, cur, hv, Nat.le_trans hl hg, r⟩
theorem below_in {B : Nat} {a : World} (h : Below B a w) (hi : In g (g + 1) w w') (hg : B ≤ g) (hs : B ≤ a.heap.size) : Below B a w' := below_inn h hi hg hs
end
/-- the Rat q in memory: its sign, its two lists -/
structure Rt (w : World) (s : Bool) (a : Option Addr) (n c : Nat) (b : Option Addr) (m d : Nat) (q : Rat) : Prop where
  sgn : s = decide (q.num < 0)
  nu : RowC w a n c (words (q.num.natAbs : Int))
  de : RowC w b m d (words (q.den : Int))
/-- so many words above and below -/
def Sz (q : Rat) (k : Nat) : Prop := Lt (q.num.natAbs : Int) k ∧ Lt (q.den : Int) k
theorem Sz.mono {q : Rat} {k l : Nat} (h : Sz q k) (hl : k ≤ l) : Sz q l := ⟨h.1.mono hl, h.2.mono hl⟩
section
variable {w w' : World} {s : Bool} {a b : Option Addr} {n c m d : Nat} {q : Rat} {k : Nat}
theorem Rt.later (h : Rt w s a n c b m d q) (hb : Below w.heap.size w w') : Rt w' s a n c b m d q := ⟨h.sgn, h.nu.later hb, h.de.later hb⟩
theorem Rt.len (h : Rt w s a n c b m d q) : n = (words (q.num.natAbs : Int)).length := h.nu.1.1.symm
theorem Rt.le (h : Rt w s a n c b m d q) (hz : Sz q k) : n ≤ k := by rw [h.len]; exact hz.1.len
theorem nm_abs (hz : Sz q k) (hk : k ≤ 4000000) : Nm (words (q.num.natAbs : Int)) (q.num.natAbs : Int) := hz.1.nm hk
theorem nm_den (hz : Sz q k) (hk : k ≤ 4000000) : Nm (words (q.den : Int)) (q.den : Int) := hz.2.nm hk
theorem Sz.mkR {s : Bool} {A B : Int} (hA : Lt A k) (hB : Lt B k) (h0 : 0 < B) : Sz (mkR s A B) k :=
  ⟨⟨by omega, Int.lt_of_le_of_lt (rat_abs_le hA.1 h0) hA.2⟩, ⟨by omega, Int.lt_of_le_of_lt (rat_den_le hA.1 h0) hB.2⟩⟩
end

section
variable {w : World} {a b : Option Addr} {n c m d : Nat}
end
/-- a Rat in memory of its own, from base on; its two lists lie apart -/
structure RtO (w : World) (base : Nat) (s : Bool) (v1 v2 : Value) (q : Rat) : Prop where
  sgn : s = decide (q.num < 0)
  nu : Own .u64 w base 22 v1 (words (q.num.natAbs : Int))
  de : Own .u64 w base 22 v2 (words (q.den : Int))
  ap : Apart v1 v2
theorem RtO.opens {w : World} {base : Nat} {s : Bool} {v1 v2 : Value} {q : Rat} (h : RtO w base s v1 v2 q) : ∃ a n c b m d, v1 = .slice a n c ∧ v2 = .slice b m d ∧ Rt w s a n c b m d q := by
  obtain ⟨a, c, e1, r1⟩ := h.nu.readsC
  obtain ⟨b, d, e2, r2⟩ := h.de.readsC
  exact ⟨a, _, c, b, _, d, e1, e2, h.sgn, r1, r2⟩
theorem RtO.inn {w w' : World} {base g : Nat} {s : Bool} {v1 v2 : Value} {q : Rat} (h : RtO w base s v1 v2 q) (hi : In g (g + 1) w w') (hg : g < base) : RtO w' base s v1 v2 q :=
  ⟨h.sgn, own_inn h.nu hi hg, own_inn h.de hi hg, h.ap⟩
theorem RtO.lower {w : World} {base base' : Nat} {s : Bool} {v1 v2 : Value} {q : Rat} (h : RtO w base s v1 v2 q) (hl : base' ≤ base) : RtO w base' s v1 v2 q :=
  ⟨h.sgn, own_lower h.nu hl, own_lower h.de hl, h.ap⟩
theorem RtO.later {w w' : World} {base : Nat} {s : Bool} {v1 v2 : Value} {q : Rat} (h : RtO w base s v1 v2 q) (hb : Below w.heap.size w w') : RtO w' base s v1 v2 q :=
  ⟨h.sgn, own_same h.nu fun g hg => hb.block g (own_blk h.nu hg).2, own_same h.de fun g hg => hb.block g (own_blk h.de hg).2, h.ap⟩
section
variable {w : World} {a b : Option Addr} {n c m d : Nat} {xs ys : List Int} {A B : Int} {k : Nat}
end
end Go.Proofs.YtceecgklgkiffaaGreatDoor

