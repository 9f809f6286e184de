/- Slices of integers: what a call is told of one that came in, and of one that it has made. -/
import Derived.Test.YtbdljmboilapeabRows
import Derived.WalkKit
import Derived.ProofKit
import Derived.OpenShut
import Derived.ShutString
import Derived.ChangeOld
import Derived.Below
import Derived.OwnWalk
import Derived.WalkLawsBesides
import Derived.WalkSpells
import Derived.Deep.QuietTactic
import Derived.BigQuiet
namespace Go.Proofs.Ytbdljmboilapeab
open Go.ChangeShapes Go.WideShapes Go.ChangeAt Go.RowKit
set_option linter.unusedVariables false

/-- a slice (its address, its length) reads as these numbers -/
def RowAt (k : IntKind) (w : World) (a : Option Addr) (n : Nat) (xs : List Int) : Prop :=
  xs.length = n ∧ (n = 0 ∨ ∃ b off, a = some ⟨b, off, none⟩ ∧ b < w.heap.size ∧ ∀ i, i < n → w.cell? ⟨b, off + i, none⟩ = some (.int k (xs.getD i 0)))
theorem RowAt.later {k : IntKind} {w w' : World} {a : Option Addr} {n : Nat} {xs : List Int} (h : RowAt k w a n xs) (hb : Below w.heap.size w w') : RowAt k w' a n xs := by
  obtain ⟨h1, h2⟩ := h
  refine ⟨h1, ?_⟩
  rcases h2 with h2 | ⟨b, off, ha, hlt, hc⟩
  · exact Or.inl h2
  · exact Or.inr ⟨b, off, ha, Nat.lt_of_lt_of_le hlt hb.size, fun i hi => (hb.cell (p := ⟨b, off + i, none⟩) hlt).trans (hc i hi)⟩
theorem RowAt.at {k : IntKind} {w : World} {a : Option Addr} {n : Nat} {xs : List Int} (h : RowAt k w a n xs) (hn : 0 < n) :
    ∃ b off, a = some ⟨b, off, none⟩ ∧ b < w.heap.size ∧ ∀ i, i < n → w.cell? ⟨b, off + i, none⟩ = some (.int k (xs.getD i 0)) := by
  rcases h.2 with h2 | h2
  · omega
  · exact h2
theorem owned_row {k : IntKind} {w : World} {base : Nat} {e : TypeId} {v : Value} {n : Nat} {xs : List Int} (h : w.ownsRow base e 1 v n (xs.map (Value.int k))) :
    ∃ a cap, v = .slice a n cap ∧ n ≤ cap ∧ RowAt k w a n xs := by
  obtain ⟨h1, h2⟩ := h
  simp only [List.length_map, Nat.mul_one] at h1
  rcases h2 with ⟨rfl, rfl⟩ | ⟨g, cap, cur, rfl, hb, hg, hn, hm, hs, ht⟩
  · exact ⟨none, 0, rfl, Nat.le_refl _, h1, Or.inl rfl⟩
  · refine ⟨_, cap, rfl, hn, h1, Or.inr ⟨g, 0, rfl, ?_, ?_⟩⟩
    · by_cases hlt : g < w.heap.size
      · exact hlt
      · simp [Array.getElem?_eq_none (Nat.le_of_not_lt hlt)] at hg
    · intro i hi
      simp only [Nat.mul_one] at ht
      have e : cur[i]? = some (.int k (xs.getD i 0)) := by
        have h3 : (cur.toList.take n)[i]? = (xs.map (Value.int k))[i]? := by rw [ht]
        rw [List.getElem?_take_of_lt hi, Array.getElem?_toList] at h3
        rw [h3, List.getElem?_map]
        have : i < xs.length := by omega
        simp [List.getElem?_eq_getElem this, List.getD_eq_getElem?_getD]
      simp [World.cell?, hg, e]
/-- behind an append to a row of the call's own: below its base nothing has turned -/
theorem grow_below {w wr w1 : World} {base n : Nat} {e : TypeId} {v : Value} {ys : List Value} {o : Obj} (hB : base ≤ wr.heap.size) (hown : wr.ownsRow base e 1 v n ys) (hnx : Below base w wr) (hg : (wr.alloc o).grownBy w1 v.ownBlock) : Below base w w1 :=
  (hnx.alloc hB o).grown hg (by simp; omega) (fun k hk => (hown.lt k hk).1)
theorem take_next {xs : List Int} {k : Nat} (h : k < xs.length) : xs.take (k + 1) = xs.take k ++ [xs.getD k 0] := by
  rw [List.take_succ_eq_append_getElem h]
  simp [List.getD_eq_getElem?_getD, List.getElem?_eq_getElem h]
/-- a slice that the call has made (its block is base or beyond), and its numbers -/
def Own (k : IntKind) (w : World) (base : Nat) (e : TypeId) (v : Value) (xs : List Int) : Prop := w.ownsRow base e 1 v xs.length (xs.map (Value.int k))
theorem Own.row {k : IntKind} {w : World} {base : Nat} {e : TypeId} {v : Value} {xs : List Int} (h : Own k w base e v xs) : w.ownsRow base e 1 v xs.length (xs.map (Value.int k)) := h
theorem own_nil (k : IntKind) (w : World) (base : Nat) (e : TypeId) : Own k w base e (.slice none 0 0) [] := World.ownsRow_nil _ _ _ _
theorem own_next {w1 : World} {base : Nat} {e : TypeId} {k : IntKind} {v : Value} {n : Nat} {xs : List Int} {x : Int} (h : w1.ownsRow base e 1 v (n + 1) (xs.map (Value.int k) ++ [.int k x])) (hn : n = xs.length) : Own k w1 base e v (xs ++ [x]) := by
  subst hn; unfold Own; rw [List.map_append, List.length_append]; exact h
theorem Own.read {k : IntKind} {w : World} {base : Nat} {e : TypeId} {v : Value} {xs : List Int} (h : Own k w base e v xs) : ∃ a cap, v = .slice a xs.length cap ∧ xs.length ≤ cap ∧ RowAt k w a xs.length xs := owned_row h
theorem one_new {wr : World} {e : TypeId} {v : Value} : ∀ j u, ([v] : List Value)[j]? = some u → (wr.alloc (.cells #[v] e)).cell? ((⟨wr.heap.size, 0, none⟩ : Addr).add j) = some u := by
  intro j u hj
  match j, hj with
  | 0, hj => simp at hj; subst hj; simp [Addr.add]
theorem one_cell {k : IntKind} {x : Int} : ∀ u ∈ [Value.int k x], u.oneCell' = true := by
  intro u hu; simp at hu; subst hu; rfl
theorem Own.wider {k : IntKind} {w : World} {base base' : Nat} {e : TypeId} {v : Value} {xs : List Int} (h : Own k w base e v xs) (hb : base' ≤ base) : Own k w base' e v xs := by
  obtain ⟨h1, h2⟩ := h
  refine ⟨h1, ?_⟩
  rcases h2 with h2 | ⟨g, c, cur, hv, hg, r⟩
  · exact Or.inl h2
  · exact Or.inr ⟨g, c, cur, hv, Nat.le_trans hb hg, r⟩
theorem Own.later {k : IntKind} {w w' : World} {base : Nat} {e : TypeId} {v : Value} {xs : List Int} (h : Own k w base e v xs) (hb : Below w.heap.size w w') : Own k w' base e v xs := by
  obtain ⟨h1, h2⟩ := h
  refine ⟨h1, ?_⟩
  rcases h2 with h2 | ⟨g, c, cur, hv, hg, hc, r⟩
  · exact Or.inl h2
  · refine Or.inr ⟨g, c, cur, hv, hg, ?_, r⟩
    have hlt : g < w.heap.size := by
      by_cases hlt : g < w.heap.size
      · exact hlt
      · simp [Array.getElem?_eq_none (Nat.le_of_not_lt hlt)] at hc
    rw [hb.block g hlt]; exact hc
theorem Own.cap {k : IntKind} {w : World} {base : Nat} {e : TypeId} {a : Option Addr} {n cap : Nat} {xs : List Int} (h : Own k w base e (.slice a n cap) xs) : cap ≤ maxLen := by
  obtain ⟨h1, h2⟩ := h
  rcases h2 with ⟨hv, h0⟩ | ⟨g, c, cur, hv, hb, hg, hn, hc, hs, ht⟩
  · simp only [Value.slice.injEq] at hv; unfold maxLen; omega
  · simp only [Value.slice.injEq] at hv; omega
/-- what is made reads, with room that fits -/
theorem Own.reads {k : IntKind} {w : World} {base : Nat} {e : TypeId} {v : Value} {xs : List Int} (h : Own k w base e v xs) : ∃ a cap, v = .slice a xs.length cap ∧ xs.length ≤ cap ∧ cap ≤ maxLen ∧ RowAt k w a xs.length xs := by
  obtain ⟨a, cap, rfl, hc, hr⟩ := h.read
  exact ⟨a, cap, rfl, hc, h.cap, hr⟩
end Go.Proofs.Ytbdljmboilapeab
