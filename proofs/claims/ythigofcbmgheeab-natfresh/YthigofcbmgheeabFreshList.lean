/- Lists, each in memory of its own. -/
import Derived.Test.YthigofcbmgheeabFreshMem
namespace Go.Proofs.Ythigofcbmgheeab
open Go.ChangeShapes Go.WideShapes Go.ChangeAt Go.RowKit
open Na Ar
set_option linter.unusedVariables false

/-- values that are lists of words: each in a block of its own, from lo on and below hi -/
def OL (w : World) (lo hi : Nat) (vs : List Value) (xss : List (List Int)) : Prop := vs.length = xss.length ∧
  (∀ j, j < xss.length → ∃ v, vs[j]? = some v ∧ Own .u64 w lo 47 v (xss.getD j []) ∧ ∀ g, v.ownBlock = some g → g < hi) ∧
  ∀ (i j : Nat) (u v : Value), i ≠ j → vs[i]? = some u → vs[j]? = some v → ∀ g, u.ownBlock = some g → v.ownBlock ≠ some g
theorem ol_nil (w : World) (lo hi : Nat) : OL w lo hi [] [] := ⟨rfl, fun j hj => by simp at hj, fun i j u v _ h => by simp at h⟩
theorem OL.later {w w' : World} {lo hi : Nat} {vs : List Value} {xss : List (List Int)} (h : OL w lo hi vs xss) (hb : Below w.heap.size w w') : OL w' lo hi vs xss :=
  ⟨h.1, fun j hj => by obtain ⟨v, h1, h2, h3⟩ := h.2.1 j hj; exact ⟨v, h1, h2.later hb, h3⟩, h.2.2⟩
theorem Own.block_lt {w : World} {base : Nat} {e : TypeId} {v : Value} {xs : List Int} (h : Own .u64 w base e v xs) {g : Nat} (hg : v.ownBlock = some g) : base ≤ g ∧ g < w.heap.size := by
  rcases h.2 with ⟨hv, _⟩ | ⟨g', cap, cur, hv, hb, hc, _⟩
  · rw [hv] at hg; simp [Value.ownBlock] at hg
  · rw [hv] at hg
    simp only [Value.ownBlock, Option.some.injEq] at hg
    subst hg
    refine ⟨hb, ?_⟩
    by_cases hlt : g' < w.heap.size
    · exact hlt
    · simp [Array.getElem?_eq_none (Nat.le_of_not_lt hlt)] at hc
theorem Own.slice {w : World} {base : Nat} {e : TypeId} {v : Value} {xs : List Int} (h : Own .u64 w base e v xs) : ∃ a n c, v = .slice a n c := by
  obtain ⟨a, c, hv, _⟩ := h.readsC
  exact ⟨a, _, c, hv⟩
theorem OL.next {w : World} {lo hi base : Nat} {vs : List Value} {xss : List (List Int)} {v : Value} {l : List Int} (h : OL w lo hi vs xss) (ho : Own .u64 w base 47 v l) (hlo : lo ≤ hi) (hhi : hi ≤ base) : OL w lo w.heap.size (vs ++ [v]) (xss ++ [l]) := by
  have hsz : ∀ (j : Nat) (u : Value), vs[j]? = some u → ∀ g, u.ownBlock = some g → g < hi := by
    intro j u hj g hg
    have hjl : j < xss.length := by
      by_cases q : j < vs.length
      · rw [← h.1]; exact q
      · rw [List.getElem?_eq_none (by omega)] at hj; simp at hj
    obtain ⟨u', h1, h2, h3⟩ := h.2.1 j hjl
    rw [h1] at hj
    simp only [Option.some.injEq] at hj
    subst hj
    exact h3 g hg
  refine ⟨by simp [h.1], fun j hj => ?_, fun i j u u' hij hu hu' g hg hg' => ?_⟩
  · by_cases hlt : j < xss.length
    · obtain ⟨u, h1, h2, h3⟩ := h.2.1 j hlt
      have e : (xss ++ [l]).getD j [] = xss.getD j [] := by simp [List.getD_eq_getElem?_getD, List.getElem?_append_left hlt]
      rw [e]
      refine ⟨u, by rw [List.getElem?_append_left (by rw [h.1]; exact hlt)]; exact h1, h2, fun g hg => (h2.block_lt hg).2⟩
    · have ej : j = xss.length := by simp at hj; omega
      subst ej
      have e : (xss ++ [l]).getD xss.length [] = l := by simp [List.getD_eq_getElem?_getD]
      rw [e]
      exact ⟨v, by rw [← h.1]; simp, ho.wider (by omega), fun g hg => (ho.block_lt hg).2⟩
  · have cases : ∀ k (x : Value), (vs ++ [v])[k]? = some x → (k < vs.length ∧ vs[k]? = some x) ∨ (k = vs.length ∧ x = v) := by
      intro k x hx
      by_cases hk : k < vs.length
      · left; rw [List.getElem?_append_left hk] at hx; exact ⟨hk, hx⟩
      · right
        rw [List.getElem?_append_right (by omega)] at hx
        by_cases hk0 : k = vs.length
        · subst hk0
          simp at hx
          exact ⟨rfl, hx.symm⟩
        · rw [List.getElem?_eq_none (by simp; omega)] at hx; simp at hx
    rcases cases i u hu with ⟨i1, i2⟩ | ⟨i1, i2⟩
    · rcases cases j u' hu' with ⟨j1, j2⟩ | ⟨j1, j2⟩
      · exact h.2.2 i j u u' hij i2 j2 g hg hg'
      · subst j2
        have a := hsz i u i2 g hg
        have b := (ho.block_lt hg').1
        omega
    · rcases cases j u' hu' with ⟨j1, j2⟩ | ⟨j1, j2⟩
      · subst i2
        have a := hsz j u' j2 g hg'
        have b := (ho.block_lt hg).1
        omega
      · omega
section
variable {a b : Option Addr} {n m c1 c2 : Nat} {xs ys : List Int} {A B : Int} {w : World} {k : Nat}
theorem shlN (hr1 : RowC w a n c1 xs) (h1 : Nm xs A) (t : Nat) {T : Int} (hT : (t : Int) = T) (ht : t ≤ 300000) (hL : Lt (A * 2 ^ t) k) (hk : k ≤ 4096) :
    Calls Try.prog 7 #[.slice a n c1, .int .i64 T] w fun e w' => ∃ v, e = .returned (.tuple #[v, .int .i64 0]) ∧ Own .u64 w' w.heap.size 47 v (words (A * 2 ^ t)) ∧ Below w.heap.size w w' := by
  subst hT
  have l1 := hr1.1.1
  have h := natShl_any hr1 h1.ws (by have := h1.len; omega) (t : Int) (by omega)
  have e1 : shlE A (t : Int) = 0 := by unfold shlE; rw [if_neg (by omega), Int.toNat_natCast]; exact (hL.fits hk).2
  have e2 : shlL A (t : Int) = words (A * 2 ^ t) := by unfold shlL; rw [if_neg (by omega), Int.toNat_natCast]; exact (hL.fits hk).1
  rw [h1.num, e1, e2] at h
  exact h
theorem shrN (hr1 : RowC w a n c1 xs) (h1 : Nm xs A) (t : Nat) {T : Int} (hT : (t : Int) = T) (ht : t ≤ 300000) (hL : Lt A k) (hk : k ≤ 4096) :
    Calls Try.prog 9 #[.slice a n c1, .int .i64 T] w fun e w' => ∃ v S, e = .returned (.tuple #[v, .bool S, .int .i64 0]) ∧ Own .u64 w' w.heap.size 47 v (words (A / 2 ^ t)) ∧ Below w.heap.size w w' := by
  subst hT
  have l1 := hr1.1.1
  have h := natShr_any hr1 h1.ws (by have := h1.len; omega) (t : Int) (by omega)
  have hL2 : Lt (A / 2 ^ t) k := hL.le (Int.ediv_nonneg hL.1 (Int.le_of_lt (p2pos t))) (Int.ediv_le_self _ hL.1)
  have e1 : shrE A (t : Int) = 0 := by unfold shrE; rw [if_neg (by omega), Int.toNat_natCast]; exact (hL2.fits hk).2
  have e2 : shrL A (t : Int) = words (A / 2 ^ t) := by unfold shrL; rw [if_neg (by omega), Int.toNat_natCast]; exact (hL2.fits hk).1
  rw [h1.num, e1, e2] at h
  refine h.mono ?_
  rintro e w' ⟨v, rfl, ho, hb⟩
  exact ⟨v, _, rfl, ho, hb⟩
theorem sumO {cap : Nat} {xss : List (List Int)} {S : Int} (hr : RowsC w a n xss) (hx : Wss xss) (hn : n ≤ 4000000) (hS : sumN xss = S) (hL : Lt S k) (hk : k ≤ 4096) :
    Calls Try.prog 40 #[.slice a n cap] w fun e w' => ∃ v, e = .returned (.tuple #[v, .int .i64 0]) ∧ Own .u64 w' w.heap.size 47 v (words S) ∧ Below w.heap.size w w' := by
  have h := natSum_any (cap := cap) hr hx hn
  rw [hS, (hL.fits hk).1, (hL.fits hk).2] at h
  exact h
end
theorem rowsC_one {w : World} {a : Option Addr} {n c1 : Nat} {xs : List Int} (t : TypeId) (h1 : RowC w a n c1 xs) :
    RowsC (w.alloc (.cells #[.slice a n c1] t)) (some ⟨w.heap.size, 0, none⟩) 1 [xs] := by
  have hb : Below w.heap.size w (w.alloc (.cells #[.slice a n c1] t)) := (Below.refl _ _).alloc (Nat.le_refl _) _
  have e1 := h1.1.1
  have g1 := h1.later hb
  subst e1
  refine ⟨rfl, Or.inr ⟨w.heap.size, 0, rfl, by simp, fun i hi => ?_⟩⟩
  have hi3 : i = 0 := by omega
  subst hi3
  exact ⟨a, c1, by simp, g1⟩
theorem wss_one {X : List Int} (h1 : Ws X ∧ X.length ≤ 4000000) : Wss [X] := by
  intro q hq
  simp at hq
  rw [hq]; exact h1
/-- what answers gives, list by list -/
def ansL (A B : Int) (t : Nat) : List (List Int) := [words (A + B), words (A + A), words (A + 0), words (A - 0), words (A * 1), words (A * A), words (A * 2 ^ 0), words (A / 2 ^ 0), words (A * 2 ^ t), words (A / 2 ^ t), words A, words (A + (B + A)), words (A - A), words A, words B, words 7]
end Go.Proofs.Ythigofcbmgheeab
