/- NatFresh: what its walk carries. -/
import Derived.Test.YthigofcbmgheeabFreshLast
namespace Go.Proofs.Ythigofcbmgheeab
open Go.ChangeShapes Go.WideShapes Go.ChangeAt Go.RowKit
open Na Ar
set_option linter.unusedVariables false

theorem room_len (xs : List Int) : (roomL xs).length = xs.length + 70 := by unfold roomL; simp
theorem room_take (xs : List Int) : (roomL xs).take xs.length = xs := by unfold roomL; rw [List.take_left]
theorem ws_room {xs : List Int} (h : Ws xs) : Ws (roomL xs) := fun y hy => by
  unfold roomL at hy
  rcases List.mem_append.mp hy with hy | hy
  · exact h y hy
  · obtain ⟨i, hi, rfl⟩ := List.mem_map.mp hy
    have := List.mem_range.mp hi
    unfold roomMark
    omega
theorem room_some {w : World} {base : Nat} {e : TypeId} {v : Value} {xs : List Int} {n : Nat} (h : Own .u64 w base e v (roomL xs)) (hn : xs.length = n) : ∃ g c, v = .slice (some ⟨g, 0, none⟩) (n + 70) c ∧ n + 70 ≤ c ∧ c ≤ maxLen ∧ base ≤ g ∧ g < w.heap.size := by
  subst hn
  obtain ⟨a, c, hv, r⟩ := h.readsC
  rw [room_len] at hv r
  subst hv
  rcases h.2 with ⟨hv, h0⟩ | ⟨g, cap, cur, hv, _⟩
  · rw [room_len] at h0; omega
  · simp only [Value.slice.injEq] at hv
    obtain ⟨rfl, _, rfl⟩ := hv
    exact ⟨g, c, rfl, r.2.1, r.2.2, h.block_lt rfl⟩
theorem own_mine {w : World} {base g c n m : Nat} {e : TypeId} {us : List Int} (h : Own .u64 w base e (.slice (some ⟨g, 0, none⟩) m c) us) (hm : us.length = m) (hn : n ≤ m) : Own .u64 w base e (.slice (some ⟨g, 0, none⟩) n c) (us.take n) := by
  subst hm
  exact h.cut hn
theorem room_mine {w : World} {base g c n : Nat} {e : TypeId} {xs : List Int} (h : Own .u64 w base e (.slice (some ⟨g, 0, none⟩) (n + 70) c) (roomL xs)) (hn : xs.length = n) : Own .u64 w base e (.slice (some ⟨g, 0, none⟩) n c) xs := by
  have h2 := own_mine h (by rw [room_len, hn]) (by omega : n ≤ n + 70)
  rw [← hn, room_take] at h2
  rw [← hn]
  exact h2
theorem ans_short {A B : Int} {t q : Nat} (lA : Lt A 60) (lB : Lt B 60) (ht : t < 200) (hq : q < 16) : ((ansL A B t).getD q []).length ≤ 5000 := by
  have lAt : Lt (A * 2 ^ t) 70 := (lA.pow2 (t := t)).mono (by omega)
  have lA0 : Lt (A * 2 ^ 0) 70 := (lA.pow2 (t := 0)).mono (by omega)
  have d1 : Lt (A / 2 ^ t) 60 := lA.le (Int.ediv_nonneg lA.1 (Int.le_of_lt (p2pos t))) (Int.ediv_le_self _ lA.1)
  have d2 : Lt (A / 2 ^ 0) 60 := lA.le (Int.ediv_nonneg lA.1 (Int.le_of_lt (p2pos 0))) (Int.ediv_le_self _ lA.1)
  have s0 : Lt (A - 0) 60 := by rw [Int.sub_zero]; exact lA
  have sA : Lt (A - A) 60 := by rw [Int.sub_self]; exact lt_zero.mono (by omega)
  have l7 : Lt 7 1 := Lt.word (by omega)
  have hc : q = 0 ∨ q = 1 ∨ q = 2 ∨ q = 3 ∨ q = 4 ∨ q = 5 ∨ q = 6 ∨ q = 7 ∨ q = 8 ∨ q = 9 ∨ q = 10 ∨ q = 11 ∨ q = 12 ∨ q = 13 ∨ q = 14 ∨ q = 15 := by omega
  rcases hc with rfl | rfl | rfl | rfl | rfl | rfl | rfl | rfl | rfl | rfl | rfl | rfl | rfl | rfl | rfl | rfl
  · exact Nat.le_trans (lA.add lB).len (by omega)
  · exact Nat.le_trans (lA.add lA).len (by omega)
  · exact Nat.le_trans (lA.add lt_zero).len (by omega)
  · exact Nat.le_trans s0.len (by omega)
  · exact Nat.le_trans (lA.mul lt_one).len (by omega)
  · exact Nat.le_trans (lA.mul lA).len (by omega)
  · exact Nat.le_trans lA0.len (by omega)
  · exact Nat.le_trans d2.len (by omega)
  · exact Nat.le_trans lAt.len (by omega)
  · exact Nat.le_trans d1.len (by omega)
  · exact Nat.le_trans lA.len (by omega)
  · exact Nat.le_trans (lA.add (lB.add lA)).len (by omega)
  · exact Nat.le_trans sA.len (by omega)
  · exact Nat.le_trans lA.len (by omega)
  · exact Nat.le_trans lB.len (by omega)
  · exact Nat.le_trans l7.len (by omega)
/-- the list of lists lies behind its lists -/
theorem ans_lo {w : World} {lo hi : Nat} {vs : List Value} {A B : Int} {t : Nat} (h : OL w lo hi vs (ansL A B t)) : lo < hi := by
  obtain ⟨v, h1, h2, h3⟩ := h.2.1 15 (by rw [ans_len]; omega)
  have e : (ansL A B t).getD 15 [] = words 7 := rfl
  rw [e] at h2
  rcases h2.2 with ⟨_, h0⟩ | ⟨g, c, cur, hv, hb, _⟩
  · have := (words_nil (N := 7) (by omega)).mp h0
    omega
  · have := h3 g (by rw [hv]; rfl)
    omega
theorem OL.inn {w w' : World} {lo hi l h : Nat} {vs : List Value} {xss : List (List Int)} (hO : OL w lo hi vs xss) (hI : In l h w w') (hh : h ≤ lo) : OL w' lo hi vs xss := by
  refine ⟨hO.1, fun j hj => ?_, hO.2.2⟩
  obtain ⟨v, h1, h2, h3⟩ := hO.2.1 j hj
  refine ⟨v, h1, ?_, h3⟩
  have hb := fun g hg => h2.block_lt (g := g) hg
  obtain ⟨k1, k2⟩ := h2
  refine ⟨k1, ?_⟩
  rcases k2 with k2 | ⟨g, c, cur, hv, hbg, hc, r⟩
  · exact Or.inl k2
  · have := hb g (by rw [hv]; rfl)
    refine Or.inr ⟨g, c, cur, hv, hbg, ?_, r⟩
    rw [hI.block g this.2 (Or.inr (by omega))]
    exact hc
theorem OL.low {w : World} {lo hi g k : Nat} {vs : List Value} {xss : List (List Int)} (hO : OL w lo hi vs xss) (hg : g < lo) (u : Value) : OL (w.setCell ⟨g, k, none⟩ u) lo hi vs xss := by
  refine ⟨hO.1, fun j hj => ?_, hO.2.2⟩
  obtain ⟨v, h1, h2, h3⟩ := hO.2.1 j hj
  exact ⟨v, h1, h2.other (fun hh => by have := (h2.block_lt hh).1; omega) u, h3⟩
theorem cells_lt {w : World} {g : Nat} {o : Obj} (h : w.heap[g]? = some o) : g < w.heap.size := by
  by_cases hlt : g < w.heap.size
  · exact hlt
  · simp [Array.getElem?_eq_none (Nat.le_of_not_lt hlt)] at h
/-- an answer: the list of lists and its lists, all from lo on -/
def An (w : World) (lo g : Nat) (vs : List Value) (xss : List (List Int)) : Prop := w.heap[g]? = some (.cells vs.toArray 22 (0, 0)) ∧ OL w lo g vs xss ∧ lo < g
theorem An.later {w w' : World} {lo g : Nat} {vs : List Value} {xss : List (List Int)} (h : An w lo g vs xss) (hb : Below w.heap.size w w') : An w' lo g vs xss :=
  ⟨by rw [hb.block g (cells_lt h.1)]; exact h.1, h.2.1.later hb, h.2.2⟩
theorem An.inn {w w' : World} {lo g l h' : Nat} {vs : List Value} {xss : List (List Int)} (h : An w lo g vs xss) (hI : In l h' w w') (hh : h' ≤ lo) : An w' lo g vs xss :=
  ⟨by rw [hI.block g (cells_lt h.1) (Or.inr (by have := h.2.2; omega))]; exact h.1, h.2.1.inn hI hh, h.2.2⟩
theorem An.low {w : World} {lo g g' k : Nat} {vs : List Value} {xss : List (List Int)} (h : An w lo g vs xss) (hg : g' < lo) (u : Value) : An (w.setCell ⟨g', k, none⟩ u) lo g vs xss :=
  ⟨by rw [Below.heap_setCell _ _ _ _ (by have := h.2.2; simp only; omega)]; exact h.1, h.2.1.low hg u, h.2.2⟩
theorem An.pair {w : World} {lo1 lo2 g1 g2 : Nat} {us vs : List Value} {A B : Int} {t q : Nat} (o1 : An w lo1 g1 us (ansL A B t)) (o2 : An w lo2 g2 vs (ansL A B t)) (lA : Lt A 60) (lB : Lt B 60) (ht : t < 200) (hq : q < 16) :
    ∃ a n c b d, n ≤ 10000 ∧ w.cell? ⟨g1, q, none⟩ = some (.slice a n c) ∧ w.cell? ⟨g2, q, none⟩ = some (.slice b n d) ∧ RowC w a n c ((ansL A B t).getD q []) ∧ RowC w b n d ((ansL A B t).getD q []) := pair_at o1.1 o2.1 o1.2.1 o2.2.1 lA lB ht hq
theorem answersA {a b : Option Addr} {n m c1 c2 : Nat} {xs ys : List Int} {A B : Int} {t : Nat} {w : World} (hr1 : RowC w a n c1 xs) (hr2 : RowC w b m c2 ys) (h1 : Nm xs A) (h2 : Nm ys B) (lA : Lt A 60) (lB : Lt B 60) (ht : t < 200) :
    Calls Try.prog 21 #[.slice a n c1, .slice b m c2, .int .i64 (t : Int)] w fun e w' => ∃ g vs, e = .returned (.tuple #[.slice (some ⟨g, 0, none⟩) 16 16, .bool true]) ∧ An w' w.heap.size g vs (ansL A B t) ∧ Below w.heap.size w w' := by
  refine (answers_any hr1 hr2 h1 h2 lA lB ht).mono ?_
  rintro e w' ⟨g, vs, rfl, hc, hO, hb⟩
  exact ⟨g, vs, rfl, ⟨hc, hO, ans_lo hO⟩, hb⟩
theorem markedA {ga lo : Nat} {vs : List Value} {A B : Int} {t : Nat} {w : World} (h : An w lo ga vs (ansL A B t)) (lA : Lt A 60) (lB : Lt B 60) (ht : t < 200) :
    Calls Try.prog 25 #[.slice (some ⟨ga, 0, none⟩) 16 16] w fun e w' => ∃ a n c, e = .returned (.agg #[.slice (some ⟨ga, 0, none⟩) 16 16, .slice a n c]) ∧ KW w' ga lo (.slice a n c) ∧ In lo ga w w' := by
  have hl := cells_lt h.1
  have hlg := h.2.2
  refine (marked_any h.1 h.2.1 (ans_len A B t) (Nat.le_refl _) (by omega) (fun j hj => ans_short lA lB ht hj)).mono ?_
  rintro e w' ⟨kg, gs, yss, s2, rfl, hM, hc, hO, hG, hk, hs, hI⟩
  obtain ⟨a, n, c, rfl⟩ := row_slice hk
  exact ⟨a, n, c, rfl, ⟨ga, vs, gs, yss, ansL A B t, s2, ans_len A B t, hM, fun j hj => ans_short lA lB ht hj, hc, hO, hG, hk, by omega, by omega⟩, hI⟩
/-- a struct of two lists in a block of its own -/
def Sk (w : World) (gk : Nat) (a b : Value) : Prop := w.heap[gk]? = some (.cells #[a, b] 45 (0, 0))
theorem Sk.later {w w' : World} {gk : Nat} {a b : Value} (h : Sk w gk a b) (hb : Below w.heap.size w w') : Sk w' gk a b := by
  have := cells_lt h
  unfold Sk
  rw [hb.block gk this]; exact h
theorem Sk.low {w : World} {gk g k : Nat} {a b : Value} (h : Sk w gk a b) (hg : g ≠ gk) (u : Value) : Sk (w.setCell ⟨g, k, none⟩ u) gk a b := by
  unfold Sk
  rw [Below.heap_setCell _ _ _ _ (by simp only; omega)]; exact h
/-- all that is kept behind the third answers -/
def Af (w : World) (lo g1 gk g2 g3 : Nat) (kg : Value) (vs2 vs3 : List Value) (L : List (List Int)) : Prop := KW w g1 lo kg ∧ Sk w gk (.slice (some ⟨g1, 0, none⟩) 16 16) kg ∧ lo ≤ gk ∧ ∃ lo2 lo3, lo ≤ lo2 ∧ lo ≤ lo3 ∧ An w lo2 g2 vs2 L ∧ An w lo3 g3 vs3 L
theorem Af.later {w w' : World} {lo g1 gk g2 g3 : Nat} {kg : Value} {vs2 vs3 : List Value} {L : List (List Int)} (h : Af w lo g1 gk g2 g3 kg vs2 vs3 L) (hb : Below w.heap.size w w') : Af w' lo g1 gk g2 g3 kg vs2 vs3 L := by
  obtain ⟨h1, h2, h3, lo2, lo3, h4, h5, h6, h7⟩ := h
  exact ⟨h1.later hb, h2.later hb, h3, lo2, lo3, h4, h5, h6.later hb, h7.later hb⟩
theorem Af.low {w : World} {lo g1 gk g2 g3 g k : Nat} {kg : Value} {vs2 vs3 : List Value} {L : List (List Int)} (h : Af w lo g1 gk g2 g3 kg vs2 vs3 L) (hg : g < lo) (u : Value) : Af (w.setCell ⟨g, k, none⟩ u) lo g1 gk g2 g3 kg vs2 vs3 L := by
  obtain ⟨h1, h2, h3, lo2, lo3, h4, h5, h6, h7⟩ := h
  exact ⟨h1.set hg u, h2.low (by omega) u, h3, lo2, lo3, h4, h5, h6.low (by omega) u, h7.low (by omega) u⟩
end Go.Proofs.Ythigofcbmgheeab
