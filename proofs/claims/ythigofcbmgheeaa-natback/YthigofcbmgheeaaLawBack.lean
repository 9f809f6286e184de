/- NatBack: lists of lists that came in, and one that the call makes. -/
import Derived.Test.YthigofcbmgheeaaBaseB
namespace Go.Proofs.Ythigofcbmgheeaa
open Go.ChangeShapes Go.WideShapes Go.ChangeAt Go.RowKit
open Na Ar
set_option linter.unusedVariables false

theorem info_su64 : (Try.prog.info? 22).map (fun i => (i.zero, i.size, i.bytes)) = some (some (.slice none 0 0), 1, 24) := by kernel_rfl
/-- a slice of slices of words that came in -/
def RowsIn (w : World) (a : Option Addr) (n : Nat) : Prop := n ≤ maxLen ∧
  (n = 0 ∨ ∃ b off, a = some ⟨b, off, none⟩ ∧ b < w.heap.size ∧ ∀ i, i < n → ∃ ai li ci xs, w.cell? ⟨b, off + i, none⟩ = some (.slice ai li ci) ∧ RowAt .u64 w ai li xs ∧ Ws xs ∧ li ≤ maxLen)
theorem RowsIn.later {w w' : World} {a : Option Addr} {n : Nat} (h : RowsIn w a n) (hb : Below w.heap.size w w') : RowsIn w' a n := by
  obtain ⟨h0, h⟩ := h
  refine ⟨h0, ?_⟩
  rcases h with h | ⟨b, off, ha, hlt, hc⟩
  · exact Or.inl h
  · refine Or.inr ⟨b, off, ha, Nat.lt_of_lt_of_le hlt hb.size, fun i hi => ?_⟩
    obtain ⟨ai, li, ci, xs, g1, g2, g3, g4⟩ := hc i hi
    exact ⟨ai, li, ci, xs, (hb.cell (p := ⟨b, off + i, none⟩) hlt).trans g1, g2.later hb, g3, g4⟩
theorem rowsIn_nil (w : World) : RowsIn w none 0 := ⟨Nat.zero_le _, Or.inl rfl⟩
/-- what the kit says of a slice of slices that came in -/
theorem rowsIn_of {w : World} {a : Addr} {len cap : Nat} {A : Nat → Option Addr} {L C : Nat → Nat} {Z : Nat → List Int} (hl : len ≤ cap) (hm : cap ≤ maxLen)
    (h : ∀ r, r < cap → w.cell? (a.add r) = some (.slice (A r) (L r) (C r)) ∧ L r ≤ C r ∧ C r ≤ maxLen ∧ (Z r).length = C r ∧ (∀ n ∈ Z r, (Lit.int .u64 n).wf = true) ∧ (A r = none → C r = 0) ∧
        ∀ a', A r = some a' → 0 ≤ a'.block ∧ ∀ c, c < C r → w.cell? (a'.add c) = some (.int .u64 ((Z r).getD c 0))) : RowsIn w (some a) len := by
  refine ⟨by omega, ?_⟩
  by_cases h0 : len = 0
  · exact Or.inl h0
  · right
    obtain ⟨b, off, spot⟩ := a
    have h1 := (h 0 (by omega)).1
    have hs : spot = none := by simpa [Addr.add] using World.cell?_spot h1
    subst hs
    refine ⟨b, off, rfl, ?_, fun i hi => ?_⟩
    · by_cases hlt : b < w.heap.size
      · exact hlt
      · have := Array.getElem?_eq_none (xs := w.heap) (i := b) (Nat.le_of_not_lt hlt)
        simp [World.cell?, Addr.add, this] at h1
    · obtain ⟨g1, g2, g3, g4, g5, g6, g7⟩ := h i (by omega)
      have ea : (⟨b, off, none⟩ : Addr).add i = ⟨b, off + i, none⟩ := by
        unfold Addr.add
        by_cases hi0 : i = 0
        · subst hi0; simp
        · simp [hi0]
      rw [ea] at g1
      have q := row_of (w := w) (a := A i) (len := L i) (cap := C i) (zs := Z i) (by
        cases hA : A i with
        | none =>
          have hc := g6 hA
          left
          exact ⟨rfl, by omega, hc, List.eq_nil_of_length_eq_zero (by omega)⟩
        | some a' =>
          right
          refine ⟨a', rfl, g2, g3, g4, fun c hc => (g7 a' hA).2 c (by omega), g5⟩)
      exact ⟨A i, L i, C i, _, g1, q.1, q.2.1, q.2.2⟩
/-- a row of values, behind a step that keeps all blocks -/
theorem row_later {w w' : World} {base : Nat} {e : TypeId} {v : Value} {n : Nat} {vs : List Value} (h : w.ownsRow base e 1 v n vs) (hb : Below w.heap.size w w') : w'.ownsRow base e 1 v n vs := by
  obtain ⟨h1, h2⟩ := h
  refine ⟨h1, ?_⟩
  rcases h2 with h2 | ⟨g, c, cur, hv, hg, hc, r⟩
  · exact Or.inl h2
  · refine Or.inr ⟨g, c, cur, hv, hg, ?_, r⟩
    have hlt : g < w.heap.size := by
      by_cases hlt : g < w.heap.size
      · exact hlt
      · simp [Array.getElem?_eq_none (Nat.le_of_not_lt hlt)] at hc
    rw [hb.block g hlt]; exact hc
/-- a list of words, behind an append to a row of other things -/
theorem Own.beside {w w2 : World} {base base' : Nat} {e e' : TypeId} {v l : Value} {xs : List Int} {k : Nat} {vs : List Value} {o : Obj} (h : Own .u64 w base e v xs) (hl : w.ownsRow base' e' 1 l k vs) (he : e ≠ e') (hg : (w.alloc o).grownBy w2 l.ownBlock) : Own .u64 w2 base e v xs := by
  have h' : (w.alloc o).ownsRow base e 1 v xs.length (xs.map (Value.int .u64)) := World.ownsRow.alloc h o
  obtain ⟨h1, h2⟩ := h'
  refine ⟨h1, ?_⟩
  rcases h2 with h2 | ⟨g, c, cur, hv, hbg, hc, r⟩
  · exact Or.inl h2
  · refine Or.inr ⟨g, c, cur, hv, hbg, ?_, r⟩
    have hlt : g < (w.alloc o).heap.size := by
      by_cases hlt : g < (w.alloc o).heap.size
      · exact hlt
      · simp only [Array.getElem?_eq_none (Nat.le_of_not_lt hlt)] at hc
        cases hc
    rw [hg.block g hlt ?_]
    · exact hc
    · intro hh
      have hl' : (w.alloc o).ownsRow base' e' 1 l k vs := World.ownsRow.alloc hl o
      rcases hl'.2 with ⟨hl0, _⟩ | ⟨g', c', cur', hv', _, hc', _⟩
      · rw [hl0] at hh; simp [Value.ownBlock] at hh
      · rw [hv'] at hh
        simp only [Value.ownBlock, Option.some.injEq] at hh
        rw [hh, hc'] at hc
        simp only [Option.some.injEq, Obj.cells.injEq] at hc
        exact he hc.2.1.symm
/-- values that are lists of words -/
def VO (w : World) (vs : List Value) (xss : List (List Int)) : Prop := vs.length = xss.length ∧ ∀ j, j < xss.length → ∃ v, vs[j]? = some v ∧ Own .u64 w 0 36 v (xss.getD j []) ∧ Ws (xss.getD j []) ∧ (xss.getD j []).length ≤ 60
theorem vo_nil (w : World) : VO w [] [] := ⟨rfl, fun j hj => by simp at hj⟩
theorem VO.later {w w' : World} {vs : List Value} {xss : List (List Int)} (h : VO w vs xss) (hb : Below w.heap.size w w') : VO w' vs xss :=
  ⟨h.1, fun j hj => by obtain ⟨v, h1, h2, h3⟩ := h.2 j hj; exact ⟨v, h1, h2.later hb, h3⟩⟩
theorem VO.beside {w w2 : World} {base' : Nat} {e' : TypeId} {l : Value} {k : Nat} {us vs : List Value} {xss : List (List Int)} {o : Obj} (h : VO w vs xss) (hl : w.ownsRow base' e' 1 l k us) (he : 36 ≠ e') (hg : (w.alloc o).grownBy w2 l.ownBlock) : VO w2 vs xss :=
  ⟨h.1, fun j hj => by obtain ⟨v, h1, h2, h3⟩ := h.2 j hj; exact ⟨v, h1, h2.beside hl he hg, h3⟩⟩
theorem VO.next {w : World} {vs : List Value} {xss : List (List Int)} {v : Value} {l : List Int} (h : VO w vs xss) (ho : Own .u64 w 0 36 v l) (hw : Ws l) (hl : l.length ≤ 60) : VO w (vs ++ [v]) (xss ++ [l]) := by
  refine ⟨by simp [h.1], fun j hj => ?_⟩
  by_cases hlt : j < xss.length
  · obtain ⟨u, h1, h2, h3⟩ := h.2 j hlt
    have e : (xss ++ [l]).getD j [] = xss.getD j [] := by simp [List.getD_eq_getElem?_getD, List.getElem?_append_left hlt]
    rw [e]
    exact ⟨u, by rw [List.getElem?_append_left (by rw [h.1]; exact hlt)]; exact h1, h2, h3⟩
  · have ej : j = xss.length := by simp at hj; omega
    subst ej
    have e : (xss ++ [l]).getD xss.length [] = l := by simp [List.getD_eq_getElem?_getD]
    rw [e]
    exact ⟨v, by rw [← h.1]; simp, ho, hw, hl⟩
theorem VO.wss {w : World} {vs : List Value} {xss : List (List Int)} (h : VO w vs xss) : Wss xss := by
  intro x hx
  obtain ⟨j, hj, rfl⟩ := List.mem_iff_getElem.mp hx
  obtain ⟨v, _, _, h3, h4⟩ := h.2 j hj
  have e : xss.getD j [] = xss[j] := by simp [List.getD_eq_getElem?_getD, List.getElem?_eq_getElem hj]
  rw [e] at h3 h4
  exact ⟨h3, by omega⟩
theorem VO.rows {w : World} {base : Nat} {e : TypeId} {l : Value} {k : Nat} {vs : List Value} {xss : List (List Int)} (h : VO w vs xss) (hl : w.ownsRow base e 1 l k vs) : ∃ a cap, l = .slice a k cap ∧ RowsC w a k xss := by
  obtain ⟨h1, h2⟩ := hl
  have hk : xss.length = k := by rw [← h.1, h1]; omega
  rcases h2 with ⟨hv, h0⟩ | ⟨g, c, cur, hv, hb, hg, hn, hm, hs, ht⟩
  · exact ⟨none, 0, by rw [hv, h0], hk, Or.inl h0⟩
  · refine ⟨_, c, hv, hk, Or.inr ⟨g, 0, rfl, ?_, fun i hi => ?_⟩⟩
    · by_cases hlt : g < w.heap.size
      · exact hlt
      · simp [Array.getElem?_eq_none (Nat.le_of_not_lt hlt)] at hg
    · obtain ⟨v, g1, g2, g3, g4⟩ := h.2 i (by omega)
      obtain ⟨ai, ci, rfl, hr⟩ := g2.readsC
      refine ⟨ai, ci, ?_, hr⟩
      simp only [Nat.mul_one] at ht
      have e : cur[i]? = some (.slice ai (xss.getD i []).length ci) := by
        rw [← ht, List.getElem?_take_of_lt hi, Array.getElem?_toList] at g1
        exact g1
      simp [World.cell?, hg, e]
theorem maxL_60 {w : World} {vs : List Value} {xss : List (List Int)} (h : VO w vs xss) : maxL xss ≤ 60 := by
  have hall : ∀ x ∈ xss, Ws x ∧ x.length ≤ 60 := by
    intro x hx
    obtain ⟨j, hj, rfl⟩ := List.mem_iff_getElem.mp hx
    obtain ⟨v, _, _, h3, h4⟩ := h.2 j hj
    have e : xss.getD j [] = xss[j] := by simp [List.getD_eq_getElem?_getD, List.getElem?_eq_getElem hj]
    rw [e] at h3 h4
    exact ⟨h3, h4⟩
  clear h
  induction xss with
  | nil => exact Nat.zero_le _
  | cons x xs ih =>
    rw [maxL]
    have a := words_le (hall x (by simp)).1
    have a2 := (hall x (by simp)).2
    exact Nat.max_le.mpr ⟨by omega, ih (fun y hy => hall y (by simp [hy]))⟩
theorem VO.lt {w : World} {vs : List Value} {xss : List (List Int)} (h : VO w vs xss) (hk : xss.length ≤ 12) : Lt (sumN xss) 61 := by
  refine ⟨sumN_nonneg h.wss, ?_⟩
  have a := num_maxL h.wss (maxL_60 h)
  have p := wpow_pos 60
  have b : (xss.length : Int) * 18446744073709551616 ^ 60 ≤ 12 * 18446744073709551616 ^ 60 := Int.mul_le_mul_of_nonneg_right (by omega) (by omega)
  have e : (18446744073709551616 : Int) ^ 61 = 18446744073709551616 ^ 60 * 18446744073709551616 := Int.pow_succ _ _
  rw [e]
  generalize (18446744073709551616 : Int) ^ 60 = P at *
  omega
theorem sumN_snoc (xss : List (List Int)) (l : List Int) : sumN (xss ++ [l]) = sumN xss + num l := by simp [sumN]
/-- cut, with the memory that it has made -/
theorem cutO {a : Option Addr} {n c1 : Nat} {xs : List Int} {w : World} (hr : RowAt .u64 w a n xs) (hx : Ws xs) (hn : n ≤ maxLen) :
    Calls Try.prog 9 #[.slice a n c1] w fun e w' => ∃ a' n' c' l', e = .returned (.slice a' n' c') ∧ Own .u64 w' 0 36 (.slice a' n' c') l' ∧ RowC w' a' n' c' l' ∧ Nm l' (num l') ∧ Lt (num l') 60 ∧ l'.length ≤ 60 ∧ Below w.heap.size w w' := by
  refine (lawCut_any hr hn).mono ?_
  rintro e w' ⟨v, rfl, ho, hb⟩
  obtain ⟨a', c', rfl, r⟩ := ho.readsC
  have hl : (xs.take 60).length ≤ 60 := by rw [List.length_take]; omega
  have hm : Nm (xs.take 60) (num (xs.take 60)) := ⟨hx.take 60, rfl, by omega⟩
  exact ⟨a', _, c', _, rfl, ho.wider (Nat.zero_le _), r, hm, hm.lt hl, hl, hb⟩
theorem addO {a b : Option Addr} {n m c1 c2 : Nat} {xs ys : List Int} {A B : Int} {w : World} {k : Nat} (hr1 : RowC w a n c1 xs) (hr2 : RowC w b m c2 ys) (h1 : Nm xs A) (h2 : Nm ys B) (hL : Lt (A + B) k) (hk : k ≤ 4096) :
    Calls Try.prog 10 #[.slice a n c1, .slice b m c2] w fun e w' => ∃ v, e = .returned (.tuple #[v, .bool true]) ∧ Own .u64 w' 0 36 v (words (A + B)) ∧ Below w.heap.size w w' := by
  refine (lawAdd_any hr1 hr2 h1 h2 hL hk).mono ?_
  rintro e w' ⟨v, rfl, ho, hb⟩
  exact ⟨v, rfl, ho.wider (Nat.zero_le _), hb⟩
theorem sumQ {a b : Option Addr} {n cap : Nat} {xss : List (List Int)} {S : Int} {w : World} {k : Nat} (hr : RowsC w a n xss) (hx : Wss xss) (hn : n ≤ 4000000) (hS : sumN xss = S) (hL : Lt S k) (hk : k ≤ 4096) :
    Calls Try.prog 16 #[.slice a n cap] w fun e w' => ∃ a' n' c' l', e = .returned (.tuple #[.slice a' n' c', .int .i64 0]) ∧ RowC w' a' n' c' l' ∧ Nm l' S ∧ Hid (l' = words S) ∧ Below w.heap.size w w' := by
  have h := natSum_any (cap := cap) hr hx hn
  rw [hS, (hL.fits hk).1, (hL.fits hk).2] at h
  refine h.mono ?_
  rintro e w' ⟨v, rfl, ho, hb⟩
  obtain ⟨a', n', c', l', rfl, r, m, h⟩ := ho.opens hL (by omega)
  exact ⟨a', n', c', l', rfl, r, m, h, hb⟩
theorem Own.rowK {w : World} {base : Nat} {e : TypeId} {a : Option Addr} {n cap : Nat} {xs : List Int} (h : Own .u64 w base e (.slice a n cap) xs) (hn : n = xs.length) : RowC w a n cap xs := by
  subst hn
  obtain ⟨a', c', hv, r⟩ := h.readsC
  simp only [Value.slice.injEq] at hv
  obtain ⟨rfl, _, rfl⟩ := hv
  exact r
theorem one_slice {a : Option Addr} {n c : Nat} : ∀ u ∈ [Value.slice a n c], u.oneCell' = true := by
  intro u hu; simp at hu; subst hu; rfl
end Go.Proofs.Ythigofcbmgheeaa
