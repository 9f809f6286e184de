/- plumblaw02: told; what a law wants of its arguments. -/
import Derived.Test.YtbdljmboilapeabLawSame
import Derived.Test.YtbdljmboilapeabRefSum
namespace Go.Proofs.Ytbdljmboilapeab
open Go.ChangeShapes Go.WideShapes Go.ChangeAt Go.RowKit
open Na
set_option linter.unusedVariables false

namespace Na
theorem resL_len (N : Int) : (resL N).length ≤ 4096 := by unfold resL; split <;> simp_all
theorem shlL_len (N n : Int) : (shlL N n).length ≤ 4096 := by unfold shlL; split; · simp
                                                              · exact resL_len _
theorem shrL_len (N n : Int) : (shrL N n).length ≤ 4096 := by unfold shrL; split; · simp
                                                              · exact resL_len _
theorem subL_len (A B : Int) : (subL A B).length ≤ 4096 := by unfold subL; split; · simp
                                                              · exact resL_len _
end Na

theorem lawTold_any {a b : Option Addr} {n m c1 c2 : Nat} {xs ys : List Int} {E : Int} {w : World} (hr1 : RowAt .u64 w a n xs) (hr2 : RowAt .u64 w b m ys) (hn : n ≤ 5000) (hm : m ≤ 5000) (he : xs = ys) :
    Calls Try.prog 14 #[.slice a n c1, .int .i64 E, .slice b m c2, .int .i64 E] w fun e w' => e = .returned (.bool true) ∧ Below w.heap.size w w' := by
  have t : decide (xs = ys) = true := decide_eq_true he
  have hs := fun w (h1 : RowAt .u64 w a n xs) (h2 : RowAt .u64 w b m ys) => same_any (c1 := c1) (c2 := c2) h1 h2 (by omega) (by omega)
  rw [t] at hs
  clear t he
  go_enter Try.func14, Try.ntmps14
  go_wp2_with fail
  refine (hs _ hr1 hr2).mono ?_
  rintro e w' ⟨rfl, hb⟩
  clear hs hr1 hr2
  go_wp2
  go_ret
  exact ⟨rfl, hb⟩

theorem same_true {a b : Option Addr} {n m c1 c2 : Nat} {xs ys : List Int} {w : World} (hr1 : RowAt .u64 w a n xs) (hr2 : RowAt .u64 w b m ys) (hn : n * 8 ≤ 140737488351232) (hm : m * 8 ≤ 140737488351232) (he : xs = ys) :
    Calls Try.prog 26 #[.slice a n c1, .slice b m c2] w fun e w' => e = .returned (.bool true) ∧ Below w.heap.size w w' := by
  have h := same_any (c1 := c1) (c2 := c2) hr1 hr2 hn hm
  rw [decide_eq_true he] at h
  exact h
namespace Na
theorem words_len {xs : List Int} (h : Ws xs) : (words (num xs)).length ≤ xs.length := by
  refine dig_length (by omega) ?_
  have l := val_lt (by omega) h
  have c : ((18446744073709551616 ^ xs.length : Nat) : Int) = (18446744073709551616 : Int) ^ xs.length := by simp
  have n0 := num_nonneg h
  have l2 : num xs < 18446744073709551616 ^ xs.length := l
  omega
theorem wordV_bd {N : Int} (h : 0 ≤ N) : 0 ≤ wordV N ∧ wordV N < 18446744073709551616 := by unfold wordV; split <;> omega
theorem words_len1 {v : Int} (h : 0 ≤ v ∧ v < 18446744073709551616) : (words v).length ≤ 1 := by
  have e : num [v] = v := by simp [num, val]
  have := words_len (xs := [v]) (Dg.one h)
  rw [e] at this
  simpa using this
end Na
theorem wss_three {X Y Z : List Int} (h1 : Ws X ∧ X.length ≤ 4000000) (h2 : Ws Y ∧ Y.length ≤ 4000000) (h3 : Ws Z ∧ Z.length ≤ 4000000) : Wss [X, Y, Z] := by
  intro q hq
  simp at hq
  rcases hq with e | e | e
  · rw [e]; exact h1
  · rw [e]; exact h2
  · rw [e]; exact h3
theorem wss0_three {X Y Z : List Int} (h1 : Ws X ∧ X.length ≤ 10000) (h2 : Ws Y ∧ Y.length ≤ 10000) (h3 : Ws Z ∧ Z.length ≤ 10000) : Wss0 [X, Y, Z] := by
  intro q hq
  simp at hq
  rcases hq with e | e | e
  · rw [e]; exact h1
  · rw [e]; exact h2
  · rw [e]; exact h3
theorem alloc_below {w : World} (o : Obj) : Below w.heap.size w (w.alloc o) := (Below.refl _ _).alloc (Nat.le_refl _) o
/-- three lists laid into one slice -/
theorem rows_three {w : World} {a b c : Option Addr} {n m k c1 c2 c3 : Nat} {xs ys zs : List Int} (t : TypeId) (h1 : RowAt .u64 w a n xs) (h2 : RowAt .u64 w b m ys) (h3 : RowAt .u64 w c k zs) :
    RowsAt (w.alloc (.cells #[.slice a n c1, .slice b m c2, .slice c k c3] t)) (some ⟨w.heap.size, 0, none⟩) 3 [xs, ys, zs] := by
  have hb : Below w.heap.size w (w.alloc (.cells #[.slice a n c1, .slice b m c2, .slice c k c3] t)) := (Below.refl _ _).alloc (Nat.le_refl _) _
  have e1 := h1.1
  have e2 := h2.1
  have e3 := h3.1
  have g1 := h1.later hb
  have g2 := h2.later hb
  have g3 := h3.later hb
  subst e1 e2 e3
  refine ⟨rfl, Or.inr ⟨w.heap.size, 0, rfl, by simp, fun i hi => ?_⟩⟩
  have hi3 : i = 0 ∨ i = 1 ∨ i = 2 := by omega
  rcases hi3 with rfl | rfl | rfl
  · exact ⟨a, c1, by simp, g1⟩
  · exact ⟨b, c2, by simp, g2⟩
  · exact ⟨c, c3, by simp, g3⟩
/-- the frame's word for a slice that came in, as a row -/
theorem row_of {w : World} {a : Option Addr} {len cap : Nat} {zs : List Int} (h : (a = none ∧ len = 0 ∧ cap = 0 ∧ zs = []) ∨
    ∃ x, a = some x ∧ len ≤ cap ∧ cap ≤ maxLen ∧ zs.length = cap ∧ (∀ i, i < zs.length → w.cell? (x.add i) = some (.int .u64 (zs.getD i 0))) ∧ ∀ n ∈ zs, (Lit.int .u64 n).wf = true) :
    RowAt .u64 w a len (zs.take len) ∧ Ws (zs.take len) ∧ len ≤ maxLen := by
  rcases h with ⟨rfl, rfl, rfl, rfl⟩ | ⟨x, rfl, hl, hm, hz, hc, hw⟩
  · exact ⟨⟨rfl, Or.inl rfl⟩, Dg.nil _, Nat.zero_le _⟩
  · refine ⟨⟨by rw [List.length_take]; omega, ?_⟩, fun y hy => ?_, by omega⟩
    · by_cases h0 : len = 0
      · exact Or.inl h0
      · right
        obtain ⟨b, off, spot⟩ := x
        have h1 := hc 0 (by omega)
        have hs : spot = none := by simpa [Addr.add] using World.cell?_spot h1
        subst hs
        refine ⟨b, off, rfl, ?_, fun i hi => ?_⟩
        · by_cases hlt : b < w.heap.size
          · exact hlt
          · have := Array.getElem?_eq_none (xs := w.heap) (i := b) (Nat.le_of_not_lt hlt)
            simp [World.cell?, Addr.add, this] at h1
        · have h2 := hc i (by omega)
          have e : (zs.take len).getD i 0 = zs.getD i 0 := by simp [List.getD_eq_getElem?_getD, List.getElem?_take_of_lt hi]
          have ea : (⟨b, off, none⟩ : Addr).add i = ⟨b, off + i, none⟩ := by
            unfold Addr.add
            by_cases hi0 : i = 0
            · subst hi0; simp
            · simp [hi0]
          rw [e, ← ea]
          exact h2
    · have hb := bounds_u64 (hw y (List.mem_of_mem_take hy))
      exact ⟨hb.1, by have := hb.2; omega⟩
end Go.Proofs.Ytbdljmboilapeab
