/- for the exact laws of layer 3. -/
import Derived.Test.YtopcdpeepchgfabBaseH
import Derived.Test.YtopcdpeepchgfabBaseD
namespace Go.Proofs.Ytopcdpeepchgfab
open Go.ChangeShapes Go.WideShapes Go.ChangeAt Go.RowKit
open Na Ar
set_option linter.unusedVariables false
theorem rowC_of {w : World} {a : Option Addr} {len cap : Nat} {zs : List Int} (h : (a = none ∧ len = 0 ∧ cap = 0 ∧ zs = []) ∨
    ∃ x, a = some x ∧ len ≤ cap ∧ cap ≤ maxLen ∧ zs.length = cap ∧ (∀ i, i < zs.length → w.cell? (x.add i) = some (.int .u64 (zs.getD i 0))) ∧ ∀ n ∈ zs, (Lit.int .u64 n).wf = true) :
    RowC w a len cap (zs.take len) ∧ Ws (zs.take len) := by
  have q := row_of h
  refine ⟨⟨q.1, ?_⟩, q.2.1⟩
  rcases h with ⟨rfl, rfl, rfl, rfl⟩ | ⟨x, rfl, hl, hm, hz, hc, hw⟩
  · exact ⟨Nat.le_refl _, Nat.zero_le _⟩
  · exact ⟨hl, hm⟩
/-- what was lent, and its first part -/
theorem lentQ {a : Option Addr} {n cap : Nat} {xs : List Int} {w : World} (hrow : RowAt .u64 w a n xs) (hn : n ≤ 3000000) :
    Calls Try.prog 24 #[.slice a n cap] w fun e w' => ∃ la lc, e = .returned (.slice la (n + 2) lc) ∧ RowC w' la (n + 2) lc (xs ++ [7777, 8888]) ∧ RowC w' la n lc xs ∧ n ≤ lc ∧ Below w.heap.size w w' := by
  have hl := hrow.1
  refine (lentAll_any hrow hn).mono ?_
  rintro e w' ⟨v, rfl, hv, hb⟩
  obtain ⟨la, lc, rfl, hr⟩ := hv.readsC
  have e2 : (xs ++ [7777, 8888]).length = n + 2 := by simp [hl]
  rw [e2] at hr ⊢
  have hc := hr.cut (m := n) (by omega)
  have ht : (xs ++ [7777, 8888]).take n = xs := by rw [List.take_append, List.take_of_length_le (by omega)]; simp [hl]
  rw [ht] at hc
  exact ⟨la, lc, rfl, hr, hc, hc.2.1, hb⟩
theorem powL_len (X n : Int) : (powL X n).length ≤ 4096 := by
  unfold powL
  split
  · simp
  · exact resL_len _
end Go.Proofs.Ytopcdpeepchgfab
