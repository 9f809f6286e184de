/- plumblaw09: a piece is made, and what it says. -/
import Derived.Test.YthibemoincgemaaDoorLexMf
import Derived.Test.YthibemoincgemaaDoorLexMg
import Derived.Test.YthibemoincgemaaDoorLexMh
namespace Go.Proofs.YthibemoincgemaaDoor
open Go.ChangeShapes Go.WideShapes Go.ChangeAt Go.RowKit
open Lx
set_option linter.unusedVariables false
namespace Lx
/-- this text says this, whatever that can't go on stands behind it -/
def Reads (S : B) (N : Nm) : Prop := ∀ R : B, Stops R → (longestL (S ++ R)).kind ≠ 0 ∧ (longestL (S ++ R)).stop = S.length ∧ numOf (longestL (S ++ R)) = N
theorem mdS_len {k : Int} (hk : k = 0 ∨ k = 1 ∨ k = 2) {s h t x : B} {pt ne big : Bool} (hs : s.length ≤ 1) (hh : h.length ≤ 40) (ht : t.length ≤ 40) (hx : x.length ≤ 7) : (mdS k s h t pt ne big x).length ≤ 200 := by
  have h1 : ∀ k : Int, (mdHead k h t).length ≤ 40 := by
    intro k
    unfold mdHead
    split
    · split
      · simp
      · exact hh
    · split
      · simp
      · exact hh
  have h2 : ∀ k : Int, (mdTail k t).length ≤ 40 := by
    intro k
    unfold mdTail
    split
    · split
      · simp
      · exact ht
    · exact ht
  have h3 : (if mdPt t pt = true then 46 :: t else []).length ≤ 41 := by
    split
    · rw [List.length_cons]; omega
    · simp
  have h4 : ∀ k : Int, (mdExp ne big k x).length ≤ 8 := by
    intro k
    unfold mdExp
    split
    · rw [List.length_cons]; omega
    · split
      · simp
      · rw [List.length_cons]; omega
  rcases hk with rfl | rfl | rfl
  · rw [mdS_0]; simp only [List.length_append]; have := h1 0; have := h4 0; omega
  · rw [mdS_1]; simp only [List.length_append, List.length_cons]; have := h1 1; have := h4 1; omega
  · rw [mdS_2]; simp only [List.length_append, List.length_cons]; have := h1 2; have := h2 2; omega
theorem made_say {k q e : Int} {plus pt ne big : Bool} {z1 z2 : List Int} (hk : k = 0 ∨ k = 1 ∨ k = 2) :
    Reads (mdS k (sgL q plus) (dgL (baseOf k) big z1) (dgL (baseOf k) big z2) pt ne big (exL (e.tmod 100000) plus)) (mdN k (sgL q plus) (dgL (baseOf k) big z1) (dgL (baseOf k) big z2) ne (e.tmod 100000)) ∧
    (mdS k (sgL q plus) (dgL (baseOf k) big z1) (dgL (baseOf k) big z2) pt ne big (exL (e.tmod 100000) plus)).length ≤ 200 := by
  have he0 : -100000 < e.tmod 100000 := Int.lt_tmod_of_pos e (by omega)
  have he1 : e.tmod 100000 < 100000 := Int.tmod_lt_of_pos e (by omega)
  have hb0 : 0 < baseOf k := by unfold baseOf; split <;> omega
  have hb1 : baseOf k ≤ 16 := by unfold baseOf; split <;> omega
  obtain ⟨x1, x2, x3⟩ := exL_ok (e := e.tmod 100000) (by omega) plus
  refine ⟨fun R hR => ?_, mdS_len hk ?_ dgL_len dgL_len x3⟩
  · refine made_read hk (sgL_cases _ _) (dgL_H hb0 hb1) (dgL_H hb0 hb1) (fun hk1 => ?_) x1 x2 (exL_val (by omega) plus) (by omega) dgL_len hR
    have : baseOf k = 10 := by unfold baseOf; rw [if_neg hk1]
    rw [this]
    exact ⟨dgL_D, dgL_D⟩
  · rcases sgL_cases q plus with h | h | h <;> rw [h] <;> simp
end Lx
theorem made9_all {kd sg e : Int} {a1 a2 : Option Addr} {n1 c1 n2 c2 : Nat} {z1 z2 : List Int} (hn1 : n1 ≤ 9223372036854775807) (hn2 : n2 ≤ 9223372036854775807) (pt ne plus big : Bool) :
    ∃ S N, Reads S N ∧ S.length ≤ 200 ∧ ∀ w, RowAt .i64 w a1 n1 z1 → RowAt .i64 w a2 n2 z2 → Calls Tryd.prog 14 #[.agg (pieA kd sg (.slice a1 n1 c1) (.slice a2 n2 c2) pt ne e plus big)] w fun r w' =>
      r = .returned (.tuple #[.string (str S), .agg (nmA N)]) ∧ Below w.heap.size w w' := by
  have hk : kd % 3 = 0 ∨ kd % 3 = 1 ∨ kd % 3 = 2 := by omega
  obtain ⟨h1, h2⟩ := made_say (k := kd % 3) (q := sg % 3 - 1) (e := e) (plus := plus) (pt := pt) (ne := ne) (big := big) (z1 := z1) (z2 := z2) hk
  refine ⟨_, _, h1, h2, fun w hr1 hr2 => ?_⟩
  rcases hk with k0 | k1 | k2
  · rw [k0]; exact made9_k0 hr1 hr2 hn1 hn2 pt ne plus big k0 rfl rfl rfl rfl
  · rw [k1]; exact made9_k1 hr1 hr2 hn1 hn2 pt ne plus big k1 rfl rfl rfl rfl
  · rw [k2]; exact made9_k2 hr1 hr2 hn1 hn2 pt ne plus big k2 rfl rfl rfl rfl
end Go.Proofs.YthibemoincgemaaDoor
