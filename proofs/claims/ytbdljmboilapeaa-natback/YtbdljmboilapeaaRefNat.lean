/- plumbref02: digits of base 65536. -/
import Derived.Test.YtbdljmboilapeaaLawNat
import Derived.Test.YtbdljmboilapeaaNatArith
namespace Go.Proofs.Ytbdljmboilapeaa
open Go.ChangeShapes Go.WideShapes Go.ChangeAt Go.RowKit
open Na
set_option linter.unusedVariables false

namespace Na
theorem take_strip {xs : List Int} {m : Nat} (hm : m ≤ xs.length) (hz : strip xs = strip (xs.take m)) (hl : m = 0 ∨ xs.getD (m - 1) 0 ≠ 0) : strip xs = xs.take m := by
  rw [hz]
  rcases hl with h | h
  · subst h; rfl
  · by_cases e : m = 0
    · subst e; rfl
    · have hs : xs.take m = xs.take (m - 1) ++ [xs.getD (m - 1) 0] := by
        have := take_next (xs := xs) (k := m - 1) (by omega)
        rw [Nat.sub_add_cancel (by omega)] at this
        exact this
      rw [hs]; exact strip_end _ _ h
theorem val_drop {B : Int} {xs : List Int} {i : Nat} (h : i < xs.length) : val B (xs.drop i) = xs.getD i 0 + B * val B (xs.drop (i + 1)) := by
  rw [List.drop_eq_getElem_cons h, val_cons]
  simp [List.getD_eq_getElem?_getD, List.getElem?_eq_getElem h]
def OutInv (xs : List Int) (i : Nat) (es : List Int) : Prop := Dg 65536 es ∧ es.length = 4 * i ∧ val 65536 es + 65536 ^ (4 * i) * val 18446744073709551616 (xs.drop i) = val 18446744073709551616 xs
def DigInv (xs : List Int) (i j : Nat) (W : Int) (es : List Int) : Prop := Dg 65536 es ∧ es.length = 4 * i + j ∧ 0 ≤ W ∧ W < 65536 ^ (4 - j) ∧
  val 65536 es + 65536 ^ (4 * i + j) * (W + 65536 ^ (4 - j) * val 18446744073709551616 (xs.drop (i + 1))) = val 18446744073709551616 xs
theorem dig_start (xs : List Int) : OutInv xs 0 [] := ⟨Dg.nil _, rfl, by simp [val]⟩
theorem dig_enter {xs es : List Int} {i : Nat} (h : OutInv xs i es) (hi : i < xs.length) (hx : Dg 18446744073709551616 xs) : DigInv xs i 0 (xs.getD i 0) es := by
  obtain ⟨h1, h2, h3⟩ := h
  have g := hx.get hi
  refine ⟨h1, h2, g.1, g.2, ?_⟩
  rw [val_drop hi] at h3
  exact h3
theorem dig_round {xs es : List Int} {i j : Nat} {W : Int} (h : DigInv xs i j W es) (hj : j < 4) : DigInv xs i (j + 1) (W / 65536) (es ++ [W % 65536]) := by
  obtain ⟨h1, h2, h3, h4, h5⟩ := h
  have e : (65536 : Int) ^ (4 - j) = 65536 ^ (4 - (j + 1)) * 65536 := by
    have : 4 - j = (4 - (j + 1)) + 1 := by omega
    rw [this, Int.pow_succ]
  refine ⟨h1.append (Dg.one (by omega)), by rw [List.length_append, h2]; simp; omega, by omega, ?_, ?_⟩
  · rw [e] at h4
    exact Int.ediv_lt_of_lt_mul (by omega) h4
  · rw [val_append, h2, ← h5, e]
    have e2 : (65536 : Int) ^ (4 * i + (j + 1)) = 65536 ^ (4 * i + j) * 65536 := by rw [← Nat.add_assoc, Int.pow_succ]
    have e3 : W = W % 65536 + 65536 * (W / 65536) := by omega
    rw [e2]
    have e4 : val 65536 [W % 65536] = W % 65536 := by simp [val]
    rw [e4]
    generalize val 18446744073709551616 (xs.drop (i + 1)) = V
    generalize (65536 : Int) ^ (4 * i + j) = P
    generalize (65536 : Int) ^ (4 - (j + 1)) = Q
    generalize W % 65536 = r at *
    generalize W / 65536 = q at *
    subst e3
    grind
theorem dig_bd {xs es : List Int} {i j : Nat} {W : Int} (h : DigInv xs i j W es) : W < 18446744073709551616 := by
  obtain ⟨h1, h2, h3, h4, h5⟩ := h
  have hj : 4 - j = 0 ∨ 4 - j = 1 ∨ 4 - j = 2 ∨ 4 - j = 3 ∨ 4 - j = 4 := by omega
  rcases hj with e | e | e | e | e <;> rw [e] at h4 <;> simp at h4 <;> omega
theorem dig_leave {xs es : List Int} {i : Nat} {W : Int} (h : DigInv xs i 4 W es) : OutInv xs (i + 1) es := by
  obtain ⟨h1, h2, h3, h4, h5⟩ := h
  have w0 : W = 0 := by simp at h4; omega
  subst w0
  refine ⟨h1, by omega, ?_⟩
  have e : 4 * (i + 1) = 4 * i + 4 := by omega
  rw [e]
  simpa using h5
theorem dig_done {xs es : List Int} {n : Nat} (h : OutInv xs n es) (hn : xs.length = n) : strip es = dig 65536 (val 18446744073709551616 xs).toNat := by
  obtain ⟨h1, h2, h3⟩ := h
  rw [List.drop_of_length_le (by omega), val_nil] at h3
  have e : val 65536 es = val 18446744073709551616 xs := by omega
  rw [← e]
  exact strip_dig (B := 65536) (by omega) h1
end Na
theorem Own.cut {k : IntKind} {w : World} {base : Nat} {e : TypeId} {a : Option Addr} {cap : Nat} {xs : List Int} (h : Own k w base e (.slice a xs.length cap) xs) {m : Nat} (hm : m ≤ xs.length) : Own k w base e (.slice a m cap) (xs.take m) := by
  obtain ⟨h1, h2⟩ := h
  have hl : (xs.take m).length = m := by rw [List.length_take]; omega
  unfold Own
  rw [hl]
  refine ⟨by rw [List.length_map, hl]; omega, ?_⟩
  rcases h2 with ⟨hv, h0⟩ | ⟨g, c, cur, hv, hb, hg, hn, hc, hs, ht⟩
  · have m0 : m = 0 := by omega
    simp only [Value.slice.injEq] at hv
    obtain ⟨ha, hz, hc⟩ := hv
    subst m0 ha hc
    exact Or.inl ⟨rfl, rfl⟩
  · simp only [Value.slice.injEq] at hv
    obtain ⟨ha, hz, hc'⟩ := hv
    subst ha hc'
    refine Or.inr ⟨g, cap, cur, rfl, hb, hg, by omega, hc, hs, ?_⟩
    rw [List.map_take, ← ht, List.take_take]
    simp only [Nat.mul_one]
    rw [Nat.min_eq_left hm]

theorem own_cap {k : IntKind} {w : World} {base : Nat} {e : TypeId} {a : Option Addr} {n cap : Nat} {xs : List Int} (h : Own k w base e (.slice a n cap) xs) : cap ≤ maxLen := by
  obtain ⟨h1, h2⟩ := h
  rcases h2 with ⟨hv, h0⟩ | ⟨g, c, cur, hv, hb, hg, hn, hc, hs, ht⟩
  · simp only [Value.slice.injEq] at hv; unfold maxLen; omega
  · simp only [Value.slice.injEq] at hv; omega
end Go.Proofs.Ytbdljmboilapeaa
