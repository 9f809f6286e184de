/- plumbref02.words, carried, told. -/
import Derived.Test.YtbdljmboilapeaaRefNat
namespace Go.Proofs.Ytbdljmboilapeaa
open Go.ChangeShapes Go.WideShapes Go.ChangeAt Go.RowKit
open Na
set_option linter.unusedVariables false

namespace Na
/-- four digits, from the j-th on -/
def chunk (es : List Int) (i j : Nat) : Int := val 65536 ((es.drop (i + j)).take (4 - j))
theorem chunk_end (es : List Int) (i : Nat) : chunk es i 4 = 0 := by simp [chunk, val]
theorem chunk_in {es : List Int} {i j : Nat} (hj : j < 4) (h : i + j < es.length) : chunk es i j = es.getD (i + j) 0 + 65536 * chunk es i (j + 1) := by
  unfold chunk
  have e : 4 - j = (4 - (j + 1)) + 1 := by omega
  rw [List.drop_eq_getElem_cons h, e, List.take_succ_cons, val_cons]
  have : i + j + 1 = i + (j + 1) := by omega
  rw [this]
  simp [List.getD_eq_getElem?_getD, List.getElem?_eq_getElem h]
theorem chunk_out {es : List Int} {i j : Nat} (h : es.length ≤ i + j) : chunk es i j = 0 := by
  unfold chunk
  rw [List.drop_of_length_le h]; simp [val]
theorem chunk_bd {es : List Int} (he : Dg 65536 es) (i j : Nat) (hj : j ≤ 4) : 0 ≤ chunk es i j ∧ chunk es i j < 65536 ^ (4 - j) := by
  obtain ⟨m, hm⟩ : ∃ m, m = 4 - j := ⟨_, rfl⟩
  induction m generalizing j with
  | zero =>
    have : j = 4 := by omega
    subst this; rw [chunk_end]; simp
  | succ m ih =>
    have i1 := ih (j + 1) (by omega) (by omega)
    have e : (65536 : Int) ^ (4 - j) = 65536 ^ (4 - (j + 1)) * 65536 := by
      have : 4 - j = (4 - (j + 1)) + 1 := by omega
      rw [this, Int.pow_succ]
    by_cases h : i + j < es.length
    · rw [chunk_in (by omega) h, e]
      have g := he.get h
      omega
    · rw [chunk_out (by omega), e]
      generalize (65536 : Int) ^ (4 - (j + 1)) = P at *
      omega
theorem val_chunk (es : List Int) (i : Nat) : val 65536 (es.drop i) = chunk es i 0 + 18446744073709551616 * val 65536 (es.drop (i + 4)) := by
  unfold chunk
  have e : es.drop i = (es.drop (i + 0)).take 4 ++ es.drop (i + 4) := by
    have h := (List.take_append_drop 4 (es.drop i)).symm
    rw [List.drop_drop] at h
    exact h
  have e2 := congrArg (val 65536) e
  rw [val_append] at e2
  rw [e2]
  by_cases h : i + 4 ≤ es.length
  · have l : ((es.drop (i + 0)).take 4).length = 4 := by rw [List.length_take, List.length_drop]; omega
    rw [l]; rfl
  · rw [List.drop_of_length_le (by omega : es.length ≤ i + 4), val_nil]; simp
def WordInv (es : List Int) (p : Nat) (ws : List Int) : Prop := Dg 18446744073709551616 ws ∧ ws.length = p ∧
  val 18446744073709551616 ws + 18446744073709551616 ^ p * val 65536 (es.drop (4 * p)) = val 65536 es ∧ (p = 0 ∨ (4 * (p - 1) < es.length ∧ ∃ zs, ws = zs ++ [chunk es (4 * (p - 1)) 0]))
theorem word_start (es : List Int) : WordInv es 0 [] := ⟨Dg.nil _, rfl, by simp [val], Or.inl rfl⟩
theorem word_next {es ws : List Int} {p : Nat} (he : Dg 65536 es) (h : WordInv es p ws) (hp : 4 * p < es.length) : WordInv es (p + 1) (ws ++ [chunk es (4 * p) 0]) := by
  obtain ⟨h1, h2, h3, h4⟩ := h
  have bd := chunk_bd he (4 * p) 0 (by omega)
  refine ⟨h1.append (Dg.one bd), by rw [List.length_append, h2]; rfl, ?_, Or.inr ⟨hp, ws, rfl⟩⟩
  rw [val_append, h2, ← h3, val_chunk es (4 * p)]
  have e : 4 * (p + 1) = 4 * p + 4 := by omega
  rw [e, Int.pow_succ]
  have e1 : val 18446744073709551616 [chunk es (4 * p) 0] = chunk es (4 * p) 0 := by simp [val]
  rw [e1]
  generalize chunk es (4 * p) 0 = c
  generalize val 65536 (es.drop (4 * p + 4)) = v
  generalize (18446744073709551616 : Int) ^ p = P
  grind
theorem strip_last (xs : List Int) : strip xs = [] ∨ ∃ zs x, strip xs = zs ++ [x] ∧ x ≠ 0 := by
  induction xs with
  | nil => exact Or.inl rfl
  | cons x xs ih =>
    unfold strip
    split
    · exact Or.inl rfl
    · rename_i h
      right
      rcases ih with e | ⟨zs, y, e, hy⟩
      · rw [e]; exact ⟨[], x, rfl, fun hx => h ⟨e, hx⟩⟩
      · rw [e]; exact ⟨x :: zs, y, rfl, hy⟩
theorem val_end_pos {zs : List Int} {x : Int} (h : Dg 65536 (zs ++ [x])) (hx : x ≠ 0) : 0 < val 65536 (zs ++ [x]) := by
  rw [val_append]
  have h1 : Dg 65536 zs := fun y hy => h y (List.mem_append_left _ hy)
  have h2 := h x (List.mem_append_right _ (by simp))
  have v := val_nonneg (B := 65536) (by omega) h1
  have e : val 65536 [x] = x := by simp [val]
  rw [e]
  have p : 0 < (65536 : Int) ^ zs.length := Int.pow_pos (by omega)
  have := Int.mul_pos p (show 0 < x by omega)
  omega
theorem word_done {ds es ws : List Int} {p : Nat} (hs : es = strip ds) (he : Dg 65536 es) (h : WordInv es p ws) (hp : es.length ≤ 4 * p) :
    ws = dig 18446744073709551616 (val 65536 es).toNat := by
  obtain ⟨h1, h2, h3, h4⟩ := h
  rw [List.drop_of_length_le hp, val_nil] at h3
  have hv : val 18446744073709551616 ws = val 65536 es := by omega
  have sd := strip_dig (B := 18446744073709551616) (by omega) h1
  have hv' : val ((18446744073709551616 : Nat) : Int) ws = val 65536 es := hv
  rw [hv'] at sd
  rw [← sd]
  rcases h4 with h4 | ⟨hlt, zs, hz⟩
  · have : ws = [] := List.length_eq_zero_iff.mp (by omega)
    rw [this]; rfl
  · rw [hz]
    have hc : chunk es (4 * (p - 1)) 0 = val 65536 (es.drop (4 * (p - 1))) := by
      unfold chunk
      rw [List.take_of_length_le (by rw [List.length_drop]; omega)]; rfl
    have hne : chunk es (4 * (p - 1)) 0 ≠ 0 := by
      rw [hc]
      rcases strip_last ds with e | ⟨ys, y, e, hy⟩
      · rw [← hs] at e; rw [e] at hlt; simp at hlt
      · rw [← hs] at e
        have hl : 4 * (p - 1) ≤ ys.length := by rw [e, List.length_append] at hlt; simp at hlt; omega
        have hd : es.drop (4 * (p - 1)) = ys.drop (4 * (p - 1)) ++ [y] := by rw [e, List.drop_append_of_le_length hl]
        have := val_end_pos (zs := ys.drop (4 * (p - 1))) (x := y) (by rw [← hd]; exact he.drop _) hy
        rw [hd]; omega
    exact (strip_end _ _ hne).symm
end Na

end Go.Proofs.Ytbdljmboilapeaa
