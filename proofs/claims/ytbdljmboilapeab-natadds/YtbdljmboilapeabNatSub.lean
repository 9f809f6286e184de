/- package nat: Sub. -/
import Derived.Test.YtbdljmboilapeabNatBits
import Derived.Test.YtbdljmboilapeabNatAddTo
namespace Go.Proofs.Ytbdljmboilapeab
open Go.ChangeShapes Go.WideShapes Go.ChangeAt Go.RowKit
open Na Ar
set_option linter.unusedVariables false

/-- a slice of slices of words -/
def RowsC (w : World) (a : Option Addr) (n : Nat) (xss : List (List Int)) : Prop :=
  xss.length = n ∧ (n = 0 ∨ ∃ b off, a = some ⟨b, off, none⟩ ∧ b < w.heap.size ∧ ∀ i, i < n → ∃ ai ci, w.cell? ⟨b, off + i, none⟩ = some (.slice ai (xss.getD i []).length ci) ∧ RowC w ai (xss.getD i []).length ci (xss.getD i []))
theorem RowsC.rows {w : World} {a : Option Addr} {n : Nat} {xss : List (List Int)} (h : RowsC w a n xss) : RowsAt w a n xss := by
  obtain ⟨h1, h2⟩ := h
  refine ⟨h1, ?_⟩
  rcases h2 with h2 | ⟨b, off, ha, hb, hc⟩
  · exact Or.inl h2
  · refine Or.inr ⟨b, off, ha, hb, fun i hi => ?_⟩
    obtain ⟨ai, ci, g1, g2⟩ := hc i hi
    exact ⟨ai, ci, g1, g2.1⟩
theorem RowsC.later {w w' : World} {a : Option Addr} {n : Nat} {xss : List (List Int)} (h : RowsC w a n xss) (hb : Below w.heap.size w w') : RowsC w' a n xss := by
  obtain ⟨h1, h2⟩ := h
  refine ⟨h1, ?_⟩
  rcases h2 with h2 | ⟨b, off, ha, hlt, hc⟩
  · exact Or.inl h2
  · refine Or.inr ⟨b, off, ha, Nat.lt_of_lt_of_le hlt hb.size, fun i hi => ?_⟩
    obtain ⟨ai, ci, g1, g2⟩ := hc i hi
    exact ⟨ai, ci, (hb.cell (p := ⟨b, off + i, none⟩) hlt).trans g1, g2.later hb⟩

set_option maxHeartbeats 1600000 in
set_option maxRecDepth 100000 in
theorem natSub_any {a b : Option Addr} {n m c1 c2 : Nat} {xs ys : List Int} {w : World} (hr1 : RowC w a n c1 xs) (hr2 : RowC w b m c2 ys) (hx : Ws xs) (hy : Ws ys) (hn : n ≤ 4000000) (hm : m ≤ 4000000) :
    Calls Try.prog 41 #[.slice a n c1, .slice b m c2] w fun e w' => ∃ v, e = .returned (.tuple #[v, .int .i64 (subE (num xs) (num ys))]) ∧ Own .u64 w' w.heap.size 47 v (subL (num xs) (num ys)) ∧ Below w.heap.size w w' := by
  have p1 := num_nonneg hx
  have p2 := num_nonneg hy
  by_cases hlt : num xs < num ys
  · have ho := ordN_lt hlt
    have E1 : Hid (subE (num xs) (num ys) = 20) := if_pos hlt
    have E2 : Hid (subL (num xs) (num ys) = []) := if_pos hlt
    go_enter Try.func41, Try.ntmps41
    go_wp2_with fail
    refine (natCmp_any hr1 hr2 hx hy hn hm).mono ?_
    rintro e w1 ⟨rfl, hb1⟩
    clear hr1 hr2
    go_wp2
    go_ret2
    exact ⟨_, by rw [E1.out]; rfl, by rw [E2.out]; exact own_nil _ _ _ _, hb1⟩
  · have ho : ¬ ordN (num xs) (num ys) < 0 := by
      unfold ordN; rw [if_neg hlt]; split <;> omega
    have E1 : Hid (subE (num xs) (num ys) = resE (num xs - num ys)) := if_neg hlt
    have E2 : Hid (subL (num xs) (num ys) = resL (num xs - num ys)) := if_neg hlt
    have hle : Hid (num ys ≤ num xs) := (by omega : num ys ≤ num xs)
    have ll : (words (num ys)).length ≤ (words (num xs)).length := Nat.le_of_not_lt (fun g => by have := words_lt p1 p2 g; omega)
    have v1 := num_words p1
    have v2 := num_words p2
    have d1 := Dg_words (num xs)
    have d2 := Dg_words (num ys)
    have q1 := words_le hx
    have hl1 := hr1.1.1
    have b1 : (words (num xs)).length ≤ 12000000 := by omega
    clear hlt q1 hl1
    go_enter Try.func41, Try.ntmps41
    go_wp2_with fail
    refine (natCmp_any hr1 hr2 hx hy hn hm).mono ?_
    rintro e w1 ⟨rfl, hb1⟩
    have r1 := hr1.later hb1
    have r2 := hr2.later hb1
    clear hr1 hr2
    generalize ordN (num xs) (num ys) = o at *
    go_wp2_with fail
    refine (norm_any r1 hx hn).mono ?_
    rintro e w2 ⟨g, rfl, hown, hb2⟩
    have r2' := r2.later hb2
    clear r1
    go_wp2_with fail
    refine (trim_any r2' hy hm).mono ?_
    rintro e w3 ⟨rfl, r3, _, _, rfl⟩
    have r4 := r2.own_words hy
    clear r2 r2' r3
    have hle' : num (words (num ys)) ≤ num (words (num xs)) := by rw [v1, v2]; exact hle.out
    have HV : Hid (num (words (num xs)) - num (words (num ys)) = num xs - num ys) := by show _ = _; rw [v1, v2]
    generalize words (num xs) = ps at *
    generalize words (num ys) = qs at *
    obtain ⟨N, hN⟩ : ∃ N, N = ps.length := ⟨_, rfl⟩
    rw [← hN] at hown ll b1 ⊢
    have HN : Hid (N = ps.length) := hN
    clear v1 v2 hN
    go_wp2_with fail
    refine (takeFrom_any hown HN.out d1 r4 hb2 d2 ll b1 hle').mono ?_
    rintro e w5 ⟨rfl, us, hou, hul, hwu, hnu, hb5⟩
    have hbb := hb1.trans (hb5.mono hb1.size)
    have hou' := hou.wider hb1.size
    rw [HV.out] at hnu
    have HU : Hid (num us = num xs - num ys) := hnu
    have HUL : Hid (N = us.length) := hul.symm
    clear hou hul hnu r4 hown hb2 hb5 hb1 hle'
    go_wp2_with fail
    refine (answer_any hou' HUL.out hwu b1).mono ?_
    rintro e w6 ⟨v, rfl, ho6, rfl⟩
    rw [HU.out, ← E1.out]
    rw [HU.out, ← E2.out] at ho6
    clear hou'
    go_wp2
    go_ret2
    exact ⟨_, rfl, ho6, hbb⟩
end Go.Proofs.Ytbdljmboilapeab
