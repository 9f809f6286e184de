/- Layer 18: alive. -/
import Derived.Test.YtfgpjplfplbcdaaGreatDoorTkJ
import Derived.Test.YtfgpjplfplbcdaaGreatDoorTkL
namespace Go.Proofs.YtfgpjplfplbcdaaGreatDoor
open Go.ChangeShapes Go.WideShapes Go.ChangeAt Go.RowKit
open Lx Tk Go.Shelf
set_option linter.unusedVariables false
namespace Tk
def Ct.tg (c : Ct) : Tg := ⟨c.kind, c.fr, c.to, c.word, c.num⟩
theorem tkcs_at : ∀ (l : List Ct) (i j : Nat) (c : Ct), l[i]? = some c → j < 9 → (tkcs l)[i * 9 + j]? = (tkc c)[j]?
  | [], i, j, c, h, _ => by cases h
  | d :: r, 0, j, c, h, hj => by
    cases h
    show (tkc d ++ tkcs r)[0 * 9 + j]? = _
    rw [Nat.zero_mul, Nat.zero_add, List.getElem?_append_left (by rw [tkc_len]; exact hj)]
  | d :: r, i + 1, j, c, h, hj => by
    show (tkc d ++ tkcs r)[(i + 1) * 9 + j]? = _
    rw [List.getElem?_append_right (by rw [tkc_len]; omega), tkc_len, show (i + 1) * 9 + j - 9 = i * 9 + j from by omega]
    exact tkcs_at r i j c (by simpa using h) hj
theorem TkR.cell {w : World} {base : Nat} {v : Value} {l : List Ct} (h : TkR w base v l) {i j : Nat} {c : Ct} {u : Value} (hi : l[i]? = some c) (hu : (tkc c)[j]? = some u) : ∃ g cap, v = .slice (some ⟨g, 0, none⟩) l.length cap ∧ v.ownBlock = some g ∧ w.cell? ⟨g, i * 9 + j, none⟩ = some u := by
  have hj : j < 9 := by
    apply Decidable.byContradiction
    intro hc
    rw [List.getElem?_eq_none (by rw [tkc_len]; omega)] at hu
    cases hu
  have hx := (tkcs_at l i j c hi hj).trans hu
  rcases h.2 with ⟨rfl, h0⟩ | ⟨g, cap, cur, rfl, hb, hc, h1, h2, h3, h4⟩
  · have : l = [] := List.eq_nil_of_length_eq_zero h0
    rw [this] at hi
    cases hi
  · refine ⟨g, cap, rfl, rfl, ?_⟩
    have hadd : (⟨g, 0, none⟩ : Addr).add (i * 9 + j) = ⟨g, i * 9 + j, none⟩ := by unfold Addr.add; split <;> simp_all
    have := World.ownsRow.cells h (g := g) rfl _ u hx
    rwa [hadd] at this
theorem TkR.rt {w : World} {base : Nat} {v : Value} {l : List Ct} (h : TkR w base v l) : Rt w v (l.map Ct.tg) := by
  obtain ⟨a, c, rfl, hc⟩ := h.slice
  refine ⟨a, c, by rw [List.length_map], fun i t hi => ?_⟩
  rw [List.getElem?_map] at hi
  cases hl : l[i]? with
  | none => rw [hl] at hi; cases hi
  | some d =>
    rw [hl] at hi
    obtain rfl : d.tg = t := Option.some.inj hi
    obtain ⟨g, cap, e1, e2, _⟩ := h.cell (j := 0) hl rfl
    simp only [Value.slice.injEq] at e1
    obtain ⟨rfl, _, rfl⟩ := e1
    refine ⟨g, 0, rfl, fun j u hu => ?_⟩
    have hu' : (tkc d)[j]? = some u := by rw [← hu]; exact Array.getElem?_toList ..
    obtain ⟨g', cap', e3, _, e4⟩ := h.cell hl hu'
    simp only [Value.slice.injEq, Option.some.injEq, Addr.mk.injEq] at e3
    obtain ⟨⟨rfl, _, _⟩, _, _⟩ := e3
    rw [Nat.zero_add]
    exact e4
theorem Toks.mk {k : Nat} {r : B} {c : Ct} {l : List Ct} {e : Option Nat} (h : cutR r = c) (hp : 0 < c.kind) (h2 : Toks (k + c.to) (r.drop c.to) l e) : Toks k r (c.move k :: l) e := by
  subst h
  exact .cons hp h2
theorem Toks.fin {k : Nat} {r : B} {c : Ct} (h : cutR r = c) (hp : c.kind = 0) : Toks k r [] none := by
  subst h
  exact .nil hp
def ptS : B := [80, 111, 105, 110, 116, 32, 40, 49, 32, 50, 41]
def ptT : List Ct := [⟨1, 0, 5, [80, 79, 73, 78, 84], nmZ0⟩, ⟨2, 6, 7, [], nmZ0⟩, ⟨5, 7, 8, [], ⟨1, false, [49], 0, []⟩⟩, ⟨5, 9, 10, [], ⟨1, false, [50], 0, []⟩⟩, ⟨3, 10, 11, [], nmZ0⟩]
theorem pt_toks : Toks 0 ptS ptT none := by
  refine Toks.mk (c := ⟨1, 0, 5, [80, 79, 73, 78, 84], nmZ0⟩) (by kernel_rfl) (by decide) ?_
  refine Toks.mk (k := 5) (r := [32, 40, 49, 32, 50, 41]) (c := ⟨2, 1, 2, [], nmZ0⟩) (by kernel_rfl) (by decide) ?_
  refine Toks.mk (k := 7) (r := [49, 32, 50, 41]) (c := ⟨5, 0, 1, [], ⟨1, false, [49], 0, []⟩⟩) (by kernel_rfl) (by decide) ?_
  refine Toks.mk (k := 8) (r := [32, 50, 41]) (c := ⟨5, 1, 2, [], ⟨1, false, [50], 0, []⟩⟩) (by kernel_rfl) (by decide) ?_
  refine Toks.mk (k := 10) (r := [41]) (c := ⟨3, 0, 1, [], nmZ0⟩) (by kernel_rfl) (by decide) ?_
  exact Toks.fin (r := []) (c := ⟨0, 0, 0, [], nmZ0⟩) (by kernel_rfl) rfl
theorem pt_tight : tightL false (ptT.map Ct.tg) = [80, 79, 73, 78, 84, 40, 49, 32, 50, 41] := by kernel_rfl
end Tk
set_option maxHeartbeats 3200000 in
set_option maxRecDepth 100000 in
theorem alive18_any {w : World} (hT : ∀ w', Below w.heap.size w w' → PowTab w') :
    Calls Tryz.prog 12 #[] w fun e w' => e = .returned (.bool true) ∧ Below w.heap.size w w' := by
  have c0 := all18_any (str ptS) (by rw [str_size]; decide) (by rw [str_list]; exact pt_toks) w
  unfold AllR at c0
  simp only at c0
  have hS : str ptS = ⟨#[80, 111, 105, 110, 116, 32, 40, 49, 32, 50, 41]⟩ := rfl
  rw [hS] at c0
  have HT : Hid _ := hT
  clear hT hS
  go_enter Tryz.func12, Tryz.ntmps12
  go_wp2_with fail
  refine c0.mono ?_
  rintro e w1 ⟨v, rfl, hR, hb1⟩
  clear c0
  obtain ⟨g, cap, rfl, ho, q3a⟩ := hR.cell (i := 0) (j := 3) rfl rfl
  have q2 : w1.cell? ⟨g, 2, none⟩ = some (.int .i64 5) := by
    obtain ⟨g', cap', e, _, h⟩ := hR.cell (i := 0) (j := 2) rfl rfl
    simp only [Value.slice.injEq, Option.some.injEq, Addr.mk.injEq] at e
    obtain ⟨⟨rfl, _, _⟩, _, _⟩ := e
    exact h
  have q9 : w1.cell? ⟨g, 9, none⟩ = some (.int .i64 2) := by
    obtain ⟨g', cap', e, _, h⟩ := hR.cell (i := 1) (j := 0) rfl rfl
    simp only [Value.slice.injEq, Option.some.injEq, Addr.mk.injEq] at e
    obtain ⟨⟨rfl, _, _⟩, _, _⟩ := e
    exact h
  have q18 : w1.cell? ⟨g, 18, none⟩ = some (.int .i64 5) := by
    obtain ⟨g', cap', e, _, h⟩ := hR.cell (i := 2) (j := 0) rfl rfl
    simp only [Value.slice.injEq, Option.some.injEq, Addr.mk.injEq] at e
    obtain ⟨⟨rfl, _, _⟩, _, _⟩ := e
    exact h
  have q24 : w1.cell? ⟨g, 24, none⟩ = some (.string ⟨#[49]⟩) := by
    obtain ⟨g', cap', e, _, h⟩ := hR.cell (i := 2) (j := 6) rfl rfl
    simp only [Value.slice.injEq, Option.some.injEq, Addr.mk.injEq] at e
    obtain ⟨⟨rfl, _, _⟩, _, _⟩ := e
    exact h
  have q36 : w1.cell? ⟨g, 36, none⟩ = some (.int .i64 3) := by
    obtain ⟨g', cap', e, _, h⟩ := hR.cell (i := 4) (j := 0) rfl rfl
    simp only [Value.slice.injEq, Option.some.injEq, Addr.mk.injEq] at e
    obtain ⟨⟨rfl, _, _⟩, _, _⟩ := e
    exact h
  have q38 : w1.cell? ⟨g, 38, none⟩ = some (.int .i64 11) := by
    obtain ⟨g', cap', e, _, h⟩ := hR.cell (i := 4) (j := 2) rfl rfl
    simp only [Value.slice.injEq, Option.some.injEq, Addr.mk.injEq] at e
    obtain ⟨⟨rfl, _, _⟩, _, _⟩ := e
    exact h
  have q3 : w1.cell? ⟨g, 3, none⟩ = some (.string ⟨#[80, 79, 73, 78, 84]⟩) := q3a
  clear q3a
  have c1 := tight18_any hR.rt (by simp [ptT]) (by intro t ht; simp [ptT, Ct.tg] at ht; rcases ht with rfl | rfl | rfl | rfl | rfl <;> simp [nmZ0]) (by rw [pt_tight]; decide) (fun w' hb => HT.out w' (hb1.trans (hb.mono hb1.size)))
  rw [pt_tight] at c1
  have hS : str [80, 79, 73, 78, 84, 40, 49, 32, 50, 41] = ⟨#[80, 79, 73, 78, 84, 40, 49, 32, 50, 41]⟩ := rfl
  rw [hS] at c1
  have hL : ptT.length = 5 := rfl
  rw [hL] at c1 ⊢
  have HB : Hid _ := hb1
  clear hS hL hR ho hb1 HT
  go_wp2_with fail
  refine c1.mono ?_
  rintro e w2 ⟨rfl, hb2⟩
  clear c1
  go_wp2
  go_ret
  exact ⟨rfl, HB.out.trans (hb2.mono HB.out.size)⟩
end Go.Proofs.YtfgpjplfplbcdaaGreatDoor
