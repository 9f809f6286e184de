import Derived.Below
import Derived.BigQuiet
import Derived.ChangeOld
import Derived.Deep.CutRange
import Derived.Deep.LoopGhost
import Derived.Deep.QuietTactic
import Derived.Deep.RegionHeld3
import Derived.Deep.RegionWith
import Derived.Deep.WholeRow
import Derived.KernelRfl
import Derived.LaidEql
import Derived.Laws.AppendOwn
import Derived.Laws.BitsAllLaws
import Derived.Laws.CopyRow
import Derived.Laws.EntriesVeiled
import Derived.Laws.Externs
import Derived.Laws.IdiomCopy
import Derived.Laws.IdiomRangeMap
import Derived.Laws.RangeString
import Derived.Laws.ResultCell
import Derived.Laws.Runes
import Derived.Laws.Strings3
import Derived.Lib.AppendIntMem
import Derived.Lib.AsciiSet
import Derived.Lib.Builder
import Derived.Lib.Bytealg
import Derived.Lib.IndexBytes
import Derived.Lib.ItoaLen
import Derived.Lib.Strings
import Derived.Lib.TrimByte
import Derived.Lib.Walk
import Derived.OpenShut
import Derived.OwnWalk
import Derived.ProofKit
import Derived.RowKitTokens
import Derived.Shelf.Strconv.Clone
import Derived.Shelf.Strconv.Itoa3
import Derived.Shelf.Strings.BuilderK
import Derived.Shelf.Strings.OnBuilder
import Derived.ShutString
import Derived.Stop.Asserts
import Derived.WalkKit
import Derived.WalkLawsBesides
import Derived.WalkSpells
import Derived.Test.YtfgpjplfplbcdaaGreatDoorPt1
import Derived.Test.YtfgpjplfplbcdaaGreatDoorPt15
import Derived.Test.YtfgpjplfplbcdaaGreatDoorPt16
import Derived.Test.YtfgpjplfplbcdaaGreatDoorPt17
/- Layer 18: alive. -/
namespace Go.Proofs.YtfgpjplfplbcdaaGreatDoor
open Go.ChangeShapes Go.WideShapes Go.ChangeAt Go.RowKit
open Lx Tk Go.Shelf
set_option linter.unusedVariables false
namespace Tk
def Ct.tg (c : Ct) : Tg := ⟨c.kind, c.fr, c.to, c.word, c.num⟩
theorem tkcs_at : ∀ (l : List Ct) (i j : Nat) (c : Ct), l[i]? = some c → j < 9 → (tkcs l)[i * 9 + j]? = (tkc c)[j]?
  | [], i, j, c, h, _ => by cases h
  | d :: r, 0, j, c, h, hj => by
    cases h
    show (tkc d ++ tkcs r)[0 * 9 + j]? = _
    rw [Nat.zero_mul, Nat.zero_add, List.getElem?_append_left (by rw [tkc_len]; exact hj)]
  | d :: r, i + 1, j, c, h, hj => by
    show (tkc d ++ tkcs r)[(i + 1) * 9 + j]? = _
    rw [List.getElem?_append_right (by rw [tkc_len]; omega), tkc_len, show (i + 1) * 9 + j - 9 = i * 9 + j from by omega]
    exact tkcs_at r i j c (by simpa using h) hj
theorem TkR.cell {w : World} {base : Nat} {v : Value} {l : List Ct} (h : TkR w base v l) {i j : Nat} {c : Ct} {u : Value} (hi : l[i]? = some c) (hu : (tkc c)[j]? = some u) : ∃ g cap, v = .slice (some ⟨g, 0, none⟩) l.length cap ∧ v.ownBlock = some g ∧ w.cell? ⟨g, i * 9 + j, none⟩ = some u := by
  have hj : j < 9 := by
    apply Decidable.byContradiction
    intro hc
    rw [List.getElem?_eq_none (by rw [tkc_len]; omega)] at hu
    cases hu
  have hx := (tkcs_at l i j c hi hj).trans hu
  rcases h.2 with ⟨rfl, h0⟩ | ⟨g, cap, cur, rfl, hb, hc, h1, h2, h3, h4⟩
  · have : l = [] := List.eq_nil_of_length_eq_zero h0
    rw [this] at hi
    cases hi
  · refine ⟨g, cap, rfl, rfl, ?_⟩
    have hadd : (⟨g, 0, none⟩ : Addr).add (i * 9 + j) = ⟨g, i * 9 + j, none⟩ := by unfold Addr.add; split <;> simp_all
    have := World.ownsRow.cells h (g := g) rfl _ u hx
    rwa [hadd] at this
theorem TkR.rt {w : World} {base : Nat} {v : Value} {l : List Ct} (h : TkR w base v l) : Rt w v (l.map Ct.tg) := by
  obtain ⟨a, c, rfl, hc⟩ := h.slice
  refine ⟨a, c, by rw [List.length_map], fun i t hi => ?_⟩
  rw [List.getElem?_map] at hi
  cases hl : l[i]? with
  | none => rw [hl] at hi; cases hi
  | some d =>
    rw [hl] at hi
    obtain rfl : d.tg = t := Option.some.inj hi
    obtain ⟨g, cap, e1, e2, _⟩ := h.cell (j := 0) hl rfl
    simp only [Value.slice.injEq] at e1
    obtain ⟨rfl, _, rfl⟩ := e1
    refine ⟨g, 0, rfl, fun j u hu => ?_⟩
    have hu' : (tkc d)[j]? = some u := by rw [← hu]; exact Array.getElem?_toList ..
    obtain ⟨g', cap', e3, _, e4⟩ := h.cell hl hu'
    simp only [Value.slice.injEq, Option.some.injEq, Addr.mk.injEq] at e3
    obtain ⟨⟨rfl, _, _⟩, _, _⟩ := e3
    rw [Nat.zero_add]
    exact e4
theorem Toks.mk {k : Nat} {r : B} {c : Ct} {l : List Ct} {e : Option Nat} (h : cutR r = c) (hp : 0 < c.kind) (h2 : Toks (k + c.to) (r.drop c.to) l e) : Toks k r (c.move k :: l) e := by
  subst h
  exact .cons hp h2
theorem Toks.fin {k : Nat} {r : B} {c : Ct} (h : cutR r = c) (hp : c.kind = 0) : Toks k r [] none := by
  subst h
  exact .nil hp
def ptS : B := [80, 111, 105, 110, 116, 32, 40, 49, 32, 50, 41]
def ptT : List Ct := [⟨1, 0, 5, [80, 79, 73, 78, 84], nmZ0⟩, ⟨2, 6, 7, [], nmZ0⟩, ⟨5, 7, 8, [], ⟨1, false, [49], 0, []⟩⟩, ⟨5, 9, 10, [], ⟨1, false, [50], 0, []⟩⟩, ⟨3, 10, 11, [], nmZ0⟩]
theorem pt_toks : Toks 0 ptS ptT none := by
  refine Toks.mk (c := ⟨1, 0, 5, [80, 79, 73, 78, 84], nmZ0⟩) (by kernel_rfl) (by decide) ?_
  refine Toks.mk (k := 5) (r := [32, 40, 49, 32, 50, 41]) (c := ⟨2, 1, 2, [], nmZ0⟩) (by kernel_rfl) (by decide) ?_
  refine Toks.mk (k := 7) (r := [49, 32, 50, 41]) (c := ⟨5, 0, 1, [], ⟨1, false, [49], 0, []⟩⟩) (by kernel_rfl) (by decide) ?_
  refine Toks.mk (k := 8) (r := [32, 50, 41]) (c := ⟨5, 1, 2, [], ⟨1, false, [50], 0, []⟩⟩) (by kernel_rfl) (by decide) ?_
  refine Toks.mk (k := 10) (r := [41]) (c := ⟨3, 0, 1, [], nmZ0⟩) (by kernel_rfl) (by decide) ?_
  exact Toks.fin (r := []) (c := ⟨0, 0, 0, [], nmZ0⟩) (by kernel_rfl) rfl
theorem pt_tight : tightL false (ptT.map Ct.tg) = [80, 79, 73, 78, 84, 40, 49, 32, 50, 41] := by kernel_rfl
end Tk
set_option maxHeartbeats 3200000 in
set_option maxRecDepth 100000 in
theorem alive18_any {w : World} (hT : ∀ w', Below w.heap.size w w' → PowTab w') :
    Calls Tryz.prog 12 #[] w fun e w' => e = .returned (.bool true) ∧ Below w.heap.size w w' := by
  have c0 := all18_any (str ptS) (by rw [str_size]; decide) (by rw [str_list]; exact pt_toks) w
  unfold AllR at c0
  simp only at c0
  have hS : str ptS = ⟨#[80, 111, 105, 110, 116, 32, 40, 49, 32, 50, 41]⟩ := rfl
  rw [hS] at c0
  have HT : Hid _ := hT
  clear hT hS
  go_enter Tryz.func12, Tryz.ntmps12
  go_wp2_with fail
  refine c0.mono ?_
  rintro e w1 ⟨v, rfl, hR, hb1⟩
  clear c0
  obtain ⟨g, cap, rfl, ho, q3a⟩ := hR.cell (i := 0) (j := 3) rfl rfl
  have q2 : w1.cell? ⟨g, 2, none⟩ = some (.int .i64 5) := by
    obtain ⟨g', cap', e, _, h⟩ := hR.cell (i := 0) (j := 2) rfl rfl
    simp only [Value.slice.injEq, Option.some.injEq, Addr.mk.injEq] at e
    obtain ⟨⟨rfl, _, _⟩, _, _⟩ := e
    exact h
  have q9 : w1.cell? ⟨g, 9, none⟩ = some (.int .i64 2) := by
    obtain ⟨g', cap', e, _, h⟩ := hR.cell (i := 1) (j := 0) rfl rfl
    simp only [Value.slice.injEq, Option.some.injEq, Addr.mk.injEq] at e
    obtain ⟨⟨rfl, _, _⟩, _, _⟩ := e
    exact h
  have q18 : w1.cell? ⟨g, 18, none⟩ = some (.int .i64 5) := by
    obtain ⟨g', cap', e, _, h⟩ := hR.cell (i := 2) (j := 0) rfl rfl
    simp only [Value.slice.injEq, Option.some.injEq, Addr.mk.injEq] at e
    obtain ⟨⟨rfl, _, _⟩, _, _⟩ := e
    exact h
  have q24 : w1.cell? ⟨g, 24, none⟩ = some (.string ⟨#[49]⟩) := by
    obtain ⟨g', cap', e, _, h⟩ := hR.cell (i := 2) (j := 6) rfl rfl
    simp only [Value.slice.injEq, Option.some.injEq, Addr.mk.injEq] at e
    obtain ⟨⟨rfl, _, _⟩, _, _⟩ := e
    exact h
  have q36 : w1.cell? ⟨g, 36, none⟩ = some (.int .i64 3) := by
    obtain ⟨g', cap', e, _, h⟩ := hR.cell (i := 4) (j := 0) rfl rfl
    simp only [Value.slice.injEq, Option.some.injEq, Addr.mk.injEq] at e
    obtain ⟨⟨rfl, _, _⟩, _, _⟩ := e
    exact h
  have q38 : w1.cell? ⟨g, 38, none⟩ = some (.int .i64 11) := by
    obtain ⟨g', cap', e, _, h⟩ := hR.cell (i := 4) (j := 2) rfl rfl
    simp only [Value.slice.injEq, Option.some.injEq, Addr.mk.injEq] at e
    obtain ⟨⟨rfl, _, _⟩, _, _⟩ := e
    exact h
  have q3 : w1.cell? ⟨g, 3, none⟩ = some (.string ⟨#[80, 79, 73, 78, 84]⟩) := q3a
  clear q3a
  have c1 := tight18_any hR.rt (by simp [ptT]) (by intro t ht; simp [ptT, Ct.tg] at ht; rcases ht with rfl | rfl | rfl | rfl | rfl <;> simp [nmZ0]) (by rw [pt_tight]; decide) (fun w' hb => HT.out w' (hb1.trans (hb.mono hb1.size)))
  rw [pt_tight] at c1
  have hS : str [80, 79, 73, 78, 84, 40, 49, 32, 50, 41] = ⟨#[80, 79, 73, 78, 84, 40, 49, 32, 50, 41]⟩ := rfl
  rw [hS] at c1
  have hL : ptT.length = 5 := rfl
  rw [hL] at c1 ⊢
  have HB : Hid _ := hb1
  clear hS hL hR ho hb1 HT
  go_wp2_with fail
  refine c1.mono ?_
  rintro e w2 ⟨rfl, hb2⟩
  clear c1
  go_wp2
  go_ret
  exact ⟨rfl, HB.out.trans (hb2.mono HB.out.size)⟩
end Go.Proofs.YtfgpjplfplbcdaaGreatDoor

/- Layer 18: the law's eq. -/
namespace Go.Proofs.YtfgpjplfplbcdaaGreatDoor
open Go.ChangeShapes Go.WideShapes Go.ChangeAt Go.RowKit
open Lx Tk Go.Shelf
set_option linter.unusedVariables false
namespace Tk
theorem Rt.at {w : World} {a : Option Addr} {n c : Nat} {l : List Tg} (h : Rt w (.slice a n c) l) {i : Nat} {t : Tg} (hi : l[i]? = some t) : ∃ g o, a = some ⟨g, o, none⟩ ∧ ∀ (j : Nat) (u : Value), (tgA t)[j]? = some u → w.cell? ⟨g, o + i * 9 + j, none⟩ = some u := by
  obtain ⟨a', c', h1, h2⟩ := h
  simp only [Value.slice.injEq] at h1
  obtain ⟨rfl, _, _⟩ := h1
  exact h2 i t hi
theorem Rt.slice {w : World} {v : Value} {l : List Tg} (h : Rt w v l) : ∃ a c, v = .slice a l.length c := by
  obtain ⟨a, c, h1, _⟩ := h
  exact ⟨a, c, h1⟩
theorem Rt.later {w w' : World} {v : Value} {l : List Tg} (h : Rt w v l) (hb : Below w.heap.size w w') : Rt w' v l := h.keep hb (Nat.le_refl _)
end Tk
set_option maxHeartbeats 3200000 in
set_option maxRecDepth 100000 in
theorem eq18_same {w : World} {v u : Value} {l : List Tg} (h1 : Rt w v l) (h2 : Rt w u l) (hl : l.length ≤ 1000000000) :
    Calls Tryz.prog 9 #[v, u] w fun e w' => e = .returned (.bool true) ∧ Below w.heap.size w w' := by
  obtain ⟨a1, k1, rfl⟩ := h1.slice
  obtain ⟨a2, k2, rfl⟩ := h2.slice
  have H1 : Hid (Rt w (.slice a1 l.length k1) l) := h1
  have H2 : Hid (Rt w (.slice a2 l.length k2) l) := h2
  clear h1 h2
  go_enter Tryz.func9, Tryz.ntmps9
  go_wp2
  go_loopw [5] (fun iv wr => ∃ (i : Nat), iv = .int .i64 (i : Int) ∧ i ≤ l.length ∧ Hid (Below w.heap.size w wr)) (fun i _ => l.length - (intOf i).toNat)
  case atStart => exact ⟨0, rfl, Nat.zero_le _, Below.refl _ _⟩
  case round =>
    obtain ⟨i, rfl, hi, HW⟩ := hrel
    by_cases hlt : i < l.length
    · obtain ⟨t, ht⟩ : ∃ t, l[i]? = some t := ⟨_, List.getElem?_eq_getElem hlt⟩
      obtain ⟨g1, o1, rfl, hc1⟩ := H1.out.at ht
      obtain ⟨g2, o2, rfl, hc2⟩ := H2.out.at ht
      have hii : (i : Int) < (l.length : Int) := by omega
      have p0 : wr.cell? ⟨g1, o1 + i * 9, none⟩ = some (.int .i64 t.kind) := by
        have h := hc1 0 _ rfl
        exact (HW.out.cell (p := ⟨g1, o1 + i * 9 + 0, none⟩) (cell_lt h)).trans h
      have q0 : wr.cell? ⟨g2, o2 + i * 9, none⟩ = some (.int .i64 t.kind) := by
        have h := hc2 0 _ rfl
        exact (HW.out.cell (p := ⟨g2, o2 + i * 9 + 0, none⟩) (cell_lt h)).trans h
      have p1 : wr.cell? ⟨g1, o1 + i * 9 + 1, none⟩ = some (.int .i64 t.fr) := by
        have h := hc1 1 _ rfl
        exact (HW.out.cell (p := ⟨g1, o1 + i * 9 + 1, none⟩) (cell_lt h)).trans h
      have q1 : wr.cell? ⟨g2, o2 + i * 9 + 1, none⟩ = some (.int .i64 t.fr) := by
        have h := hc2 1 _ rfl
        exact (HW.out.cell (p := ⟨g2, o2 + i * 9 + 1, none⟩) (cell_lt h)).trans h
      have p2 : wr.cell? ⟨g1, o1 + i * 9 + 2, none⟩ = some (.int .i64 t.till) := by
        have h := hc1 2 _ rfl
        exact (HW.out.cell (p := ⟨g1, o1 + i * 9 + 2, none⟩) (cell_lt h)).trans h
      have q2 : wr.cell? ⟨g2, o2 + i * 9 + 2, none⟩ = some (.int .i64 t.till) := by
        have h := hc2 2 _ rfl
        exact (HW.out.cell (p := ⟨g2, o2 + i * 9 + 2, none⟩) (cell_lt h)).trans h
      have p3 : wr.cell? ⟨g1, o1 + i * 9 + 3, none⟩ = some (.string (str t.word)) := by
        have h := hc1 3 _ rfl
        exact (HW.out.cell (p := ⟨g1, o1 + i * 9 + 3, none⟩) (cell_lt h)).trans h
      have q3 : wr.cell? ⟨g2, o2 + i * 9 + 3, none⟩ = some (.string (str t.word)) := by
        have h := hc2 3 _ rfl
        exact (HW.out.cell (p := ⟨g2, o2 + i * 9 + 3, none⟩) (cell_lt h)).trans h
      have p4 : wr.cell? ⟨g1, o1 + i * 9 + 4, none⟩ = some (.int .i64 t.num.kind) := by
        have h := hc1 4 _ rfl
        exact (HW.out.cell (p := ⟨g1, o1 + i * 9 + 4, none⟩) (cell_lt h)).trans h
      have q4 : wr.cell? ⟨g2, o2 + i * 9 + 4, none⟩ = some (.int .i64 t.num.kind) := by
        have h := hc2 4 _ rfl
        exact (HW.out.cell (p := ⟨g2, o2 + i * 9 + 4, none⟩) (cell_lt h)).trans h
      have p5 : wr.cell? ⟨g1, o1 + i * 9 + 5, none⟩ = some (.bool t.num.neg) := by
        have h := hc1 5 _ rfl
        exact (HW.out.cell (p := ⟨g1, o1 + i * 9 + 5, none⟩) (cell_lt h)).trans h
      have q5 : wr.cell? ⟨g2, o2 + i * 9 + 5, none⟩ = some (.bool t.num.neg) := by
        have h := hc2 5 _ rfl
        exact (HW.out.cell (p := ⟨g2, o2 + i * 9 + 5, none⟩) (cell_lt h)).trans h
      have p6 : wr.cell? ⟨g1, o1 + i * 9 + 6, none⟩ = some (.string (str t.num.num)) := by
        have h := hc1 6 _ rfl
        exact (HW.out.cell (p := ⟨g1, o1 + i * 9 + 6, none⟩) (cell_lt h)).trans h
      have q6 : wr.cell? ⟨g2, o2 + i * 9 + 6, none⟩ = some (.string (str t.num.num)) := by
        have h := hc2 6 _ rfl
        exact (HW.out.cell (p := ⟨g2, o2 + i * 9 + 6, none⟩) (cell_lt h)).trans h
      have p7 : wr.cell? ⟨g1, o1 + i * 9 + 7, none⟩ = some (.int .i64 t.num.exp) := by
        have h := hc1 7 _ rfl
        exact (HW.out.cell (p := ⟨g1, o1 + i * 9 + 7, none⟩) (cell_lt h)).trans h
      have q7 : wr.cell? ⟨g2, o2 + i * 9 + 7, none⟩ = some (.int .i64 t.num.exp) := by
        have h := hc2 7 _ rfl
        exact (HW.out.cell (p := ⟨g2, o2 + i * 9 + 7, none⟩) (cell_lt h)).trans h
      have p8 : wr.cell? ⟨g1, o1 + i * 9 + 8, none⟩ = some (.string (str t.num.den)) := by
        have h := hc1 8 _ rfl
        exact (HW.out.cell (p := ⟨g1, o1 + i * 9 + 8, none⟩) (cell_lt h)).trans h
      have q8 : wr.cell? ⟨g2, o2 + i * 9 + 8, none⟩ = some (.string (str t.num.den)) := by
        have h := hc2 8 _ rfl
        exact (HW.out.cell (p := ⟨g2, o2 + i * 9 + 8, none⟩) (cell_lt h)).trans h
      clear hc1 hc2 ht H1 H2
      generalize str t.word = W1 at *
      generalize str t.num.num = W2 at *
      generalize str t.num.den = W3 at *
      go_wp2_with fail
      go_quiet (fail)
      go_wp2
      exact ⟨⟨i + 1, by go_num, by omega, below_drewN HW.out _⟩, by simp [intOf]; omega⟩
    · have hii : ¬ (i : Int) < (l.length : Int) := by omega
      go_wp2
      go_ret
      exact ⟨rfl, HW.out⟩
end Go.Proofs.YtfgpjplfplbcdaaGreatDoor

/- A list of tokens among the inputs. -/
namespace Go.Proofs.YtfgpjplfplbcdaaGreatDoor
open Go.ChangeShapes Go.WideShapes Go.ChangeAt Go.RowKit
open Lx Tk
set_option linter.unusedVariables false
namespace Tk
/-- the letters of a token -/
def szT (t : Tg) : Nat := t.word.length + t.num.num.length + t.num.den.length
theorem bulkAll_len18 {H : Type} (l : List (DataW H)) : l.length ≤ Rows.uptoBulkAll l := by
  induction l with
  | nil => exact Nat.zero_le _
  | cons d r ih =>
    rw [List.length_cons]
    simp only [Rows.uptoBulkAll]
    have : 1 ≤ Rows.uptoBulk d := by
      cases d with
      | lit x => cases x <;> simp [Rows.uptoBulk]
      | nil => simp [Rows.uptoBulk]
      | ptr d => simp [Rows.uptoBulk]
      | slice a b => simp [Rows.uptoBulk]
      | agg a => simp [Rows.uptoBulk]
      | iface a b => simp [Rows.uptoBulk]
      | map a => simp [Rows.uptoBulk]
      | held a => simp [Rows.uptoBulk]
    omega
theorem bulkAll_sum {H : Type} : ∀ (es : List (DataW H)) (f : Nat → Nat), (∀ i (h : i < es.length), f i ≤ Rows.uptoBulk es[i]) → ((List.range es.length).map f).sum ≤ Rows.uptoBulkAll es
  | [], f, _ => Nat.zero_le _
  | d :: r, f, h => by
    rw [List.length_cons, List.range_succ_eq_map, List.map_cons, List.map_map, List.sum_cons]
    have h0 := h 0 (by simp)
    have h1 := bulkAll_sum r (f ∘ Nat.succ) (fun i hi => h (i + 1) (by simpa using hi))
    simp only [Rows.uptoBulkAll]
    simp only [List.getElem_cons_zero] at h0
    omega
theorem spot_of18 {w : World} {a : Addr} {v : Value} (h : w.cell? (a.add 0) = some v) : ∃ b o, a = ⟨b, o, none⟩ := by
  have e : a.add 0 = a := by unfold Addr.add; simp
  rw [e] at h
  have hs := World.cell?_spot h
  obtain ⟨b, o, s⟩ := a
  have hn : s = none := hs
  subst hn
  exact ⟨b, o, rfl⟩
theorem add_none18 (b o j : Nat) : (⟨b, o, none⟩ : Addr).add j = ⟨b, o + j, none⟩ := by
  unfold Addr.add
  split <;> simp_all
end Tk
theorem cells_token18 : Tryz.prog.cellsOf 32 = 9 := by kernel_rfl
theorem cells_numeral18 : Tryz.prog.cellsOf 30 = 5 := by kernel_rfl
theorem cells_str18 : Tryz.prog.cellsOf 9 = 1 := by kernel_rfl
theorem cells_i6418 : Tryz.prog.cellsOf 3 = 1 := by kernel_rfl
theorem cells_bool18 : Tryz.prog.cellsOf 4 = 1 := by kernel_rfl
set_option maxRecDepth 100000 in
theorem trod_num18 {H : Type} {enc : TypeId × Value → H} {w : World} {base fuel : Nat} {spare : Nat → Bool} {held : Bool} {cs : List Value} {y : DataW H × List MemPlace}
    (hf : DataW.trod enc Tryz.prog w base spare held fuel 30 cs = some y) : ∃ nm : Nm, cs = [.int .i64 nm.kind, .bool nm.neg, .string (str nm.num), .int .i64 nm.exp, .string (str nm.den)] ∧ nm.num.length + nm.den.length ≤ Rows.uptoBulk y.1 := by
  obtain ⟨xs, m, _, hy, hl, hx, hi⟩ := DataW.trod_struct Tryz.underlying30 hf
  rw [cells_numeral18] at hl
  match cs, hl with
  | [c0, c1, c2, c3, c4], _ =>
    have i0 := hi 0 _ rfl
    have i1 := hi 1 _ rfl
    have i2 := hi 2 _ rfl
    have i3 := hi 3 _ rfl
    have i4 := hi 4 _ rfl
    match xs, hx with
    | [x0, x1, x2, x3, x4], _ =>
      simp [cells_i6418, cells_str18, cells_bool18] at i0 i1 i2 i3 i4
      obtain ⟨s0, e0, _, _⟩ := DataW.trod_int Tryz.underlying3 i0
      obtain ⟨s1, e1, _⟩ := DataW.trod_bool Tryz.underlying4 i1
      obtain ⟨s2, e2, d2, _⟩ := DataW.trod_string Tryz.underlying9 i2
      obtain ⟨s3, e3, _, _⟩ := DataW.trod_int Tryz.underlying3 i3
      obtain ⟨s4, e4, d4, _⟩ := DataW.trod_string Tryz.underlying9 i4
      simp at e0 e1 e2 e3 e4
      subst e0 e1 e2 e3 e4
      refine ⟨⟨s0, s1, s2.data.toList, s3, s4.data.toList⟩, by simp only [str_of], ?_⟩
      rw [hy]
      simp only [List.map_cons, List.map_nil, Rows.uptoBulk, Rows.uptoBulkAll, d2, d4]
      omega
set_option maxRecDepth 100000 in
theorem trod_token18 {H : Type} {enc : TypeId × Value → H} {w : World} {base fuel : Nat} {spare : Nat → Bool} {held : Bool} {cs : List Value} {y : DataW H × List MemPlace}
    (hf : DataW.trod enc Tryz.prog w base spare held fuel 32 cs = some y) : ∃ t : Tg, cs = (tgA t).toList ∧ szT t ≤ Rows.uptoBulk y.1 := by
  obtain ⟨xs, m, _, hy, hl, hx, hi⟩ := DataW.trod_struct Tryz.underlying32 hf
  rw [cells_token18] at hl
  match cs, hl with
  | [c0, c1, c2, c3, c4, c5, c6, c7, c8], _ =>
    have i0 := hi 0 _ rfl
    have i1 := hi 1 _ rfl
    have i2 := hi 2 _ rfl
    have i3 := hi 3 _ rfl
    have i4 := hi 4 _ rfl
    match xs, hx with
    | [x0, x1, x2, x3, x4], _ =>
      simp [cells_i6418, cells_str18, cells_numeral18] at i0 i1 i2 i3 i4
      obtain ⟨s0, e0, _, _⟩ := DataW.trod_int Tryz.underlying3 i0
      obtain ⟨s1, e1, _, _⟩ := DataW.trod_int Tryz.underlying3 i1
      obtain ⟨s2, e2, _, _⟩ := DataW.trod_int Tryz.underlying3 i2
      obtain ⟨s3, e3, d3, _⟩ := DataW.trod_string Tryz.underlying9 i3
      obtain ⟨nm, e4, d4⟩ := trod_num18 i4
      simp at e0 e1 e2 e3 e4
      obtain ⟨rfl, rfl, rfl, rfl, rfl⟩ := e4
      subst e0 e1 e2 e3
      refine ⟨⟨s0, s1, s2, s3.data.toList, nm⟩, ?_, ?_⟩
      · show _ = [_, _, _, _, _, _, _, _, _]
        simp only [str_of]
      · rw [hy]
        unfold szT
        simp only [List.map_cons, List.map_nil, Rows.uptoBulk, Rows.uptoBulkAll, d3]
        omega
instance : Inhabited Tg := ⟨⟨0, 0, 0, [], nmZ0⟩⟩
set_option maxRecDepth 100000 in
theorem open_tokens {H : Type} {enc : TypeId × Value → H} {w : World} {r : Reach} {base b0 : Nat} {spare : Nat → Bool} {held : Bool} {v : Value} {d : DataW H} {p : List MemPlace}
    (hv : Value.okWide Tryz.prog w r b0 24 v) (h : DataW.Trod enc Tryz.prog w base spare held 24 v d p) (hall : ∀ g, spare g = true) (hb : Rows.uptoBulk d ≤ 1048576) :
    ∃ a n c l, v = .slice a n c ∧ Rt w (.slice a n c) l ∧ l.length ≤ 1048576 ∧ (l.map szT).sum ≤ 1048576 := by
  obtain ⟨a, n, c, rfl⟩ := okWide_slice Tryz.underlying24 hv
  obtain ⟨fuel, hf⟩ := h
  rcases DataW.trod_slice Tryz.underlying24 hf with ⟨hcs, _⟩ | ⟨x, len, cap, elems, rest, m, _, hcs, hd, hbb, hl, hm, hlen, hel, hsp, hns⟩
  · simp [Value.cells] at hcs
    obtain ⟨rfl, rfl, rfl⟩ := hcs
    exact ⟨none, 0, 0, [], rfl, ⟨none, 0, rfl, fun i t ht => by simp at ht⟩, by simp, by simp⟩
  · simp [Value.cells] at hcs
    obtain ⟨rfl, rfl, rfl⟩ := hcs
    simp only [Prod.mk.injEq] at hd
    rw [hd.1] at hb
    simp only [Rows.uptoBulk] at hb
    have h1 := bulkAll_len18 (elems.map (·.1))
    rw [List.length_map, hlen] at h1
    have each : ∀ i, i < n → ∃ t : Tg, (∃ b o, x = ⟨b, o, none⟩ ∧ ∀ (j : Nat) (u : Value), (tgA t)[j]? = some u → w.cell? ⟨b, o + i * 9 + j, none⟩ = some u) ∧ ∀ (hi : i < (elems.map (·.1)).length), szT t ≤ Rows.uptoBulk (elems.map (·.1))[i] := by
      intro i hi
      have hb' := hel i hi
      rw [List.getElem?_eq_getElem (by omega), cells_token18, Option.bind_eq_some_iff] at hb'
      obtain ⟨cs', hcs, hy⟩ := hb'
      obtain ⟨t, rfl, hz⟩ := trod_token18 hy
      obtain ⟨_, hlen9, hcell⟩ := World.cells?_some hcs
      refine ⟨t, ?_, fun hi2 => by simpa using hz⟩
      have spot : ∃ b o, x = ⟨b, o, none⟩ := by
        have hb0 := hel 0 (by omega)
        rw [List.getElem?_eq_getElem (by omega), cells_token18, Option.bind_eq_some_iff] at hb0
        obtain ⟨cs0, hcs0, hy0⟩ := hb0
        obtain ⟨t0, rfl, _⟩ := trod_token18 hy0
        obtain ⟨_, _, hcell0⟩ := World.cells?_some hcs0
        have q0 := hcell0 0 (by omega)
        have e : x.add (0 * 9) = x := by unfold Addr.add; simp
        rw [e] at q0
        exact spot_of18 q0
      obtain ⟨b, o, rfl⟩ := spot
      refine ⟨b, o, rfl, fun j u hu => ?_⟩
      have hj : j < 9 := by
        have := (Array.getElem?_eq_some_iff.mp hu).1
        simpa [tgA, tkA] using this
      have q := hcell j hj
      rw [add_none18, add_none18] at q
      rw [q]
      have e2 : (tgA t).toList[j]? = some u := by rw [Array.getElem?_toList]; exact hu
      exact e2
    have pick : ∃ f : Nat → Tg, ∀ i, i < n → (∃ b o, x = ⟨b, o, none⟩ ∧ ∀ (j : Nat) (u : Value), (tgA (f i))[j]? = some u → w.cell? ⟨b, o + i * 9 + j, none⟩ = some u) ∧ ∀ (hi : i < (elems.map (·.1)).length), szT (f i) ≤ Rows.uptoBulk (elems.map (·.1))[i] := by
      refine ⟨fun i => if hi : i < n then (each i hi).choose else default, fun i hi => ?_⟩
      simp only [dif_pos hi]
      exact (each i hi).choose_spec
    obtain ⟨f, hf2⟩ := pick
    have hsum := bulkAll_sum (elems.map (·.1)) (fun i => szT (f i)) (fun i hi => (hf2 i (by rw [List.length_map, hlen] at hi; exact hi)).2 hi)
    rw [List.length_map, hlen] at hsum
    refine ⟨some x, n, c, (List.range n).map f, rfl, ⟨some x, c, by simp, fun i t ht => ?_⟩, by simp; omega, by rw [List.map_map]; exact Nat.le_trans hsum (by omega)⟩
    rw [List.getElem?_map] at ht
    obtain ⟨k, hk, rfl⟩ := Option.map_eq_some_iff.mp ht
    obtain ⟨hi, e⟩ := List.getElem?_eq_some_iff.mp hk
    rw [List.length_range] at hi
    rw [List.getElem_range] at e
    subst e
    obtain ⟨⟨b, o, hx2, hc⟩, _⟩ := hf2 i hi
    exact ⟨b, o, by rw [hx2], hc⟩
end Go.Proofs.YtfgpjplfplbcdaaGreatDoor

/- Layer 18: TokenJoins. -/
namespace Go.Proofs.YtfgpjplfplbcdaaGreatDoor
open Go.ChangeShapes Go.WideShapes Go.ChangeAt Go.RowKit
open Lx Tk Go.Shelf
set_option linter.unusedVariables false
namespace Tk
theorem Toks.le {k : Nat} {r : B} {l : List Ct} {e : Option Nat} (h : Toks k r l e) : ∀ c ∈ l, c.fr ≤ k + r.length ∧ c.to ≤ k + r.length := by
  induction h with
  | nil _ => intro c hc; cases hc
  | bad _ => intro c hc; cases hc
  | @cons k r l e h _ ih =>
    intro c hc
    have f := cut_f r
    have f1 := f.fr
    have f2 := f.to
    rcases List.mem_cons.1 hc with rfl | hc
    · exact ⟨by show k + _ ≤ _; omega, by show k + _ ≤ _; omega⟩
    · have := ih c hc
      rw [List.length_drop] at this
      omega
theorem TkR.grown {w w5 : World} {base : Nat} {v : Value} {l : List Ct} (h : TkR w base v l) (hg : w.grownBy w5 v.ownBlock) {a : World} {n : Nat} (hb : Below n a w) (hn : n ≤ base) (ha : n ≤ a.heap.size) : Below n a w5 := by
  cases ho : v.ownBlock with
  | none =>
    rw [ho] at hg
    exact hb.trans ((grown_below hg).mono (Nat.le_trans ha hb.size))
  | some b =>
    rw [ho] at hg
    have := (World.ownsRow.lt h b ho).1
    exact Tn.below hb (grown_tn hg) (by omega) ha
end Tk
theorem pow_later18 {w w' : World} (h : PowTab w) (hb : Below w.heap.size w w') : PowTab w' := by
  cases hg : Tryz.prog.globalNamed "internal/strconv.uint64pow10" with
  | none =>
    unfold PowTab Lib.TabIs World.var? at h
    rw [hg] at h
    cases h
  | some g =>
    unfold PowTab Lib.TabIs World.var? at h ⊢
    rw [hg] at h ⊢
    simp only [Option.bind_some] at h ⊢
    have hlt : g < w.heap.size := by
      rcases Nat.lt_or_ge g w.heap.size with h' | h'
      · exact h'
      · rw [Array.getElem?_eq_none h'] at h; cases h
    rw [hb.block g hlt]
    exact h
end Go.Proofs.YtfgpjplfplbcdaaGreatDoor

/- Layer 18: one list of tokens behind another. -/
namespace Go.Proofs.YtfgpjplfplbcdaaGreatDoor
open Go.ChangeShapes Go.WideShapes Go.ChangeAt Go.RowKit
open Lx Tk Go.Shelf
set_option linter.unusedVariables false
set_option linter.unusedSimpArgs false
theorem wpList_append18 {w : World} {ops : Array Oper} {rest : List Oper} {o : Oper} {a : Act} {Q : Exit → Act → World → Prop} (hgd : o.guard = none) (s x : Operand) (t : TypeId)
    (ho : o.op = .call { callee := .builtin .append, args := #[s, x], argTypes := #[t, t] }) (v u : Value) (hs : a.eval s = v) (hx : a.eval x = u) {v' : Value} {w' : World}
    (hr : (Builtin.append_ #[t, t] o.type #[v, u]).run Tryz.prog w = .ok v' w') (h : wpList Tryz.prog ops Q rest (a.put o.dst v') w') : wpList Tryz.prog ops Q (o :: rest) a w := by
  refine wpList_plain hgd fun K hK => ?_
  unfold Oper.wp execOp
  simp only [ho, resolve, invoke, builtin, Sem.run_bind, Sem.run_pure, Result.andThen_ok, List.map_toArray, List.map_cons, List.map_nil, hs, hx, hr]
  exact hK _ _ h
theorem TkR.nil (w : World) (base : Nat) : TkR w base (.slice none 0 0) [] := World.ownsRow_nil _ _ _ _
end Go.Proofs.YtfgpjplfplbcdaaGreatDoor

