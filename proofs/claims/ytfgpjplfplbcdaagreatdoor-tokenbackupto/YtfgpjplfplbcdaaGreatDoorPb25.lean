import Derived.Below
import Derived.BigQuiet
import Derived.ChangeOld
import Derived.Deep.CutRange
import Derived.Deep.LoopGhost
import Derived.Deep.QuietTactic
import Derived.Deep.RegionHeld3
import Derived.Deep.RegionWith
import Derived.Deep.WholeRow
import Derived.KernelRfl
import Derived.LaidEql
import Derived.Laws.AppendOwn
import Derived.Laws.BitsAllLaws
import Derived.Laws.CopyRow
import Derived.Laws.EntriesVeiled
import Derived.Laws.Externs
import Derived.Laws.IdiomCopy
import Derived.Laws.IdiomRangeMap
import Derived.Laws.RangeString
import Derived.Laws.ResultCell
import Derived.Laws.Runes
import Derived.Laws.Strings3
import Derived.Lib.AppendIntMem
import Derived.Lib.AsciiSet
import Derived.Lib.Builder
import Derived.Lib.Bytealg
import Derived.Lib.IndexBytes
import Derived.Lib.ItoaLen
import Derived.Lib.Strings
import Derived.Lib.TrimByte
import Derived.Lib.Walk
import Derived.OpenShut
import Derived.OwnWalk
import Derived.ProofKit
import Derived.RowKitTokens
import Derived.Shelf.Strconv.Clone
import Derived.Shelf.Strconv.Itoa3
import Derived.Shelf.Strings.BuilderK
import Derived.Shelf.Strings.OnBuilder
import Derived.ShutString
import Derived.Stop.Asserts
import Derived.WalkKit
import Derived.WalkLawsBesides
import Derived.WalkSpells
import Derived.Test.YtfgpjplfplbcdaaGreatDoorPb1
import Derived.Test.YtfgpjplfplbcdaaGreatDoorPb19
import Derived.Test.YtfgpjplfplbcdaaGreatDoorPb24
/- Layer 18: alive. -/
namespace Go.Proofs.YtfgpjplfplbcdaaGreatDoor
open Go.ChangeShapes Go.WideShapes Go.ChangeAt Go.RowKit
open Lx Tk Go.Shelf
set_option linter.unusedVariables false
namespace Tk
def Ct.tg (c : Ct) : Tg := ⟨c.kind, c.fr, c.to, c.word, c.num⟩
theorem tkcs_at : ∀ (l : List Ct) (i j : Nat) (c : Ct), l[i]? = some c → j < 9 → (tkcs l)[i * 9 + j]? = (tkc c)[j]?
  | [], i, j, c, h, _ => by cases h
  | d :: r, 0, j, c, h, hj => by
    cases h
    show (tkc d ++ tkcs r)[0 * 9 + j]? = _
    rw [Nat.zero_mul, Nat.zero_add, List.getElem?_append_left (by rw [tkc_len]; exact hj)]
  | d :: r, i + 1, j, c, h, hj => by
    show (tkc d ++ tkcs r)[(i + 1) * 9 + j]? = _
    rw [List.getElem?_append_right (by rw [tkc_len]; omega), tkc_len, show (i + 1) * 9 + j - 9 = i * 9 + j from by omega]
    exact tkcs_at r i j c (by simpa using h) hj
theorem TkR.cell {w : World} {base : Nat} {v : Value} {l : List Ct} (h : TkR w base v l) {i j : Nat} {c : Ct} {u : Value} (hi : l[i]? = some c) (hu : (tkc c)[j]? = some u) : ∃ g cap, v = .slice (some ⟨g, 0, none⟩) l.length cap ∧ v.ownBlock = some g ∧ w.cell? ⟨g, i * 9 + j, none⟩ = some u := by
  have hj : j < 9 := by
    apply Decidable.byContradiction
    intro hc
    rw [List.getElem?_eq_none (by rw [tkc_len]; omega)] at hu
    cases hu
  have hx := (tkcs_at l i j c hi hj).trans hu
  rcases h.2 with ⟨rfl, h0⟩ | ⟨g, cap, cur, rfl, hb, hc, h1, h2, h3, h4⟩
  · have : l = [] := List.eq_nil_of_length_eq_zero h0
    rw [this] at hi
    cases hi
  · refine ⟨g, cap, rfl, rfl, ?_⟩
    have hadd : (⟨g, 0, none⟩ : Addr).add (i * 9 + j) = ⟨g, i * 9 + j, none⟩ := by unfold Addr.add; split <;> simp_all
    have := World.ownsRow.cells h (g := g) rfl _ u hx
    rwa [hadd] at this
theorem TkR.rt {w : World} {base : Nat} {v : Value} {l : List Ct} (h : TkR w base v l) : Rt w v (l.map Ct.tg) := by
  obtain ⟨a, c, rfl, hc⟩ := h.slice
  refine ⟨a, c, by rw [List.length_map], fun i t hi => ?_⟩
  rw [List.getElem?_map] at hi
  cases hl : l[i]? with
  | none => rw [hl] at hi; cases hi
  | some d =>
    rw [hl] at hi
    obtain rfl : d.tg = t := Option.some.inj hi
    obtain ⟨g, cap, e1, e2, _⟩ := h.cell (j := 0) hl rfl
    simp only [Value.slice.injEq] at e1
    obtain ⟨rfl, _, rfl⟩ := e1
    refine ⟨g, 0, rfl, fun j u hu => ?_⟩
    have hu' : (tkc d)[j]? = some u := by rw [← hu]; exact Array.getElem?_toList ..
    obtain ⟨g', cap', e3, _, e4⟩ := h.cell hl hu'
    simp only [Value.slice.injEq, Option.some.injEq, Addr.mk.injEq] at e3
    obtain ⟨⟨rfl, _, _⟩, _, _⟩ := e3
    rw [Nat.zero_add]
    exact e4
theorem Toks.mk {k : Nat} {r : B} {c : Ct} {l : List Ct} {e : Option Nat} (h : cutR r = c) (hp : 0 < c.kind) (h2 : Toks (k + c.to) (r.drop c.to) l e) : Toks k r (c.move k :: l) e := by
  subst h
  exact .cons hp h2
theorem Toks.fin {k : Nat} {r : B} {c : Ct} (h : cutR r = c) (hp : c.kind = 0) : Toks k r [] none := by
  subst h
  exact .nil hp
def ptS : B := [80, 111, 105, 110, 116, 32, 40, 49, 32, 50, 41]
def ptT : List Ct := [⟨1, 0, 5, [80, 79, 73, 78, 84], nmZ0⟩, ⟨2, 6, 7, [], nmZ0⟩, ⟨5, 7, 8, [], ⟨1, false, [49], 0, []⟩⟩, ⟨5, 9, 10, [], ⟨1, false, [50], 0, []⟩⟩, ⟨3, 10, 11, [], nmZ0⟩]
theorem pt_toks : Toks 0 ptS ptT none := by
  refine Toks.mk (c := ⟨1, 0, 5, [80, 79, 73, 78, 84], nmZ0⟩) (by kernel_rfl) (by decide) ?_
  refine Toks.mk (k := 5) (r := [32, 40, 49, 32, 50, 41]) (c := ⟨2, 1, 2, [], nmZ0⟩) (by kernel_rfl) (by decide) ?_
  refine Toks.mk (k := 7) (r := [49, 32, 50, 41]) (c := ⟨5, 0, 1, [], ⟨1, false, [49], 0, []⟩⟩) (by kernel_rfl) (by decide) ?_
  refine Toks.mk (k := 8) (r := [32, 50, 41]) (c := ⟨5, 1, 2, [], ⟨1, false, [50], 0, []⟩⟩) (by kernel_rfl) (by decide) ?_
  refine Toks.mk (k := 10) (r := [41]) (c := ⟨3, 0, 1, [], nmZ0⟩) (by kernel_rfl) (by decide) ?_
  exact Toks.fin (r := []) (c := ⟨0, 0, 0, [], nmZ0⟩) (by kernel_rfl) rfl
theorem pt_tight : tightL false (ptT.map Ct.tg) = [80, 79, 73, 78, 84, 40, 49, 32, 50, 41] := by kernel_rfl
end Tk
set_option maxHeartbeats 3200000 in
set_option maxRecDepth 100000 in
theorem alive18_any {w : World} (hT : ∀ w', Below w.heap.size w w' → PowTab w') :
    Calls Tryz.prog 12 #[] w fun e w' => e = .returned (.bool true) ∧ Below w.heap.size w w' := by
  have c0 := all18_any (str ptS) (by rw [str_size]; decide) (by rw [str_list]; exact pt_toks) w
  unfold AllR at c0
  simp only at c0
  have hS : str ptS = ⟨#[80, 111, 105, 110, 116, 32, 40, 49, 32, 50, 41]⟩ := rfl
  rw [hS] at c0
  have HT : Hid _ := hT
  clear hT hS
  go_enter Tryz.func12, Tryz.ntmps12
  go_wp2_with fail
  refine c0.mono ?_
  rintro e w1 ⟨v, rfl, hR, hb1⟩
  clear c0
  obtain ⟨g, cap, rfl, ho, q3a⟩ := hR.cell (i := 0) (j := 3) rfl rfl
  have q2 : w1.cell? ⟨g, 2, none⟩ = some (.int .i64 5) := by
    obtain ⟨g', cap', e, _, h⟩ := hR.cell (i := 0) (j := 2) rfl rfl
    simp only [Value.slice.injEq, Option.some.injEq, Addr.mk.injEq] at e
    obtain ⟨⟨rfl, _, _⟩, _, _⟩ := e
    exact h
  have q9 : w1.cell? ⟨g, 9, none⟩ = some (.int .i64 2) := by
    obtain ⟨g', cap', e, _, h⟩ := hR.cell (i := 1) (j := 0) rfl rfl
    simp only [Value.slice.injEq, Option.some.injEq, Addr.mk.injEq] at e
    obtain ⟨⟨rfl, _, _⟩, _, _⟩ := e
    exact h
  have q18 : w1.cell? ⟨g, 18, none⟩ = some (.int .i64 5) := by
    obtain ⟨g', cap', e, _, h⟩ := hR.cell (i := 2) (j := 0) rfl rfl
    simp only [Value.slice.injEq, Option.some.injEq, Addr.mk.injEq] at e
    obtain ⟨⟨rfl, _, _⟩, _, _⟩ := e
    exact h
  have q24 : w1.cell? ⟨g, 24, none⟩ = some (.string ⟨#[49]⟩) := by
    obtain ⟨g', cap', e, _, h⟩ := hR.cell (i := 2) (j := 6) rfl rfl
    simp only [Value.slice.injEq, Option.some.injEq, Addr.mk.injEq] at e
    obtain ⟨⟨rfl, _, _⟩, _, _⟩ := e
    exact h
  have q36 : w1.cell? ⟨g, 36, none⟩ = some (.int .i64 3) := by
    obtain ⟨g', cap', e, _, h⟩ := hR.cell (i := 4) (j := 0) rfl rfl
    simp only [Value.slice.injEq, Option.some.injEq, Addr.mk.injEq] at e
    obtain ⟨⟨rfl, _, _⟩, _, _⟩ := e
    exact h
  have q38 : w1.cell? ⟨g, 38, none⟩ = some (.int .i64 11) := by
    obtain ⟨g', cap', e, _, h⟩ := hR.cell (i := 4) (j := 2) rfl rfl
    simp only [Value.slice.injEq, Option.some.injEq, Addr.mk.injEq] at e
    obtain ⟨⟨rfl, _, _⟩, _, _⟩ := e
    exact h
  have q3 : w1.cell? ⟨g, 3, none⟩ = some (.string ⟨#[80, 79, 73, 78, 84]⟩) := q3a
  clear q3a
  have c1 := tight18_any hR.rt (by simp [ptT]) (by intro t ht; simp [ptT, Ct.tg] at ht; rcases ht with rfl | rfl | rfl | rfl | rfl <;> simp [nmZ0]) (by rw [pt_tight]; decide) (fun w' hb => HT.out w' (hb1.trans (hb.mono hb1.size)))
  rw [pt_tight] at c1
  have hS : str [80, 79, 73, 78, 84, 40, 49, 32, 50, 41] = ⟨#[80, 79, 73, 78, 84, 40, 49, 32, 50, 41]⟩ := rfl
  rw [hS] at c1
  have hL : ptT.length = 5 := rfl
  rw [hL] at c1 ⊢
  have HB : Hid _ := hb1
  clear hS hL hR ho hb1 HT
  go_wp2_with fail
  refine c1.mono ?_
  rintro e w2 ⟨rfl, hb2⟩
  clear c1
  go_wp2
  go_ret
  exact ⟨rfl, HB.out.trans (hb2.mono HB.out.size)⟩
end Go.Proofs.YtfgpjplfplbcdaaGreatDoor

/- Layer 18: the law's eq. -/
namespace Go.Proofs.YtfgpjplfplbcdaaGreatDoor
open Go.ChangeShapes Go.WideShapes Go.ChangeAt Go.RowKit
open Lx Tk Go.Shelf
set_option linter.unusedVariables false
namespace Tk
theorem Rt.at {w : World} {a : Option Addr} {n c : Nat} {l : List Tg} (h : Rt w (.slice a n c) l) {i : Nat} {t : Tg} (hi : l[i]? = some t) : ∃ g o, a = some ⟨g, o, none⟩ ∧ ∀ (j : Nat) (u : Value), (tgA t)[j]? = some u → w.cell? ⟨g, o + i * 9 + j, none⟩ = some u := by
  obtain ⟨a', c', h1, h2⟩ := h
  simp only [Value.slice.injEq] at h1
  obtain ⟨rfl, _, _⟩ := h1
  exact h2 i t hi
theorem Rt.slice {w : World} {v : Value} {l : List Tg} (h : Rt w v l) : ∃ a c, v = .slice a l.length c := by
  obtain ⟨a, c, h1, _⟩ := h
  exact ⟨a, c, h1⟩
theorem Rt.later {w w' : World} {v : Value} {l : List Tg} (h : Rt w v l) (hb : Below w.heap.size w w') : Rt w' v l := h.keep hb (Nat.le_refl _)
end Tk
end Go.Proofs.YtfgpjplfplbcdaaGreatDoor

/- Layer 18: TokenJoins. -/
namespace Go.Proofs.YtfgpjplfplbcdaaGreatDoor
open Go.ChangeShapes Go.WideShapes Go.ChangeAt Go.RowKit
open Lx Tk Go.Shelf
set_option linter.unusedVariables false
namespace Tk
theorem Toks.le {k : Nat} {r : B} {l : List Ct} {e : Option Nat} (h : Toks k r l e) : ∀ c ∈ l, c.fr ≤ k + r.length ∧ c.to ≤ k + r.length := by
  induction h with
  | nil _ => intro c hc; cases hc
  | bad _ => intro c hc; cases hc
  | @cons k r l e h _ ih =>
    intro c hc
    have f := cut_f r
    have f1 := f.fr
    have f2 := f.to
    rcases List.mem_cons.1 hc with rfl | hc
    · exact ⟨by show k + _ ≤ _; omega, by show k + _ ≤ _; omega⟩
    · have := ih c hc
      rw [List.length_drop] at this
      omega
theorem tkcs_one : ∀ (l : List Ct), ∀ u ∈ tkcs l, u.oneCell' = true
  | [], u, h => by cases h
  | c :: r, u, h => by
    rcases List.mem_append.1 h with h | h
    · have : tkc c = [.int .i64 c.kind, .int .i64 c.fr, .int .i64 c.to, .string (str c.word), .int .i64 c.num.kind, .bool c.num.neg, .string (str c.num.num), .int .i64 c.num.exp, .string (str c.num.den)] := rfl
      rw [this] at h
      simp at h
      rcases h with rfl | rfl | rfl | rfl | rfl | rfl | rfl | rfl | rfl <;> rfl
    · exact tkcs_one r u h
theorem tkcs_len : ∀ (l : List Ct), (tkcs l).length = l.length * 9
  | [] => rfl
  | c :: r => by show (tkc c ++ tkcs r).length = _; rw [List.length_append, tkc_len, tkcs_len r, List.length_cons]; omega
theorem tkcs_app : ∀ (l m : List Ct), tkcs (l ++ m) = tkcs l ++ tkcs m
  | [], m => rfl
  | c :: r, m => by show tkc c ++ tkcs (r ++ m) = tkc c ++ tkcs r ++ tkcs m; rw [tkcs_app r m, List.append_assoc]
theorem TkR.grown {w w5 : World} {base : Nat} {v : Value} {l : List Ct} (h : TkR w base v l) (hg : w.grownBy w5 v.ownBlock) {a : World} {n : Nat} (hb : Below n a w) (hn : n ≤ base) (ha : n ≤ a.heap.size) : Below n a w5 := by
  cases ho : v.ownBlock with
  | none =>
    rw [ho] at hg
    exact hb.trans ((grown_below hg).mono (Nat.le_trans ha hb.size))
  | some b =>
    rw [ho] at hg
    have := (World.ownsRow.lt h b ho).1
    exact Tn.below hb (grown_tn hg) (by omega) ha
end Tk
theorem pow_later18 {w w' : World} (h : PowTab w) (hb : Below w.heap.size w w') : PowTab w' := by
  cases hg : Tryz.prog.globalNamed "internal/strconv.uint64pow10" with
  | none =>
    unfold PowTab Lib.TabIs World.var? at h
    rw [hg] at h
    cases h
  | some g =>
    unfold PowTab Lib.TabIs World.var? at h ⊢
    rw [hg] at h ⊢
    simp only [Option.bind_some] at h ⊢
    have hlt : g < w.heap.size := by
      rcases Nat.lt_or_ge g w.heap.size with h' | h'
      · exact h'
      · rw [Array.getElem?_eq_none h'] at h; cases h
    rw [hb.block g hlt]
    exact h
end Go.Proofs.YtfgpjplfplbcdaaGreatDoor

/- Layer 18: one list of tokens behind another. -/
namespace Go.Proofs.YtfgpjplfplbcdaaGreatDoor
open Go.ChangeShapes Go.WideShapes Go.ChangeAt Go.RowKit
open Lx Tk Go.Shelf
set_option linter.unusedVariables false
set_option linter.unusedSimpArgs false
theorem wpList_append18 {w : World} {ops : Array Oper} {rest : List Oper} {o : Oper} {a : Act} {Q : Exit → Act → World → Prop} (hgd : o.guard = none) (s x : Operand) (t : TypeId)
    (ho : o.op = .call { callee := .builtin .append, args := #[s, x], argTypes := #[t, t] }) (v u : Value) (hs : a.eval s = v) (hx : a.eval x = u) {v' : Value} {w' : World}
    (hr : (Builtin.append_ #[t, t] o.type #[v, u]).run Tryz.prog w = .ok v' w') (h : wpList Tryz.prog ops Q rest (a.put o.dst v') w') : wpList Tryz.prog ops Q (o :: rest) a w := by
  refine wpList_plain hgd fun K hK => ?_
  unfold Oper.wp execOp
  simp only [ho, resolve, invoke, builtin, Sem.run_bind, Sem.run_pure, Result.andThen_ok, List.map_toArray, List.map_cons, List.map_nil, hs, hx, hr]
  exact hK _ _ h
theorem wpList_appR {w : World} {ops : Array Oper} {rest : List Oper} {o : Oper} {a : Act} {Q : Exit → Act → World → Prop} (hgd : o.guard = none) (s x : Operand)
    (ho : o.op = .call { callee := .builtin .append, args := #[s, x], argTypes := #[24, 24] }) {base b2 : Nat} {v u : Value} {l m : List Ct} (hs : a.eval s = v) (hO : TkR w base v l) (hx : a.eval x = u) (hM : TkR w b2 u m) (hb : l.length + m.length ≤ 1000000000) (hbase : base ≤ w.heap.size)
    (h : ∀ v' w', TkR w' base v' (l ++ m) → w.grownBy w' v.ownBlock → wpList Tryz.prog ops Q rest (a.put o.dst v') w') : wpList Tryz.prog ops Q (o :: rest) a w := by
  obtain ⟨i, hi, hz0, hz1, hz2⟩ := info_parts18 info_tk18
  rcases hM.2 with ⟨rfl, h0⟩ | ⟨g, cap, cur, rfl, hg1, hg2, hg3, hg4, hg5, hg6⟩
  · have hm : m = [] := List.eq_nil_of_length_eq_zero h0
    subst hm
    refine wpList_append18 hgd s x 24 ho v _ hs hx (v' := v) (w' := w) ?_ (h v w (by rw [List.append_nil]; exact hO) ⟨rfl, rfl, rfl, Nat.le_refl _, fun _ _ _ => rfl⟩)
    rcases hO.2 with ⟨rfl, _⟩ | ⟨g, cap, cur, rfl, hbg, hg, hnc, hcm, hcs, htake⟩
    · simp [Builtin.append_, run_underlying Tryz.underlying24, Result.andThen, sizeOf, typeInfo, hi, hz1, Builtin.lenOf, Builtin.firstCells, loadCells, loadCellsFrom]
    · simp [Builtin.append_, run_underlying Tryz.underlying24, Result.andThen, hnc, sizeOf, typeInfo, hi, hz1, Builtin.lenOf, Builtin.firstCells, loadCells, loadCellsFrom, storeCells]
  · refine wpList_append_own _ hgd s x 24 ho base 32 i (.agg zero9) 9 96 Tryz.underlying24 hi hz0 hz1 hz2 rfl (by decide) v l.length (tkcs l) hs hO ⟨g, 0, none⟩ m.length cap (tkcs m) hx (tkcs_len m) (World.ownsRow.cells hM (g := g) rfl) (tkcs_one m) (by unfold maxLen; omega) (by omega) hbase ?_
    intro v' w' h1 h2 _
    refine h v' w' ?_ h2
    unfold TkR
    rw [List.length_append, tkcs_app]
    exact h1
theorem TkR.nil (w : World) (base : Nat) : TkR w base (.slice none 0 0) [] := World.ownsRow_nil _ _ _ _
end Go.Proofs.YtfgpjplfplbcdaaGreatDoor

