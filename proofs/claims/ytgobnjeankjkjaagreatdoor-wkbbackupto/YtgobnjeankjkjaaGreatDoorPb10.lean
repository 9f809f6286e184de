import Derived.Deep.RegionHeld3
import Derived.Deep.QuietTactic
import Derived.BigQuiet
import Derived.StillTailTactics
import Derived.Below
import Derived.Laws.Rows
import Derived.LoopIn
import Derived.LoopNIn
import Derived.OpenShut
import Derived.OwnWalkIn
import Derived.ProofKit
import Derived.RangeFuncBound
import Derived.RangeFuncLeaves
import Derived.RangeFuncNested
import Derived.Shelf.Abstract
import Derived.Shelf.RegionOpen
import Derived.TacticsInMore
import Derived.WalkKit
import Derived.Test.YtgobnjeankjkjaaGreatDoorPb7
/- tree.all: the geometries in the order of the text. -/
namespace Go.Proofs.YtgobnjeankjkjaaGreatDoor
open Go.ChangeShapes Go.WideShapes Go.ChangeAt Go.RowKit Go.Shelf
open Tr Rf
set_option linter.unusedVariables false
attribute [local go_sem] Oper.semAt_some
theorem info_trow : (Tryz.prog.info? 142).map (fun i => (i.zero, i.size, i.bytes)) = some (some (.agg #[.int .i64 0, .slice none 0 0]), 2, 32) := by kernel_rfl
theorem step_appendT {P : Program} {ops : Array Oper} {o : Oper} {a : Act} {w : World} {K : Act → World → Prop} {Q : Exit → Act → World → Prop} {E : Prop}
    (hg : o.guard = none) (s x : Operand) (t : TypeId) (hop : o.op = Op.call { callee := Callee.builtin Builtin.append, args := #[s, x], argTypes := #[t, t] })
    (base : Nat) (e : TypeId) (i : TypeInfo) (z : Value) (size bytes : Nat) (h1 : P.underlying t = some (.slice e)) (h2 : P.info? e = some i) (h3 : i.zero = some z) (h4 : i.size = size) (h5 : i.bytes = bytes) (h6 : z.cells.size = size) (h7 : 0 < size)
    (v : Value) (n : Nat) (xs : List Value) (hs : a.eval s = v) (hown : w.ownsRow base e size v n xs)
    (ad : Addr) (m c : Nat) (news : List Value) (hx : a.eval x = .slice (some ad) m c) (hn : news.length = m * size) (hc : ∀ j u, news[j]? = some u → w.cell? (ad.add j) = some u) (h1c : ∀ u ∈ news, u.oneCell' = true)
    (b1 : n + m ≤ maxLen) (b2 : (n + m) * bytes ≤ 140737488355328) (hbase : base ≤ w.heap.size)
    (hK : ∀ v' w', w'.ownsRow base e size v' (n + m) (xs ++ news) → w.grownBy w' v.ownBlock → K (a.put o.dst v') w') :
    if Region.wanted o (yielded ops a.tmps) = true then Oper.wp P o a w K Q else E := by
  have hw : Region.wanted o (yielded ops a.tmps) = true := by simp [Region.wanted, hg]
  rw [if_pos hw]
  exact wp_append_own w s x t hop base e i z size bytes h1 h2 h3 h4 h5 h6 h7 v n xs hs hown ad m c news hx hn hc h1c b1 b2 hbase fun v' w' h2 h3 _ => hK v' w' h2 h3
theorem two_new {w : World} {x y : Value} {t : TypeId} : ∀ j u, ([x, y] : List Value)[j]? = some u → (w.alloc (.cells #[x, y] t)).cell? ((⟨w.heap.size, 0, none⟩ : Addr).add j) = some u := by
  intro j u hj
  match j, hj with
  | 0, hj => simp at hj; subst hj; show World.cell? _ ⟨w.heap.size, 0, none⟩ = _; unfold World.cell?; rw [World.alloc_heap_new]; rfl
  | 1, hj => simp at hj; subst hj; show World.cell? _ ⟨w.heap.size, 0 + 1, none⟩ = _; unfold World.cell?; rw [World.alloc_heap_new]; rfl
namespace Tr
/-- a row of the stack -/
structure Rw where
  home : Int
  at_ : Option Addr
  len : Nat
  cap : Nat
def Rw.val (r : Rw) : Value := .slice r.at_ r.len r.cap
/-- the stack's cells, its top last -/
def mem : List Rw → List Value
  | [] => []
  | r :: t => mem t ++ [.int .i64 r.home, .slice r.at_ r.len r.cap]
theorem mem_length (l : List Rw) : (mem l).length = l.length * 2 := by
  induction l with
  | nil => rfl
  | cons r t ih => simp [mem, ih]; omega
def popR : List Rw → List Rw
  | [] => []
  | r :: t => if r.len = 0 then popR t else r :: t
/-- where the walk stands -/
structure St where
  b : Nat
  o : Nat
  num : Nat
  lev : Nat
  home : Int
  st : List Rw
def St.val (s : St) : Value := .agg #[.pointer (some ⟨s.b, s.o, none⟩), .int .i64 s.num, .int .i64 s.lev, .int .i64 s.home]
/-- the walk's own steps: block ga, rows of the stack, new blocks -/
structure Own1 (ga : Nat) (t : TypeId) (W W' : World) : Prop where
  os : W'.os = W.os
  tape : W'.tape = W.tape
  output : W'.output = W.output
  size : W.heap.size ≤ W'.heap.size
  block : ∀ k o, W.heap[k]? = some o → (k ≠ ga ∨ o.isCells = false) → (k < ga ∨ ∀ c f, o ≠ Obj.cells c t f) → W'.heap[k]? = some o
/-- a round keeps these -/
structure Kr (ga : Nat) (t : TypeId) (W W' : World) : Prop where
  size : W.heap.size ≤ W'.heap.size
  at_ : ∀ o, W.heap[ga]? = some o → o.isCells = true → W'.heap[ga]? = some o
  row : ∀ (k : Nat) c f, ga < k → W.heap[k]? = some (Obj.cells c t f) → W'.heap[k]? = some (Obj.cells c t f)
theorem least_ex {p : Nat → Prop} (h : ∃ k, p k) : ∃ k, p k ∧ ∀ j, p j → k ≤ j := by
  obtain ⟨k, hk⟩ := h
  induction k using Nat.strongRecOn with
  | _ k ih =>
    by_cases g : ∃ j, j < k ∧ p j
    · obtain ⟨j, hj, hp⟩ := g
      exact ih j hj hp
    · exact ⟨k, hk, fun j hj => Nat.le_of_not_lt (fun q => g ⟨j, q, hj⟩)⟩
open Classical in
noncomputable def leastK (p : Nat → Prop) : Nat := if h : ∃ k, p k then (least_ex h).choose else 0
theorem leastK_spec {p : Nat → Prop} (h : ∃ k, p k) : p (leastK p) := by unfold leastK; rw [dif_pos h]; exact (least_ex h).choose_spec.1
theorem leastK_le {p : Nat → Prop} {k : Nat} (h : p k) : leastK p ≤ k := by unfold leastK; rw [dif_pos ⟨k, h⟩]; exact (least_ex ⟨k, h⟩).choose_spec.2 k h
section
variable {ga : Nat} {t : TypeId} {W W' W'' : World}
theorem Own1.refl (ga : Nat) (t : TypeId) (W : World) : Own1 ga t W W := ⟨rfl, rfl, rfl, Nat.le_refl _, fun _ _ h _ _ => h⟩
theorem Own1.trans (h : Own1 ga t W W') (k : Own1 ga t W' W'') : Own1 ga t W W'' := ⟨k.os.trans h.os, k.tape.trans h.tape, k.output.trans h.output, Nat.le_trans h.size k.size, fun i o h1 h2 h3 => k.block i o (h.block i o h1 h2 h3) h2 h3⟩
theorem Own1.below (h : Own1 ga t W W') (k : Below W'.heap.size W' W'') : Own1 ga t W W'' := h.trans ⟨k.os, k.tape, k.output, k.size, fun i o h1 _ _ => (k.block i (Array.getElem?_eq_some_iff.1 h1).1).trans h1⟩
theorem Own1.drewN (h : Own1 ga t W W') (n : Nat) : Own1 ga t W (W'.drewN n) := ⟨h.os, h.tape, h.output, h.size, h.block⟩
theorem Own1.drew (h : Own1 ga t W W') : Own1 ga t W W'.drew := ⟨h.os, h.tape, h.output, h.size, h.block⟩
theorem Own1.setAt (h : Own1 ga t W W') (o : Nat) (v : Value) : Own1 ga t W (W'.setCell ⟨ga, o, none⟩ v) := h.trans ⟨rfl, rfl, rfl, by simp [World.setCell], fun i ob h1 h2 _ => by
    by_cases e : i = ga
    · rcases h2 with h2 | h2
      · exact absurd e h2
      · exact (KeepsOthers.setCell _ _ _).same _ _ h1 h2
    · exact (Below.heap_setCell _ _ _ _ e).trans h1⟩
theorem Own1.others (h : Own1 ga t W W') : KeepsOthers W W' := ⟨h.size, fun k o h1 h2 => h.block k o h1 (.inr h2) (.inr (fun c f e => by rw [e] at h2; cases h2))⟩
theorem Own1.setRow (h : Own1 ga t W W') {g o : Nat} {c : Array Value} {f : Nat × Nat} (hga : ga < g) (hg : W'.heap[g]? = some (.cells c t f)) (v : Value) : Own1 ga t W (W'.setCell ⟨g, o, none⟩ v) :=
  h.trans ⟨rfl, rfl, rfl, by simp [World.setCell], fun i ob h1 _ h3 => (Below.heap_setCell _ _ _ _ (fun e => by
    have e' : i = g := e
    rw [e', hg] at h1
    cases h1
    rcases h3 with h3 | h3
    · omega
    · exact h3 _ _ rfl)).trans h1⟩
theorem Own1.grown (h : Own1 ga t W W') {row : Option Nat} (hg : W'.grownBy W'' row) (hr : ∀ r, row = some r → ga < r ∧ ∃ c f, W'.heap[r]? = some (.cells c t f)) : Own1 ga t W W'' :=
  h.trans ⟨hg.os, hg.tape, hg.output, hg.size, fun i o h1 _ h3 => (hg.block i (Array.getElem?_eq_some_iff.1 h1).1 (fun e => by
    obtain ⟨hl, c, f, q⟩ := hr i e.symm
    rw [h1] at q
    cases q
    rcases h3 with h3 | h3
    · omega
    · exact h3 _ _ rfl)).trans h1⟩
theorem Own1.heap (h : Own1 ga t W W') {b : Nat} (hl : b < W.heap.size) (hb : b ≠ ga) (ht : b < ga ∨ ∀ c f, W.heap[b]? ≠ some (.cells c t f)) : W'.heap[b]? = W.heap[b]? := by
  have ho := Array.getElem?_eq_getElem hl
  rw [ho]
  exact h.block b _ ho (.inl hb) (ht.imp id (fun q c f e => q c f (by rw [ho, e])))
theorem Own1.cell (h : Own1 ga t W W') {b o : Nat} {v : Value} (hc : W.cell? ⟨b, o, none⟩ = some v) (hb : b ≠ ga) (ht : b < ga ∨ ∀ c f, W.heap[b]? ≠ some (.cells c t f)) : W'.cell? ⟨b, o, none⟩ = some v := by
  have hl : b < W.heap.size := by
    cases ho : W.heap[b]? with
    | none => simp [World.cell?, ho] at hc
    | some ob => exact (Array.getElem?_eq_some_iff.1 ho).1
  rw [← hc]
  exact World.cell?_of_block (w := W) (h.heap hl hb ht)
theorem ownsRow_cell {base : Nat} {e : TypeId} {size : Nat} {v : Value} {m : Nat} {xs : List Value} (h : W.ownsRow base e size v m xs) {g : Nat} {len cap : Nat} (hv : v = .slice (some ⟨g, 0, none⟩) len cap) {j : Nat} {u : Value} (hj : xs[j]? = some u) : W.cell? ⟨g, j, none⟩ = some u ∧ W.frozen? ⟨g, j, none⟩ = false := by
  obtain ⟨h1, ⟨h2, _⟩ | ⟨g', cap', cur, h2, h3, h4, h5, h6, h7, h8⟩⟩ := h
  · rw [hv] at h2; cases h2
  · rw [hv] at h2
    injection h2 with a1 a2 a3
    injection a1 with a1
    injection a1 with a1
    subst a1
    have hjl : j < xs.length := (List.getElem?_eq_some_iff.1 hj).1
    rw [← h8, List.getElem?_take, if_pos (by omega)] at hj
    refine ⟨?_, ?_⟩
    · simp only [World.cell?, h4]
      simpa using hj
    · simp [World.frozen?, h4]
theorem ownsRow_cap {base : Nat} {e : TypeId} {size g n cap : Nat} {xs : List Value} (h : W.ownsRow base e size (.slice (some ⟨g, 0, none⟩) n cap) n xs) : n ≤ cap ∧ cap ≤ maxLen ∧ base ≤ g ∧ ∃ cur, W.heap[g]? = some (.cells cur e (0, 0)) := by
  obtain ⟨h1, ⟨h2, _⟩ | ⟨g', cap', cur, h2, h3, h4, h5, h6, h7, h8⟩⟩ := h
  · cases h2
  · injection h2 with a1 a2 a3
    injection a1 with a1
    injection a1 with a1
    subst a1 a3
    exact ⟨h5, h6, h3, cur, h4⟩
theorem ownsRow_same {base : Nat} {e : TypeId} {size g n m cap : Nat} {xs : List Value} (h : W.ownsRow base e size (.slice (some ⟨g, 0, none⟩) n cap) m xs) (hb : W'.heap[g]? = W.heap[g]?) : W'.ownsRow base e size (.slice (some ⟨g, 0, none⟩) n cap) m xs := by
  obtain ⟨h1, ⟨h2, _⟩ | ⟨g', cap', cur, h2, h3, h4, h5⟩⟩ := h
  · cases h2
  · refine ⟨h1, .inr ⟨g', cap', cur, h2, h3, ?_, h5⟩⟩
    injection h2 with a1
    injection a1 with a1
    injection a1 with a1
    subst a1
    exact hb.trans h4
theorem set_four {w : World} {g : Nat} {t : TypeId} {a b c d : Value} {f : Nat × Nat} (h : w.heap[g]? = some (.cells #[a, b, c, d] t f)) (a' b' c' d' : Value) : ((((w.setCell ⟨g, 0, none⟩ a').setCell ⟨g, 1, none⟩ b').setCell ⟨g, 2, none⟩ c').setCell ⟨g, 3, none⟩ d').heap[g]? = some (.cells #[a', b', c', d'] t f) := by
  simp [World.setCell, Array.getElem?_modify, h]
theorem ownsRow_shrink {base : Nat} {e : TypeId} {g n m cap : Nat} {xs ys : List Value} (h : W.ownsRow base e 2 (.slice (some ⟨g, 0, none⟩) n cap) n (xs ++ ys)) (hm : m ≤ n) (hx : xs.length = m * 2) : W.ownsRow base e 2 (.slice (some ⟨g, 0, none⟩) m cap) m xs := by
  obtain ⟨h1, ⟨h2, _⟩ | ⟨g', cap', cur, h2, h3, h4, h5, h6, h7, h8⟩⟩ := h
  · cases h2
  · injection h2 with a1 a2 a3
    injection a1 with a1
    injection a1 with a1
    subst a1 a3
    refine ⟨hx, .inr ⟨g, cap, cur, rfl, h3, h4, by omega, h6, h7, ?_⟩⟩
    have : cur.toList.take (m * 2) = (cur.toList.take (n * 2)).take (m * 2) := by rw [List.take_take, Nat.min_eq_left (by omega)]
    rw [this, h8, ← hx, List.take_left]
theorem ownsRow_set {base : Nat} {e : TypeId} {g n cap j : Nat} {xs : List Value} (u : Value) (h : W.ownsRow base e 2 (.slice (some ⟨g, 0, none⟩) n cap) n xs) : (W.setCell ⟨g, j, none⟩ u).ownsRow base e 2 (.slice (some ⟨g, 0, none⟩) n cap) n (xs.set j u) := by
  obtain ⟨h1, ⟨h2, _⟩ | ⟨g', cap', cur, h2, h3, h4, h5, h6, h7, h8⟩⟩ := h
  · cases h2
  · injection h2 with a1 a2 a3
    injection a1 with a1
    injection a1 with a1
    subst a1 a3
    obtain ⟨hlt, hk⟩ := Array.getElem?_eq_some_iff.1 h4
    refine ⟨by simpa using h1, .inr ⟨g, cap, cur.setIfInBounds j u, rfl, h3, ?_, h5, h6, by simpa using h7, ?_⟩⟩
    · show (W.heap.modify g _)[g]? = _
      rw [Array.getElem?_eq_getElem (by rw [Array.size_modify]; exact hlt), Array.getElem_modify_self, hk]
      rfl
    · rw [Array.toList_setIfInBounds, List.take_set, h8]
end
theorem stack_own {ga : Nat} {t : TypeId} {W w8 : World} {v : Value} {m : Nat} {xs : List Value} {o : Obj} (hS : W.ownsRow (ga + 1) t 2 v m xs) (hg : (W.alloc o).drew.grownBy w8 v.ownBlock) : Own1 ga t W w8 := by
  refine Own1.grown (W' := (W.alloc o).drew) ((Own1.refl ga t W).below ((Below.refl _ W).alloc (Nat.le_refl _) o).drew) hg ?_
  intro r e
  obtain ⟨h1, ⟨h2, _⟩ | ⟨g, cap, cur, h2, h3, h4, h5⟩⟩ := hS
  · rw [h2] at e; cases e
  · rw [h2] at e
    obtain rfl : g = r := by simpa [Value.ownBlock] using e
    exact ⟨by omega, cur, (0, 0), (Below.heap_alloc W o g (Array.getElem?_eq_some_iff.1 h4).1).trans h4⟩
theorem stack_at {ga : Nat} {t : TypeId} {W w8 : World} {v : Value} {m : Nat} {xs : List Value} {o ob : Obj} (hS : W.ownsRow (ga + 1) t 2 v m xs) (hg : (W.alloc o).drew.grownBy w8 v.ownBlock) (hA : W.heap[ga]? = some ob) : w8.heap[ga]? = some ob := by
  have hl := (Array.getElem?_eq_some_iff.1 hA).1
  have h1 : (W.alloc o).drew.heap[ga]? = some ob := (Below.heap_alloc W o ga hl).trans hA
  refine (hg.block ga (Array.getElem?_eq_some_iff.1 h1).1 ?_).trans h1
  intro e
  obtain ⟨_, ⟨h2, _⟩ | ⟨g, cap, cur, h2, h3, _⟩⟩ := hS
  · rw [h2] at e; cases e
  · rw [h2] at e
    have : ga = g := by simpa [Value.ownBlock] using e
    omega
theorem wrapI_nat (n : Nat) (h : n ≤ 2199023255552) : IntKind.i64.wrap (n : Int) = (n : Int) := by rw [IntKind.wrap_i64]; omega
def lenOf : Value → Nat | .slice _ n _ => n | _ => 0
/-- what holds where the loop turns -/
def ARel (ga : Nat) (tr ts : TypeId) (J : Nat → St → World → Prop) (k : Nat) (v : Value) (W : World) : Prop :=
  ∃ s : St, W.ownsRow (ga + 1) tr 2 v s.st.length (mem s.st) ∧ W.heap[ga]? = some (.cells #[.pointer (some ⟨s.b, s.o, none⟩), .int .i64 s.num, .int .i64 s.lev, .int .i64 s.home] ts (0, 0)) ∧ J k s W
end Tr
set_option maxRecDepth 100000 in
set_option maxHeartbeats 2000000 in
theorem all1_any {n l Bn b0 o0 ga : Nat} (J J2 : Nat → St → World → Prop) (Jd Jx : World → Prop)
    (hb : ∀ k s W, J k s W → s.num < 1099511627776 ∧ s.lev < 1099511627776 ∧ s.st.length < 1099511627776)
    (hY : ∀ k s W, J k s W → YieldAt Fence.wide n Tryz.prog l #[s.val] W fun e W' => (e = .returned (.bool true) ∧ J2 k s W' ∧ Kr ga 142 W W') ∨ (e = .returned (.bool false) ∧ Jx W'))
    (hN : ∀ k s W, J2 k s W → ∃ kind pa pl pc, W.cell? ⟨s.b, s.o, none⟩ = some (.int .i64 kind) ∧ W.cell? ⟨s.b, s.o + 3, none⟩ = some (.slice pa pl pc) ∧ s.b ≠ ga ∧ (s.b < ga ∨ ∀ c f, W.heap[s.b]? ≠ some (.cells c 142 f)) ∧
      (popR (⟨kind, pa, pl, pc⟩ :: s.st) = [] → ∀ W', Own1 ga 142 W W' → Jd W') ∧
      (∀ r t, popR (⟨kind, pa, pl, pc⟩ :: s.st) = r :: t → ∃ b' o', r.at_ = some ⟨b', o', none⟩ ∧ 0 < r.len ∧ r.len ≤ r.cap ∧ ∃ k', k' < k ∧ ∀ W', Own1 ga 142 W W' → J k' ⟨b', o', s.num + 1, t.length + 2, r.home, ⟨r.home, (if r.cap = 1 then some ⟨b', o', none⟩ else some ⟨b', o' + 4, none⟩), r.len - 1, r.cap - 1⟩ :: t⟩ W'))
    {W : World} (hga : ga = W.heap.size) (hBn : W.cell? ⟨Bn, 0, none⟩ = some (.pointer (some ⟨b0, o0, none⟩))) (k0 : Nat) (h0 : ∀ W', Own1 ga 142 W W' → ga < W'.heap.size → J k0 ⟨b0, o0, 0, 1, 0, []⟩ W') :
    CallsIn Fence.wide n Tryz.prog 66 #[.func (.yield l) #[] #[], .pointer (some ⟨Bn, 0, none⟩)] W fun e W' => (∃ v, e = .returned v) ∧ (Jd W' ∨ Jx W') := by
  refine callsIn_of_wp Tryz.func66 rfl trivial ?_ rfl
  simp only [Tryz.ntmps66, List.size_toArray, List.length_cons, List.length_nil, Nat.reduceAdd, Nat.reduceSub, Array.replicate_succ, Array.replicate_zero, List.push_toArray, List.append_toArray, List.nil_append, List.cons_append]
  subst hga
  gi_wp2
  gi_loopw [3] (fun v3 wr => ∃ k, ARel W.heap.size 142 101 J k v3 wr) (fun v3 wr => leastK (fun k => ARel W.heap.size 142 101 J k v3 wr))
  case atStart =>
    exact ⟨k0, ⟨b0, o0, 0, 1, 0, []⟩, ⟨rfl, .inl ⟨rfl, rfl⟩⟩, World.alloc_heap_new W _, h0 _ ((Own1.refl _ _ _).below ((Below.refl _ W).alloc (Nat.le_refl _) _)) (by simp)⟩
  case round =>
    have hk := leastK_spec hrel
    obtain ⟨k, hkk⟩ : ∃ k, k = leastK (fun k => ARel W.heap.size 142 101 J k u3 wr) := ⟨_, rfl⟩
    rw [← hkk] at hk
    have HK : Hid (k = leastK (fun k => ARel W.heap.size 142 101 J k u3 wr)) := hkk
    clear hkk hrel h0
    obtain ⟨s, hS, hA, hJs⟩ := hk
    obtain ⟨fn, tmps, assign, body, hy, hR⟩ := hY k s wr hJs
    obtain ⟨hn1, hn2, hn3⟩ := hb k s wr hJs
    obtain ⟨b, o, num, lev, home, st⟩ := s
    simp only [St.val] at hy hR hS hA hn1 hn2 hn3
    have a0 : wr.cell? ⟨W.heap.size, 0, none⟩ = some (.pointer (some ⟨b, o, none⟩)) := by simp [World.cell?, hA]
    have a1 : wr.cell? ⟨W.heap.size, 1, none⟩ = some (.int .i64 num) := by simp [World.cell?, hA]
    have a2 : wr.cell? ⟨W.heap.size, 2, none⟩ = some (.int .i64 lev) := by simp [World.cell?, hA]
    have a3 : wr.cell? ⟨W.heap.size, 3, none⟩ = some (.int .i64 home) := by simp [World.cell?, hA]
    gi_wp2
    refine ⟨fun h => (by cases h), (round_n hR).mono ?_⟩
    rintro e W3 (⟨rfl, hJ2, hkr⟩ | ⟨rfl, hJx⟩)
    · obtain ⟨kind, pa, pl, pc, x0, x3, hbn, hbt, hnil, hcons⟩ := hN _ _ _ hJ2
      simp only at x0 x3 hbn hbt hnil hcons
      have hS3 : W3.ownsRow (W.heap.size + 1) 142 2 u3 st.length (mem st) := by
        obtain ⟨h1, h2 | ⟨g, cap, cur, h2, h3, h4, h5⟩⟩ := hS
        · exact ⟨h1, .inl h2⟩
        · exact ⟨h1, .inr ⟨g, cap, cur, h2, h3, hkr.row _ _ _ (by omega) h4, h5⟩⟩
      have hA3 := hkr.at_ _ hA rfl
      have y0 : W3.cell? ⟨W.heap.size, 0, none⟩ = some (.pointer (some ⟨b, o, none⟩)) := by simp [World.cell?, hA3]
      have HN : Hid _ := hnil
      have HC : Hid _ := hcons
      have hs3 := hkr.size
      clear hnil hcons hY hN hR hy a0 a1 a2 a3 hA hS hJs hb
      obtain ⟨i0, hi, hz0, hz1, hz2⟩ := info_parts info_trow
      have hwz : W.heap.size < W3.heap.size := (Array.getElem?_eq_some_iff.1 hA3).1
      gi_wp2
      refine wpIn_wide.2 ?_
      go_region_held3 (fun w' => w'.cell? ⟨W.heap.size, 0, none⟩ = some (.pointer (some ⟨b, o, none⟩)) ∧ w'.cell? ⟨b, o, none⟩ = some (.int .i64 kind) ∧ w'.cell? ⟨b, o + 3, none⟩ = some (.slice pa pl pc)) (go_keep) ((refine step_appendT (by rfl) (.tmp 11) (.tmp 23) 140 (by rfl) (W.heap.size + 1) 142 i0 (.agg #[.int .i64 0, .slice none 0 0]) 2 32 Tryz.underlying140 hi hz0 hz1 hz2 rfl (by decide) u3 st.length (mem st) (by rfl) (hS3.alloc _) ⟨W3.heap.size, 0, none⟩ 1 1 [.int .i64 kind, .slice pa pl pc] (by rfl) rfl two_new (by simp [Value.oneCell']) (by unfold maxLen; omega) (by omega) (by simp; omega) ?_; intro v' w8 hown' hgrow; have ow := stack_own (ga := W.heap.size) hS3 hgrow; have hA8 := stack_at hS3 hgrow hA3; have z0 : w8.cell? ⟨W.heap.size, 0, none⟩ = some (.pointer (some ⟨b, o, none⟩)) := (by simp [World.cell?, hA8]); have z1 := ow.cell x0 hbn hbt; have z2 := ow.cell x3 hbn hbt))
      have hS8 : w8.ownsRow (W.heap.size + 1) 142 2 v' (⟨kind, pa, pl, pc⟩ :: st : List Rw).length (mem (⟨kind, pa, pl, pc⟩ :: st)) := hown'
      obtain ⟨rs, hrs⟩ : ∃ rs : List Rw, rs = ⟨kind, pa, pl, pc⟩ :: st := ⟨_, rfl⟩
      rw [← hrs] at hS8 HN HC
      have hlen : rs.length ≤ 1099511627776 := by rw [hrs]; simp; omega
      clear hrs hown' z0 z1 z2 x0 x3 y0 hS3 hgrow
      gi_wp2
      gi_loopw [3] (fun v3 wr => ∃ r2 : List Rw, wr = w8 ∧ w8.ownsRow (W.heap.size + 1) 142 2 v3 r2.length (mem r2) ∧ popR r2 = popR rs ∧ r2.length ≤ rs.length) (fun v3 _ => lenOf v3)
      case atStart => exact ⟨rs, rfl, hS8, rfl, Nat.le_refl _⟩
      case round =>
        obtain ⟨r2, rfl, hS2, hpop, hle⟩ := hrel
        cases r2 with
        | nil =>
          obtain ⟨av, cv, rfl⟩ : ∃ av cv, u3 = .slice av 0 cv := by
            obtain ⟨_, ⟨h2, _⟩ | ⟨g, cap, cur, h2, _⟩⟩ := hS2
            · exact ⟨none, 0, h2⟩
            · exact ⟨_, _, h2⟩
          gi_wp2
          refine bodyPost_ret (results_none rfl _ _ _) rfl ?_
          exact ⟨⟨_, rfl⟩, .inl (HN.out hpop.symm _ ow)⟩
        | cons r r3 =>
          obtain ⟨g, cv, rfl⟩ := ownsRow_succ hS2
          have q0 := ownsRow_cell hS2 rfl (j := r3.length * 2) (u := .int .i64 r.home) (by simp [mem, mem_length])
          have q1 := ownsRow_cell hS2 rfl (j := r3.length * 2 + 1) (u := .slice r.at_ r.len r.cap) (by simp [mem, mem_length])
          simp only [List.length_cons] at hle
          have hw1 : wrap64 (((r3.length : Int) + 1) - 1) = r3.length := by unfold wrap64; omega
          have c0 := q0.1
          have c1 := q1.1
          have f1 := q1.2
          have HCap : Hid (r3.length + 1 ≤ cv ∧ cv ≤ maxLen ∧ W.heap.size + 1 ≤ g ∧ ∃ cur, wr.heap[g]? = some (.cells cur 142 (0, 0))) := ownsRow_cap hS2
          have hcap3 : r3.length ≤ cv := by have := HCap.out.1; omega
          by_cases hz : r.len = 0
          · have d : ((r.len : Int) == 0) = true := by simp [hz]
            have HZ : Hid (popR r3 = popR rs) := by show _ = _; rw [← hpop]; simp [popR, hz]
            clear hz
            gi_wp2
            refine ⟨⟨r3, trivial, ownsRow_shrink hS2 (by omega) (mem_length r3), HZ.out, by omega⟩, ?_⟩
            simp [lenOf]
          · have d : ((r.len : Int) == 0) = false := by simp [hz]
            have HP : Hid (popR rs = r :: r3) := by show _ = _; rw [← hpop]; simp [popR, hz]
            clear hz
            gi_wp2
            clear hw1
            obtain ⟨b', o', ha', hl0, hlc, k', hk', hJ'⟩ := HC.out r r3 HP.out
            have HJ : Hid (k' < k ∧ ∀ W', Own1 W.heap.size 142 W3 W' → J k' ⟨b', o', num + 1, r3.length + 2, r.home, ⟨r.home, (if r.cap = 1 then some ⟨b', o', none⟩ else some ⟨b', o' + 4, none⟩), r.len - 1, r.cap - 1⟩ :: r3⟩ W') := ⟨hk', hJ'⟩
            clear hJ' hk' HC HN hpop
            rw [ha'] at c1
            have y1 : wr.cell? ⟨W.heap.size, 1, none⟩ = some (.int .i64 num) := by simp [World.cell?, hA8]
            have y2 : wr.cell? ⟨W.heap.size, 2, none⟩ = some (.int .i64 lev) := by simp [World.cell?, hA8]
            have y3 : wr.cell? ⟨W.heap.size, 3, none⟩ = some (.int .i64 home) := by simp [World.cell?, hA8]
            have y0 : wr.cell? ⟨W.heap.size, 0, none⟩ = some (.pointer (some ⟨b, o, none⟩)) := by simp [World.cell?, hA8]
            have g0 : wr.frozen? ⟨W.heap.size, 0, none⟩ = false := by simp [World.frozen?, hA8]
            have g1 : wr.frozen? ⟨W.heap.size, 1, none⟩ = false := by simp [World.frozen?, hA8]
            have g2 : wr.frozen? ⟨W.heap.size, 2, none⟩ = false := by simp [World.frozen?, hA8]
            have g3 : wr.frozen? ⟨W.heap.size, 3, none⟩ = false := by simp [World.frozen?, hA8]
            have hgg : g ≠ W.heap.size := by have := HCap.out.2.2.1; omega
            have hgg' : W.heap.size ≠ g := fun h => hgg h.symm
            have HGA : Hid (W.heap.size < g) := by show _ < _; have := HCap.out.2.2.1; omega
            have hr3 : r3.length ≤ 1099511627776 := by omega
            have HA8 : Hid (wr.heap[W.heap.size]? = some (.cells #[.pointer (some ⟨b, o, none⟩), .int .i64 num, .int .i64 lev, .int .i64 home] 101 (0, 0))) := hA8
            have HS2 : Hid (wr.ownsRow (W.heap.size + 1) 142 2 (.slice (some ⟨g, 0, none⟩) (r3.length + 1) cv) (r :: r3).length (mem (r :: r3))) := hS2
            clear hS8 hle hlen hA3 hkr hJ2 hA8 hS2
            refine wpIn_wide.2 ?_
            go_still_tail 16, (by kernel_rfl)
            have hw4 : IntKind.i64.wrap ((num : Int) + 1) = ((num + 1 : Nat) : Int) := wrapI_nat (num + 1) (by omega)
            have hw5 : IntKind.i64.wrap ((r3.length : Int) + 1 + 1) = ((r3.length + 2 : Nat) : Int) := wrapI_nat (r3.length + 2) (by omega)
            go_wp2
            clear hw4 hw5 y0 y1 y2 y3 g0 g1 g2 g3
            obtain ⟨W9, hW9⟩ : ∃ W9, W9 = ((((wr.setCell ⟨W.heap.size, 0, none⟩ (.pointer (some ⟨b', o', none⟩))).setCell ⟨W.heap.size, 1, none⟩ (.int .i64 ((num : Int) + 1))).setCell ⟨W.heap.size, 2, none⟩ (.int .i64 ((r3.length : Int) + 2))).setCell ⟨W.heap.size, 3, none⟩ (.int .i64 r.home)).drew := ⟨_, rfl⟩
            rw [← hW9]
            have hg9 : W9.heap[g]? = wr.heap[g]? := by
              rw [hW9]
              exact (Below.heap_setCell _ _ _ _ hgg).trans ((Below.heap_setCell _ _ _ _ hgg).trans ((Below.heap_setCell _ _ _ _ hgg).trans (Below.heap_setCell _ _ _ _ hgg)))
            have HA9 : Hid (W9.heap[W.heap.size]? = some (.cells #[.pointer (some ⟨b', o', none⟩), .int .i64 ((num + 1 : Nat) : Int), .int .i64 ((r3.length + 2 : Nat) : Int), .int .i64 r.home] 101 (0, 0))) := by
              show _ = _
              rw [hW9]
              have := set_four HA8.out (.pointer (some ⟨b', o', none⟩)) (.int .i64 ((num : Int) + 1)) (.int .i64 ((r3.length : Int) + 2)) (.int .i64 r.home)
              exact this
            have HO9 : Hid (Own1 W.heap.size 142 W3 W9) := by
              rw [hW9]
              exact (((((ow.setAt 0 _).setAt 1 _).setAt 2 _).setAt 3 _)).drew
            have HS9 : Hid (W9.ownsRow (W.heap.size + 1) 142 2 (.slice (some ⟨g, 0, none⟩) (r3.length + 1) cv) (r3.length + 1) (mem (r :: r3))) := ownsRow_same HS2.out hg9
            have c9 : W9.cell? ⟨g, r3.length * 2 + 1, none⟩ = some (.slice (some ⟨b', o', none⟩) r.len r.cap) := (World.cell?_of_block (w := wr) hg9).trans c1
            have f9 : W9.frozen? ⟨g, r3.length * 2 + 1, none⟩ = false := (World.frozen?_of_block (w := wr) hg9).trans f1
            obtain ⟨cur, hcur⟩ := HCap.out.2.2.2
            have HU9 : Hid (W9.heap[g]? = some (.cells cur 142 (0, 0))) := hg9.trans hcur
            clear hW9 hg9 hcur HA8 HS2 HCap c0 c1 f1 ow d
            have HE : Hid (∀ v, v = .slice (if r.cap = 1 then some ⟨b', o', none⟩ else some ⟨b', o' + 4, none⟩) (r.len - 1) (r.cap - 1) → ARel W.heap.size 142 101 J k' (.slice (some ⟨g, 0, none⟩) (r3.length + 1) cv) (W9.setCell ⟨g, r3.length * 2 + 1, none⟩ v)) := fun v hv => by
              subst hv
              refine ⟨⟨b', o', num + 1, r3.length + 2, r.home, ⟨r.home, (if r.cap = 1 then some ⟨b', o', none⟩ else some ⟨b', o' + 4, none⟩), r.len - 1, r.cap - 1⟩ :: r3⟩, ?_, (Below.heap_setCell _ _ _ _ hgg').trans HA9.out, HJ.out.2 _ (HO9.out.setRow HGA.out HU9.out _)⟩
              have h1 := ownsRow_set (j := r3.length * 2 + 1) (.slice (if r.cap = 1 then some ⟨b', o', none⟩ else some ⟨b', o' + 4, none⟩) (r.len - 1) (r.cap - 1)) HS9.out
              have h2 : (mem (r :: r3)).set (r3.length * 2 + 1) (.slice (if r.cap = 1 then some ⟨b', o', none⟩ else some ⟨b', o' + 4, none⟩) (r.len - 1) (r.cap - 1)) = mem (⟨r.home, (if r.cap = 1 then some ⟨b', o', none⟩ else some ⟨b', o' + 4, none⟩), r.len - 1, r.cap - 1⟩ :: r3) := by
                simp only [mem]
                rw [List.set_append_right _ _ (by rw [mem_length]; omega), mem_length]
                simp
              rw [h2] at h1
              exact h1
            have hlt := HJ.out.1
            gi_wp2
            go_roundw
            case rel => exact ⟨k', HE.out _ rfl⟩
            case measure =>
              rw [← HK.out]
              exact Nat.lt_of_le_of_lt (leastK_le (HE.out _ rfl)) hlt
    · gi_wp2
      go_end0
      exact ⟨⟨_, rfl⟩, .inr hJx⟩
end Go.Proofs.YtgobnjeankjkjaaGreatDoor

/- A loop over the geometries of a tree that is only read. -/
namespace Go.Proofs.YtgobnjeankjkjaaGreatDoor
open Go.ChangeShapes Go.WideShapes Go.ChangeAt Go.RowKit Go.Shelf
open Tr Rf
set_option linter.unusedVariables false
namespace Tr
/-- rows of the stack with what is yet to come of each -/
def coming : List (Rw × Fo) → List It
  | [] => []
  | x :: t => x.2.pre (t.length + 2) x.1.home ++ coming t
def popP : List (Rw × Fo) → List (Rw × Fo)
  | [] => []
  | x :: t => if x.1.len = 0 then popP t else x :: t
def RowIs (S : Nat → Prop) (W : World) (x : Rw × Fo) : Prop := x.1.len = x.2.len ∧ x.1.len ≤ x.1.cap ∧ FoAt S W x.2 x.1.at_
theorem popP_map (l : List (Rw × Fo)) : (popP l).map Prod.fst = popR (l.map Prod.fst) := by
  induction l with
  | nil => rfl
  | cons x t ih =>
    simp only [popP, popR, List.map_cons]
    split
    · exact ih
    · rfl
theorem popP_len (l : List (Rw × Fo)) : (popP l).length ≤ l.length := by
  induction l with
  | nil => exact Nat.le_refl _
  | cons x t ih =>
    simp only [popP]
    split
    · exact Nat.le_succ_of_le ih
    · exact Nat.le_refl _
theorem popP_sub {S : Nat → Prop} {W : World} (l : List (Rw × Fo)) (h : ∀ x ∈ l, RowIs S W x) : (∀ x ∈ popP l, RowIs S W x) ∧ coming (popP l) = coming l ∧ ∀ x t, popP l = x :: t → 0 < x.1.len := by
  induction l with
  | nil => exact ⟨fun x hx => (by cases hx), rfl, fun x t q => (by cases q)⟩
  | cons x t ih =>
    simp only [popP]
    split
    · next hz =>
      obtain ⟨i1, i2, i3⟩ := ih (fun y hy => h y (List.mem_cons_of_mem _ hy))
      refine ⟨i1, ?_, i3⟩
      have hx := (h x (List.mem_cons_self ..)).1
      have : x.2 = .nil := len_zero (by omega)
      rw [i2, coming, this]
      rfl
    · next hz => exact ⟨h, rfl, fun y u q => by injection q with q1 q2; subst q1; omega⟩
/-- the tree's own order, where the walk stands -/
def TreeAt (S : Nat → Prop) (L : List It) (s : St) (W : World) : Prop :=
  ∃ (done : List It) (g : Gm) (ch : Fo) (rows : List (Rw × Fo)) (pa : Option Addr) (pc : Nat), (s.num = done.length ∧ rows.length ≤ done.length) ∧ s.lev = rows.length + 1 ∧ s.st = rows.map Prod.fst ∧ L = done ++ ⟨g, ch.len, s.lev, s.home⟩ :: (ch.pre (s.lev + 1) g.kind ++ coming rows) ∧
    (ch.len ≤ 1048576 ∧ ch.len ≤ pc) ∧ GmAt S W s.b s.o g (.slice pa ch.len pc) ∧ FoAt S W ch pa ∧ ∀ x ∈ rows, RowIs S W x
theorem TreeAt.kp {S : Nat → Prop} {L : List It} {s : St} {W W' : World} (h : TreeAt S L s W) (hk : Kp S W W') : TreeAt S L s W' := by
  obtain ⟨done, g, ch, rows, pa, pc, h1, h2, h3, h4, h5, h6, h7, h8⟩ := h
  exact ⟨done, g, ch, rows, pa, pc, h1, h2, h3, h4, h5, h6.below hk, h7.below hk, fun x hx => ⟨(h8 x hx).1, (h8 x hx).2.1, (h8 x hx).2.2.below hk⟩⟩
theorem TreeAt.item {S : Nat → Prop} {L : List It} {s : St} {W : World} (h : TreeAt S L s W) : ∃ it pa pc, L[s.num]? = some it ∧ it.level = s.lev ∧ it.home = s.home ∧ (it.ch ≤ 1048576 ∧ it.ch ≤ pc) ∧ GmAt S W s.b s.o it.g (.slice pa it.ch pc) := by
  obtain ⟨done, g, ch, rows, pa, pc, ⟨h1, h1'⟩, h2, h3, h4, h5, h6, h7, h8⟩ := h
  refine ⟨⟨g, ch.len, s.lev, s.home⟩, pa, pc, ?_, rfl, rfl, h5, h6⟩
  rw [h4, h1, List.getElem?_append_right (Nat.le_refl _), Nat.sub_self]
  rfl
theorem TreeAt.bd {S : Nat → Prop} {L : List It} {s : St} {W : World} (h : TreeAt S L s W) : s.num < L.length := by
  obtain ⟨it, pa, pc, h1, _⟩ := h.item
  exact (List.getElem?_eq_some_iff.1 h1).1
/-- the next step of the walk -/
theorem TreeAt.next {S : Nat → Prop} {L : List It} {s : St} {W : World} (h : TreeAt S L s W) : ∃ kind pa pl pc, W.cell? ⟨s.b, s.o, none⟩ = some (.int .i64 kind) ∧ W.cell? ⟨s.b, s.o + 3, none⟩ = some (.slice pa pl pc) ∧ S s.b ∧
    (popR (⟨kind, pa, pl, pc⟩ :: s.st) = [] → s.num + 1 = L.length) ∧
    (∀ r t, popR (⟨kind, pa, pl, pc⟩ :: s.st) = r :: t → ∃ b' o', r.at_ = some ⟨b', o', none⟩ ∧ 0 < r.len ∧ r.len ≤ r.cap ∧ s.num + 1 < L.length ∧ TreeAt S L ⟨b', o', s.num + 1, t.length + 2, r.home, ⟨r.home, (if r.cap = 1 then some ⟨b', o', none⟩ else some ⟨b', o' + 4, none⟩), r.len - 1, r.cap - 1⟩ :: t⟩ W) := by
  obtain ⟨done, g, ch, rows, pa, pc, ⟨h1, h1'⟩, h2, h3, h4, h5, h6, h7, h8⟩ := h
  refine ⟨g.kind, pa, ch.len, pc, h6.2.2.1, h6.2.2.2.2.2, h6.1, ?_⟩
  have hall : ∀ x ∈ (((⟨g.kind, pa, ch.len, pc⟩ : Rw), ch) :: rows), RowIs S W x := fun x hx => by
    rcases List.mem_cons.1 hx with rfl | hx
    · exact ⟨rfl, h5.2, h7⟩
    · exact h8 x hx
  have hm : popR (⟨g.kind, pa, ch.len, pc⟩ :: s.st) = (popP (((⟨g.kind, pa, ch.len, pc⟩ : Rw), ch) :: rows)).map Prod.fst := by rw [popP_map, h3]; rfl
  obtain ⟨k1, k2, k3⟩ := popP_sub _ hall
  have k4 := popP_len (((⟨g.kind, pa, ch.len, pc⟩ : Rw), ch) :: rows)
  have hc : coming (((⟨g.kind, pa, ch.len, pc⟩ : Rw), ch) :: rows) = ch.pre (s.lev + 1) g.kind ++ coming rows := by rw [h2]; rfl
  rw [hc] at k2
  rw [hm]
  generalize popP (((⟨g.kind, pa, ch.len, pc⟩ : Rw), ch) :: rows) = q at *
  refine ⟨fun hq => ?_, fun r t hq => ?_⟩
  · have : q = [] := by cases q with | nil => rfl | cons _ _ => cases hq
    rw [this] at k2
    rw [h4, ← k2, h1]
    simp [coming]
  · obtain ⟨x, t', rfl, rfl, rfl⟩ : ∃ x t', q = x :: t' ∧ x.1 = r ∧ t'.map Prod.fst = t := by
      cases q with
      | nil => cases hq
      | cons x t' => injection hq with q1 q2; exact ⟨x, t', rfl, q1, q2⟩
    have hx := k1 x (List.mem_cons_self ..)
    have hp := k3 x t' rfl
    obtain ⟨r, f⟩ := x
    simp only at hp hx ⊢
    cases f with
    | nil => have := hx.1; simp only [Fo.len] at this; omega
    | cons g' ch' rest' =>
      obtain ⟨e1, e2, b', o', pa', pc', e3, ⟨e4, e4'⟩, e5, e6, e7⟩ := hx
      simp only [Fo.len] at e1 e2 e3
      have hL : L = (done ++ [⟨g, ch.len, s.lev, s.home⟩]) ++ ⟨g', ch'.len, t'.length + 2, r.home⟩ :: (ch'.pre (t'.length + 2 + 1) g'.kind ++ coming (((⟨r.home, (if r.cap = 1 then some ⟨b', o', none⟩ else some ⟨b', o' + 4, none⟩), r.len - 1, r.cap - 1⟩ : Rw), rest') :: t')) := by
        rw [h4, ← k2]
        simp [coming, Fo.pre]
      refine ⟨b', o', e3, hp, e2, ?_, done ++ [⟨g, ch.len, s.lev, s.home⟩], g', ch', ((⟨r.home, (if r.cap = 1 then some ⟨b', o', none⟩ else some ⟨b', o' + 4, none⟩), r.len - 1, r.cap - 1⟩ : Rw), rest') :: t', pa', pc', ⟨by simp [h1], by simp at k4 ⊢; omega⟩, ?_, rfl, ?_, ⟨e4, e4'⟩, e5, e6, ?_⟩
      · rw [hL, h1]; simp
      · simp
      · simpa using hL
      · intro y hy
        rcases List.mem_cons.1 hy with rfl | hy
        · refine ⟨by simp only; omega, by simp only; omega, ?_⟩
          simp only
          by_cases hcap : r.cap = 1
          · have : rest' = .nil := len_zero (by omega)
            rw [this]
            trivial
          · rw [if_neg hcap]; exact e7
        · exact k1 y (List.mem_cons_of_mem _ hy)
theorem own_kp {ga B : Nat} {t : TypeId} {S : Nat → Prop} {W W' : World} (h : Own1 ga t W W') (hS : ∀ k, S k → k < B) (hB : B ≤ ga) (hW : B ≤ W.heap.size) : Kp S W W' :=
  ⟨h.size, fun k hk => h.heap (by have := hS k hk; omega) (by have := hS k hk; omega) (.inl (by have := hS k hk; omega))⟩
theorem grown_cells {B k : Nat} {W W' : World} {row : Option Nat} {o : Obj} (hg : W.grownBy W' row) (hr : ∀ r, row = some r → B ≤ r ∧ ∃ o : Obj, W.heap[r]? = some o ∧ o.isCells = false) (h : W.heap[k]? = some o) (ho : o.isCells = true) : W'.heap[k]? = some o := by
  refine (hg.block k (Array.getElem?_eq_some_iff.1 h).1 (fun e => ?_)).trans h
  obtain ⟨_, o', h1, h2⟩ := hr k e.symm
  rw [h] at h1
  cases h1
  rw [ho] at h2
  cases h2
/-- how a round's body over a geometry may be left -/
def aPost (B : Nat) (S : Nat → Prop) (tr : TypeId) (I : Nat → Nat → World → Prop) (Ix : Code → World → Prop) (ga k : Nat) (W W2 : World) : Exit → Act → World → Prop
  | .normal, _, W' => KeepsFrom B W2 W' ∧ I ga (k + 1) W' ∧ Kp S W W' ∧ Kr ga tr W W'
  | .ret, _, W' => KeepsFrom B W2 W' ∧ Ix .ret W'
  | .exit id, _, W' => KeepsFrom B W2 W' ∧ Ix (.exit id) W'
  | .goto t, _, W' => KeepsFrom B W2 W' ∧ Ix (.goto t) W'
  | .panic _, _, _ => False
  | .outgrown, _, _ => False
end Tr
theorem wpIn_all {n : Nat} {gO : Operand} {t0 : Tmp} {assign body : Code} {Q : Exit → Act → World → Prop} {a : Act} {w : World} {Bn b0 o0 : Nat} {S : Nat → Prop} {f : Fo}
    (hg : a.eval gO = .func (.func 66) #[] #[.pointer (some ⟨Bn, 0, none⟩)]) (hS : ∀ k, S k → k < w.heap.size)
    (hBn : w.cell? ⟨Bn, 0, none⟩ = some (.pointer (some ⟨b0, o0, none⟩))) (hSB : S Bn) (hF : FoAt S w f (some ⟨b0, o0, none⟩)) (hf : f.len = 1) (hc : f.cnt ≤ 549755813888)
    (I : Nat → Nat → World → Prop) (Ix : Code → World → Prop) (oI : ∀ ga, OwnFrom w.heap.size (I ga)) (oIx : OwnFrom w.heap.size Ix)
    (hIt : ∀ ga k W W', w.heap.size ≤ ga → Own1 ga 142 W W' → I ga k W → I ga k W') (h0 : ∀ ga, w.heap.size ≤ ga → I ga 0 w)
    (hround : ∀ (l ga k : Nat) (it : It) (b o : Nat) (pa : Option Addr) (pc : Nat) (W : World), w.heap.size ≤ l → w.heap.size ≤ ga → ga < W.heap.size → w.heap.size ≤ W.heap.size → (f.pre 1 0)[k]? = some it → (it.ch ≤ 1048576 ∧ it.ch ≤ pc) → I ga k W → GmAt S W b o it.g (.slice pa it.ch pc) →
      assign.wpIn (Fence.wide.inRound l) n Tryz.prog (Exit.then (fun a' W1 => KeepsFrom w.heap.size W W1 ∧ ∀ W2, Turn l W1 W2 → body.wpIn (Fence.wide.inRound l) n Tryz.prog (aPost w.heap.size S 142 I Ix ga k W W2) a' W2) (fun _ _ _ => False))
        { tmps := a.tmps.setIfInBounds t0 (.agg #[.pointer (some ⟨b, o, none⟩), .int .i64 k, .int .i64 it.level, .int .i64 it.home]), defers := [] } W)
    (hdone : ∀ (D ga : Nat) (W : World), w.heap.size ≤ D → w.heap.size ≤ ga → I ga f.cnt W → W.heap[D]? = some (.deferred (some [])) → Q .normal { a with defers := { target := .collected D, args := #[] } :: a.defers } W)
    (hstop : ∀ (D : Nat) (c : Code) (W : World), w.heap.size ≤ D → Ix c W → W.heap[D]? = some (.deferred (some [])) → c.wpIn Fence.wide n Tryz.prog Q { a with defers := { target := .collected D, args := #[] } :: a.defers } W) :
    (Code.rangeFunc gO #[t0] assign body).wpIn Fence.wide n Tryz.prog Q a w := by
  have hL : (f.pre 1 0).length = f.cnt := Fo.pre_length f 1 0
  refine wpIn_range (σ := Nat × St × World) hg (enters_of Tryz.func66 (by kernel_rfl) rfl) (fun s => #[s.2.1.val]) (fun _ => rfl)
    (fun s W => (w.heap.size ≤ W.heap.size ∧ w.heap.size ≤ s.1 ∧ s.1 < W.heap.size) ∧ Kp S s.2.2 W ∧ (∀ k c z, s.1 < k → s.2.2.heap[k]? = some (Obj.cells c 142 z) → W.heap[k]? = some (Obj.cells c 142 z)) ∧ (∀ o, s.2.2.heap[s.1]? = some o → o.isCells = true → W.heap[s.1]? = some o) ∧ TreeAt S (f.pre 1 0) s.2.1 W ∧ I s.1 s.2.1.num W)
    (fun s W => (w.heap.size ≤ W.heap.size ∧ w.heap.size ≤ s.1 ∧ s.1 < W.heap.size) ∧ Kp S s.2.2 W ∧ (∀ k c z, s.1 < k → s.2.2.heap[k]? = some (Obj.cells c 142 z) → W.heap[k]? = some (Obj.cells c 142 z)) ∧ (∀ o, s.2.2.heap[s.1]? = some o → o.isCells = true → W.heap[s.1]? = some o) ∧ TreeAt S (f.pre 1 0) s.2.1 W ∧ I s.1 (s.2.1.num + 1) W)
    (fun W => w.heap.size ≤ W.heap.size ∧ Kp S w W ∧ ∀ ga, w.heap.size ≤ ga → I ga 0 W) (fun W => ∃ ga, w.heap.size ≤ ga ∧ I ga f.cnt W) Ix ?oJ ?oJ2 ?oJ0 ?oJd oIx ⟨Nat.le_refl _, Kp.refl _ _, h0⟩ ?hit ?round ?done hstop
  case oJ =>
    rintro s W W' row ⟨⟨h1, h1', h1''⟩, h2, h3, h4, h5, h6⟩ hg hr
    exact ⟨⟨Nat.le_trans h1 hg.size, h1', Nat.lt_of_lt_of_le h1'' hg.size⟩, h2.trans (grown_kp hS h1 hg hr), fun k c z hk hx => grown_cells hg hr (h3 k c z hk hx) rfl, fun o ho hc => grown_cells hg hr (h4 o ho hc) hc, h5.kp (grown_kp hS h1 hg hr), oI _ _ W W' row h6 hg hr⟩
  case oJ2 =>
    rintro s W W' row ⟨⟨h1, h1', h1''⟩, h2, h3, h4, h5, h6⟩ hg hr
    exact ⟨⟨Nat.le_trans h1 hg.size, h1', Nat.lt_of_lt_of_le h1'' hg.size⟩, h2.trans (grown_kp hS h1 hg hr), fun k c z hk hx => grown_cells hg hr (h3 k c z hk hx) rfl, fun o ho hc => grown_cells hg hr (h4 o ho hc) hc, h5.kp (grown_kp hS h1 hg hr), oI _ _ W W' row h6 hg hr⟩
  case oJ0 =>
    rintro s W W' row ⟨h1, h2, h3⟩ hg hr
    exact ⟨Nat.le_trans h1 hg.size, h2.trans (grown_kp hS h1 hg hr), fun ga hga => oI _ _ W W' row (h3 ga hga) hg hr⟩
  case oJd =>
    rintro s W W' row ⟨ga, h1, h2⟩ hg hr
    exact ⟨ga, h1, oI _ _ W W' row h2 hg hr⟩
  case hit =>
    rintro l R Rx hR hRx hY W ⟨hB, hK, hI⟩ hRW
    refine (all1_any (ga := W.heap.size) (fun k s V => ((w.heap.size ≤ V.heap.size ∧ W.heap.size < V.heap.size) ∧ TreeAt S (f.pre 1 0) s V ∧ I W.heap.size s.num V ∧ k = f.cnt - s.num) ∧ R V)
      (fun k s V => ((w.heap.size ≤ V.heap.size ∧ W.heap.size < V.heap.size) ∧ TreeAt S (f.pre 1 0) s V ∧ I W.heap.size (s.num + 1) V ∧ k = f.cnt - s.num) ∧ R V)
      (fun V => (∃ ga, w.heap.size ≤ ga ∧ I ga f.cnt V) ∧ R V) (fun V => ∃ c, Ix c V ∧ Rx c V) ?hb ?hY ?hN rfl ((hK.cell (by exact hSB)).trans hBn) f.cnt ?h0).mono ?fin
    case hb =>
      rintro k s V ⟨⟨_, hT, _, _⟩, _⟩
      have h1 := hT.bd
      obtain ⟨done, g, ch, rows, pa, pc, ⟨q1, q1'⟩, q2, q3, q4, _⟩ := hT
      rw [hL] at h1
      refine ⟨by omega, by omega, ?_⟩
      rw [q3, List.length_map]
      omega
    case hY =>
      rintro k s V ⟨⟨⟨hV, hV'⟩, hT, hi, hk⟩, hRV⟩
      refine (hY (W.heap.size, s, V) V ⟨⟨hV, hB, hV'⟩, Kp.refl _ _, fun _ _ _ _ h => h, fun _ h _ => h, hT, hi⟩ hRV).mono ?_
      rintro e V' (⟨rfl, ⟨⟨h1, h2, h3⟩, h4, h5, h6, h7, h8⟩, h9⟩ | ⟨rfl, h⟩)
      · exact .inl ⟨rfl, ⟨⟨⟨h1, h3⟩, h7, h8, hk⟩, h9⟩, ⟨h4.size, h6, fun k c z => h5 k c z⟩⟩
      · exact .inr ⟨rfl, h⟩
    case hN =>
      rintro k s V ⟨⟨⟨hV, hV'⟩, hT, hi, hk⟩, hRV⟩
      obtain ⟨kind, pa, pl, pc, x0, x3, hSb, hnil, hcons⟩ := hT.next
      have hlt := hS _ hSb
      refine ⟨kind, pa, pl, pc, x0, x3, by omega, .inl (by omega), fun hq V' ho => ⟨⟨W.heap.size, hB, ?_⟩, hR _ _ ho.others hRV⟩, fun r t hq => ?_⟩
      · have := hnil hq
        rw [hL] at this
        rw [← this]
        exact hIt _ _ _ _ hB ho hi
      · obtain ⟨b', o', e1, e2, e3, e4, e5⟩ := hcons r t hq
        rw [hL] at e4
        exact ⟨b', o', e1, e2, e3, f.cnt - (s.num + 1), by omega, fun V' ho => ⟨⟨⟨Nat.le_trans hV ho.size, Nat.lt_of_lt_of_le hV' ho.size⟩, e5.kp (own_kp ho hS hB hV), hIt _ _ _ _ hB ho hi, rfl⟩, hR _ _ ho.others hRV⟩⟩
    case h0 =>
      intro V ho hV
      refine ⟨⟨⟨Nat.le_trans hB ho.size, hV⟩, ?_, hIt _ _ _ _ hB ho (hI _ hB), rfl⟩, hR _ _ ho.others hRW⟩
      have hF' := (hF.below hK).below (own_kp ho hS hB hB)
      cases f with
      | nil => cases hf
      | cons g ch rest =>
        obtain ⟨b, o, pa, pc, e1, ⟨e2, e2'⟩, e3, e4, e5⟩ := hF'
        injection e1 with e1
        injection e1 with e1 e1'
        subst e1 e1'
        have hr : rest = .nil := len_zero (by simp only [Fo.len] at hf; omega)
        subst hr
        exact ⟨[], g, ch, [], pa, pc, ⟨rfl, Nat.le_refl _⟩, rfl, rfl, by simp [Fo.pre, coming], ⟨e2, e2'⟩, e3, e4, fun x hx => by cases hx⟩
    case fin =>
      rintro e V ⟨hv, ⟨⟨ga, hga, hi⟩, hr⟩ | h⟩
      · exact ⟨hv, .inl ⟨⟨ga, hga, hi⟩, hr⟩⟩
      · exact ⟨hv, .inr h⟩
  case round =>
    rintro l ⟨ga, s, X⟩ W hl ⟨⟨hB, hga, hgaW⟩, hK, h3, h4, hT, hI⟩
    simp only at hga hgaW hK h3 h4 hT hI
    obtain ⟨it, pa, pc, q1, q2, q3, q4, q5⟩ := hT.item
    rw [zip_one]
    have hv : s.val = .agg #[.pointer (some ⟨s.b, s.o, none⟩), .int .i64 (s.num : Nat), .int .i64 it.level, .int .i64 it.home] := by rw [q2, q3]; rfl
    show assign.wpIn _ _ _ _ { tmps := a.tmps.setIfInBounds t0 s.val, defers := [] } W
    rw [hv]
    refine wpIn_mono (hround l ga s.num it s.b s.o pa pc W hl hga hgaW hB q1 q4 hI q5) ?_
    intro ex a' W1 h
    cases ex with
    | normal =>
      refine ⟨h.1, fun W2 hTu => wpIn_mono (h.2 W2 hTu) ?_⟩
      intro ex a3 W3 z
      cases ex with
      | normal =>
        obtain ⟨z1, z2, z3, z4⟩ := z
        exact ⟨z1, ⟨Nat.le_trans hB z3.size, hga, Nat.lt_of_lt_of_le hgaW z3.size⟩, hK.trans z3, fun k c y hk hx => z4.row k c y hk (h3 k c y hk hx), fun o ho hc => z4.at_ o (h4 o ho hc) hc, hT.kp z3, z2⟩
      | ret => exact z
      | exit id => exact z
      | goto t => exact z
      | panic c => exact z.elim
      | outgrown => exact z.elim
    | ret => exact h.elim
    | exit id => exact h.elim
    | goto t => exact h.elim
    | panic c => exact h.elim
    | outgrown => exact h.elim
  case done =>
    rintro D W hD ⟨ga, hga, hI⟩ hK
    exact hdone D ga W hD hga hI hK
end Go.Proofs.YtgobnjeankjkjaaGreatDoor

/- tree.told, tree.known. -/
namespace Go.Proofs.YtgobnjeankjkjaaGreatDoor
open Go.ChangeShapes Go.WideShapes Go.ChangeAt Go.RowKit Go.Shelf
open Tr Rf
set_option linter.unusedVariables false
attribute [local go_sem] Oper.semAt_some
namespace Tr
/-- geometries and points together -/
def lsum : List It → Int
  | [] => 0
  | x :: t => 1 + tot x.g + lsum t
theorem lsum_app (a b : List It) : lsum (a ++ b) = lsum a + lsum b := by
  induction a with
  | nil => simp [lsum]
  | cons x t ih => simp only [List.cons_append, lsum, ih]; omega
theorem tot_pos (g : Gm) : 0 ≤ tot g := by unfold tot; omega
theorem lsum_pos (l : List It) : 0 ≤ lsum l := by
  induction l with
  | nil => exact Int.le_refl _
  | cons x t ih => have := tot_pos x.g; simp only [lsum]; omega
theorem lsum_take {L : List It} {k : Nat} {it : It} (h : L[k]? = some it) : lsum (L.take (k + 1)) = lsum (L.take k) + 1 + tot it.g := by
  rw [List.take_add_one, h, lsum_app]
  simp [lsum]
  omega
theorem lsum_le (L : List It) (k : Nat) : lsum (L.take k) ≤ lsum L := by
  have h : lsum L = lsum (L.take k) + lsum (L.drop k) := by rw [← lsum_app, List.take_append_drop]
  have := lsum_pos (L.drop k)
  omega
theorem Own1.boxed {ga b : Nat} {t t' : TypeId} {v : Value} {W W' : World} (h : Own1 ga t W W') (hb : Boxed W b t' v) (hl : b < ga) : Boxed W' b t' v := (h.heap hb.lt (by omega) (.inl hl)).trans hb
theorem Own1.low {ga B : Nat} {t : TypeId} {w W W' : World} (h : Own1 ga t W W') (hb : Below B w W) (hl : B ≤ ga) (hB : B ≤ w.heap.size) : Below B w W' :=
  ⟨h.os.trans hb.os, h.tape.trans hb.tape, h.output.trans hb.output, Nat.le_trans hb.size h.size, fun k hk => (h.heap (Nat.lt_of_lt_of_le hk (Nat.le_trans hB hb.size)) (by omega) (.inl (by omega))).trans (hb.block k hk)⟩
/-- a call that turns one elder block keeps the walk's own -/
theorem Ex.kr {gr ga : Nat} {t : TypeId} {W W' : World} (h : Ex gr W W') (hg : gr < ga) : Kr ga t W W' :=
  ⟨h.size, fun o ho _ => (h.block ga (Array.getElem?_eq_some_iff.1 ho).1 (by omega)).trans ho, fun k c f hk ho => (h.block k (Array.getElem?_eq_some_iff.1 ho).1 (by omega)).trans ho⟩
theorem Kr.trans {ga : Nat} {t : TypeId} {A B C : World} (h : Kr ga t A B) (k : Kr ga t B C) : Kr ga t A C :=
  ⟨Nat.le_trans h.size k.size, fun o ho hc => k.at_ o (h.at_ o ho hc) hc, fun i c f hi ho => k.row i c f hi (h.row i c f hi ho)⟩
theorem Kr.refl (ga : Nat) (t : TypeId) (W : World) : Kr ga t W W := ⟨Nat.le_refl _, fun _ h _ => h, fun _ _ _ _ h => h⟩
theorem Kr.alloc (ga : Nat) (t : TypeId) (W : World) (o : Obj) : Kr ga t W (W.alloc o) :=
  ⟨by simp, fun o' ho _ => (Below.heap_alloc W o ga (Array.getElem?_eq_some_iff.1 ho).1).trans ho, fun k c f _ ho => (Below.heap_alloc W o k (Array.getElem?_eq_some_iff.1 ho).1).trans ho⟩
theorem Turn.kr {l ga : Nat} {t : TypeId} {W W' : World} (h : Turn l W W') : Kr ga t W W' := ⟨by rw [h.size]; exact Nat.le_refl _, fun o ho hc => h.cells ho hc, fun k c f _ ho => h.cells ho rfl⟩
theorem Kr.set {ga g o : Nat} {t : TypeId} {W : World} (v : Value) (hg : g < ga) : Kr ga t W (W.setCell ⟨g, o, none⟩ v) :=
  ⟨by simp [World.setCell], fun ob ho _ => (Below.heap_setCell _ _ _ _ (by simp only; omega)).trans ho, fun k c f hk ho => (Below.heap_setCell _ _ _ _ (by simp only; omega)).trans ho⟩
/-- from a round's start on: the loop's variable has been laid, the record has turned -/
structure Rs (B : Nat) (l : Nat) (ob : Obj) (W W2 : World) : Prop where
  cells : ∀ (k : Nat) (o : Obj), W.heap[k]? = some o → o.isCells = true → W2.heap[k]? = some o
  new : ob.isCells = true → W2.heap[W.heap.size]? = some ob
  below : Below B W W2
  size : W2.heap.size = W.heap.size + 1
theorem round_start {B l : Nat} {ob : Obj} {W W2 : World} (hB : B ≤ l) (hW : B ≤ W.heap.size) (hT : Turn l (W.alloc ob) W2) : Rs B l ob W W2 :=
  ⟨fun k o h hc => hT.cells ((Below.heap_alloc W ob k (Array.getElem?_eq_some_iff.1 h).1).trans h) hc, fun hc => hT.cells (World.alloc_heap_new W ob) hc, ((Below.refl _ W).alloc hW ob).trans (hT.below hB), by rw [hT.size]; simp⟩
section
variable {B l : Nat} {ob : Obj} {W W2 : World}
theorem Rs.boxed (h : Rs B l ob W W2) {b : Nat} {t : TypeId} {v : Value} (hb : Boxed W b t v) : Boxed W2 b t v := h.cells _ _ hb rfl
theorem Rs.kr (h : Rs B l ob W W2) (ga : Nat) (t : TypeId) : Kr ga t W W2 := ⟨by rw [h.size]; omega, fun o ho hc => h.cells _ _ ho hc, fun k c f _ ho => h.cells _ _ ho rfl⟩
theorem Rs.kp (h : Rs B l ob W W2) {S : Nat → Prop} (hS : ∀ k, S k → k < B) : Kp S W W2 := Kp.of_below h.below hS
end
end Tr
set_option maxRecDepth 100000 in
set_option maxHeartbeats 2000000 in
theorem told_any {n b0 o0 : Nat} {f : Fo} {w : World} (hF : FoAt (· < w.heap.size) w f (some ⟨b0, o0, none⟩)) (hf : f.len = 1) (hc : f.cnt ≤ 549755813888) (ht : ∀ it ∈ f.pre 1 0, tot it.g ≤ 1099511627776) :
    CallsIn Fence.wide n Tryz.prog 45 #[.pointer (some ⟨b0, o0, none⟩)] w fun e w' => e = .returned (.bool (decide (lsum (f.pre 1 0) ≤ 131072))) ∧ Below w.heap.size w w' := by
  refine callsIn_of_wp_marks Tryz.func45 rfl trivial ?_ rfl
  simp only [Tryz.ntmps45, List.size_toArray, List.length_cons, List.length_nil, Nat.reduceAdd, Nat.reduceSub, Array.replicate_succ, Array.replicate_zero, List.push_toArray, List.append_toArray, List.nil_append, List.cons_append]
  gi_wp2
  refine ⟨trivial, fun h => (by cases h), (all_any _ _).mono ?_⟩
  rintro e w' ⟨rfl, rfl⟩
  gi_wp2
  have b1 := ((Boxed.new w 4 (.bool false)).alloc (.cells #[.int .i64 131072] 136)).alloc (.cells #[.pointer (some ⟨b0, o0, none⟩)] 99)
  have b2 := (Boxed.new (w.alloc (.cells #[.bool false] 4)) 136 (.int .i64 131072)).alloc (.cells #[.pointer (some ⟨b0, o0, none⟩)] 99)
  have b3 := Boxed.new ((w.alloc (.cells #[.bool false] 4)).alloc (.cells #[.int .i64 131072] 136)) 99 (.pointer (some ⟨b0, o0, none⟩))
  have hb0 : Below w.heap.size w (((w.alloc (.cells #[.bool false] 4)).alloc (.cells #[.int .i64 131072] 136)).alloc (.cells #[.pointer (some ⟨b0, o0, none⟩)] 99)) := (((Below.refl _ w).alloc (Nat.le_refl _) _).alloc (by simp) _).alloc (by simp; omega) _
  have hz : w.heap.size + 3 = (((w.alloc (.cells #[.bool false] 4)).alloc (.cells #[.int .i64 131072] 136)).alloc (.cells #[.pointer (some ⟨b0, o0, none⟩)] 99)).heap.size := by simp
  simp only [World.size_alloc] at b2 b3
  obtain ⟨W0, hW0⟩ : ∃ W0, (((w.alloc (.cells #[.bool false] 4)).alloc (.cells #[.int .i64 131072] 136)).alloc (.cells #[.pointer (some ⟨b0, o0, none⟩)] 99)) = W0 := ⟨_, rfl⟩
  rw [hW0] at b1 b2 b3 hb0 hz ⊢
  clear hW0
  obtain ⟨L, hL⟩ : ∃ L, L = f.pre 1 0 := ⟨_, rfl⟩
  have hcL : f.cnt = L.length := by rw [hL, Fo.pre_length]
  refine wpIn_all (S := fun k => k < w.heap.size ∨ k = w.heap.size + 1 + 1) rfl (fun k hk => by rcases hk with hk | hk <;> omega) b3.cell (.inr rfl) ((hF.below (Kp.of_below hb0 (fun k hk => hk))).mono (fun k hk => .inl hk)) hf hc
    (fun ga k W => (Boxed W w.heap.size 4 (.bool false) ∧ Boxed W (w.heap.size + 1) 136 (.int .i64 (131072 - lsum (L.take k))) ∧ lsum (L.take k) ≤ 131072) ∧ Below w.heap.size w W)
    (fun c W => (c = .ret ∧ 131072 < lsum L ∧ Boxed W w.heap.size 4 (.bool false)) ∧ Below w.heap.size w W)
    (fun ga => OwnFrom.and (OwnFrom.and (Own.from (boxed_own _ _ _) _) (OwnFrom.and (Own.from (boxed_own _ _ _) _) (fun _ _ _ _ h _ _ => h))) (ownFrom_below (Nat.le_refl _) (by omega)))
    (OwnFrom.and (fun c X Y row ⟨h1, h2, h3⟩ hg hr => ⟨h1, h2, boxed_own w.heap.size 4 (fun (_ : Unit) => Value.bool false) () X Y row h3 hg (fun r e => (hr r e).2)⟩) (ownFrom_below (Nat.le_refl _) (by omega)))
    (fun ga k W W' hga ho ⟨⟨h1, h2, h3⟩, h4⟩ => ⟨⟨ho.boxed h1 (by omega), ho.boxed h2 (by omega), h3⟩, ho.low h4 (by omega) (Nat.le_refl _)⟩)
    (fun ga hga => ⟨⟨b1, by simpa [lsum] using b2, by simp [lsum]⟩, hb0⟩) ?round ?done ?stop
  case round =>
    rintro l ga k it b o pa pc W hl hga hgW hWz hit hpc ⟨⟨c1, c2, hk0⟩, hB⟩ hG
    rw [← hL] at hit
    simp only [List.setIfInBounds_toArray, List.set_cons_succ, List.set_cons_zero]
    gi_wp2
    refine ⟨(KeepsOthers.alloc _ _).from _, fun W2 hT => ?_⟩
    have hR := round_start (B := W0.heap.size) hl hWz hT
    have hK2 : Kp (fun k => k < w.heap.size ∨ k = w.heap.size + 1 + 1) W W2 := hR.kp (fun k hk => by rcases hk with hk | hk <;> omega)
    have hKr2 := hR.kr ga 142
    have d1 := hR.boxed c1
    have d2 := hR.boxed c2
    have hB2 : Below w.heap.size w W2 := hB.trans (hR.below.mono (by omega))
    have hsp := hR.new rfl
    have sp0 : W2.cell? ⟨W.heap.size, 0, none⟩ = some (.pointer (some ⟨b, o, none⟩)) := by simp [World.cell?, hsp]
    have hmem := ht it (by rw [← hL]; exact List.mem_of_getElem? hit)
    have hls := lsum_take hit
    have hpos := lsum_pos (L.take k)
    have hz2 := hR.size
    have htk := take_any (n := n - 1) d2 (S := fun k => k < w.heap.size ∨ k = w.heap.size + 1 + 1) (fun k hk => by rcases hk with hk | hk <;> omega) (fun k hk => by rcases hk with hk | hk <;> omega) (hG.below hK2) (by omega) (by omega) hmem
    have HF : Hid (decide (tot it.g + 1 ≤ 131072 - lsum (L.take k)) = decide (lsum (L.take (k + 1)) ≤ 131072)) := by show _ = _; rw [hls]; exact decide_eq_decide.mpr (by omega)
    have HS : Hid (lsum (L.take (k + 1)) = lsum (L.take k) + 1 + tot it.g) := hls
    have HLe : Hid (lsum (L.take (k + 1)) ≤ lsum L) := lsum_le L (k + 1)
    clear hls hpos hmem hR hT c1 c2 hsp hit
    gi_wp2
    refine ⟨trivial, fun h => (by cases h), CallsIn.inRound l (htk.mono ?_)⟩
    rintro e W3 ⟨rfl, ⟨R', hR', hv⟩, hE⟩
    rw [HF.out]
    replace hv : lsum (L.take (k + 1)) ≤ 131072 → R' = 131072 - lsum (L.take k) - 1 - tot it.g := fun h => hv (by have := HS.out; omega)
    have d1' := hE.boxed d1 (by omega)
    have x1 := d1'.cell
    have f1 := d1'.frozen
    have hz3 := hE.size
    have hB3 : Below w.heap.size w W3 := hB2.trans (hE.toBelow (by omega) (by omega))
    have hko : KeepsFrom W0.heap.size W2 W3 := ⟨hE.size, fun k o hk h0 _ => (hE.block k (Array.getElem?_eq_some_iff.1 h0).1 (by omega)).trans h0⟩
    by_cases hgo : lsum (L.take (k + 1)) ≤ 131072
    · have dd := decide_eq_true hgo
      have hr2 := hv hgo
      generalize decide (lsum (L.take (k + 1)) ≤ 131072) = D at *
      subst dd
      gi_wp2
      refine ⟨hko, ⟨⟨d1', ?_, hgo⟩, hB3⟩, hK2.trans ⟨hE.size, fun k hk => hE.block k (by rcases hk with hk | hk <;> omega) (by rcases hk with hk | hk <;> omega)⟩, hKr2.trans (hE.kr (by omega))⟩
      have : 131072 - lsum (L.take (k + 1)) = R' := by rw [hr2, HS.out]; omega
      rw [this]
      exact hR'
    · have dd := decide_eq_false hgo
      generalize decide (lsum (L.take (k + 1)) ≤ 131072) = D at *
      subst dd
      gi_wp2
      exact ⟨hko.trans (keeps_set _ _ _ _), ⟨rfl, by have := HLe.out; omega, d1'.set _⟩, hB3.setCell (p := ⟨w.heap.size, 0, none⟩) (Nat.le_refl _) _⟩
  case done =>
    rintro D ga W hD hga ⟨⟨c1, c2, hk0⟩, hB⟩ hK
    rw [hcL, List.take_length] at hk0
    have x1 := c1.cell
    have f1 := c1.frozen
    gi_wp2
    have hK' := (KeepsOthers.setCell W ⟨w.heap.size, 0, none⟩ (.bool true)).same D _ hK rfl
    refine ⟨by simp, .inl ⟨_, _, rfl, run_takeDeferred hK', ?_⟩⟩
    have x9 := (boxed_own w.heap.size 4 (fun (_ : Unit) => Value.bool true) () _ _ _ (c1.set _) (grownBy_putObj' _ D (.deferred none)) (fun r e => by cases e; exact ⟨_, hK', rfl⟩)).cell
    have dd : decide (lsum (f.pre 1 0) ≤ 131072) = true := by rw [← hL]; exact decide_eq_true hk0
    refine ⟨.bool true, by simp [results, Tryz.results45, go_sem, x9], by rw [dd], (hB.setCell (p := ⟨w.heap.size, 0, none⟩) (Nat.le_refl _) _).trans ((Below.refl _ _).grown (grownBy_putObj' _ D _) (by have := hB.size; simp [World.setCell]; omega) (fun r e => by cases e; omega))⟩
  case stop =>
    rintro D c W hD ⟨⟨rfl, hlt, c1⟩, hB⟩ hK
    gi_wp2
    refine ⟨by simp, .inl ⟨_, _, rfl, run_takeDeferred hK, ?_⟩⟩
    have x9 := (boxed_own w.heap.size 4 (fun (_ : Unit) => Value.bool false) () _ _ _ c1 (grownBy_putObj' _ D (.deferred none)) (fun r e => by cases e; exact ⟨_, hK, rfl⟩)).cell
    have dd : decide (lsum (f.pre 1 0) ≤ 131072) = false := by rw [← hL]; exact decide_eq_false (by omega)
    refine ⟨.bool false, by simp [results, Tryz.results45, go_sem, x9], by rw [dd], hB.trans ((Below.refl _ _).grown (grownBy_putObj' _ D _) (by have := hB.size; omega) (fun r e => by cases e; omega))⟩
end Go.Proofs.YtgobnjeankjkjaaGreatDoor

/- tree.known, tree.Depth. -/
namespace Go.Proofs.YtgobnjeankjkjaaGreatDoor
open Go.ChangeShapes Go.WideShapes Go.ChangeAt Go.RowKit Go.Shelf
open Tr Rf
set_option linter.unusedVariables false
attribute [local go_sem] Oper.semAt_some
namespace Tr
/-- levels -/
def dep (l : List It) : Nat := l.foldl (fun d it => max d it.level) 0
theorem dep_take {L : List It} {k : Nat} {it : It} (h : L[k]? = some it) : dep (L.take (k + 1)) = max (dep (L.take k)) it.level := by
  unfold dep
  rw [List.take_add_one, h, List.foldl_append]
  rfl
theorem pre_level (f : Fo) : ∀ lv home, ∀ it ∈ f.pre lv home, it.level < lv + f.cnt := by
  induction f with
  | nil => intro lv home it hit; cases hit
  | cons g c r ih1 ih2 =>
    intro lv home it hit
    simp only [Fo.pre, List.mem_cons, List.mem_append] at hit
    simp only [Fo.cnt]
    rcases hit with rfl | hit | hit
    · simp
    · have := ih1 _ _ it hit; omega
    · have := ih2 _ _ it hit; omega
theorem dep_le (l : List It) (B : Nat) (h : ∀ it ∈ l, it.level ≤ B) : dep l ≤ B := by
  have key : ∀ (l : List It) (d : Nat), d ≤ B → (∀ it ∈ l, it.level ≤ B) → l.foldl (fun d it => max d it.level) d ≤ B := by
    intro l
    induction l with
    | nil => intro d hd _; exact hd
    | cons x t ih => intro d hd hl; exact ih _ (Nat.max_le.2 ⟨hd, hl x (List.mem_cons_self ..)⟩) (fun y hy => hl y (List.mem_cons_of_mem _ hy))
  exact key l 0 (Nat.zero_le _) h
end Tr
set_option maxRecDepth 100000 in
set_option maxHeartbeats 2000000 in
theorem known_any {n b0 o0 : Nat} {f : Fo} {w : World} (hF : FoAt (· < w.heap.size) w f (some ⟨b0, o0, none⟩)) (hf : f.len = 1) (hc : f.cnt ≤ 549755813888) (ht : ∀ it ∈ f.pre 1 0, tot it.g ≤ 1099511627776) (hs : lsum (f.pre 1 0) ≤ 131072) :
    CallsIn Fence.wide n Tryz.prog 43 #[.pointer (some ⟨b0, o0, none⟩)] w fun e w' => ∃ Bn, e = .returned (.func (.func 66) #[] #[.pointer (some ⟨Bn, 0, none⟩)]) ∧ w.heap.size ≤ Bn ∧ w'.heap.size = Bn + 1 ∧ Boxed w' Bn 99 (.pointer (some ⟨b0, o0, none⟩)) ∧ Below w.heap.size w w' := by
  have hT := told_any (n := n - 1) hF hf hc ht
  rw [decide_eq_true hs] at hT
  refine callsIn_of_wp Tryz.func43 rfl trivial ?_ rfl
  simp only [Tryz.ntmps43, List.size_toArray, List.length_cons, List.length_nil, Nat.reduceAdd, Nat.reduceSub, Array.replicate_succ, Array.replicate_zero, List.push_toArray, List.append_toArray, List.nil_append, List.cons_append]
  gi_wp2
  refine ⟨trivial, fun h => (by cases h), hT.mono ?_⟩
  rintro e w1 ⟨rfl, hb1⟩
  gi_wp2
  refine ⟨trivial, fun h => (by cases h), (all_any _ _).mono ?_⟩
  rintro e w2 ⟨rfl, rfl⟩
  gi_wp2
  go_ret
  exact ⟨_, rfl, hb1.size, by simp, Boxed.new _ _ _, hb1.trans (((Below.refl _ w1).alloc (Nat.le_refl _) _).mono hb1.size)⟩
set_option maxRecDepth 100000 in
set_option maxHeartbeats 2000000 in
theorem depth_any {n : Nat} {v : Value} {f : Fo} {w : World} (hG : GeoV (· < w.heap.size) w v f) (hc : f.cnt ≤ 549755813888) (ht : ∀ it ∈ f.pre 1 0, tot it.g ≤ 1099511627776) (hs : lsum (f.pre 1 0) ≤ 131072) :
    CallsIn Fence.wide n Tryz.prog 25 #[v] w fun e w' => e = .returned (.int .i64 (dep (f.pre 1 0))) ∧ Below w.heap.size w w' := by
  have HG : Hid (GeoV (· < w.heap.size) w v f) := hG
  obtain ⟨g, ch, v1, v2, pa, pc, rfl, hfo, hk, p1, p2, p3, p4⟩ := hG
  have hf : f.len = 1 := by rw [hfo]; rfl
  obtain ⟨_, a1, d1, rfl, _⟩ := p1
  obtain ⟨_, a2, d2, rfl, _⟩ := p2
  clear hfo hk p3 p4
  refine callsIn_of_wp_marks Tryz.func25 rfl trivial ?_ rfl
  simp only [Tryz.ntmps25, List.size_toArray, List.length_cons, List.length_nil, Nat.reduceAdd, Nat.reduceSub, Array.replicate_succ, Array.replicate_zero, List.push_toArray, List.append_toArray, List.nil_append, List.cons_append]
  have hbox := HG.out.box (t := 31) (fun k hk => hk)
  have hb0 : Below w.heap.size w ((w.alloc (.cells #[.int .i64 g.kind, .slice a1 g.line.length d1, .slice a2 g.rings.length d2, .slice pa ch.len pc] 31)).alloc (.cells #[.int .i64 0] 3)) := ((Below.refl _ w).alloc (Nat.le_refl _) _).alloc (by simp) _
  have b1 := Boxed.new (w.alloc (.cells #[.int .i64 g.kind, .slice a1 g.line.length d1, .slice a2 g.rings.length d2, .slice pa ch.len pc] 31)) 3 (.int .i64 0)
  have hz : ((w.alloc (.cells #[.int .i64 g.kind, .slice a1 g.line.length d1, .slice a2 g.rings.length d2, .slice pa ch.len pc] 31)).alloc (.cells #[.int .i64 0] 3)).heap.size = w.heap.size + 2 := by simp
  have hF := (hbox.below (Kp.of_below ((Below.refl (w.heap.size + 1) (w.alloc (.cells #[.int .i64 g.kind, .slice a1 g.line.length d1, .slice a2 g.rings.length d2, .slice pa ch.len pc] 31))).alloc (by simp) (.cells #[.int .i64 0] 3)) (fun k hk => by rcases hk with hk | hk <;> omega))).mono (S' := (· < w.heap.size + 1)) (fun k hk => by rcases hk with hk | hk <;> omega)
  simp only [World.size_alloc] at b1
  obtain ⟨W0, hW0⟩ : ∃ W0, W0 = (w.alloc (.cells #[.int .i64 g.kind, .slice a1 g.line.length d1, .slice a2 g.rings.length d2, .slice pa ch.len pc] 31)).alloc (.cells #[.int .i64 0] 3) := ⟨_, rfl⟩
  rw [← hW0] at hb0 b1 hz hF
  have hKn := known_any (n := n - 1) (w := W0) (hF.mono (fun k hk => by omega)) hf hc ht hs
  gi_wp2
  rw [← hW0]
  clear hW0 hbox
  refine ⟨trivial, fun h => (by cases h), hKn.mono ?_⟩
  rintro e W1 ⟨Bn, rfl, hBn, hBs, bB, hb1⟩
  clear hKn
  gi_wp2
  have hF1 := hF.below (Kp.of_below hb1 (fun k hk => by omega))
  have c1 : Boxed W1 (w.heap.size + 1) 3 (.int .i64 0) := (hb1.block _ b1.lt).trans b1
  have hB1 : Below w.heap.size w W1 := hb0.trans (hb1.mono (by omega))
  obtain ⟨L, hL⟩ : ∃ L, L = f.pre 1 0 := ⟨_, rfl⟩
  have hcL : f.cnt = L.length := by rw [hL, Fo.pre_length]
  have HL : Hid (L = f.pre 1 0) := hL
  have hlev : ∀ k, dep (L.take k) ≤ 549755813888 := fun k => dep_le _ _ (fun it hit => by have := pre_level f 1 0 it (by rw [← hL]; exact List.mem_of_mem_take hit); omega)
  clear hL
  refine wpIn_all (S := fun k => k < w.heap.size + 1 ∨ k = Bn) rfl (fun k hk => by rcases hk with hk | hk <;> omega) bB.cell (.inr rfl) (hF1.mono (fun k hk => .inl hk)) hf hc
    (fun ga k W => Boxed W (w.heap.size + 1) 3 (.int .i64 (dep (L.take k) : Nat)) ∧ Below w.heap.size w W)
    (fun c W => False)
    (fun ga => OwnFrom.and (Own.from (boxed_own _ _ _) _) (ownFrom_below (Nat.le_refl _) (by omega)))
    (fun _ _ _ _ h _ _ => h)
    (fun ga k W W' hga ho ⟨h1, h2⟩ => ⟨ho.boxed h1 (by omega), ho.low h2 (by omega) (Nat.le_refl _)⟩)
    (fun ga hga => ⟨c1, hB1⟩) ?round ?done ?stop
  case round =>
    rintro l ga k it b o pa pc W hl hga hgW hWz hit hpc ⟨c1, hB⟩ hG
    rw [← HL.out] at hit
    simp only [List.setIfInBounds_toArray, List.set_cons_succ, List.set_cons_zero]
    gi_wp2
    refine ⟨(KeepsOthers.alloc _ _).from _, fun W2 hT => ?_⟩
    have hR := round_start (B := W1.heap.size) hl hWz hT
    have hK2 : Kp (fun k => k < w.heap.size + 1 ∨ k = Bn) W W2 := hR.kp (fun k hk => by rcases hk with hk | hk <;> omega)
    have hKr2 := hR.kr ga 142
    have d1 := hR.boxed c1
    have hB2 : Below w.heap.size w W2 := hB.trans (hR.below.mono (by omega))
    have sp2 : W2.cell? ⟨W.heap.size, 2, none⟩ = some (.int .i64 it.level) := cell_of (hR.new rfl) 2
    have hdt := dep_take hit
    have hl1 := hlev k
    have x1 := d1.cell
    have f1 := d1.frozen
    have HM : Hid (dep (L.take (k + 1)) = max (dep (L.take k)) it.level) := hdt
    obtain ⟨dk, hdk⟩ : ∃ dk, dk = dep (L.take k) := ⟨_, rfl⟩
    rw [← hdk] at d1 x1 hl1 HM
    clear hR hT c1 hit hdt hdk
    by_cases hlt : dk < it.level
    · have hlt' : (dk : Int) < (it.level : Int) := by omega
      have HE : Hid (((dep (L.take (k + 1)) : Nat) : Int) = (it.level : Int)) := by show _ = _; rw [HM.out, Nat.max_eq_right (by omega)]
      clear hlt HM
      gi_wp2
      exact ⟨keeps_set _ _ _ _, ⟨by rw [HE.out]; exact d1.set _, hB2.setCell (p := ⟨w.heap.size + 1, 0, none⟩) (by simp) _⟩, hK2.setCell (by rintro (hk | hk); simp at hk; simp at hk; omega) _, hKr2.trans (Kr.set _ (by omega))⟩
    · have hlt' : ¬ (dk : Int) < (it.level : Int) := by omega
      have HE : Hid (((dep (L.take (k + 1)) : Nat) : Int) = (dk : Int)) := by show _ = _; rw [HM.out, Nat.max_eq_left (by omega)]
      clear hlt HM
      gi_wp2
      exact ⟨keeps_set _ _ _ _, ⟨by rw [HE.out]; exact d1.set _, hB2.setCell (p := ⟨w.heap.size + 1, 0, none⟩) (by simp) _⟩, hK2.setCell (by rintro (hk | hk); simp at hk; simp at hk; omega) _, hKr2.trans (Kr.set _ (by omega))⟩
  case done =>
    rintro D ga W hD hga ⟨c1, hB⟩ hK
    have HLL : Hid (L = f.pre 1 0) := HL
    rw [hcL, List.take_length] at c1
    obtain ⟨dk, hdk⟩ : ∃ dk, dk = dep L := ⟨_, rfl⟩
    rw [← hdk] at c1
    have HD : Hid (dk = dep L) := hdk
    clear hdk
    have x1 := c1.cell
    gi_wp2
    refine ⟨by simp, .inl ⟨_, _, rfl, run_takeDeferred hK, ?_⟩⟩
    exact ⟨_, results_tmp rfl _ _ _, by rw [HD.out, HLL.out]; rfl, hB.trans ((Below.refl _ _).grown (grownBy_putObj' _ D _) (by have := hB.size; omega) (fun r e => by cases e; omega))⟩
  case stop =>
    rintro D c W hD h hK
    exact h.elim
end Go.Proofs.YtgobnjeankjkjaaGreatDoor

/- tree: fits, hasEmptyRing, shaped, newLook. -/
namespace Go.Proofs.YtgobnjeankjkjaaGreatDoor
open Go.ChangeShapes Go.WideShapes Go.ChangeAt Go.RowKit Go.Shelf
open Tr Rf
set_option linter.unusedVariables false
namespace Tr
def fitsB (home kind : Int) : Bool := if home = 4 then kind == 1 else if home = 5 then kind == 2 else if home = 6 then kind == 3 else true
def emptyB (l : List (List Pt)) : Bool := l.any (fun r => decide (r.length = 0))
def shapedB (g : Gm) (pl : Nat) : Bool :=
  if g.kind = 1 then decide (g.line.length ≤ 1) && (decide (g.rings.length = 0) && decide (pl = 0))
  else if g.kind = 2 then decide (g.rings.length = 0) && decide (pl = 0)
  else if g.kind = 3 then decide (g.line.length = 0) && (decide (pl = 0) && !emptyB g.rings)
  else if g.kind = 4 ∨ g.kind = 5 ∨ g.kind = 6 ∨ g.kind = 7 then decide (g.line.length = 0) && decide (g.rings.length = 0)
  else false
def shB (kd : Int) (l r pl : Nat) (em : Bool) : Bool :=
  if kd = 1 then decide (l ≤ 1) && (decide (r = 0) && decide (pl = 0))
  else if kd = 2 then decide (r = 0) && decide (pl = 0)
  else if kd = 3 then decide (l = 0) && (decide (pl = 0) && !em)
  else if kd = 4 ∨ kd = 5 ∨ kd = 6 ∨ kd = 7 then decide (l = 0) && decide (r = 0)
  else false
end Tr
set_option maxHeartbeats 1000000 in
theorem fits_any (home kind : Int) (w : World) : Calls Tryz.prog 67 #[.int .i64 home, .int .i64 kind] w fun e w' => e = .returned (.bool (fitsB home kind)) ∧ w' = w := by
  by_cases h4 : home = 4
  · subst h4
    go_enter Tryz.func67, Tryz.ntmps67
    go_wp2
    go_ret
    exact ⟨rfl, rfl⟩
  · by_cases h5 : home = 5
    · subst h5
      go_enter Tryz.func67, Tryz.ntmps67
      go_wp2
      go_ret
      exact ⟨rfl, rfl⟩
    · by_cases h6 : home = 6
      · subst h6
        go_enter Tryz.func67, Tryz.ntmps67
        go_wp2
        go_ret
        exact ⟨rfl, rfl⟩
      · have e4 : (home == 4) = false := by simpa using h4
        have e5 : (home == 5) = false := by simpa using h5
        have e6 : (home == 6) = false := by simpa using h6
        have HE : Hid (fitsB home kind = true) := by show _ = _; unfold fitsB; rw [if_neg h4, if_neg h5, if_neg h6]
        clear h4 h5 h6
        go_enter Tryz.func67, Tryz.ntmps67
        go_wp2
        go_ret
        exact ⟨by rw [HE.out]; rfl, rfl⟩
set_option maxHeartbeats 1000000 in
theorem newLook_any (w : World) : Calls Tryz.prog 39 #[] w fun e w' => e = .returned (.pointer (some ⟨w.heap.size, 0, none⟩)) ∧ w' = w.alloc (.cells #[.int .i64 65536] 138) := by
  go_enter Tryz.func39, Tryz.ntmps39
  go_wp2
  go_ret
  exact ⟨rfl, rfl⟩
set_option maxRecDepth 100000 in
set_option maxHeartbeats 1000000 in
theorem emptyRing_any {b o : Nat} {S : Nat → Prop} {g : Gm} {v : Value} {w : World} (hG : GmAt S w b o g v) :
    Calls Tryz.prog 94 #[.pointer (some ⟨b, o, none⟩)] w fun e w' => e = .returned (.bool (emptyB g.rings)) ∧ w' = w := by
  obtain ⟨_, _, _, _, ⟨v2, c2, p2⟩, _⟩ := hG
  obtain ⟨hl2, a2, d2, rfl, hc2⟩ := p2
  go_enter Tryz.func94, Tryz.ntmps94
  go_wp2
  go_loopw [10] (fun i wr => ∃ k : Nat, i = .int .i64 k ∧ k ≤ g.rings.length ∧ wr = w ∧ Hid (emptyB (g.rings.take k) = false)) (fun i _ => g.rings.length - (intOf i).toNat)
  case atStart => exact ⟨0, rfl, by omega, rfl, rfl⟩
  case round =>
    obtain ⟨k, rfl, hk, rfl, HE⟩ := hrel
    by_cases hlt : k < g.rings.length
    · obtain ⟨p, hp⟩ : ∃ p, g.rings[k]? = some p := ⟨_, List.getElem?_eq_getElem hlt⟩
      obtain ⟨b2, o2, u, rfl, hb2, cu, hu⟩ := hc2 k p hp
      obtain ⟨hpl, a4, d4, rfl, _⟩ := hu
      have hd : decide ((k : Int) < (g.rings.length : Int)) = true := by simp; omega
      have hsu : emptyB (g.rings.take (k + 1)) = (emptyB (g.rings.take k) || decide (p.length = 0)) := by
        unfold emptyB
        rw [List.take_add_one, hp, List.any_append]
        simp
      by_cases hz : p.length = 0
      · have d : ((p.length : Int) == 0) = true := by simp [hz]
        have HT : Hid (emptyB g.rings = true) := by
          show _ = _
          unfold emptyB
          rw [List.any_eq_true]
          exact ⟨p, List.mem_of_getElem? hp, by simp [hz]⟩
        clear hz hsu hc2 hp
        go_wp2
        go_ret
        exact ⟨by rw [HT.out]; rfl, rfl⟩
      · have d : ((p.length : Int) == 0) = false := by simp [hz]
        have HN : Hid (emptyB (g.rings.take (k + 1)) = false) := by show _ = _; rw [hsu, HE.out]; simp [hz]
        have hw : wrap64 ((k : Int) + 1) = (k : Int) + 1 := by unfold wrap64; omega
        clear hz hsu hc2 hp HE
        go_wp2
        go_roundw
        case rel => exact ⟨k + 1, by simp, by omega, trivial, HN⟩
        case measure => simp [intOf]; omega
    · have hd : decide ((k : Int) < (g.rings.length : Int)) = false := by simp; omega
      have hkk : k = g.rings.length := by omega
      rw [hkk, List.take_length] at HE
      clear hkk
      go_wp2
      go_ret
      exact ⟨by rw [HE.out]; rfl, rfl⟩
set_option maxRecDepth 100000 in
set_option maxHeartbeats 2000000 in
theorem shaped_any {b o pl : Nat} {S : Nat → Prop} {g : Gm} {pa : Option Addr} {pc : Nat} {w : World} (hG : GmAt S w b o g (.slice pa pl pc)) (hpl : pl ≤ 1048576) :
    Calls Tryz.prog 68 #[.pointer (some ⟨b, o, none⟩)] w fun e w' => e = .returned (.bool (shapedB g pl)) ∧ ∃ m, w' = w.drewN m := by
  have HG : Hid (GmAt S w b o g (.slice pa pl pc)) := hG
  obtain ⟨_, hk, c0, ⟨v1, c1, p1⟩, ⟨v2, c2, p2⟩, c3⟩ := hG
  obtain ⟨hl1, a1, d1, rfl, _⟩ := p1
  obtain ⟨hl2, a2, d2, rfl, _⟩ := p2
  have hEm := fun m => emptyRing_any (HG.out.below (W' := w.drewN m) ⟨Nat.le_refl _, fun _ _ => rfl⟩)
  obtain ⟨em, hem⟩ : ∃ em, em = emptyB g.rings := ⟨_, rfl⟩
  rw [← hem] at hEm
  have HM : Hid (em = emptyB g.rings) := hem
  clear hem
  obtain ⟨kd, hkd⟩ : ∃ kd, kd = g.kind := ⟨_, rfl⟩
  obtain ⟨l, hl⟩ : ∃ l, l = g.line.length := ⟨_, rfl⟩
  obtain ⟨r, hr⟩ : ∃ r, r = g.rings.length := ⟨_, rfl⟩
  have HS : Hid (shapedB g pl = shB kd l r pl em) := by
    show _ = _
    rw [hkd, hl, hr, HM.out]
    rfl
  rw [← hkd] at c0 hk
  rw [← hl] at c1 hl1
  rw [← hr] at c2 hl2
  clear hkd hl hr HM HG
  rw [HS.out]
  clear HS
  have q2 : ((r : Int) == 0) = decide (r = 0) := by rw [Bool.eq_iff_iff]; simp
  have q3 : ((pl : Int) == 0) = decide (pl = 0) := by rw [Bool.eq_iff_iff]; simp
  have q4 : ((l : Int) == 0) = decide (l = 0) := by rw [Bool.eq_iff_iff]; simp
  by_cases k1 : kd = 1
  · subst k1
    unfold shB
    rw [if_pos rfl]
    by_cases h1 : l ≤ 1
    · have e1 : decide ((l : Int) ≤ 1) = true := by simp; omega
      rw [decide_eq_true h1]
      generalize decide (r = 0) = x2 at *
      generalize decide (pl = 0) = x3 at *
      clear q4
      cases x2 <;> cases x3 <;> (go_enter Tryz.func68, Tryz.ntmps68; go_wp2; go_quiet (fail); go_wp2; go_ret; exact ⟨rfl, _, rfl⟩)
    · have e1 : decide ((l : Int) ≤ 1) = false := by simp; omega
      rw [decide_eq_false h1]
      clear q2 q3 q4
      go_enter Tryz.func68, Tryz.ntmps68
      go_wp2
      go_quiet (fail)
      go_wp2
      go_ret
      exact ⟨rfl, _, rfl⟩
  by_cases k2 : kd = 2
  · subst k2
    unfold shB
    rw [if_neg (by decide), if_pos rfl]
    generalize decide (r = 0) = x2 at *
    generalize decide (pl = 0) = x3 at *
    clear q4
    cases x2 <;> cases x3 <;> (go_enter Tryz.func68, Tryz.ntmps68; go_wp2; go_quiet (fail); go_wp2; go_ret; exact ⟨rfl, _, rfl⟩)
  by_cases k3 : kd = 3
  · subst k3
    unfold shB
    rw [if_neg (by decide), if_neg (by decide), if_pos rfl]
    generalize decide (l = 0) = x4 at *
    generalize decide (pl = 0) = x3 at *
    clear q2
    cases x4 <;> cases x3 <;> cases em <;> (go_enter Tryz.func68, Tryz.ntmps68; go_wp2; go_quiet (fail); go_wp2_with (go_at_call 94; refine (hEm _).mono ?_; rintro e w' ⟨rfl, rfl⟩); go_ret; exact ⟨rfl, _, rfl⟩)
  have e1 : (kd == 1) = false := by simpa using k1
  have e2 : (kd == 2) = false := by simpa using k2
  have e3 : (kd == 3) = false := by simpa using k3
  by_cases k4 : kd = 4 ∨ kd = 5 ∨ kd = 6 ∨ kd = 7
  · unfold shB
    rw [if_neg k1, if_neg k2, if_neg k3, if_pos k4]
    generalize decide (l = 0) = x4 at *
    generalize decide (r = 0) = x2 at *
    clear q3 k1 k2 k3 e1 e2 e3
    rcases k4 with rfl | rfl | rfl | rfl <;> cases x4 <;> cases x2 <;> (go_enter Tryz.func68, Tryz.ntmps68; go_wp2; go_quiet (fail); go_wp2; go_ret; exact ⟨rfl, _, rfl⟩)
  · unfold shB
    rw [if_neg k1, if_neg k2, if_neg k3, if_neg k4]
    have e4 : (kd == 4) = false := by simp; omega
    have e5 : (kd == 5) = false := by simp; omega
    have e6 : (kd == 6) = false := by simp; omega
    have e7 : (kd == 7) = false := by simp; omega
    clear q2 q3 q4 k1 k2 k3 k4
    go_enter Tryz.func68, Tryz.ntmps68
    go_wp2
    go_quiet (fail)
    go_wp2
    go_ret
    exact ⟨rfl, _, rfl⟩
end Go.Proofs.YtgobnjeankjkjaaGreatDoor

/- tree.Count. -/
namespace Go.Proofs.YtgobnjeankjkjaaGreatDoor
open Go.ChangeShapes Go.WideShapes Go.ChangeAt Go.RowKit Go.Shelf
open Tr Rf
set_option linter.unusedVariables false
attribute [local go_sem] Oper.semAt_some
namespace Tr
def psum : List It → Int
  | [] => 0
  | x :: t => tot x.g + psum t
theorem psum_app (a b : List It) : psum (a ++ b) = psum a + psum b := by
  induction a with
  | nil => simp [psum]
  | cons x t ih => simp only [List.cons_append, psum, ih]; omega
theorem psum_take {L : List It} {k : Nat} {it : It} (h : L[k]? = some it) : psum (L.take (k + 1)) = psum (L.take k) + tot it.g := by
  rw [List.take_add_one, h, psum_app]
  simp [psum]
theorem psum_lsum (l : List It) : lsum l = psum l + (l.length : Int) := by
  induction l with
  | nil => rfl
  | cons x t ih => simp only [lsum, psum, ih, List.length_cons]; omega
theorem psum_pos (l : List It) : 0 ≤ psum l := by
  induction l with
  | nil => exact Int.le_refl _
  | cons x t ih => have := tot_pos x.g; simp only [psum]; omega
/-- what a round over a geometry owes, from its start on -/
structure Rk (S : Nat → Prop) (ga : Nat) (tr : TypeId) (B : Nat) (X X2 W : World) : Prop where
  kp : Kp S X W
  kr : Kr ga tr X W
  kf : KeepsFrom B X2 W
theorem ownFrom_rk {β : Type} {S : Nat → Prop} {ga B B' : Nat} {tr : TypeId} {X X2 : World} (hS : ∀ k, S k → k < X.heap.size) (hX : X.heap.size ≤ B') (hX2 : X2.heap.size ≤ B') : OwnFrom B' (fun (_ : β) W => Rk S ga tr B X X2 W) := by
  rintro s W W' row ⟨h1, h2, h3⟩ hg hr
  refine ⟨h1.trans ⟨hg.size, fun k hk => hg.block k (Nat.lt_of_lt_of_le (hS k hk) h1.size) (fun e => ?_)⟩, h2.trans ⟨hg.size, fun o ho hc => grown_cells hg hr ho hc, fun k c f _ ho => grown_cells hg hr ho rfl⟩, ownFrom_keepsFrom hX2 s W W' row h3 hg hr⟩
  have := (hr k e.symm).1
  have := hS k hk
  omega
end Tr
set_option maxRecDepth 100000 in
set_option maxHeartbeats 2000000 in
theorem count_any {n : Nat} {v : Value} {f : Fo} {w : World} (hG : GeoV (· < w.heap.size) w v f) (hc : f.cnt ≤ 549755813888) (ht : ∀ it ∈ f.pre 1 0, tot it.g ≤ 1099511627776) (hs : lsum (f.pre 1 0) ≤ 131072) :
    CallsIn Fence.wide n Tryz.prog 24 #[v] w fun e w' => e = .returned (.tuple #[.int .i64 (f.cnt : Nat), .int .i64 (psum (f.pre 1 0))]) ∧ Below w.heap.size w w' := by
  have HG : Hid (GeoV (· < w.heap.size) w v f) := hG
  obtain ⟨g, ch, v1, v2, pa, pc, rfl, hfo, hk, p1, p2, p3, p4⟩ := hG
  have hf : f.len = 1 := by rw [hfo]; rfl
  obtain ⟨_, a1, d1, rfl, _⟩ := p1
  obtain ⟨_, a2, d2, rfl, _⟩ := p2
  clear hfo hk p3 p4
  refine callsIn_of_wp_marks Tryz.func24 rfl trivial ?_ rfl
  simp only [Tryz.ntmps24, List.size_toArray, List.length_cons, List.length_nil, Nat.reduceAdd, Nat.reduceSub, Array.replicate_succ, Array.replicate_zero, List.push_toArray, List.append_toArray, List.nil_append, List.cons_append]
  have hbox := HG.out.box (t := 31) (fun k hk => hk)
  obtain ⟨V0, hV0⟩ : ∃ V0, V0 = w.alloc (.cells #[.int .i64 g.kind, .slice a1 g.line.length d1, .slice a2 g.rings.length d2, .slice pa ch.len pc] 31) := ⟨_, rfl⟩
  have hz0 : V0.heap.size = w.heap.size + 1 := by rw [hV0]; simp
  have hbV : Below w.heap.size w V0 := by rw [hV0]; exact (Below.refl _ w).alloc (Nat.le_refl _) _
  rw [← hV0] at hbox
  have hb0 : Below (w.heap.size + 1) V0 ((V0.alloc (.cells #[.int .i64 0] 3)).alloc (.cells #[.int .i64 0] 3)) := ((Below.refl _ V0).alloc (by omega) _).alloc (by simp; omega) _
  have b1 := (Boxed.new V0 3 (.int .i64 0)).alloc (.cells #[.int .i64 0] 3)
  have b2 := Boxed.new (V0.alloc (.cells #[.int .i64 0] 3)) 3 (.int .i64 0)
  have hz : ((V0.alloc (.cells #[.int .i64 0] 3)).alloc (.cells #[.int .i64 0] 3)).heap.size = w.heap.size + 3 := by simp; omega
  have hF := (hbox.below (Kp.of_below hb0 (fun k hk => by rcases hk with hk | hk <;> omega))).mono (S' := (· < w.heap.size + 1)) (fun k hk => by rcases hk with hk | hk <;> omega)
  simp only [World.size_alloc, hz0] at b1 b2
  obtain ⟨W0, hW0⟩ : ∃ W0, W0 = (V0.alloc (.cells #[.int .i64 0] 3)).alloc (.cells #[.int .i64 0] 3) := ⟨_, rfl⟩
  rw [← hW0] at hb0 b1 b2 hz hF
  have hBw : Below w.heap.size w W0 := hbV.trans (hb0.mono (by omega))
  have hKn := known_any (n := n - 1) (w := W0) (hF.mono (fun k hk => by omega)) hf hc ht hs
  gi_wp2
  rw [← hV0, ← hW0]
  clear hW0 hV0 hbox hb0 hz0 hbV
  refine ⟨trivial, fun h => (by cases h), hKn.mono ?_⟩
  rintro e W1 ⟨Bn, rfl, hBn, hBs, bB, hb1⟩
  clear hKn
  gi_wp2
  have hF1 := hF.below (Kp.of_below hb1 (fun k hk => by omega))
  have c1 : Boxed W1 (w.heap.size + 1) 3 (.int .i64 0) := (hb1.block _ b1.lt).trans b1
  have c2 : Boxed W1 (w.heap.size + 1 + 1) 3 (.int .i64 0) := (hb1.block _ b2.lt).trans b2
  have hB1 : Below w.heap.size w W1 := hBw.trans (hb1.mono (by omega))
  obtain ⟨L, hL⟩ : ∃ L, L = f.pre 1 0 := ⟨_, rfl⟩
  have hcL : f.cnt = L.length := by rw [hL, Fo.pre_length]
  have HL : Hid (L = f.pre 1 0) := hL
  have hps : ∀ k, psum (L.take k) ≤ 131072 ∧ 0 ≤ psum (L.take k) := fun k => by
    have h1 := psum_lsum (L.take k)
    have h2 := lsum_le L k
    have h3 := psum_pos (L.take k)
    rw [hL] at h1 h2 h3
    rw [hL]
    omega
  clear hL
  refine wpIn_all (S := fun k => k < w.heap.size + 1 ∨ k = Bn) rfl (fun k hk => by rcases hk with hk | hk <;> omega) bB.cell (.inr rfl) (hF1.mono (fun k hk => .inl hk)) hf hc
    (fun ga k W => (Boxed W (w.heap.size + 1) 3 (.int .i64 (k : Nat)) ∧ Boxed W (w.heap.size + 1 + 1) 3 (.int .i64 (psum (L.take k)))) ∧ Below w.heap.size w W)
    (fun c W => False)
    (fun ga => OwnFrom.and (OwnFrom.and (Own.from (boxed_own _ _ _) _) (Own.from (boxed_own _ _ _) _)) (ownFrom_below (Nat.le_refl _) (by omega)))
    (fun _ _ _ _ h _ _ => h)
    (fun ga k W W' hga ho ⟨⟨h1, h3⟩, h2⟩ => ⟨⟨ho.boxed h1 (by omega), ho.boxed h3 (by omega)⟩, ho.low h2 (by omega) (Nat.le_refl _)⟩)
    (fun ga hga => ⟨⟨c1, c2⟩, hB1⟩) ?round ?done ?stop
  case round =>
    rintro l ga k it b o pa pc W hl hga hgW hWz hit hpc ⟨⟨c1, c2⟩, hB⟩ hG
    rw [← HL.out] at hit
    have hkL : k < L.length := (List.getElem?_eq_some_iff.1 hit).1
    simp only [List.setIfInBounds_toArray, List.set_cons_succ, List.set_cons_zero]
    gi_wp2
    refine ⟨(KeepsOthers.alloc _ _).from _, fun W2 hT => ?_⟩
    have hR := round_start (B := W1.heap.size) hl hWz hT
    obtain ⟨r0, hrec⟩ := hT.rec'
    have hK2 : Kp (fun k => k < w.heap.size + 1 ∨ k = Bn) W W2 := hR.kp (fun k hk => by rcases hk with hk | hk <;> omega)
    have hKr2 := hR.kr ga 142
    have d1 := hR.boxed c1
    have d2 := hR.boxed c2
    have hB2 : Below w.heap.size w W2 := hB.trans (hR.below.mono (by omega))
    have sp0 : W2.cell? ⟨W.heap.size, 0, none⟩ = some (.pointer (some ⟨b, o, none⟩)) := cell_of (hR.new rfl) 0
    have hG2 := hG.below hK2
    have hz2 := hR.size
    have x1 := d1.cell
    have f1 := d1.frozen
    have hw1 : wrap64 ((k : Int) + 1) = (k : Int) + 1 := by unfold wrap64; omega
    have hne1 : W.heap.size ≠ w.heap.size + 1 := by omega
    have hpt := psum_take hit
    obtain ⟨hq1, hq2⟩ := hps k
    have hq3 := (hps (k + 1)).1
    have HP : Hid (psum (L.take (k + 1)) = psum (L.take k) + tot it.g) := hpt
    have HIt : Hid (it ∈ L) := List.mem_of_getElem? hit
    have HX : Hid (W2.heap.size = W.heap.size + 1 ∧ (∃ r0, W2.heap[l]? = some (.loop r0)) ∧ k < L.length ∧ psum (L.take k) ≤ 131072 ∧ 0 ≤ psum (L.take k) ∧ psum (L.take (k + 1)) ≤ 131072) := ⟨hz2, ⟨r0, hrec⟩, hkL, hq1, hq2, hq3⟩
    clear hR hT c1 c2 hpt hit hz2 hrec hkL hq1 hq2 hq3
    have HPS : Hid (∀ k, psum (L.take k) ≤ 131072 ∧ 0 ≤ psum (L.take k)) := hps
    clear hps hne1 hcL
    gi_wp2
    refine ⟨trivial, fun h => (by cases h), CallsIn.inRound l ((lists_any _ _).mono ?_)⟩
    rintro e W4 ⟨rfl, rfl⟩
    gi_wp2
    obtain ⟨hz2, ⟨r0, hrec⟩, hkL, hq1, hq2, hq3⟩ := HX.out
    have e1 : Boxed ((W2.setCell ⟨w.heap.size + 1, 0, none⟩ (.int .i64 ((k : Int) + 1))).alloc (.cells #[.pointer (some ⟨b, o, none⟩)] 99)) (w.heap.size + 1) 3 (.int .i64 ((k + 1 : Nat) : Int)) := (d1.set _).alloc _
    have e2 : Boxed ((W2.setCell ⟨w.heap.size + 1, 0, none⟩ (.int .i64 ((k : Int) + 1))).alloc (.cells #[.pointer (some ⟨b, o, none⟩)] 99)) (w.heap.size + 1 + 1) 3 (.int .i64 (psum (L.take k))) := (d2.other (by omega) _).alloc _
    have e3 := Boxed.new (W2.setCell ⟨w.heap.size + 1, 0, none⟩ (.int .i64 ((k : Int) + 1))) 99 (.pointer (some ⟨b, o, none⟩))
    have hB4 : Below w.heap.size w ((W2.setCell ⟨w.heap.size + 1, 0, none⟩ (.int .i64 ((k : Int) + 1))).alloc (.cells #[.pointer (some ⟨b, o, none⟩)] 99)) := (hB2.setCell (p := ⟨w.heap.size + 1, 0, none⟩) (by simp) _).alloc (by have := hB2.size; simp [World.setCell]; omega) _
    have hK4 : Kp (fun k => k < w.heap.size + 1 ∨ k = Bn) W2 ((W2.setCell ⟨w.heap.size + 1, 0, none⟩ (.int .i64 ((k : Int) + 1))).alloc (.cells #[.pointer (some ⟨b, o, none⟩)] 99)) := ((Kp.refl _ W2).setCell (by rintro (hk | hk); simp at hk; simp at hk; omega) _).alloc (fun k hk => by simp [World.setCell]; rcases hk with hk | hk <;> omega) _
    have hR4 : Kr ga 142 W2 ((W2.setCell ⟨w.heap.size + 1, 0, none⟩ (.int .i64 ((k : Int) + 1))).alloc (.cells #[.pointer (some ⟨b, o, none⟩)] 99)) := (Kr.set _ (by omega)).trans (Kr.alloc _ _ _ _)
    have hF4 : KeepsFrom W1.heap.size W2 ((W2.setCell ⟨w.heap.size + 1, 0, none⟩ (.int .i64 ((k : Int) + 1))).alloc (.cells #[.pointer (some ⟨b, o, none⟩)] 99)) := (keeps_set _ _ _ _).trans ((KeepsOthers.alloc _ _).from _)
    have hrec4 : ((W2.setCell ⟨w.heap.size + 1, 0, none⟩ (.int .i64 ((k : Int) + 1))).alloc (.cells #[.pointer (some ⟨b, o, none⟩)] 99)).heap[l]? = some (.loop r0) := hF4.same _ _ hl hrec rfl
    have hz4 : ((W2.setCell ⟨w.heap.size + 1, 0, none⟩ (.int .i64 ((k : Int) + 1))).alloc (.cells #[.pointer (some ⟨b, o, none⟩)] 99)).heap.size = W2.heap.size + 1 := by simp [World.setCell]
    simp only [World.size_setCell] at e3
    obtain ⟨X4, hX4⟩ : ∃ X4, X4 = (W2.setCell ⟨w.heap.size + 1, 0, none⟩ (.int .i64 ((k : Int) + 1))).alloc (.cells #[.pointer (some ⟨b, o, none⟩)] 99) := ⟨_, rfl⟩
    rw [← hX4] at e1 e2 e3 hB4 hK4 hR4 hF4 hrec4 hz4 ⊢
    clear hX4 d1 d2 x1 f1
    have hSW : ∀ k, (k < w.heap.size + 1 ∨ k = Bn) → k < W.heap.size := fun k hk => by rcases hk with hk | hk <;> omega
    have hmem := ht it (by rw [← HL.out]; exact HIt.out)
    have hptb := fun j => ptot_le it.g j
    have HPT : Hid (∀ j, 0 ≤ ptot it.g j ∧ ptot it.g j ≤ tot it.g) := hptb
    clear hptb
    refine wpIn_listsN (S := fun k => (k < w.heap.size + 1 ∨ k = Bn) ∨ k = W2.heap.size) hrec4 rfl (fun k hk => by rcases hk with hk | hk; have := hSW k hk; omega; omega) e3.cell (.inr rfl) ((hG2.below hK4).mono (fun k hk => .inl hk))
      (fun j V => ((Boxed V (w.heap.size + 1) 3 (.int .i64 ((k + 1 : Nat) : Int)) ∧ Boxed V (w.heap.size + 1 + 1) 3 (.int .i64 (psum (L.take k) + ptot it.g j))) ∧ Below w.heap.size w V) ∧ Rk (fun k => k < w.heap.size + 1 ∨ k = Bn) ga 142 W1.heap.size W W2 V)
      (fun c V => False)
      (OwnFrom.and (OwnFrom.and (OwnFrom.and (Own.from (boxed_own _ _ _) _) (Own.from (boxed_own _ _ _) _)) (ownFrom_below (Nat.le_refl _) (by omega))) (ownFrom_rk hSW (by omega) (by omega)))
      (fun _ _ _ _ h _ _ => h)
      ⟨⟨⟨e1, by rw [ptot_zero, Int.add_zero]; exact e2⟩, hB4⟩, ⟨hK2.trans hK4, hKr2.trans hR4, hF4⟩⟩ ?round2 ?done2 ?stop2
    case round2 =>
      rintro l2 j p a4 c4 V hl2 hVz hp ⟨⟨⟨g1, g2⟩, hBV⟩, hRk⟩ hP
      simp only [List.setIfInBounds_toArray, List.set_cons_succ, List.set_cons_zero]
      have hpl := hP.1
      have hsu := ptot_succ hp
      obtain ⟨u1, u2⟩ := HPT.out j
      obtain ⟨u3, u4⟩ := HPT.out (j + 1)
      gi_wp2
      refine ⟨KeepsFrom.refl _ _, fun V2 hT2 => ?_⟩
      replace g1 : Boxed V2 _ _ _ := hT2.cells g1 rfl
      replace g2 : Boxed V2 _ _ _ := hT2.cells g2 rfl
      have hBV2 : Below w.heap.size w V2 := hBV.trans (hT2.below (by omega))
      have hRk2 : Rk (fun k => k < w.heap.size + 1 ∨ k = Bn) ga 142 W1.heap.size W W2 V2 := ownFrom_rk (β := Unit) hSW (B' := X4.heap.size) (by omega) (by omega) () V V2 (some l2) hRk hT2.grown (fun r e => by cases e; obtain ⟨ob, q1, q2⟩ := hT2.obj; exact ⟨hl2, ob, q1, q2⟩)
      have hKV : Kp (fun k => (k < w.heap.size + 1 ∨ k = Bn) ∨ k = W2.heap.size) V V2 := Turn_kp hT2 (fun k hk => by rcases hk with hk | hk; have := hSW k hk; omega; omega)
      have x2 := g2.cell
      have f2 := g2.frozen
      have HW : Hid (psum (L.take k) + ptot it.g j + (p.length : Int) = psum (L.take k) + ptot it.g (j + 1)) := by show _ = _; rw [hsu]; omega
      obtain ⟨q, hq⟩ : ∃ q, q = psum (L.take k) + ptot it.g j := ⟨_, rfl⟩
      rw [← hq] at g2 x2 HW
      have hw2 : wrap64 (q + (p.length : Int)) = q + (p.length : Int) := by unfold wrap64; omega
      clear hq hsu u1 u2 u3 u4 hq1 hq2 hq3 hmem hp
      gi_wp2
      refine ⟨keeps_set _ _ _ _, ⟨⟨⟨g1.other (by omega) _, by rw [← HW.out]; exact g2.set _⟩, hBV2.setCell (p := ⟨w.heap.size + 1 + 1, 0, none⟩) (by simp; omega) _⟩, ⟨hRk2.kp.setCell (by rintro (hk | hk); simp at hk; omega; simp at hk; omega) _, hRk2.kr.trans (Kr.set _ (by omega)), hRk2.kf.trans (keeps_set _ _ _ _)⟩⟩, hKV.setCell (by rintro ((hk | hk) | hk); simp at hk; omega; simp at hk; omega; simp at hk; omega) _⟩
    case done2 =>
      rintro V ⟨⟨⟨g1, g2⟩, hBV⟩, hRk⟩
      rw [ptot_all, ← HP.out] at g2
      gi_wp2
      exact ⟨hRk.kf, ⟨⟨g1, g2⟩, hBV⟩, hRk.kp, hRk.kr⟩
    case stop2 =>
      rintro c V h
      exact h.elim
  case done =>
    rintro D ga W hD hga ⟨⟨c1, c2⟩, hB⟩ hK
    rw [hcL, List.take_length] at c2
    obtain ⟨q, hq⟩ : ∃ q, q = psum L := ⟨_, rfl⟩
    rw [← hq] at c2
    have HQ : Hid (q = psum (f.pre 1 0)) := by rw [← HL.out]; exact hq
    have HC : Hid (f.cnt = L.length) := hcL
    rw [hcL] at c1
    clear hq hcL hps
    have x1 := c1.cell
    have x2 := c2.cell
    gi_wp2
    refine wpIn_wide.2 ?_
    go_quiet (fail)
    have hK' : (W.drewN nq).heap[D]? = some (.deferred (some [])) := hK
    gi_wp2
    refine ⟨by simp, .inl ⟨_, _, rfl, run_takeDeferred hK', ?_⟩⟩
    refine ⟨.tuple #[.int .i64 (L.length : Nat), .int .i64 q], by simp [results, Tryz.results24, go_sem], by rw [HQ.out, HC.out], ?_⟩
    have hbd : Below w.heap.size w (W.drewN nq) := ⟨hB.os, hB.tape, hB.output, hB.size, hB.block⟩
    exact hbd.trans ((Below.refl _ _).grown (grownBy_putObj' _ D _) (by have := hbd.size; omega) (fun r e => by cases e; omega))
  case stop =>
    rintro D c W hD h hK
    exact h.elim
end Go.Proofs.YtgobnjeankjkjaaGreatDoor

