/- Layer 17: what a walk is in memory. -/
import Derived.Test.YtinagjljebbceaaDoorOctJ
import Derived.Test.YtinagjljebbceaaDoorWkMath
import Derived.Maps.AppendAt
namespace Go.Proofs.YtinagjljebbceaaDoor
open Go.ChangeShapes Go.WideShapes Go.ChangeAt Go.RowKit
open Ep Oc Tr Wk
set_option linter.unusedVariables false
namespace Wk
/-- all but the blocks of X is kept -/
structure Ch (X : Nat → Prop) (w w' : World) : Prop where
  os : w'.os = w.os
  tape : w'.tape = w.tape
  output : w'.output = w.output
  size : w.heap.size ≤ w'.heap.size
  block : ∀ k, k < w.heap.size → ¬ X k → w'.heap[k]? = w.heap[k]?
theorem Ch.refl (X : Nat → Prop) (w : World) : Ch X w w := ⟨rfl, rfl, rfl, Nat.le_refl _, fun _ _ _ => rfl⟩
theorem Ch.trans {X Y : Nat → Prop} {a b c : World} (h : Ch X a b) (k : Ch Y b c) (hXY : ∀ i, i < a.heap.size → Y i → X i) : Ch X a c :=
  ⟨k.os.trans h.os, k.tape.trans h.tape, k.output.trans h.output, Nat.le_trans h.size k.size, fun i hi hx => (k.block i (Nat.lt_of_lt_of_le hi h.size) (fun y => hx (hXY i hi y))).trans (h.block i hi hx)⟩
theorem Ch.of_below {X : Nat → Prop} {w w' : World} (h : Below w.heap.size w w') : Ch X w w' := ⟨h.os, h.tape, h.output, h.size, fun k hk _ => h.block k hk⟩
theorem Ch.of_in {X : Nat → Prop} {w w' : World} {g : Nat} (h : In g (g + 1) w w') (hg : X g) : Ch X w w' := ⟨h.os, h.tape, h.output, h.size, fun k hk hx => h.block k hk (by
  by_cases e : k = g
  · exact absurd (e ▸ hg) hx
  · omega)⟩
theorem Ch.of_grown {X : Nat → Prop} {w w' : World} {r : Option Nat} (h : w.grownBy w' r) (hg : ∀ k, r = some k → X k) : Ch X w w' := ⟨h.os, h.tape, h.output, h.size, fun k hk hx => h.block k hk (fun e => hx (hg k e.symm))⟩
theorem Ch.mono {X Y : Nat → Prop} {w w' : World} (h : Ch X w w') (hXY : ∀ i, i < w.heap.size → X i → Y i) : Ch Y w w' := ⟨h.os, h.tape, h.output, h.size, fun k hk hy => h.block k hk (fun x => hy (hXY k hk x))⟩
theorem Ch.below {X : Nat → Prop} {w w' : World} {B : Nat} (h : Ch X w w') (hX : ∀ i, i < w.heap.size → X i → B ≤ i) (hB : B ≤ w.heap.size) : Below B w w' := ⟨h.os, h.tape, h.output, h.size, fun k hk => h.block k (by omega) (fun x => by have := hX k (by omega) x; omega)⟩
theorem Ch.kp {X S : Nat → Prop} {w w' : World} (h : Ch X w w') (hS : ∀ k, S k → k < w.heap.size ∧ ¬ X k) : Kp S w w' := ⟨h.size, fun k hk => h.block k (hS k hk).1 (hS k hk).2⟩
theorem Ch.cell {X : Nat → Prop} {w w' : World} (h : Ch X w w') {p : Addr} (hp : p.block < w.heap.size) (hx : ¬ X p.block) : w'.cell? p = w.cell? p := World.cell?_of_block (w := w) (h.block _ hp hx)
theorem Ch.setCell {X : Nat → Prop} {a w : World} (h : Ch X a w) {p : Addr} (hp : a.heap.size ≤ p.block ∨ X p.block) (u : Value) : Ch X a (w.setCell p u) :=
  ⟨h.os, h.tape, h.output, by simp [World.setCell]; exact h.size, fun k hk hx => (Below.heap_setCell _ _ _ _ (by
    rintro rfl
    rcases hp with q | q
    · omega
    · exact hx q)).trans (h.block k hk hx)⟩
theorem Ch.alloc {X : Nat → Prop} {a w : World} (h : Ch X a w) (o : Obj) : Ch X a (w.alloc o) := h.trans (Ch.of_below (X := X) (alloc_below o)) (fun _ _ x => x)
theorem Ch.drewN {X : Nat → Prop} {a w : World} (h : Ch X a w) (n : Nat) : Ch X a (w.drewN n) := h.trans (Ch.of_below (X := X) (below_drewN (Below.refl _ _) n)) (fun _ _ x => x)
/-- a row of truths in memory of the call's own -/
def Bo (w : World) (base : Nat) (v : Value) (os : List Bool) : Prop :=
  (v = .slice none 0 0 ∧ os = []) ∨ ∃ g cap cur, v = .slice (some ⟨g, 0, none⟩) os.length cap ∧ base ≤ g ∧ w.heap[g]? = some (.cells cur 4 (0, 0)) ∧ os.length ≤ cap ∧ cap ≤ maxLen ∧ cur.size = cap ∧ cur.toList.take os.length = os.map Value.bool ∧ ∀ x ∈ cur.toList, ∃ b, x = .bool b
theorem Bo.slice {w : World} {base : Nat} {v : Value} {os : List Bool} (h : Bo w base v os) : ∃ a c, v = .slice a os.length c ∧ os.length ≤ c ∧ c ≤ 9223372036854775807 := by
  rcases h with ⟨rfl, rfl⟩ | ⟨g, cap, cur, rfl, _, _, h1, h2, _⟩
  · exact ⟨none, 0, rfl, by simp, by omega⟩
  · exact ⟨_, cap, rfl, h1, by unfold maxLen at h2; omega⟩
theorem lt_of_block {w : World} {g : Nat} {o : Obj} (h : w.heap[g]? = some o) : g < w.heap.size := by
  by_cases hlt : g < w.heap.size
  · exact hlt
  · simp [Array.getElem?_eq_none (Nat.le_of_not_lt hlt)] at h
theorem Bo.blk {w : World} {base : Nat} {v : Value} {os : List Bool} (h : Bo w base v os) {g : Nat} (hg : v.ownBlock = some g) : base ≤ g ∧ g < w.heap.size ∧ ∃ cur, w.heap[g]? = some (.cells cur 4 (0, 0)) ∧ ∀ x ∈ cur.toList, ∃ b, x = .bool b := by
  rcases h with ⟨rfl, rfl⟩ | ⟨g', cap, cur, rfl, h1, h2, h3, h4, h5, h6, h7⟩
  · simp [Value.ownBlock] at hg
  · simp only [Value.ownBlock, Option.some.injEq] at hg
    subst hg
    exact ⟨h1, lt_of_block h2, cur, h2, h7⟩
theorem Bo.keep {w w' : World} {base : Nat} {v : Value} {os : List Bool} (h : Bo w base v os) (hk : ∀ g, v.ownBlock = some g → w'.heap[g]? = w.heap[g]?) : Bo w' base v os := by
  rcases h with h | ⟨g, cap, cur, rfl, h1, h2, h3⟩
  · exact Or.inl h
  · exact Or.inr ⟨g, cap, cur, rfl, h1, (hk g rfl).trans h2, h3⟩
theorem Bo.nocell {w : World} {base : Nat} {v : Value} {os : List Bool} (h : Bo w base v os) {g : Nat} (hg : v.ownBlock = some g) {o : Nat} {x : Value} (hc : w.cell? ⟨g, o, none⟩ = some x) : ∃ b, x = .bool b := by
  obtain ⟨_, _, cur, h2, h7⟩ := h.blk hg
  simp [World.cell?, h2] at hc
  exact h7 x (by
    rw [Array.mem_toList_iff]
    exact Array.mem_of_getElem? hc)
theorem info_b : (Tryd.prog.info? 4).map (fun i => (i.zero, i.size, i.bytes)) = some (some (.bool false), 1, 1) := by kernel_rfl
theorem zeros_b (n : Nat) : ∀ x ∈ (Builtin.zeroCells (Value.bool false).cells n).toList, ∃ b, x = Value.bool b := by
  intro x hx
  simp [Builtin.zeroCells, Value.cells] at hx
  obtain ⟨i, _, hx⟩ := hx
  have e : i % 1 = 0 := by omega
  rw [e] at hx
  exact ⟨false, hx.symm⟩
theorem run_appB (w : World) {base : Nat} {v : Value} {os : List Bool} {b : Bool} {q : Nat} (h : Bo w base v os) (hc : w.cell? ⟨q, 0, none⟩ = some (.bool b)) (hl : os.length ≤ 100000000) (hb : base ≤ w.heap.size) (ty : TypeId) :
    ∃ v' w', (Builtin.append_ #[27, 27] ty #[v, .slice (some ⟨q, 0, none⟩) 1 1]).run Tryd.prog w = .ok v' w' ∧ Bo w' base v' (os ++ [b]) ∧ w.grownBy w' v.ownBlock ∧ (v'.ownBlock = v.ownBlock ∨ v'.ownBlock = some w.heap.size) := by
  obtain ⟨i, hi, hz0, hz1, hz2⟩ := info_parts info_b
  have hn : ∀ j u, [Value.bool b][j]? = some u → w.cell? ((⟨q, 0, none⟩ : Addr).add j) = some u := by
    intro j u hj
    match j, hj with
    | 0, hj =>
      cases hj
      simpa [Addr.add] using hc
  have hmap : (os ++ [b]).map Value.bool = os.map Value.bool ++ [Value.bool b] := by simp
  rcases h with ⟨rfl, rfl⟩ | ⟨g, cap, cur, rfl, h1, h2, h3, h4, h5, h6, h7⟩
  · have hr := run_append_nil (P := Tryd.prog) w 27 ty 4 i (.bool false) Tryd.underlying27 hi hz0 ⟨q, 0, none⟩ 1 1 [.bool b] (by rw [hz1]; rfl) hn (by omega) (by omega) (by rw [hz2]; omega)
    have hge := grownCap_ge w 1 0 4
    refine ⟨_, _, hr, Or.inr ⟨w.heap.size, _, _, rfl, hb, heap_alloc_new w.drew _, by simpa using hge, grownCap_le_maxLen w 1 0 _ (by decide), ?_, ?_, ?_⟩, ⟨rfl, rfl, rfl, by simp, fun k hk _ => heap_alloc_old w.drew _ (r := k) hk⟩, Or.inr rfl⟩
    · simp only [Array.size_append, List.size_toArray, size_zeroCells]
      have : (Value.bool false).cells.size = 1 := rfl
      simp [this]; omega
    · simp
    · intro x hx
      simp only [Array.toList_append, List.mem_append] at hx
      rcases hx with hx | hx
      · simp at hx; exact ⟨b, hx⟩
      · exact zeros_b _ x hx
  · by_cases hroom : os.length + 1 ≤ cap
    · have hr := run_append_room (P := Tryd.prog) w 27 ty 4 i Tryd.underlying27 hi g os.length cap cur h2 ⟨q, 0, none⟩ 1 1 [.bool b] (by rw [hz1]; rfl) hn (fun u hu => by rw [List.mem_singleton.1 hu]; rfl) hroom (by rw [hz1, h5]; simpa using hroom)
      refine ⟨_, _, hr, Or.inr ⟨g, cap, _, by simp, h1, setRow_heap w g cur _ _ _ h2, by simpa using hroom, h4, ?_, ?_, ?_⟩, ⟨rfl, rfl, rfl, by simp, fun k _ hk => setRow_other w g k _ (fun e => hk (by simp [Value.ownBlock, e]))⟩, Or.inl rfl⟩
      · simp only [List.size_toArray, List.length_append, List.length_take, List.length_drop, Array.length_toList, hz1]
        simp; omega
      · simp only [hz1, Nat.mul_one]
        rw [h6, hmap, List.take_append_of_le_length (by simp), List.take_of_length_le (by simp)]
      · intro x hx
        simp only [List.mem_append] at hx
        rcases hx with (hx | hx) | hx
        · exact h7 x (List.mem_of_mem_take hx)
        · simp at hx; exact ⟨b, hx⟩
        · exact h7 x (List.mem_of_mem_drop hx)
    · have hol : ∀ j u, (os.map Value.bool)[j]? = some u → w.cell? ((⟨g, 0, none⟩ : Addr).add j) = some u := by
        intro j u hj
        have hadd : (⟨g, 0, none⟩ : Addr).add j = ⟨g, j, none⟩ := by unfold Addr.add; split <;> simp_all
        rw [hadd, cell_of_row w g j cur _ (0, 0) h2]
        rw [← h6, List.getElem?_take] at hj
        split at hj
        · simpa using hj
        · cases hj
      have hr := run_append_grow (P := Tryd.prog) w 27 ty 4 i (.bool false) Tryd.underlying27 hi hz0 ⟨g, 0, none⟩ os.length cap (os.map Value.bool) (by rw [hz1]; simp) hol ⟨q, 0, none⟩ 1 1 [.bool b] (by rw [hz1]; rfl) hn (by omega) (by omega) (growslice_fits (by omega) (by rw [hz2]; omega))
      have hge := grownCap_ge w (os.length + 1) cap 4
      refine ⟨_, _, hr, Or.inr ⟨w.heap.size, grownCap w (os.length + 1) cap 4, _, by simp, hb, heap_alloc_new w.drew _, by simpa using hge, grownCap_le_maxLen w _ cap _ (by unfold maxLen; omega), ?_, ?_, ?_⟩, ⟨rfl, rfl, rfl, by simp, fun k hk _ => heap_alloc_old w.drew _ (r := k) hk⟩, Or.inr rfl⟩
      · simp only [Array.size_append, List.size_toArray, size_zeroCells]
        have : (Value.bool false).cells.size = 1 := rfl
        simp [this]; omega
      · simp only [Array.toList_append, hmap]
        rw [List.take_append_of_le_length (by simp), List.take_of_length_le (by simp)]
      · intro x hx
        simp only [Array.toList_append, List.mem_append] at hx
        rcases hx with (hx | hx) | hx
        · obtain ⟨y, _, rfl⟩ := List.mem_map.1 hx
          exact ⟨y, rfl⟩
        · simp at hx; exact ⟨b, hx⟩
        · exact zeros_b _ x hx
end Wk
/-- a walk over l, at k: block gw is it, gr its reader; v: the orders os so far -/
structure WkS (w0 w : World) (gw gr : Nat) (D : Int) (l : List UInt8) (k : Nat) (v : Value) (os : List Bool) : Prop where
  bel : Below w0.heap.size w0 w
  rd : Rd w gr l k false
  wk : S3 w gw 122 (.pointer (some ⟨gr, 0, none⟩)) (.int .i64 D) v
  row : Bo w w0.heap.size v os
  lo : w0.heap.size ≤ gr
  lo2 : w0.heap.size ≤ gw
namespace Wk
/-- the blocks that a walk turns -/
def Ex (gw gr : Nat) (v : Value) (k : Nat) : Prop := k = gr ∨ k = gw ∨ v.ownBlock = some k
end Wk
section
variable {w0 w : World} {gw gr : Nat} {D : Int} {l : List UInt8} {k : Nat} {v : Value} {os : List Bool}
theorem WkS.ne (h : WkS w0 w gw gr D l k v os) : gr ≠ gw := by
  rintro rfl
  obtain ⟨a, n, c, p, h1, _⟩ := h.rd
  have e1 := h1.cells.1
  rw [h.wk.cells.1] at e1
  cases e1
theorem WkS.obw (h : WkS w0 w gw gr D l k v os) : v.ownBlock ≠ some gw := by
  intro e
  obtain ⟨b, hb⟩ := h.row.nocell e h.wk.cells.1
  cases hb
theorem WkS.obr (h : WkS w0 w gw gr D l k v os) : v.ownBlock ≠ some gr := by
  intro e
  obtain ⟨a, n, c, p, h1, _⟩ := h.rd
  obtain ⟨b, hb⟩ := h.row.nocell e h1.cells.1
  cases hb
theorem WkS.later {w' : World} (h : WkS w0 w gw gr D l k v os) (hb : Below w.heap.size w w') : WkS w0 w' gw gr D l k v os :=
  ⟨h.bel.trans (hb.mono h.bel.size), h.rd.later hb, h.wk.later hb, h.row.keep (fun g hg => hb.block g (h.row.blk hg).2.1), h.lo, h.lo2⟩
theorem WkS.read {w' : World} {k' : Nat} (h : WkS w0 w gw gr D l k v os) (hR : Rd w' gr l k' false) (hI : In gr (gr + 1) w w') : WkS w0 w' gw gr D l k' v os := by
  have hne := h.ne
  refine ⟨?_, hR, h.wk.inn hI (by omega), h.row.keep (fun g hg => hI.block g (h.row.blk hg).2.1 (by
    have := h.obr
    rw [hg] at this
    have : g ≠ gr := fun e => this (by rw [e])
    omega)), h.lo, h.lo2⟩
  have hlo := h.lo
  exact ⟨hI.os.trans h.bel.os, hI.tape.trans h.bel.tape, hI.output.trans h.bel.output, Nat.le_trans h.bel.size hI.size, fun i hi => (hI.block i (Nat.lt_of_lt_of_le hi h.bel.size) (by omega)).trans (h.bel.block i hi)⟩
theorem WkS.err (h : WkS w0 w gw gr D l k v os) (hE : ErrVar w0) : ErrVar w := hE.later h.bel
theorem WkS.le (h : WkS w0 w gw gr D l k v os) : k ≤ l.length := h.rd.le.1
theorem WkS.ex_lo (h : WkS w0 w gw gr D l k v os) : ∀ i, Ex gw gr v i → w0.heap.size ≤ i := by
  rintro i (rfl | rfl | e)
  · exact h.lo
  · exact h.lo2
  · exact (h.row.blk e).1
theorem WkS.lts (h : WkS w0 w gw gr D l k v os) : gr < w.heap.size ∧ gw < w.heap.size := by
  obtain ⟨a, n, c, p, h1, _⟩ := h.rd
  exact ⟨h1.lt, h.wk.lt⟩
/-- the orders have grown -/
theorem WkS.app {wA wB : World} {v' : Value} {b : Bool} (h : WkS w0 w gw gr D l k v os) (hA : Below w.heap.size w wA) (hg : wA.grownBy wB v.ownBlock) (ho : v'.ownBlock = v.ownBlock ∨ v'.ownBlock = some wA.heap.size) (hB : Bo wB w0.heap.size v' (os ++ [b])) :
    WkS w0 (wB.setCell ⟨gw, 2, none⟩ v') gw gr D l k v' (os ++ [b]) ∧ Ch (Ex gw gr v) w (wB.setCell ⟨gw, 2, none⟩ v') ∧ (v'.ownBlock = v.ownBlock ∨ ∃ g, v'.ownBlock = some g ∧ w.heap.size ≤ g) ∧ wB.cell? ⟨gw, 2, none⟩ = some v ∧ wB.frozen? ⟨gw, 2, none⟩ = false := by
  have hlt := h.lts
  have hne := h.ne
  have hs := hA.size
  have hA2 := h.later hA
  have hwB : S3 wB gw 122 (.pointer (some ⟨gr, 0, none⟩)) (.int .i64 D) v := by
    unfold S3
    rw [hg.block gw (by omega) (fun e => h.obw e.symm)]
    exact hA2.wk
  have hrB : Rd wB gr l k false := by
    obtain ⟨a, n, c, p, h1, h2, h3, h4, h5⟩ := hA2.rd
    obtain rfl : p = none := by
      rcases h5 with ⟨_, q⟩ | ⟨q, _⟩
      · exact q
      · cases q
    refine ⟨a, n, c, none, ?_, ?_, h3, h4, Or.inl ⟨rfl, rfl⟩⟩
    · unfold S3
      rw [hg.block gr (by omega) (fun e => h.obr e.symm)]
      exact h1
    · refine ⟨⟨h2.1.1, ?_⟩, h2.2⟩
      by_cases hn : 0 < n
      · obtain ⟨bb, o, rfl, hlt2, hc⟩ := h2.cells hn
        refine Or.inr ⟨bb, o, rfl, Nat.lt_of_lt_of_le hlt2 hg.size, fun i hi => ?_⟩
        rw [nz_at, ← hc i hi]
        refine World.cell?_of_block (hg.block bb hlt2 (fun e => ?_))
        obtain ⟨x, hx⟩ := hA2.row.nocell e.symm (hc 0 hn)
        cases hx
      · exact Or.inl (by omega)
  have hne2 : v'.ownBlock ≠ some gw := by
    intro e
    obtain ⟨x, hx⟩ := hB.nocell e hwB.cells.1
    cases hx
  have hch : Ch (Ex gw gr v) w (wB.setCell ⟨gw, 2, none⟩ v') := by
    have h1 : Ch (Ex gw gr v) w wB := (Ch.of_below (X := Ex gw gr v) hA).trans (Ch.of_grown (X := Ex gw gr v) hg (fun k e => Or.inr (Or.inr e))) (fun _ _ x => x)
    exact h1.setCell (Or.inr (Or.inr (Or.inl rfl))) _
  have hI : In gw (gw + 1) wB (wB.setCell ⟨gw, 2, none⟩ v') := (In.refl _ _ _).set1 _ _
  refine ⟨⟨?_, ?_, hwB.set2 v', hB.keep (fun g e => Below.heap_setCell _ _ _ _ (fun q => hne2 (by rw [e]; exact congrArg some q))), h.lo, h.lo2⟩, hch, ?_, hwB.cells.2.2, hwB.frozen 2⟩
  · exact h.bel.trans (hch.below (fun i _ x => h.ex_lo i x) h.bel.size)
  · obtain ⟨a, n, c, p, h1, h2, h3, h4, h5⟩ := hrB
    obtain rfl : p = none := by
      rcases h5 with ⟨_, q⟩ | ⟨q, _⟩
      · exact q
      · cases q
    refine ⟨a, n, c, none, h1.inn hI (by omega), h2.inn hI (fun hn => ?_), h3, h4, Or.inl ⟨rfl, rfl⟩⟩
    obtain ⟨bb, o, rfl, hlt2, hc⟩ := h2.cells hn
    refine off_of fun e => ?_
    subst e
    have h0 := hc 0 hn
    obtain ⟨e0, e1, e2⟩ := hwB.cells
    obtain ⟨va, vc, rfl, _⟩ := h.row.slice
    simp only [Nat.add_zero] at h0
    rcases (by omega : o = 0 ∨ o = 1 ∨ o = 2 ∨ 3 ≤ o) with rfl | rfl | rfl | q
    · rw [e0] at h0; cases h0
    · rw [e1] at h0; cases h0
    · rw [e2] at h0; cases h0
    · rw [hwB.far q] at h0; cases h0
  · rcases ho with e | e
    · exact Or.inl e
    · exact Or.inr ⟨_, e, hs⟩
/-- the exceptions later on are the same or new -/
theorem ex_sub {v v' : Value} {n : Nat} (ho : v'.ownBlock = v.ownBlock ∨ ∃ g, v'.ownBlock = some g ∧ n ≤ g) : ∀ i, i < n → Ex gw gr v' i → Ex gw gr v i := by
  rintro i hi (e | e | e)
  · exact Or.inl e
  · exact Or.inr (Or.inl e)
  · rcases ho with q | ⟨g, q, hg⟩
    · exact Or.inr (Or.inr (q ▸ e))
    · rw [q] at e
      cases e
      omega
end
end Go.Proofs.YtinagjljebbceaaDoor
