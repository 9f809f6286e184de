import Derived.Maps.AppendAt
import Derived.WalkLawsBesides
import Derived.Below
import Derived.BigQuiet
import Derived.ChangeOld
import Derived.Deep.DeepCutAuto
import Derived.Deep.QuietTactic
import Derived.Deep.RegionHeld3
import Derived.Deep.RegionLaw
import Derived.Deep.RegionWith
import Derived.LaidEql
import Derived.Laws.BitsAllLaws
import Derived.Laws.CopyRow
import Derived.Laws.IdiomCopy
import Derived.Laws.IdiomRangeMap
import Derived.Laws.Rows
import Derived.Laws.StructEq
import Derived.OpenShut
import Derived.OwnWalk
import Derived.ProofKit
import Derived.RowKitTokens
import Derived.ShutString
import Derived.Stop.Asserts
import Derived.WalkKit
import Derived.WalkSpells
import Derived.Test.YtgobnjeankjkjaaGreatDoorPb2
import Derived.Test.YtgobnjeankjkjaaGreatDoorPb12
/- Layer 17: what a walk is in memory. -/
namespace Go.Proofs.YtgobnjeankjkjaaGreatDoor
open Go.ChangeShapes Go.WideShapes Go.ChangeAt Go.RowKit
open Ep Oc Tr Wk
set_option linter.unusedVariables false
namespace Wk
/-- all but the blocks of X is kept -/
structure Ch (X : Nat → Prop) (w w' : World) : Prop where
  os : w'.os = w.os
  tape : w'.tape = w.tape
  output : w'.output = w.output
  size : w.heap.size ≤ w'.heap.size
  block : ∀ k, k < w.heap.size → ¬ X k → w'.heap[k]? = w.heap[k]?
theorem Ch.refl (X : Nat → Prop) (w : World) : Ch X w w := ⟨rfl, rfl, rfl, Nat.le_refl _, fun _ _ _ => rfl⟩
theorem Ch.trans {X Y : Nat → Prop} {a b c : World} (h : Ch X a b) (k : Ch Y b c) (hXY : ∀ i, i < a.heap.size → Y i → X i) : Ch X a c :=
  ⟨k.os.trans h.os, k.tape.trans h.tape, k.output.trans h.output, Nat.le_trans h.size k.size, fun i hi hx => (k.block i (Nat.lt_of_lt_of_le hi h.size) (fun y => hx (hXY i hi y))).trans (h.block i hi hx)⟩
theorem Ch.of_below {X : Nat → Prop} {w w' : World} (h : Below w.heap.size w w') : Ch X w w' := ⟨h.os, h.tape, h.output, h.size, fun k hk _ => h.block k hk⟩
theorem Ch.of_in {X : Nat → Prop} {w w' : World} {g : Nat} (h : In g (g + 1) w w') (hg : X g) : Ch X w w' := ⟨h.os, h.tape, h.output, h.size, fun k hk hx => h.block k hk (by
  by_cases e : k = g
  · exact absurd (e ▸ hg) hx
  · omega)⟩
theorem Ch.of_grown {X : Nat → Prop} {w w' : World} {r : Option Nat} (h : w.grownBy w' r) (hg : ∀ k, r = some k → X k) : Ch X w w' := ⟨h.os, h.tape, h.output, h.size, fun k hk hx => h.block k hk (fun e => hx (hg k e.symm))⟩
theorem Ch.mono {X Y : Nat → Prop} {w w' : World} (h : Ch X w w') (hXY : ∀ i, i < w.heap.size → X i → Y i) : Ch Y w w' := ⟨h.os, h.tape, h.output, h.size, fun k hk hy => h.block k hk (fun x => hy (hXY k hk x))⟩
theorem Ch.below {X : Nat → Prop} {w w' : World} {B : Nat} (h : Ch X w w') (hX : ∀ i, i < w.heap.size → X i → B ≤ i) (hB : B ≤ w.heap.size) : Below B w w' := ⟨h.os, h.tape, h.output, h.size, fun k hk => h.block k (by omega) (fun x => by have := hX k (by omega) x; omega)⟩
theorem Ch.kp {X S : Nat → Prop} {w w' : World} (h : Ch X w w') (hS : ∀ k, S k → k < w.heap.size ∧ ¬ X k) : Kp S w w' := ⟨h.size, fun k hk => h.block k (hS k hk).1 (hS k hk).2⟩
theorem Ch.cell {X : Nat → Prop} {w w' : World} (h : Ch X w w') {p : Addr} (hp : p.block < w.heap.size) (hx : ¬ X p.block) : w'.cell? p = w.cell? p := World.cell?_of_block (w := w) (h.block _ hp hx)
theorem Ch.setCell {X : Nat → Prop} {a w : World} (h : Ch X a w) {p : Addr} (hp : a.heap.size ≤ p.block ∨ X p.block) (u : Value) : Ch X a (w.setCell p u) :=
  ⟨h.os, h.tape, h.output, by simp [World.setCell]; exact h.size, fun k hk hx => (Below.heap_setCell _ _ _ _ (by
    rintro rfl
    rcases hp with q | q
    · omega
    · exact hx q)).trans (h.block k hk hx)⟩
theorem Ch.alloc {X : Nat → Prop} {a w : World} (h : Ch X a w) (o : Obj) : Ch X a (w.alloc o) := h.trans (Ch.of_below (X := X) (alloc_below o)) (fun _ _ x => x)
theorem Ch.drewN {X : Nat → Prop} {a w : World} (h : Ch X a w) (n : Nat) : Ch X a (w.drewN n) := h.trans (Ch.of_below (X := X) (below_drewN (Below.refl _ _) n)) (fun _ _ x => x)
/-- a row of truths in memory of the call's own -/
def Bo (w : World) (base : Nat) (v : Value) (os : List Bool) : Prop :=
  (v = .slice none 0 0 ∧ os = []) ∨ ∃ g cap cur, v = .slice (some ⟨g, 0, none⟩) os.length cap ∧ base ≤ g ∧ w.heap[g]? = some (.cells cur 4 (0, 0)) ∧ os.length ≤ cap ∧ cap ≤ maxLen ∧ cur.size = cap ∧ cur.toList.take os.length = os.map Value.bool ∧ ∀ x ∈ cur.toList, ∃ b, x = .bool b
theorem Bo.slice {w : World} {base : Nat} {v : Value} {os : List Bool} (h : Bo w base v os) : ∃ a c, v = .slice a os.length c ∧ os.length ≤ c ∧ c ≤ 9223372036854775807 := by
  rcases h with ⟨rfl, rfl⟩ | ⟨g, cap, cur, rfl, _, _, h1, h2, _⟩
  · exact ⟨none, 0, rfl, by simp, by omega⟩
  · exact ⟨_, cap, rfl, h1, by unfold maxLen at h2; omega⟩
theorem lt_of_block {w : World} {g : Nat} {o : Obj} (h : w.heap[g]? = some o) : g < w.heap.size := by
  by_cases hlt : g < w.heap.size
  · exact hlt
  · simp [Array.getElem?_eq_none (Nat.le_of_not_lt hlt)] at h
theorem Bo.blk {w : World} {base : Nat} {v : Value} {os : List Bool} (h : Bo w base v os) {g : Nat} (hg : v.ownBlock = some g) : base ≤ g ∧ g < w.heap.size ∧ ∃ cur, w.heap[g]? = some (.cells cur 4 (0, 0)) ∧ ∀ x ∈ cur.toList, ∃ b, x = .bool b := by
  rcases h with ⟨rfl, rfl⟩ | ⟨g', cap, cur, rfl, h1, h2, h3, h4, h5, h6, h7⟩
  · simp [Value.ownBlock] at hg
  · simp only [Value.ownBlock, Option.some.injEq] at hg
    subst hg
    exact ⟨h1, lt_of_block h2, cur, h2, h7⟩
theorem Bo.keep {w w' : World} {base : Nat} {v : Value} {os : List Bool} (h : Bo w base v os) (hk : ∀ g, v.ownBlock = some g → w'.heap[g]? = w.heap[g]?) : Bo w' base v os := by
  rcases h with h | ⟨g, cap, cur, rfl, h1, h2, h3⟩
  · exact Or.inl h
  · exact Or.inr ⟨g, cap, cur, rfl, h1, (hk g rfl).trans h2, h3⟩
theorem Bo.nocell {w : World} {base : Nat} {v : Value} {os : List Bool} (h : Bo w base v os) {g : Nat} (hg : v.ownBlock = some g) {o : Nat} {x : Value} (hc : w.cell? ⟨g, o, none⟩ = some x) : ∃ b, x = .bool b := by
  obtain ⟨_, _, cur, h2, h7⟩ := h.blk hg
  simp [World.cell?, h2] at hc
  exact h7 x (by
    rw [Array.mem_toList_iff]
    exact Array.mem_of_getElem? hc)
theorem info_b : (Tryz.prog.info? 4).map (fun i => (i.zero, i.size, i.bytes)) = some (some (.bool false), 1, 1) := by kernel_rfl
theorem zeros_b (n : Nat) : ∀ x ∈ (Builtin.zeroCells (Value.bool false).cells n).toList, ∃ b, x = Value.bool b := by
  intro x hx
  simp [Builtin.zeroCells, Value.cells] at hx
  obtain ⟨i, _, hx⟩ := hx
  have e : i % 1 = 0 := by omega
  rw [e] at hx
  exact ⟨false, hx.symm⟩
theorem run_appB (w : World) {base : Nat} {v : Value} {os : List Bool} {b : Bool} {q : Nat} (h : Bo w base v os) (hc : w.cell? ⟨q, 0, none⟩ = some (.bool b)) (hl : os.length ≤ 100000000) (hb : base ≤ w.heap.size) (ty : TypeId) :
    ∃ v' w', (Builtin.append_ #[53, 53] ty #[v, .slice (some ⟨q, 0, none⟩) 1 1]).run Tryz.prog w = .ok v' w' ∧ Bo w' base v' (os ++ [b]) ∧ w.grownBy w' v.ownBlock ∧ (v'.ownBlock = v.ownBlock ∨ v'.ownBlock = some w.heap.size) := by
  obtain ⟨i, hi, hz0, hz1, hz2⟩ := info_parts info_b
  have hn : ∀ j u, [Value.bool b][j]? = some u → w.cell? ((⟨q, 0, none⟩ : Addr).add j) = some u := by
    intro j u hj
    match j, hj with
    | 0, hj =>
      cases hj
      simpa [Addr.add] using hc
  have hmap : (os ++ [b]).map Value.bool = os.map Value.bool ++ [Value.bool b] := by simp
  rcases h with ⟨rfl, rfl⟩ | ⟨g, cap, cur, rfl, h1, h2, h3, h4, h5, h6, h7⟩
  · have hr := run_append_nil (P := Tryz.prog) w 53 ty 4 i (.bool false) Tryz.underlying53 hi hz0 ⟨q, 0, none⟩ 1 1 [.bool b] (by rw [hz1]; rfl) hn (by omega) (by omega) (by rw [hz2]; omega)
    have hge := grownCap_ge w 1 0 4
    refine ⟨_, _, hr, Or.inr ⟨w.heap.size, _, _, rfl, hb, heap_alloc_new w.drew _, by simpa using hge, grownCap_le_maxLen w 1 0 _ (by decide), ?_, ?_, ?_⟩, ⟨rfl, rfl, rfl, by simp, fun k hk _ => heap_alloc_old w.drew _ (r := k) hk⟩, Or.inr rfl⟩
    · simp only [Array.size_append, List.size_toArray, size_zeroCells]
      have : (Value.bool false).cells.size = 1 := rfl
      simp [this]; omega
    · simp
    · intro x hx
      simp only [Array.toList_append, List.mem_append] at hx
      rcases hx with hx | hx
      · simp at hx; exact ⟨b, hx⟩
      · exact zeros_b _ x hx
  · by_cases hroom : os.length + 1 ≤ cap
    · have hr := run_append_room (P := Tryz.prog) w 53 ty 4 i Tryz.underlying53 hi g os.length cap cur h2 ⟨q, 0, none⟩ 1 1 [.bool b] (by rw [hz1]; rfl) hn (fun u hu => by rw [List.mem_singleton.1 hu]; rfl) hroom (by rw [hz1, h5]; simpa using hroom)
      refine ⟨_, _, hr, Or.inr ⟨g, cap, _, by simp, h1, setRow_heap w g cur _ _ _ h2, by simpa using hroom, h4, ?_, ?_, ?_⟩, ⟨rfl, rfl, rfl, by simp, fun k _ hk => setRow_other w g k _ (fun e => hk (by simp [Value.ownBlock, e]))⟩, Or.inl rfl⟩
      · simp only [List.size_toArray, List.length_append, List.length_take, List.length_drop, Array.length_toList, hz1]
        simp; omega
      · simp only [hz1, Nat.mul_one]
        rw [h6, hmap, List.take_append_of_le_length (by simp), List.take_of_length_le (by simp)]
      · intro x hx
        simp only [List.mem_append] at hx
        rcases hx with (hx | hx) | hx
        · exact h7 x (List.mem_of_mem_take hx)
        · simp at hx; exact ⟨b, hx⟩
        · exact h7 x (List.mem_of_mem_drop hx)
    · have hol : ∀ j u, (os.map Value.bool)[j]? = some u → w.cell? ((⟨g, 0, none⟩ : Addr).add j) = some u := by
        intro j u hj
        have hadd : (⟨g, 0, none⟩ : Addr).add j = ⟨g, j, none⟩ := by unfold Addr.add; split <;> simp_all
        rw [hadd, cell_of_row w g j cur _ (0, 0) h2]
        rw [← h6, List.getElem?_take] at hj
        split at hj
        · simpa using hj
        · cases hj
      have hr := run_append_grow (P := Tryz.prog) w 53 ty 4 i (.bool false) Tryz.underlying53 hi hz0 ⟨g, 0, none⟩ os.length cap (os.map Value.bool) (by rw [hz1]; simp) hol ⟨q, 0, none⟩ 1 1 [.bool b] (by rw [hz1]; rfl) hn (by omega) (by omega) (growslice_fits (by omega) (by rw [hz2]; omega))
      have hge := grownCap_ge w (os.length + 1) cap 4
      refine ⟨_, _, hr, Or.inr ⟨w.heap.size, grownCap w (os.length + 1) cap 4, _, by simp, hb, heap_alloc_new w.drew _, by simpa using hge, grownCap_le_maxLen w _ cap _ (by unfold maxLen; omega), ?_, ?_, ?_⟩, ⟨rfl, rfl, rfl, by simp, fun k hk _ => heap_alloc_old w.drew _ (r := k) hk⟩, Or.inr rfl⟩
      · simp only [Array.size_append, List.size_toArray, size_zeroCells]
        have : (Value.bool false).cells.size = 1 := rfl
        simp [this]; omega
      · simp only [Array.toList_append, hmap]
        rw [List.take_append_of_le_length (by simp), List.take_of_length_le (by simp)]
      · intro x hx
        simp only [Array.toList_append, List.mem_append] at hx
        rcases hx with (hx | hx) | hx
        · obtain ⟨y, _, rfl⟩ := List.mem_map.1 hx
          exact ⟨y, rfl⟩
        · simp at hx; exact ⟨b, hx⟩
        · exact zeros_b _ x hx
end Wk
/-- a walk over l, at k: block gw is it, gr its reader; v: the orders os so far -/
structure WkS (w0 w : World) (gw gr : Nat) (D : Int) (l : List UInt8) (k : Nat) (v : Value) (os : List Bool) : Prop where
  bel : Below w0.heap.size w0 w
  rd : Rd w gr l k false
  wk : S3 w gw 123 (.pointer (some ⟨gr, 0, none⟩)) (.int .i64 D) v
  row : Bo w w0.heap.size v os
  lo : w0.heap.size ≤ gr
  lo2 : w0.heap.size ≤ gw
namespace Wk
/-- the blocks that a walk turns -/
def Ex (gw gr : Nat) (v : Value) (k : Nat) : Prop := k = gr ∨ k = gw ∨ v.ownBlock = some k
end Wk
section
variable {w0 w : World} {gw gr : Nat} {D : Int} {l : List UInt8} {k : Nat} {v : Value} {os : List Bool}
theorem WkS.ne (h : WkS w0 w gw gr D l k v os) : gr ≠ gw := by
  rintro rfl
  obtain ⟨a, n, c, p, h1, _⟩ := h.rd
  have e1 := h1.cells.1
  rw [h.wk.cells.1] at e1
  cases e1
theorem WkS.obw (h : WkS w0 w gw gr D l k v os) : v.ownBlock ≠ some gw := by
  intro e
  obtain ⟨b, hb⟩ := h.row.nocell e h.wk.cells.1
  cases hb
theorem WkS.obr (h : WkS w0 w gw gr D l k v os) : v.ownBlock ≠ some gr := by
  intro e
  obtain ⟨a, n, c, p, h1, _⟩ := h.rd
  obtain ⟨b, hb⟩ := h.row.nocell e h1.cells.1
  cases hb
theorem WkS.later {w' : World} (h : WkS w0 w gw gr D l k v os) (hb : Below w.heap.size w w') : WkS w0 w' gw gr D l k v os :=
  ⟨h.bel.trans (hb.mono h.bel.size), h.rd.later hb, h.wk.later hb, h.row.keep (fun g hg => hb.block g (h.row.blk hg).2.1), h.lo, h.lo2⟩
theorem WkS.read {w' : World} {k' : Nat} (h : WkS w0 w gw gr D l k v os) (hR : Rd w' gr l k' false) (hI : In gr (gr + 1) w w') : WkS w0 w' gw gr D l k' v os := by
  have hne := h.ne
  refine ⟨?_, hR, h.wk.inn hI (by omega), h.row.keep (fun g hg => hI.block g (h.row.blk hg).2.1 (by
    have := h.obr
    rw [hg] at this
    have : g ≠ gr := fun e => this (by rw [e])
    omega)), h.lo, h.lo2⟩
  have hlo := h.lo
  exact ⟨hI.os.trans h.bel.os, hI.tape.trans h.bel.tape, hI.output.trans h.bel.output, Nat.le_trans h.bel.size hI.size, fun i hi => (hI.block i (Nat.lt_of_lt_of_le hi h.bel.size) (by omega)).trans (h.bel.block i hi)⟩
theorem WkS.le (h : WkS w0 w gw gr D l k v os) : k ≤ l.length := h.rd.le.1
theorem WkS.ex_lo (h : WkS w0 w gw gr D l k v os) : ∀ i, Ex gw gr v i → w0.heap.size ≤ i := by
  rintro i (rfl | rfl | e)
  · exact h.lo
  · exact h.lo2
  · exact (h.row.blk e).1
theorem WkS.lts (h : WkS w0 w gw gr D l k v os) : gr < w.heap.size ∧ gw < w.heap.size := by
  obtain ⟨a, n, c, p, h1, _⟩ := h.rd
  exact ⟨h1.lt, h.wk.lt⟩
/-- the orders have grown -/
theorem WkS.app {wA wB : World} {v' : Value} {b : Bool} (h : WkS w0 w gw gr D l k v os) (hA : Below w.heap.size w wA) (hg : wA.grownBy wB v.ownBlock) (ho : v'.ownBlock = v.ownBlock ∨ v'.ownBlock = some wA.heap.size) (hB : Bo wB w0.heap.size v' (os ++ [b])) :
    WkS w0 (wB.setCell ⟨gw, 2, none⟩ v') gw gr D l k v' (os ++ [b]) ∧ Ch (Ex gw gr v) w (wB.setCell ⟨gw, 2, none⟩ v') ∧ (v'.ownBlock = v.ownBlock ∨ ∃ g, v'.ownBlock = some g ∧ w.heap.size ≤ g) ∧ wB.cell? ⟨gw, 2, none⟩ = some v ∧ wB.frozen? ⟨gw, 2, none⟩ = false := by
  have hlt := h.lts
  have hne := h.ne
  have hs := hA.size
  have hA2 := h.later hA
  have hwB : S3 wB gw 123 (.pointer (some ⟨gr, 0, none⟩)) (.int .i64 D) v := by
    unfold S3
    rw [hg.block gw (by omega) (fun e => h.obw e.symm)]
    exact hA2.wk
  have hrB : Rd wB gr l k false := by
    obtain ⟨a, n, c, p, h1, h2, h3, h4, h5⟩ := hA2.rd
    obtain rfl : p = none := by
      rcases h5 with ⟨_, q⟩ | ⟨q, _⟩
      · exact q
      · cases q
    refine ⟨a, n, c, none, ?_, ?_, h3, h4, Or.inl ⟨rfl, rfl⟩⟩
    · unfold S3
      rw [hg.block gr (by omega) (fun e => h.obr e.symm)]
      exact h1
    · refine ⟨⟨h2.1.1, ?_⟩, h2.2⟩
      by_cases hn : 0 < n
      · obtain ⟨bb, o, rfl, hlt2, hc⟩ := h2.cells hn
        refine Or.inr ⟨bb, o, rfl, Nat.lt_of_lt_of_le hlt2 hg.size, fun i hi => ?_⟩
        rw [nz_at, ← hc i hi]
        refine World.cell?_of_block (hg.block bb hlt2 (fun e => ?_))
        obtain ⟨x, hx⟩ := hA2.row.nocell e.symm (hc 0 hn)
        cases hx
      · exact Or.inl (by omega)
  have hne2 : v'.ownBlock ≠ some gw := by
    intro e
    obtain ⟨x, hx⟩ := hB.nocell e hwB.cells.1
    cases hx
  have hch : Ch (Ex gw gr v) w (wB.setCell ⟨gw, 2, none⟩ v') := by
    have h1 : Ch (Ex gw gr v) w wB := (Ch.of_below (X := Ex gw gr v) hA).trans (Ch.of_grown (X := Ex gw gr v) hg (fun k e => Or.inr (Or.inr e))) (fun _ _ x => x)
    exact h1.setCell (Or.inr (Or.inr (Or.inl rfl))) _
  have hI : In gw (gw + 1) wB (wB.setCell ⟨gw, 2, none⟩ v') := (In.refl _ _ _).set1 _ _
  refine ⟨⟨?_, ?_, hwB.set2 v', hB.keep (fun g e => Below.heap_setCell _ _ _ _ (fun q => hne2 (by rw [e]; exact congrArg some q))), h.lo, h.lo2⟩, hch, ?_, hwB.cells.2.2, hwB.frozen 2⟩
  · exact h.bel.trans (hch.below (fun i _ x => h.ex_lo i x) h.bel.size)
  · obtain ⟨a, n, c, p, h1, h2, h3, h4, h5⟩ := hrB
    obtain rfl : p = none := by
      rcases h5 with ⟨_, q⟩ | ⟨q, _⟩
      · exact q
      · cases q
    refine ⟨a, n, c, none, h1.inn hI (by omega), h2.inn hI (fun hn => ?_), h3, h4, Or.inl ⟨rfl, rfl⟩⟩
    obtain ⟨bb, o, rfl, hlt2, hc⟩ := h2.cells hn
    refine off_of fun e => ?_
    subst e
    have h0 := hc 0 hn
    obtain ⟨e0, e1, e2⟩ := hwB.cells
    obtain ⟨va, vc, rfl, _⟩ := h.row.slice
    simp only [Nat.add_zero] at h0
    rcases (by omega : o = 0 ∨ o = 1 ∨ o = 2 ∨ 3 ≤ o) with rfl | rfl | rfl | q
    · rw [e0] at h0; cases h0
    · rw [e1] at h0; cases h0
    · rw [e2] at h0; cases h0
    · rw [hwB.far q] at h0; cases h0
  · rcases ho with e | e
    · exact Or.inl e
    · exact Or.inr ⟨_, e, hs⟩
/-- the exceptions later on are the same or new -/
theorem ex_sub {v v' : Value} {n : Nat} (ho : v'.ownBlock = v.ownBlock ∨ ∃ g, v'.ownBlock = some g ∧ n ≤ g) : ∀ i, i < n → Ex gw gr v' i → Ex gw gr v i := by
  rintro i hi (e | e | e)
  · exact Or.inl e
  · exact Or.inr (Or.inl e)
  · rcases ho with q | ⟨g, q, hg⟩
    · exact Or.inr (Or.inr (q ▸ e))
    · rw [q] at e
      cases e
      omega
end
end Go.Proofs.YtgobnjeankjkjaaGreatDoor

/- Layer 17: what a walk reads: orders, kinds, counts, places. -/
namespace Go.Proofs.YtgobnjeankjkjaaGreatDoor
open Go.ChangeShapes Go.WideShapes Go.ChangeAt Go.RowKit
open Ep Oc Tr Wk
set_option linter.unusedVariables false
/-- an ending: given up, at that place, with that error -/
def Flw (e : Ending) (p c : Nat) : Prop := e = .panicked [{ v := .iface 161 (.agg #[.int .i64 (p : Int), .int .i64 (c : Int)]), recovered := false }]
/-- what a call of a walk that lays nothing comes to -/
def Pst {α : Type} (w0 w : World) (gw gr : Nat) (D : Int) (l : List UInt8) (v : Value) (os : List Bool) (r : Rs α) (val : α → Value) (e : Ending) (w' : World) : Prop :=
  match r with
  | .ok x k' => e = .returned (val x) ∧ WkS w0 w' gw gr D l k' v os ∧ Ch (Ex gw gr v) w w'
  | .bad p c => Flw e p c ∧ Below w0.heap.size w0 w'
namespace Wk
theorem word_rd {l : List UInt8} {k m x k' : Nat} {little : Bool} (h : word l k m little = .ok x k') : rV l k false m little = x ∧ rK l k false m = k' ∧ rF l k false m = false := by
  unfold word at h
  split at h
  · cases h
  · next hn =>
    injection h with h1 h2
    have : ¬ (false = true ∨ l.length - k < m) := by simp; omega
    unfold rV rK rF
    rw [if_neg this, if_neg this, decide_eq_false hn]
    exact ⟨h1, h2, rfl⟩
theorem word_no {l : List UInt8} {k m p c : Nat} {little : Bool} (h : word l k m little = .bad p c) : rK l k false m = k ∧ rF l k false m = true ∧ p = k ∧ c = 160 := by
  obtain ⟨h1, h2, h3⟩ := word_bad h
  unfold rK rF
  rw [if_pos (Or.inr h3), decide_eq_true h3]
  exact ⟨rfl, rfl, h1, h2⟩
end Wk
theorem WkS.fail {w0 w w' : World} {gw gr : Nat} {D : Int} {l : List UInt8} {k : Nat} {v : Value} {os : List Bool} (h : WkS w0 w gw gr D l k v os) (hI : In gr (gr + 1) w w') : S3 w' gw 123 (.pointer (some ⟨gr, 0, none⟩)) (.int .i64 D) v ∧ Below w0.heap.size w0 w' := by
  have hne := h.ne
  have hlo := h.lo
  refine ⟨h.wk.inn hI (by omega), ?_⟩
  exact ⟨hI.os.trans h.bel.os, hI.tape.trans h.bel.tape, hI.output.trans h.bel.output, Nat.le_trans h.bel.size hI.size, fun i hi => (hI.block i (Nat.lt_of_lt_of_le hi h.bel.size) (by omega)).trans (h.bel.block i hi)⟩
/-- a block in which no byte lies -/
def NoB (w : World) (b : Nat) : Prop := ∀ o x, w.cell? ⟨b, o, none⟩ ≠ some (.int .u8 x)
theorem NoB.one {w : World} {b : Nat} {t : TypeId} {f : Nat × Nat} {x : Value} (h : w.heap[b]? = some (.cells #[x] t f)) (h0 : ∀ z, x ≠ .int .u8 z) : NoB w b := by
  intro o z
  simp only [World.cell?, h]
  match o with
  | 0 => simpa using h0 z
  | o + 1 => simp
theorem NoB.two {w : World} {b : Nat} {t : TypeId} {f : Nat × Nat} {x y : Value} (h : w.heap[b]? = some (.cells #[x, y] t f)) (h0 : ∀ z, x ≠ .int .u8 z) (h1 : ∀ z, y ≠ .int .u8 z) : NoB w b := by
  intro o z
  simp only [World.cell?, h]
  match o with
  | 0 => simpa using h0 z
  | 1 => simpa using h1 z
  | o + 2 => simp
theorem WkS.inb {w0 w w' : World} {gw gr : Nat} {D : Int} {l : List UInt8} {k : Nat} {v : Value} {os : List Bool} (h : WkS w0 w gw gr D l k v os) {b : Nat} (hI : In b (b + 1) w w') (h0 : w0.heap.size ≤ b) (h1 : b ≠ gr) (h2 : b ≠ gw) (h3 : v.ownBlock ≠ some b) (hn : NoB w b) : WkS w0 w' gw gr D l k v os := by
  refine ⟨?_, ?_, h.wk.inn hI (by omega), h.row.keep (fun g hg => hI.block g (h.row.blk hg).2.1 (by
    have : g ≠ b := fun e => h3 (by rw [hg, e])
    omega)), h.lo, h.lo2⟩
  · exact ⟨hI.os.trans h.bel.os, hI.tape.trans h.bel.tape, hI.output.trans h.bel.output, Nat.le_trans h.bel.size hI.size, fun i hi => (hI.block i (Nat.lt_of_lt_of_le hi h.bel.size) (by omega)).trans (h.bel.block i hi)⟩
  · obtain ⟨a, n, c, p, q1, q2, q3, q4, q5⟩ := h.rd
    obtain rfl : p = none := by
      rcases q5 with ⟨_, q⟩ | ⟨q, _⟩
      · exact q
      · cases q
    refine ⟨a, n, c, none, q1.inn hI (by omega), q2.inn hI (fun hn' => ?_), q3, q4, Or.inl ⟨rfl, rfl⟩⟩
    obtain ⟨bb, o, rfl, hlt2, hc⟩ := q2.cells hn'
    refine off_of fun e => ?_
    subst e
    exact hn _ _ (hc 0 hn')
theorem set2_block {w : World} {b : Nat} {t : TypeId} {f : Nat × Nat} {x y : Value} (h : w.heap[b]? = some (.cells #[x, y] t f)) (x' y' : Value) : ((w.setCell ⟨b, 0, none⟩ x').setCell ⟨b, 1, none⟩ y').heap[b]? = some (.cells #[x', y'] t f) := by
  simp [World.setCell, Array.getElem?_modify, h]
set_option maxHeartbeats 1600000 in
theorem giveUp_any (p c : Nat) (w : World) :
    Calls Tryz.prog 56 #[.int .i64 (p : Int), .int .i64 (c : Int)] w fun e w' => Flw e p c ∧ w' = w := by
  go_enter Tryz.func56, Tryz.ntmps56
  go_wp2
  exact ⟨rfl, rfl, rfl⟩
theorem flw_of {e : Ending} {p c : Nat} (h : Flw e p c) : e = .panicked [{ v := .iface 161 (.agg #[.int .i64 (p : Int), .int .i64 (c : Int)]), recovered := false }] := h
set_option maxHeartbeats 1600000 in
theorem sure_u8 {w0 w : World} {gw gr : Nat} {D : Int} {l : List UInt8} {k : Nat} {v : Value} {os : List Bool} (h : WkS w0 w gw gr D l k v os) (x : Int) :
    Calls Tryz.prog 99 #[.pointer (some ⟨gw, 0, none⟩), .int .u8 x] w fun e w' => e = .returned (.int .u8 x) ∧ w' = w := by
  obtain ⟨c0, c1, c2⟩ := h.wk.cells
  have hr := h.rd
  clear h
  go_enter Tryz.func99, Tryz.ntmps99
  go_wp2_with fail
  refine (err16_none hr).mono ?_
  rintro e w1 ⟨rfl, rfl⟩
  go_wp2
  go_ret
  exact ⟨rfl, rfl⟩
set_option maxHeartbeats 1600000 in
theorem sure_u8_bad {w : World} {gw gr : Nat} {D : Int} {l : List UInt8} {k : Nat} {v : Value} (h : S3 w gw 123 (.pointer (some ⟨gr, 0, none⟩)) (.int .i64 D) v) (hr : Rd w gr l k true) (hE : ErrVar w) (x : Int) :
    Calls Tryz.prog 99 #[.pointer (some ⟨gw, 0, none⟩), .int .u8 x] w fun e w' => Flw e k 160 ∧ Below w.heap.size w w' := by
  obtain ⟨c0, c1, c2⟩ := h.cells
  go_enter Tryz.func99, Tryz.ntmps99
  go_wp2_with fail
  refine (err16_some hr).mono ?_
  rintro e w1 ⟨f, rfl, hF, hb1⟩
  have hE1 := hE.later hb1
  have hP := placeFault_any hF hE1
  have hC := fun (w' : World) (hb : Below w1.heap.size w1 w') => codeFault_any (hF.later hb) (hE1.later hb)
  clear hE hr h c0 c1 c2 hF hE1
  go_wp2_with fail
  refine hP.mono ?_
  rintro e w2 ⟨rfl, hb2⟩
  have hC2 := hC w2 hb2
  clear hP hC
  go_wp2_with fail
  refine hC2.mono ?_
  rintro e w3 ⟨rfl, hb3⟩
  have hB := hb1.trans ((hb2.trans (hb3.mono hb2.size)).mono hb1.size)
  have hG := giveUp_any k 160 w3
  clear hC2 hb1 hb2 hb3
  go_wp2_with fail
  refine hG.mono ?_
  rintro e w4 ⟨hf, rfl⟩
  rw [flw_of hf]
  go_wp2
  exact ⟨rfl, rfl, hB⟩
set_option maxHeartbeats 1600000 in
theorem sure_u32 {w0 w : World} {gw gr : Nat} {D : Int} {l : List UInt8} {k : Nat} {v : Value} {os : List Bool} (h : WkS w0 w gw gr D l k v os) (x : Int) :
    Calls Tryz.prog 101 #[.pointer (some ⟨gw, 0, none⟩), .int .u32 x] w fun e w' => e = .returned (.int .u32 x) ∧ w' = w := by
  obtain ⟨c0, c1, c2⟩ := h.wk.cells
  have hr := h.rd
  clear h
  go_enter Tryz.func101, Tryz.ntmps101
  go_wp2_with fail
  refine (err16_none hr).mono ?_
  rintro e w1 ⟨rfl, rfl⟩
  go_wp2
  go_ret
  exact ⟨rfl, rfl⟩
set_option maxHeartbeats 1600000 in
theorem sure_u32_bad {w : World} {gw gr : Nat} {D : Int} {l : List UInt8} {k : Nat} {v : Value} (h : S3 w gw 123 (.pointer (some ⟨gr, 0, none⟩)) (.int .i64 D) v) (hr : Rd w gr l k true) (hE : ErrVar w) (x : Int) :
    Calls Tryz.prog 101 #[.pointer (some ⟨gw, 0, none⟩), .int .u32 x] w fun e w' => Flw e k 160 ∧ Below w.heap.size w w' := by
  obtain ⟨c0, c1, c2⟩ := h.cells
  go_enter Tryz.func101, Tryz.ntmps101
  go_wp2_with fail
  refine (err16_some hr).mono ?_
  rintro e w1 ⟨f, rfl, hF, hb1⟩
  have hE1 := hE.later hb1
  have hP := placeFault_any hF hE1
  have hC := fun (w' : World) (hb : Below w1.heap.size w1 w') => codeFault_any (hF.later hb) (hE1.later hb)
  clear hE hr h c0 c1 c2 hF hE1
  go_wp2_with fail
  refine hP.mono ?_
  rintro e w2 ⟨rfl, hb2⟩
  have hC2 := hC w2 hb2
  clear hP hC
  go_wp2_with fail
  refine hC2.mono ?_
  rintro e w3 ⟨rfl, hb3⟩
  have hB := hb1.trans ((hb2.trans (hb3.mono hb2.size)).mono hb1.size)
  have hG := giveUp_any k 160 w3
  clear hC2 hb1 hb2 hb3
  go_wp2_with fail
  refine hG.mono ?_
  rintro e w4 ⟨hf, rfl⟩
  rw [flw_of hf]
  go_wp2
  exact ⟨rfl, rfl, hB⟩
set_option maxHeartbeats 1600000 in
theorem sure_u64 {w0 w : World} {gw gr : Nat} {D : Int} {l : List UInt8} {k : Nat} {v : Value} {os : List Bool} (h : WkS w0 w gw gr D l k v os) (x : Int) :
    Calls Tryz.prog 116 #[.pointer (some ⟨gw, 0, none⟩), .int .u64 x] w fun e w' => e = .returned (.int .u64 x) ∧ w' = w := by
  obtain ⟨c0, c1, c2⟩ := h.wk.cells
  have hr := h.rd
  clear h
  go_enter Tryz.func116, Tryz.ntmps116
  go_wp2_with fail
  refine (err16_none hr).mono ?_
  rintro e w1 ⟨rfl, rfl⟩
  go_wp2
  go_ret
  exact ⟨rfl, rfl⟩
set_option maxHeartbeats 1600000 in
theorem sure_u64_bad {w : World} {gw gr : Nat} {D : Int} {l : List UInt8} {k : Nat} {v : Value} (h : S3 w gw 123 (.pointer (some ⟨gr, 0, none⟩)) (.int .i64 D) v) (hr : Rd w gr l k true) (hE : ErrVar w) (x : Int) :
    Calls Tryz.prog 116 #[.pointer (some ⟨gw, 0, none⟩), .int .u64 x] w fun e w' => Flw e k 160 ∧ Below w.heap.size w w' := by
  obtain ⟨c0, c1, c2⟩ := h.cells
  go_enter Tryz.func116, Tryz.ntmps116
  go_wp2_with fail
  refine (err16_some hr).mono ?_
  rintro e w1 ⟨f, rfl, hF, hb1⟩
  have hE1 := hE.later hb1
  have hP := placeFault_any hF hE1
  have hC := fun (w' : World) (hb : Below w1.heap.size w1 w') => codeFault_any (hF.later hb) (hE1.later hb)
  clear hE hr h c0 c1 c2 hF hE1
  go_wp2_with fail
  refine hP.mono ?_
  rintro e w2 ⟨rfl, hb2⟩
  have hC2 := hC w2 hb2
  clear hP hC
  go_wp2_with fail
  refine hC2.mono ?_
  rintro e w3 ⟨rfl, hb3⟩
  have hB := hb1.trans ((hb2.trans (hb3.mono hb2.size)).mono hb1.size)
  have hG := giveUp_any k 160 w3
  clear hC2 hb1 hb2 hb3
  go_wp2_with fail
  refine hG.mono ?_
  rintro e w4 ⟨hf, rfl⟩
  rw [flw_of hf]
  go_wp2
  exact ⟨rfl, rfl, hB⟩
set_option maxHeartbeats 1600000 in
set_option maxRecDepth 100000 in
theorem order17_any {w0 w : World} {gw gr : Nat} {D : Int} {l : List UInt8} {k : Nat} {v : Value} {os : List Bool} (h : WkS w0 w gw gr D l k v os) (hE : ErrVar w0) :
    Calls Tryz.prog 81 #[.pointer (some ⟨gw, 0, none⟩)] w (Pst w0 w gw gr D l v os (ordS l k) (fun b => .bool b)) := by
  obtain ⟨c0, c1, c2⟩ := h.wk.cells
  have hA := at16_any h.rd
  have hB := byte16_any h.rd
  cases hw : word l k 1 false with
  | bad p c =>
    obtain ⟨e1, e2, rfl, rfl⟩ := word_no hw
    rw [e1, e2] at hB
    have HR : Hid (ordS l p = .bad p 160) := by show (word l p 1 false).bind _ = _; rw [hw]; rfl
    generalize ((rV l p false 1 false : Nat) : Int) = x at hB
    clear hw e1 e2
    go_enter Tryz.func81, Tryz.ntmps81
    go_wp2_with fail
    refine hA.mono ?_
    rintro e w1 ⟨rfl, rfl⟩
    clear hA
    go_wp2_with fail
    refine hB.mono ?_
    rintro e w2 ⟨rfl, hR, hI⟩
    obtain ⟨hS, hb⟩ := h.fail hI
    have hU := sure_u8_bad hS hR (hE.later hb) x
    clear hB c0 c1 c2 hS hR hI hE h
    go_wp2_with fail
    refine hU.mono ?_
    rintro e w3 ⟨hf, hb2⟩
    rw [flw_of hf]
    have hb3 := hb.trans (hb2.mono hb.size)
    go_wp2
    refine ⟨rfl, ?_⟩
    unfold Pst
    rw [HR.out]
    exact ⟨rfl, hb3⟩
  | ok x k' =>
    obtain ⟨e1, e2, e3⟩ := word_rd hw
    have hx := (word_ok hw).2.2
    rw [e1, e2, e3] at hB
    rw [Nat.pow_one] at hx
    clear e1 e2 e3
    have hW := fun w2 (hR : Rd w2 gr l k' false) (hI : In gr (gr + 1) w w2) => h.read hR hI
    have HC : Hid (∀ w2, In gr (gr + 1) w w2 → Ch (Ex gw gr v) w w2) := fun w2 hI => Ch.of_in hI (Or.inl rfl)
    have HO : Hid (ordS l k = if 1 < x then .bad k 170 else .ok (x == 1) k') := by show (word l k 1 false).bind _ = _; rw [hw]; rfl
    clear hw h
    go_enter Tryz.func81, Tryz.ntmps81
    go_wp2_with fail
    refine hA.mono ?_
    rintro e w1 ⟨rfl, rfl⟩
    clear hA
    go_wp2_with fail
    refine hB.mono ?_
    rintro e w2 ⟨rfl, hR, hI⟩
    have hS := hW w2 hR hI
    have hCh := HC.out w2 hI
    have hU := sure_u8 hS (x : Int)
    clear hB c0 c1 c2 hI hR hW
    go_wp2_with fail
    refine hU.mono ?_
    rintro e w3 ⟨rfl, rfl⟩
    clear hU
    by_cases hx1 : 1 < x
    · have t1 : decide ((x : Int) > 1) = true := by simp; omega
      have hG := giveUp_any k 170 w3
      have hbe := hS.bel
      clear hS hCh
      go_wp2_with fail
      refine hG.mono ?_
      rintro e w4 ⟨hf, rfl⟩
      rw [flw_of hf]
      clear hG
      go_wp2
      refine ⟨rfl, ?_⟩
      unfold Pst
      rw [HO.out, if_pos hx1]
      exact ⟨rfl, hbe⟩
    · have t1 : decide ((x : Int) > 1) = false := by simp; omega
      have t1' : decide (1 < (x : Int)) = false := by simp; omega
      have HE : Hid (((x : Int) == 1) = (x == 1)) := by show _ = _; rw [Bool.eq_iff_iff]; simp; omega
      go_wp2
      go_ret
      unfold Pst
      rw [HO.out, if_neg hx1]
      exact ⟨by rw [HE.out]; rfl, hS, hCh⟩
namespace Wk
theorem and_exp (x : Nat) : x &&& 9218868437227405312 = x / 4503599627370496 % 2048 * 4503599627370496 := by
  have e1 : (9218868437227405312 : Nat) = 2047 <<< 52 := by decide
  have e2 : x / 4503599627370496 % 2048 * 4503599627370496 = ((x >>> 52) &&& 2047) <<< 52 := by
    rw [Nat.shiftRight_eq_div_pow, show (2047 : Nat) = 2 ^ 11 - 1 by decide, Nat.and_two_pow_sub_one_eq_mod, Nat.shiftLeft_eq]
  rw [e1, e2]
  refine Nat.eq_of_testBit_eq fun i => ?_
  simp only [Nat.testBit_and, Nat.testBit_shiftLeft, Nat.testBit_shiftRight]
  by_cases hi : i ≥ 52
  · have : 52 + (i - 52) = i := by omega
    simp [hi, this]
  · simp [hi]
theorem fin_is {x : Nat} (hx : x < 18446744073709551616) : (bits .and .u64 (x : Int) 9218868437227405312 != 9218868437227405312) = finB x := by
  have := u64_and_nat x 9218868437227405312 hx (by decide)
  rw [show ((9218868437227405312 : Nat) : Int) = 9218868437227405312 from rfl] at this
  rw [this, and_exp]
  unfold finB
  rw [Bool.eq_iff_iff]
  simp only [bne_iff_ne, ne_eq]
  omega
theorem nan_is {x : Nat} (hx : x < 18446744073709551616) : decide (bits .andNot .u64 (x : Int) 9223372036854775808 > 9218868437227405312) = nanB x := by
  have := u64_andNot_nat x 9223372036854775808 hx (by decide)
  rw [show ((9223372036854775808 : Nat) : Int) = 9223372036854775808 from rfl, show (18446744073709551615 - 9223372036854775808 : Nat) = 2 ^ 63 - 1 by decide, Nat.and_two_pow_sub_one_eq_mod] at this
  rw [this]
  unfold nanB
  rw [Bool.eq_iff_iff]
  simp only [decide_eq_true_eq, Bool.and_eq_true, beq_iff_eq, bne_iff_ne, ne_eq]
  omega
end Wk
set_option maxHeartbeats 1600000 in
theorem isFinite_any {x : Nat} (hx : x < 18446744073709551616) (w : World) :
    Calls Tryz.prog 118 #[.int .u64 (x : Int)] w fun e w' => e = .returned (.bool (finB x)) ∧ w' = w := by
  have HF : Hid ((bits .and .u64 (x : Int) 9218868437227405312 != 9218868437227405312) = finB x) := fin_is hx
  go_enter Tryz.func118, Tryz.ntmps118
  go_wp2
  go_ret
  exact ⟨by rw [← HF.out]; rfl, rfl⟩
set_option maxHeartbeats 1600000 in
theorem isNaN_any {x : Nat} (hx : x < 18446744073709551616) (w : World) :
    Calls Tryz.prog 106 #[.int .u64 (x : Int)] w fun e w' => e = .returned (.bool (nanB x)) ∧ w' = w := by
  have HF : Hid (decide (bits .andNot .u64 (x : Int) 9223372036854775808 > 9218868437227405312) = nanB x) := nan_is hx
  go_enter Tryz.func106, Tryz.ntmps106
  go_wp2
  go_ret
  exact ⟨by rw [← HF.out]; rfl, rfl⟩
set_option maxHeartbeats 1600000 in
theorem isKind_any (x : Nat) (w : World) :
    Calls Tryz.prog 103 #[.int .i64 (x : Int)] w fun e w' => e = .returned (.bool (decide (1 ≤ x ∧ x ≤ 7))) ∧ w' = w := by
  by_cases h1 : 1 ≤ x
  · have t1 : decide ((x : Int) ≥ 1) = true := by simp; omega
    have HF : Hid (decide ((x : Int) ≤ 7) = decide (1 ≤ x ∧ x ≤ 7)) := by show _ = _; rw [Bool.eq_iff_iff]; simp; omega
    go_enter Tryz.func103, Tryz.ntmps103
    go_wp2
    go_ret
    exact ⟨by rw [← HF.out]; simp, rfl⟩
  · have t1 : decide ((x : Int) ≥ 1) = false := by simp; omega
    have HF : Hid (false = decide (1 ≤ x ∧ x ≤ 7)) := by show _ = _; rw [Bool.eq_iff_iff]; simp; omega
    go_enter Tryz.func103, Tryz.ntmps103
    go_wp2
    go_ret
    exact ⟨by rw [← HF.out]; rfl, rfl⟩
set_option maxHeartbeats 1600000 in
theorem fits17_any (home kind : Nat) (w : World) :
    Calls Tryz.prog 104 #[.int .i64 (home : Int), .int .i64 (kind : Int)] w fun e w' => e = .returned (.bool (fitsB home kind)) ∧ w' = w := by
  have HK : ∀ n : Nat, Hid (((kind : Int) == (n : Int)) = (kind == n)) := fun n => by show _ = _; rw [Bool.eq_iff_iff]; simp; omega
  by_cases h4 : home = 4
  · subst h4
    go_enter Tryz.func104, Tryz.ntmps104
    go_wp2
    go_ret
    exact ⟨by have := (HK 1).out; unfold fitsB; rw [if_pos rfl, ← this]; rfl, rfl⟩
  · have t4 : ((home : Int) == 4) = false := by simp; omega
    by_cases h5 : home = 5
    · subst h5
      go_enter Tryz.func104, Tryz.ntmps104
      go_wp2
      go_ret
      exact ⟨by have := (HK 2).out; unfold fitsB; rw [if_neg h4, if_pos rfl, ← this]; rfl, rfl⟩
    · have t5 : ((home : Int) == 5) = false := by simp; omega
      by_cases h6 : home = 6
      · subst h6
        go_enter Tryz.func104, Tryz.ntmps104
        go_wp2
        go_ret
        exact ⟨by have := (HK 3).out; unfold fitsB; rw [if_neg h4, if_neg h5, if_pos rfl, ← this]; rfl, rfl⟩
      · have t6 : ((home : Int) == 6) = false := by simp; omega
        go_enter Tryz.func104, Tryz.ntmps104
        go_wp2
        go_ret
        exact ⟨by unfold fitsB; rw [if_neg h4, if_neg h5, if_neg h6]; rfl, rfl⟩
set_option maxHeartbeats 1600000 in
theorem leastPart_any (kind : Nat) (w : World) :
    Calls Tryz.prog 89 #[.int .i64 (kind : Int)] w fun e w' => e = .returned (.int .i64 ((least kind : Nat) : Int)) ∧ w' = w := by
  by_cases h4 : kind = 4
  · subst h4
    go_enter Tryz.func89, Tryz.ntmps89
    go_wp2
    go_ret
    exact ⟨rfl, rfl⟩
  · have t4 : ((kind : Int) == 4) = false := by simp; omega
    go_enter Tryz.func89, Tryz.ntmps89
    go_wp2
    go_ret
    exact ⟨by unfold least; rw [if_neg h4]; rfl, rfl⟩
set_option maxHeartbeats 1600000 in
set_option maxRecDepth 100000 in
theorem kind17_any {w0 w : World} {gw gr : Nat} {D : Int} {l : List UInt8} {k : Nat} {v : Value} {os : List Bool} (h : WkS w0 w gw gr D l k v os) (hE : ErrVar w0) (home : Nat) (little : Bool) :
    Calls Tryz.prog 82 #[.pointer (some ⟨gw, 0, none⟩), .int .i64 (home : Int), .bool little] w (Pst w0 w gw gr D l v os (kindS l home k little) (fun n => .int .i64 (n : Int))) := by
  obtain ⟨c0, c1, c2⟩ := h.wk.cells
  have hA := at16_any h.rd
  have hB := word32_any (little := little) h.rd
  cases hw : word l k 4 little with
  | bad p c =>
    obtain ⟨e1, e2, rfl, rfl⟩ := word_no hw
    rw [e1, e2] at hB
    have HR : Hid (kindS l home p little = .bad p 160) := by show (word l p 4 little).bind _ = _; rw [hw]; rfl
    generalize ((rV l p false 4 little : Nat) : Int) = x at hB
    clear hw e1 e2
    go_enter Tryz.func82, Tryz.ntmps82
    go_wp2_with fail
    refine hA.mono ?_
    rintro e w1 ⟨rfl, rfl⟩
    clear hA
    go_wp2_with fail
    refine hB.mono ?_
    rintro e w2 ⟨rfl, hR, hI⟩
    obtain ⟨hS, hb⟩ := h.fail hI
    have hU := sure_u32_bad hS hR (hE.later hb) x
    clear hB c0 c1 c2 hS hR hI hE h
    go_wp2_with fail
    refine hU.mono ?_
    rintro e w3 ⟨hf, hb2⟩
    rw [flw_of hf]
    have hb3 := hb.trans (hb2.mono hb.size)
    go_wp2
    refine ⟨rfl, ?_⟩
    unfold Pst
    rw [HR.out]
    exact ⟨rfl, hb3⟩
  | ok x k' =>
    obtain ⟨e1, e2, e3⟩ := word_rd hw
    have hx := (word_ok hw).2.2
    rw [e1, e2, e3] at hB
    rw [show (256 : Nat) ^ 4 = 4294967296 by decide] at hx
    clear e1 e2 e3
    have hW := fun w2 (hR : Rd w2 gr l k' false) (hI : In gr (gr + 1) w w2) => h.read hR hI
    have HC : Hid (∀ w2, In gr (gr + 1) w w2 → Ch (Ex gw gr v) w w2) := fun w2 hI => Ch.of_in hI (Or.inl rfl)
    have HO : Hid (kindS l home k little = if x < 1 ∨ 7 < x then .bad k 171 else if fitsB home x = false then .bad k 172 else .ok x k') := by show (word l k 4 little).bind _ = _; rw [hw]; rfl
    clear hw h
    go_enter Tryz.func82, Tryz.ntmps82
    go_wp2_with fail
    refine hA.mono ?_
    rintro e w1 ⟨rfl, rfl⟩
    clear hA
    go_wp2_with fail
    refine hB.mono ?_
    rintro e w2 ⟨rfl, hR, hI⟩
    have hS := hW w2 hR hI
    have hCh := HC.out w2 hI
    have hU := sure_u32 hS (x : Int)
    clear hB c0 c1 c2 hI hR hW
    go_wp2_with fail
    refine hU.mono ?_
    rintro e w3 ⟨rfl, rfl⟩
    clear hU
    have hK := isKind_any x w3
    have hx8 : (x : Int) % 18446744073709551616 = (x : Int) := by omega
    by_cases hx1 : x < 1 ∨ 7 < x
    · have t1 : decide (1 ≤ x ∧ x ≤ 7) = false := by simp; omega
      rw [t1] at hK
      clear t1
      go_wp2_with fail
      refine hK.mono ?_
      rintro e w4 ⟨rfl, rfl⟩
      clear hK
      have hG := giveUp_any k 171 w4
      have hbe := hS.bel
      clear hS hCh
      go_wp2_with fail
      refine hG.mono ?_
      rintro e w5 ⟨hf, rfl⟩
      rw [flw_of hf]
      clear hG
      go_wp2
      refine ⟨rfl, ?_⟩
      unfold Pst
      rw [HO.out, if_pos hx1]
      exact ⟨rfl, hbe⟩
    · have t1 : decide (1 ≤ x ∧ x ≤ 7) = true := by simp; omega
      rw [t1] at hK
      clear t1
      go_wp2_with fail
      refine hK.mono ?_
      rintro e w4 ⟨rfl, rfl⟩
      clear hK
      have hF := fits17_any home x w4
      by_cases hx2 : fitsB home x = false
      · rw [hx2] at hF
        go_wp2_with fail
        refine hF.mono ?_
        rintro e w5 ⟨rfl, rfl⟩
        clear hF
        have hG := giveUp_any k 172 w5
        have hbe := hS.bel
        clear hS hCh
        go_wp2_with fail
        refine hG.mono ?_
        rintro e w6 ⟨hf, rfl⟩
        rw [flw_of hf]
        clear hG
        go_wp2
        refine ⟨rfl, ?_⟩
        unfold Pst
        rw [HO.out, if_neg hx1, if_pos hx2]
        exact ⟨rfl, hbe⟩
      · rw [show fitsB home x = true by simpa using hx2] at hF
        go_wp2_with fail
        refine hF.mono ?_
        rintro e w5 ⟨rfl, rfl⟩
        clear hF
        go_wp2
        go_ret
        unfold Pst
        rw [HO.out, if_neg hx1, if_neg hx2]
        exact ⟨rfl, hS, hCh⟩
set_option maxHeartbeats 1600000 in
set_option maxRecDepth 100000 in
theorem count17_any {w0 w : World} {gw gr : Nat} {D : Int} {l : List UInt8} {k : Nat} {v : Value} {os : List Bool} (h : WkS w0 w gw gr D l k v os) (hE : ErrVar w0) (lst : Nat) (hl : lst ≤ 100) (little : Bool) :
    Calls Tryz.prog 85 #[.pointer (some ⟨gw, 0, none⟩), .int .i64 (lst : Int), .bool little] w (Pst w0 w gw gr D l v os (countS l lst k little) (fun n => .int .i64 (n : Int))) := by
  obtain ⟨c0, c1, c2⟩ := h.wk.cells
  have hA := at16_any h.rd
  have hB := word32_any (little := little) h.rd
  cases hw : word l k 4 little with
  | bad p c =>
    obtain ⟨e1, e2, rfl, rfl⟩ := word_no hw
    rw [e1, e2] at hB
    have HR : Hid (countS l lst p little = .bad p 160) := by show (word l p 4 little).bind _ = _; rw [hw]; rfl
    generalize ((rV l p false 4 little : Nat) : Int) = x at hB
    clear hw e1 e2
    go_enter Tryz.func85, Tryz.ntmps85
    go_wp2_with fail
    refine hA.mono ?_
    rintro e w1 ⟨rfl, rfl⟩
    clear hA
    go_wp2_with fail
    refine hB.mono ?_
    rintro e w2 ⟨rfl, hR, hI⟩
    obtain ⟨hS, hb⟩ := h.fail hI
    have hU := sure_u32_bad hS hR (hE.later hb) x
    clear hB c0 c1 c2 hS hR hI hE h
    go_wp2_with fail
    refine hU.mono ?_
    rintro e w3 ⟨hf, hb2⟩
    rw [flw_of hf]
    have hb3 := hb.trans (hb2.mono hb.size)
    go_wp2
    refine ⟨rfl, ?_⟩
    unfold Pst
    rw [HR.out]
    exact ⟨rfl, hb3⟩
  | ok x k' =>
    obtain ⟨e1, e2, e3⟩ := word_rd hw
    have hx := (word_ok hw).2.2
    rw [e1, e2, e3] at hB
    rw [show (256 : Nat) ^ 4 = 4294967296 by decide] at hx
    clear e1 e2 e3
    have hW := fun w2 (hR : Rd w2 gr l k' false) (hI : In gr (gr + 1) w w2) => h.read hR hI
    have HC : Hid (∀ w2, In gr (gr + 1) w w2 → Ch (Ex gw gr v) w w2) := fun w2 hI => Ch.of_in hI (Or.inl rfl)
    have HO : Hid (countS l lst k little = if l.length - k' < x * lst then .bad k 173 else .ok x k') := by show (word l k 4 little).bind _ = _; rw [hw]; rfl
    clear hw h
    go_enter Tryz.func85, Tryz.ntmps85
    go_wp2_with fail
    refine hA.mono ?_
    rintro e w1 ⟨rfl, rfl⟩
    clear hA
    go_wp2_with fail
    refine hB.mono ?_
    rintro e w2 ⟨rfl, hR, hI⟩
    have hS := hW w2 hR hI
    have hCh := HC.out w2 hI
    have hU := sure_u32 hS (x : Int)
    clear hB c0 c1 c2 hI hR hW
    go_wp2_with fail
    refine hU.mono ?_
    rintro e w3 ⟨rfl, rfl⟩
    clear hU
    have hL := left16_any hS.rd
    obtain ⟨d0, d1, d2⟩ := hS.wk.cells
    have hle := hS.rd.le
    obtain ⟨M, hM⟩ : ∃ M, M = x * lst := ⟨_, rfl⟩
    have hM9 : M < 4294967296000 := by rw [hM]; have := Nat.mul_le_mul_left x hl; omega
    have hx8 : (x : Int) % 18446744073709551616 = (x : Int) := by omega
    have hl8 : (lst : Int) % 18446744073709551616 = (lst : Int) := by omega
    have hm8 : (x : Int) * (lst : Int) = (M : Int) := by rw [hM]; simp
    have hm9 : (M : Int) % 18446744073709551616 = (M : Int) := by omega
    have HM : Hid (M = x * lst) := hM
    clear hM
    obtain ⟨Q, hQ⟩ : ∃ Q, Q = l.length - k' := ⟨_, rfl⟩
    rw [← hQ] at hL
    have HQ : Hid (Q = l.length - k') := hQ
    have hQ9 : Q ≤ 100000000 := by omega
    have hq8 : (Q : Int) % 18446744073709551616 = (Q : Int) := by omega
    clear hQ hle
    go_wp2_with fail
    refine hL.mono ?_
    rintro e w4 ⟨rfl, d, rfl⟩
    have hbd : Below w3.heap.size w3 (w3.drewN d) := below_drewN (Below.refl _ _) d
    have hS4 := hS.later hbd
    have hCh4 := hCh.drewN d
    clear hL d0 d1 d2 hS hCh hbd
    by_cases hx1 : Q < M
    · have t1 : decide ((M : Int) > (Q : Int)) = true := by simp; omega
      have hG := giveUp_any k 173 (w3.drewN d)
      have hbe := hS4.bel
      clear hS4 hCh4
      go_wp2_with fail
      refine hG.mono ?_
      rintro e w5 ⟨hf, rfl⟩
      rw [flw_of hf]
      clear hG
      go_wp2
      refine ⟨rfl, ?_⟩
      unfold Pst
      rw [HO.out, if_pos (by rw [← HQ.out, ← HM.out]; exact hx1)]
      exact ⟨rfl, hbe⟩
    · have t1 : decide ((M : Int) > (Q : Int)) = false := by simp; omega
      go_wp2
      go_ret
      unfold Pst
      rw [HO.out, if_neg (by rw [← HQ.out, ← HM.out]; exact hx1)]
      exact ⟨rfl, hS4, hCh4⟩
def Pmu (r : Rs Unit) (e : Ending) : Prop := match r with | .ok _ _ => e = .returned (.tuple #[]) | .bad p c => Flw e p c
set_option maxHeartbeats 1600000 in
set_option maxRecDepth 100000 in
theorem must17_any {k x y : Nat} (hk : k ≤ 100000000) (hx : x < 18446744073709551616) (hy : y < 18446744073709551616) (w : World) :
    Calls Tryz.prog 107 #[.int .i64 (k : Int), .agg #[.int .u64 (x : Int), .int .u64 (y : Int)]] w fun e w' => Below w.heap.size w w' ∧ Pmu (mustS k (x, y)) e := by
  have hX := fun w => isFinite_any hx w
  have hY := fun w => isFinite_any hy w
  have hb : ∀ o, Below w.heap.size w (w.alloc o) := fun o => alloc_below o
  by_cases fx : finB x = false
  · rw [fx] at hX
    have HR : Hid (mustS k (x, y) = .bad k 175) := by show mustS k (x, y) = _; unfold mustS; rw [if_pos fx]
    go_enter Tryz.func107, Tryz.ntmps107
    go_wp2_with fail
    refine (hX _).mono ?_
    rintro e w1 ⟨rfl, rfl⟩
    clear hX hY
    go_wp2_with fail
    refine (giveUp_any k 175 _).mono ?_
    rintro e w2 ⟨hf, rfl⟩
    rw [flw_of hf]
    go_wp2
    refine ⟨rfl, hb _, ?_⟩
    rw [HR.out]
    exact rfl
  · rw [show finB x = true by simpa using fx] at hX
    have e8 : (k : Int) + 8 = ((k + 8 : Nat) : Int) := by omega
    have hG : ∀ w, Calls Tryz.prog 56 #[.int .i64 ((k : Int) + 8), .int .i64 175] w fun e w' => Flw e (k + 8) 175 ∧ w' = w := fun w => by rw [e8]; exact giveUp_any (k + 8) 175 w
    clear e8
    by_cases fy : finB y = false
    · rw [fy] at hY
      have HR : Hid (mustS k (x, y) = .bad (k + 8) 175) := by show mustS k (x, y) = _; unfold mustS; rw [if_neg fx, if_pos fy]
      go_enter Tryz.func107, Tryz.ntmps107
      go_wp2_with fail
      refine (hX _).mono ?_
      rintro e w1 ⟨rfl, rfl⟩
      clear hX
      go_wp2_with fail
      refine (hY _).mono ?_
      rintro e w1 ⟨rfl, rfl⟩
      clear hY
      go_wp2_with fail
      refine (hG _).mono ?_
      rintro e w2 ⟨hf, rfl⟩
      rw [flw_of hf]
      clear hG
      go_wp2
      refine ⟨rfl, hb _, ?_⟩
      rw [HR.out]
      exact rfl
    · rw [show finB y = true by simpa using fy] at hY
      have HR : Hid (mustS k (x, y) = .ok () k) := by show mustS k (x, y) = _; unfold mustS; rw [if_neg fx, if_neg fy]
      go_enter Tryz.func107, Tryz.ntmps107
      go_wp2_with fail
      refine (hX _).mono ?_
      rintro e w1 ⟨rfl, rfl⟩
      clear hX
      go_wp2_with fail
      refine (hY _).mono ?_
      rintro e w1 ⟨rfl, rfl⟩
      clear hY hG
      go_wp2
      go_end0
      refine ⟨hb _, ?_⟩
      rw [HR.out]
      exact rfl
def ptv (q : Nat × Nat) : Value := .agg #[.int .u64 (q.1 : Int), .int .u64 (q.2 : Int)]
set_option maxHeartbeats 3200000 in
set_option maxRecDepth 100000 in
theorem pats17_any {w0 w : World} {gw gr : Nat} {D : Int} {l : List UInt8} {k : Nat} {v : Value} {os : List Bool} (h : WkS w0 w gw gr D l k v os) (hE : ErrVar w0) (little : Bool) :
    Calls Tryz.prog 105 #[.pointer (some ⟨gw, 0, none⟩), .bool little] w (Pst w0 w gw gr D l v os (patsS l k little) ptv) := by
  obtain ⟨B, hB⟩ : ∃ B, B = w.heap.size := ⟨_, rfl⟩
  have hl1 := h.lts
  have hl2 := h.bel.size
  have hne1 : B ≠ gr := by omega
  have hne2 : B ≠ gw := by omega
  have hob : v.ownBlock ≠ some B := fun e => by have := (h.row.blk e).2.1; omega
  obtain ⟨W, hW0⟩ : ∃ W, W = w.alloc (.cells #[.int .u64 0, .int .u64 0] 39) := ⟨_, rfl⟩
  have hbW : Below w.heap.size w W := by rw [hW0]; exact alloc_below _
  have hBW : W.heap[B]? = some (.cells #[.int .u64 0, .int .u64 0] 39 (0, 0)) := by rw [hW0, hB]; exact heap_alloc_new _ _
  have hS := h.later hbW
  have HW : Hid (w.alloc (.cells #[.int .u64 0, .int .u64 0] 39) = W) := hW0.symm
  have hR1 := word64_any (little := little) hS.rd
  obtain ⟨c0, c1, c2⟩ := hS.wk.cells
  have h0B : w0.heap.size ≤ B := by omega
  have HB : Hid (B = w.heap.size) := hB
  cases hw : word l k 8 little with
  | bad p c =>
    obtain ⟨e1, e2, rfl, rfl⟩ := word_no hw
    rw [e1, e2] at hR1
    have HR : Hid (patsS l p little = .bad p 160) := by show (word l p 8 little).bind _ = _; rw [hw]; rfl
    generalize ((rV l p false 8 little : Nat) : Int) = x at hR1
    clear hw e1 e2 h hW0 hB
    go_enter Tryz.func105, Tryz.ntmps105
    go_upto_region 1 with (fail)
    rw [HW.out]
    go_wp2_with fail
    refine hR1.mono ?_
    rintro e w2 ⟨rfl, hR, hI⟩
    obtain ⟨hS2, hb⟩ := hS.fail hI
    have hU := sure_u64_bad hS2 hR (hE.later hb) x
    clear hR1 c0 c1 c2 hS2 hR hI hE hS
    go_wp2_with fail
    refine hU.mono ?_
    rintro e w3 ⟨hf, hb2⟩
    rw [flw_of hf]
    have hb3 := hb.trans (hb2.mono hb.size)
    go_wp2
    refine ⟨rfl, ?_⟩
    unfold Pst
    rw [HR.out]
    exact ⟨rfl, hb3⟩
  | ok x k1 =>
    obtain ⟨e1, e2, e3⟩ := word_rd hw
    have hx := (word_ok hw).2.2
    rw [e1, e2, e3] at hR1
    clear e1 e2 e3
    have HK : Hid (patsS l k little = (word l k1 8 little).bind fun y k2 => .ok (x, y) k2) := by show (word l k 8 little).bind _ = _; rw [hw]; rfl
    clear hw h hW0 hB
    go_enter Tryz.func105, Tryz.ntmps105
    go_upto_region 1 with (fail)
    rw [HW.out]
    go_wp2_with fail
    refine hR1.mono ?_
    rintro e w2 ⟨rfl, hR, hI⟩
    have hS2 := hS.read hR hI
    have hBW2 := (hI.block B (lt_of_block hBW) (by omega)).trans hBW
    have hCh2 : Ch (Ex gw gr v) w w2 := (Ch.of_below (X := Ex gw gr v) hbW).trans (Ch.of_in (X := Ex gw gr v) hI (Or.inl rfl)) (fun _ _ x => x)
    clear hR1 c0 c1 c2 hI hR hS hBW hbW
    have hU := sure_u64 hS2 (x : Int)
    go_wp2_with fail
    refine hU.mono ?_
    rintro e w3 ⟨rfl, rfl⟩
    clear hU
    have hR1 := word64_any (little := little) hS2.rd
    obtain ⟨c0, c1, c2⟩ := hS2.wk.cells
    cases hw : word l k1 8 little with
    | bad p c =>
      obtain ⟨e1, e2, rfl, rfl⟩ := word_no hw
      rw [e1, e2] at hR1
      have HR : Hid (patsS l k little = .bad p 160) := by show _ = _; rw [HK.out, hw]; rfl
      generalize ((rV l p false 8 little : Nat) : Int) = y at hR1
      clear hw e1 e2 HK hBW2 hCh2
      go_wp2_with fail
      refine hR1.mono ?_
      rintro e w4 ⟨rfl, hR, hI⟩
      obtain ⟨hS3, hb⟩ := hS2.fail hI
      have hU := sure_u64_bad hS3 hR (hE.later hb) y
      clear hR1 c0 c1 c2 hS3 hR hI hE hS2
      go_wp2_with fail
      refine hU.mono ?_
      rintro e w5 ⟨hf, hb2⟩
      rw [flw_of hf]
      have hb3 := hb.trans (hb2.mono hb.size)
      go_wp2
      refine ⟨rfl, ?_⟩
      unfold Pst
      rw [HR.out]
      exact ⟨rfl, hb3⟩
    | ok y k2 =>
      obtain ⟨e1, e2, e3⟩ := word_rd hw
      rw [e1, e2, e3] at hR1
      clear e1 e2 e3
      have HR : Hid (patsS l k little = .ok (x, y) k2) := by show _ = _; rw [HK.out, hw]; rfl
      clear hw HK
      go_wp2_with fail
      refine hR1.mono ?_
      rintro e w4 ⟨rfl, hR, hI⟩
      have hS3 := hS2.read hR hI
      have hBW3 := (hI.block B (lt_of_block hBW2) (by omega)).trans hBW2
      have hCh3 := hCh2.trans (Ch.of_in (X := Ex gw gr v) hI (Or.inl rfl)) (fun _ _ x => x)
      clear hR1 c0 c1 c2 hI hR hS2 hBW2 hCh2
      have hU := sure_u64 hS3 (y : Int)
      go_wp2_with fail
      refine hU.mono ?_
      rintro e w5 ⟨rfl, rfl⟩
      clear hU
      have hC := fun i => cell_of hBW3 i
      have b0 := hC 0
      have b1 := hC 1
      have z0 : w5.frozen? ⟨B, 0, none⟩ = false := by simp [World.frozen?, hBW3]
      have z1 : w5.frozen? ⟨B, 1, none⟩ = false := by simp [World.frozen?, hBW3]
      have HS : Hid (WkS w0 w5 gw gr D l k2 v os) := hS3
      have HBB : Hid (w5.heap[B]? = some (.cells #[.int .u64 0, .int .u64 0] 39 (0, 0))) := hBW3
      have HC : Hid (Ch (Ex gw gr v) w w5) := hCh3
      simp at b0 b1
      rw [← HB.out]
      clear hC hS3 hBW3 hCh3
      go_wp2
      have hF := set2_block HBB.out (.int .u64 (x : Int)) (.int .u64 (y : Int))
      have f0 := cell_of hF 0
      have f1 := cell_of hF 1
      simp only [List.getElem?_toArray, List.getElem?_cons_zero, List.getElem?_cons_succ] at f0 f1
      refine bodyPost_ret (v := ptv (x, y)) (by simp [results, Tryz.results105, go_sem, f0, f1, ptv]) rfl ?_
      have hI : In B (B + 1) w5 ((w5.setCell ⟨B, 0, none⟩ (.int .u64 (x : Int))).setCell ⟨B, 1, none⟩ (.int .u64 (y : Int))) := ((In.refl _ _ _).set1 0 _).set1 1 _
      unfold Pst
      rw [HR.out]
      refine ⟨rfl, HS.out.inb hI h0B hne1 hne2 hob (NoB.two HBB.out (by simp) (by simp)), ?_⟩
      exact (HC.out.setCell (p := ⟨B, 0, none⟩) (Or.inl (by rw [← HB.out]; exact Nat.le_refl _)) _).setCell (p := ⟨B, 1, none⟩) (Or.inl (by rw [← HB.out]; exact Nat.le_refl _)) _
end Go.Proofs.YtgobnjeankjkjaaGreatDoor

