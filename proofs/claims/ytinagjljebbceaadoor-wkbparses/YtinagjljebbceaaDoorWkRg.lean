/- Layer 17: the document's walk: parts, one by one. -/
import Derived.Test.YtinagjljebbceaaDoorWkRf
namespace Go.Proofs.YtinagjljebbceaaDoor
open Go.ChangeShapes Go.WideShapes Go.ChangeAt Go.RowKit
open Ep Oc Tr Wk
set_option linter.unusedVariables false
/-- a part that the document has read, or an error -/
def Rgq (w0 w : World) (g : Nat) (a : Option Addr) (n c : Nat) (D pl : Int) (v : Value) (os : List Bool) (r : Rs (Tree × List Bool)) (U : Value) (w' : World) : Prop :=
  Ch (Er g v) w w' ∧ ∃ (v' : Value) (os' : List Bool) (k' : Nat) (cd' pl' : Int), RkS w0 w' g a n c D k' cd' pl' v' os' ∧ (v'.ownBlock = v.ownBlock ∨ ∃ b, v'.ownBlock = some b ∧ w.heap.size ≤ b) ∧ match r with
    | .ok tb k2 => cd' = 0 ∧ pl' = pl ∧ k' = k2 ∧ os' = os ++ tb.2 ∧ TV (fun i => w.heap.size ≤ i ∧ i < w'.heap.size ∧ v'.ownBlock ≠ some i) w' U tb.1
    | .bad p cc => cd' = (cc : Int) ∧ (cc : Int) ≠ 0 ∧ pl' = (p : Int)
theorem Rge.all {w0 w : World} {g : Nat} {a : Option Addr} {n c : Nat} {D pl : Int} {v : Value} {os : List Bool} {r : Rs (Tree × List Bool)} {e : Ending} {w' : World} (h : Rge w0 w g a n c D pl v os r e w') :
    ∃ K a1 n1 c1 a2 n2 c2 a3 n3 c3, e = .returned (.agg #[.int .i64 K, .slice a1 n1 c1, .slice a2 n2 c2, .slice a3 n3 c3]) ∧ Rgq w0 w g a n c D pl v os r (.agg #[.int .i64 K, .slice a1 n1 c1, .slice a2 n2 c2, .slice a3 n3 c3]) w' := by
  unfold Rge at h
  unfold Rgq
  cases r with
  | ok tb k2 =>
    obtain ⟨u, v', rfl, h2, h3, h4, h5⟩ := h
    obtain ⟨v1, v2, pa, pc, hu, hk9, hP1, hR1, hl9, hf9⟩ := h5.parts
    obtain ⟨a1, d1, e1⟩ := hP1.slc
    obtain ⟨a2, d2, e2⟩ := hR1.slc
    rw [e1, e2] at hu
    subst hu
    exact ⟨_, _, _, _, _, _, _, _, _, _, rfl, h3, v', _, k2, 0, pl, h2, h4, rfl, rfl, rfl, rfl, h5⟩
  | bad p cc =>
    obtain ⟨K, a1, n1, c1, a2, n2, c2, a3, n3, c3, k', v', os', rfl, h2, h3, h4, h5⟩ := h
    exact ⟨_, _, _, _, _, _, _, _, _, _, rfl, h4, v', os', k', cc, p, h2, h5, rfl, h3, rfl⟩
section
variable {w0 W7 : World} {g bA : Nat} {a : Option Addr} {n c : Nat} {D pl : Int} {v : Value} {os : List Bool}
/-- the parts so far -/
def Rgp (w0 W7 : World) (g bA : Nat) (a : Option Addr) (n c : Nat) (D pl : Int) (v : Value) (os : List Bool) (kind : Int) (N : Nat) (f : Nat → Rs (Tree × List Bool)) (R : Rs (List (Tree × List Bool))) (j m : Nat) (rv : Value) (cd : Int) (wr : World) : Prop :=
  ∃ (kj : Nat) (plj : Int) (xs : List Value) (vj : Value) (osj : List Bool), wr.heap[bA]? = some (.cells #[.int .i64 kind, .slice none 0 0, .slice none 0 0, rv] 26 (0, 0)) ∧ RkS w0 wr g a n c D kj cd plj vj osj ∧ Ch (fun i => Er g v i ∨ i = bA) W7 wr ∧ (vj.ownBlock = v.ownBlock ∨ ∃ b, vj.ownBlock = some b ∧ W7.heap.size ≤ b) ∧ Nw wr W7.heap.size 26 4 rv m xs ∧ m ≤ j ∧
    ((cd = 0 ∧ plj = pl ∧ kj ≤ n ∧ m = j ∧ osj.length ≤ kj ∧ ∃ ts : List (Tree × List Bool), ts.length = j ∧ osj = os ++ (ts.map (·.2)).flatten ∧ Grow (fun i => W7.heap.size ≤ i ∧ i < wr.heap.size ∧ rv.ownBlock ≠ some i ∧ vj.ownBlock ≠ some i) wr xs (ts.map (·.1)) ∧ Rs.pre ts (many f (N - j) kj) = R) ∨ (∃ p cc : Nat, cd = (cc : Int) ∧ (cc : Int) ≠ 0 ∧ plj = (p : Int) ∧ R = .bad p cc))
theorem Rgp.next {kind : Int} {N : Nat} {f : Nat → Rs (Tree × List Bool)} {R : Rs (List (Tree × List Bool))} {j m : Nat} {rv : Value} {wr w2 wA w5 : World} {kj : Nat} {xs : List Value} {ts : List (Tree × List Bool)} {vj : Value} {osj : List Bool} {x0 x1 x2 x3 : Value} {va : Option Addr} {vc : Nat} {lh : Nat}
    (hold : ∀ b, W7.heap.size ≤ b → b ≠ g ∧ v.ownBlock ≠ some b ∧ w0.heap.size ≤ b) (eA : bA ≠ g ∧ v.ownBlock ≠ some bA ∧ w0.heap.size ≤ bA) (hbA : bA < W7.heap.size)
    (hblk : wr.heap[bA]? = some (.cells #[.int .i64 kind, .slice none 0 0, .slice none 0 0, rv] 26 (0, 0))) (hSr : RkS w0 wr g a n c D kj 0 pl vj osj) (hCr : Ch (fun i => Er g v i ∨ i = bA) W7 wr) (hvj : vj.ownBlock = v.ownBlock ∨ ∃ b, vj.ownBlock = some b ∧ W7.heap.size ≤ b) (hN : Nw wr W7.heap.size 26 4 rv m xs) (hmj : m = j) (hol : osj.length ≤ kj) (hpl : ts.length = j) (hos : osj = os ++ (ts.map (·.2)).flatten) (hG : Grow (fun i => W7.heap.size ≤ i ∧ i < wr.heap.size ∧ rv.ownBlock ≠ some i ∧ vj.ownBlock ≠ some i) wr xs (ts.map (·.1))) (hM : Rs.pre ts (many f (N - j) kj) = R) (hj : j < N)
    (hfl : ∀ k r k', f k = .ok r k' → k + r.2.length ≤ k') (hfw : ∀ r k', f kj = .ok r k' → k' ≤ n)
    (hP : Rgq w0 wr g a n c D pl vj osj (f kj) (.agg #[x0, x1, x2, x3]) w2) (hA : Below w2.heap.size w2 wA) (hN5 : Nw w5 W7.heap.size 26 4 (.slice va (m + 1) vc) (m + 1) (xs ++ [x0, x1, x2, x3])) (hg5 : wA.grownBy w5 rv.ownBlock) (ho5 : (Value.slice va (m + 1) vc).ownBlock = rv.ownBlock ∨ (Value.slice va (m + 1) vc).ownBlock = some wA.heap.size) :
    (∃ cd, Rgp w0 W7 g bA a n c D pl v os kind N f R (j + 1) (m + 1) (.slice va (m + 1) vc) cd (w5.setCell ⟨bA, 3, none⟩ (.slice va (m + 1) vc))) ∧ w5.cell? ⟨bA, 3, none⟩ = some rv ∧ w5.frozen? ⟨bA, 3, none⟩ = false := by
  obtain ⟨hC2, v2, os2, k2, cd2, pl2, hS2, hv2, hP⟩ := hP
  have hrb := fun b (e : rv.ownBlock = some b) => hN.blk e
  have s1 := hCr.size
  have s2 := hC2.size
  have s3 := hA.size
  have s4 := hg5.size
  have hrA : rv.ownBlock ≠ some bA := fun e => by have := (hrb _ e).1; omega
  have hrvj : ∀ b, rv.ownBlock = some b → vj.ownBlock ≠ some b := fun b e => hN.ne_bo hSr.row (by decide) e
  have hvjA : vj.ownBlock ≠ some bA := by
    rcases hvj with q | ⟨b, q, hb⟩
    · rw [q]; exact eA.2.1
    · rw [q]; intro e; cases e; omega
  have hv2' : ∀ b, b < wr.heap.size → vj.ownBlock ≠ some b → v2.ownBlock ≠ some b := fun b h1 h2 e => by
    rcases hv2 with q | ⟨b', q, hb⟩
    · exact h2 (q ▸ e)
    · rw [q] at e; cases e; omega
  have hlA : bA < wr.heap.size := lt_of_block hblk
  have hvn : (Value.slice va (m + 1) vc).ownBlock ≠ some bA := by
    rcases ho5 with q | q
    · rw [q]; exact hrA
    · rw [q]; intro e; cases e; omega
  have hk : ∀ b, b < wr.heap.size → ¬ Er g vj b → rv.ownBlock ≠ some b → w5.heap[b]? = wr.heap[b]? := fun b h1 h2 h3 => (hg5.block b (by omega) (fun e => h3 e.symm)).trans ((hA.block b (by omega)).trans (hC2.block b h1 h2))
  have hbA5 : w5.heap[bA]? = some (.cells #[.int .i64 kind, .slice none 0 0, .slice none 0 0, rv] 26 (0, 0)) := (hk bA hlA (fun q => by
    rcases q with q | q
    · exact eA.1 q
    · exact hvjA q) hrA).trans hblk
  have hse : ∀ b, b ≠ bA → (w5.setCell ⟨bA, 3, none⟩ (.slice va (m + 1) vc)).heap[b]? = w5.heap[b]? := fun b hb => Below.heap_setCell _ _ _ _ (by exact hb)
  have hzz : (w5.setCell ⟨bA, 3, none⟩ (.slice va (m + 1) vc)).heap.size = w5.heap.size := by simp [World.setCell]
  have hC25 : Ch (fun i => (W7.heap.size ≤ i ∧ rv.ownBlock = some i) ∨ i = bA) w2 (w5.setCell ⟨bA, 3, none⟩ (.slice va (m + 1) vc)) := by
    have h1 : Ch (fun i => (W7.heap.size ≤ i ∧ rv.ownBlock = some i) ∨ i = bA) w2 w5 := (Ch.of_below (X := fun i => (W7.heap.size ≤ i ∧ rv.ownBlock = some i) ∨ i = bA) hA).trans (Ch.of_grown (X := fun i => (W7.heap.size ≤ i ∧ rv.ownBlock = some i) ∨ i = bA) hg5 (fun b e => Or.inl ⟨(hrb b e).1, e⟩)) (fun _ _ x => x)
    exact h1.setCell (Or.inr (Or.inr rfl)) _
  have hSF : RkS w0 (w5.setCell ⟨bA, 3, none⟩ (.slice va (m + 1) vc)) g a n c D k2 cd2 pl2 v2 os2 := hS2.grow hC25 (fun q => by
    rcases q with q | q
    · exact (hold g q.1).1 rfl
    · exact eA.1 q.symm) (fun b hb q => by
    rcases q with q | q
    · exact hv2' b (hrb b q.2).2.1 (hrvj b q.2) hb
    · exact hv2' bA hlA hvjA (by rw [hb, q])) (fun b _ q => by
    rcases q with q | q
    · exact (hold b q.1).2.2
    · rw [q]; exact eA.2.2)
  have hej : ∀ i, i < W7.heap.size → Er g vj i → Er g v i := fun i hi => er_sub hvj i hi
  have hCF : Ch (fun i => Er g v i ∨ i = bA) W7 (w5.setCell ⟨bA, 3, none⟩ (.slice va (m + 1) vc)) := (hCr.trans hC2 (fun i hi q => Or.inl (hej i hi q))).trans hC25 (fun i hi q => by
    rcases q with q | q
    · omega
    · exact Or.inr q)
  have hvF : v2.ownBlock = v.ownBlock ∨ ∃ b, v2.ownBlock = some b ∧ W7.heap.size ≤ b := by
    rcases hv2 with q | ⟨b, q, hb⟩
    · rw [q]; exact hvj
    · exact Or.inr ⟨b, q, by omega⟩
  have hNF : Nw (w5.setCell ⟨bA, 3, none⟩ (.slice va (m + 1) vc)) W7.heap.size 26 4 (.slice va (m + 1) vc) (m + 1) (xs ++ [x0, x1, x2, x3]) := hN5.keep (fun b e => hse b (fun q => hvn (by rw [e, q])))
  have hGF : Grow (fun i => W7.heap.size ≤ i ∧ i < (w5.setCell ⟨bA, 3, none⟩ (.slice va (m + 1) vc)).heap.size ∧ (Value.slice va (m + 1) vc).ownBlock ≠ some i ∧ v2.ownBlock ≠ some i) (w5.setCell ⟨bA, 3, none⟩ (.slice va (m + 1) vc)) xs (ts.map (·.1)) := by
    have hkp : Kp (fun i => W7.heap.size ≤ i ∧ i < wr.heap.size ∧ rv.ownBlock ≠ some i ∧ vj.ownBlock ≠ some i) wr (w5.setCell ⟨bA, 3, none⟩ (.slice va (m + 1) vc)) := ⟨by omega, fun i hi => (hse i (by have := hi.1; omega)).trans (hk i hi.2.1 (fun q => by
      rcases q with q | q
      · exact (hold i hi.1).1 q
      · exact hi.2.2.2 q) hi.2.2.1)⟩
    refine hG.map (fun v t ht => (ht.below hkp).mono (fun i hi => ⟨hi.1, by have := hi.2.1; omega, fun e => ?_, hv2' i hi.2.1 hi.2.2.2⟩))
    rcases ho5 with q | q
    · exact hi.2.2.1 (q ▸ e)
    · rw [q] at e; cases e; have := hi.2.1; omega
  refine ⟨?_, cell_of hbA5 3, by simp [World.frozen?, hbA5]⟩
  have hbF : (w5.setCell ⟨bA, 3, none⟩ (.slice va (m + 1) vc)).heap[bA]? = some (.cells #[.int .i64 kind, .slice none 0 0, .slice none 0 0, .slice va (m + 1) vc] 26 (0, 0)) := by
    simp [World.setCell, Array.getElem?_modify, hbA5]
  obtain ⟨r, hr1⟩ : ∃ r, N - j = r + 1 := ⟨N - j - 1, by omega⟩
  have hr2 : N - (j + 1) = r := by omega
  cases hf : f kj with
  | bad p cc =>
    rw [hf] at hP
    obtain ⟨rfl, hcc, rfl⟩ := hP
    exact ⟨(cc : Int), k2, (p : Int), _, v2, os2, hbF, hSF, hCF, hvF, hNF, by omega, Or.inr ⟨p, cc, rfl, hcc, rfl, by rw [← hM, hr1, many_bad ts hf]⟩⟩
  | ok q k1 =>
    rw [hf] at hP
    obtain ⟨rfl, rfl, rfl, rfl, hT⟩ := hP
    have h9 := hfl kj q k2 hf
    refine ⟨0, k2, _, _, v2, _, hbF, hSF, hCF, hvF, hNF, by omega, Or.inl ⟨rfl, rfl, hfw q k2 hf, by omega, by rw [List.length_append]; omega, ts ++ [q], by rw [List.length_append, hpl]; rfl, by rw [hos]; simp, ?_, by rw [← hM, hr1, hr2, many_ok ts hf]⟩⟩
    rw [List.map_append]
    refine hGF.snoc ?_
    refine (hT.below (w' := w5.setCell ⟨bA, 3, none⟩ (.slice va (m + 1) vc)) ⟨by omega, fun i hi => ?_⟩).mono (fun i hi => ⟨by have := hi.1; omega, by have := hi.2.1; omega, fun e => ?_, hi.2.2⟩)
    · exact (hse i (by have := hi.1; omega)).trans ((hg5.block i (by have := hi.2.1; omega) (fun e => by have := (hrb i e.symm).2.1; have := hi.1; omega)).trans (hA.block i hi.2.1))
    · rcases ho5 with q | q
      · rw [q] at e; have := (hrb i e).2.1; have := hi.1; omega
      · rw [q] at e; cases e; have := hi.2.1; omega
end
end Go.Proofs.YtinagjljebbceaaDoor
