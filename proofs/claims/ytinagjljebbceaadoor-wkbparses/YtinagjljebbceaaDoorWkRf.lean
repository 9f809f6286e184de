/- Layer 17: the document's walk: rings and parts, one by one. -/
import Derived.Test.YtinagjljebbceaaDoorWkRd
namespace Go.Proofs.YtinagjljebbceaaDoor
open Go.ChangeShapes Go.WideShapes Go.ChangeAt Go.RowKit
open Ep Oc Tr Wk
set_option linter.unusedVariables false
theorem step_appN {ops : Array Oper} {o : Oper} {ac : Act} {w : World} {K : Act → World → Prop} {Q : Exit → Act → World → Prop} {E : Prop} (hgd : o.guard = none) (s x : Operand) (t e : TypeId)
    (ho : o.op = .call { callee := .builtin .append, args := #[s, x], argTypes := #[t, t] }) {base n size bytes q : Nat} {z v : Value} {xs news : List Value} (ht : Tryd.prog.underlying t = some (.slice e)) (hinf : (Tryd.prog.info? e).map (fun i => (i.zero, i.size, i.bytes)) = some (some z, size, bytes)) (hzs : z.cells.size = size) (hsz : 0 < size) (hz : ∀ x ∈ z.cells.toList, NB8 x)
    (hs : ac.eval s = v) (h : Nw w base e size v n xs) (hx : ac.eval x = .slice (some ⟨q, 0, none⟩) 1 1) (hl : news.length = size) (hq : ∀ j u, news[j]? = some u → w.cell? ⟨q, j, none⟩ = some u) (h1 : ∀ u ∈ news, u.oneCell' = true) (hnb : ∀ u ∈ news, NB8 u) (hn : n ≤ 1000000) (hby : bytes ≤ 100) (hbase : base ≤ w.heap.size)
    (hh : ∀ va vc w', Nw w' base e size (.slice va (n + 1) vc) (n + 1) (xs ++ news) → w.grownBy w' v.ownBlock → ((Value.slice va (n + 1) vc).ownBlock = v.ownBlock ∨ (Value.slice va (n + 1) vc).ownBlock = some w.heap.size) → K (ac.put o.dst (.slice va (n + 1) vc)) w') : if Region.wanted o (yielded ops ac.tmps) = true then Oper.wp Tryd.prog o ac w K Q else E := by
  obtain ⟨v', w', hr, r1, r2, r3⟩ := run_appN (ty := o.type) w ht hinf hzs hsz hz h hl hq h1 hnb hn hby hbase
  obtain ⟨va, vc, rfl, _⟩ := own_slice r1.own
  have hw : Region.wanted o (yielded ops ac.tmps) = true := by simp [Region.wanted, hgd]
  rw [if_pos hw]
  unfold Oper.wp execOp
  simp only [ho, resolve, invoke, builtin, Sem.run_bind, Sem.run_pure, Result.andThen_ok, List.map_toArray, List.map_cons, List.map_nil, hs, hx, hr]
  exact hh va vc w' r1 r2 r3
section
variable {w0 W7 : World} {g bA : Nat} {a : Option Addr} {n c : Nat} {D pl : Int} {v : Value} {os : List Bool}
/-- the rings so far -/
def Rgr (w0 W7 : World) (g bA : Nat) (a : Option Addr) (n c : Nat) (D pl : Int) (v : Value) (os : List Bool) (N : Nat) (f : Nat → Rs (List Pt)) (R : Rs (List (List Pt))) (j m : Nat) (rv : Value) (cd : Int) (wr : World) : Prop :=
  ∃ (kj : Nat) (plj : Int) (xs : List Value), wr.heap[bA]? = some (.cells #[.int .i64 3, .slice none 0 0, rv, .slice none 0 0] 26 (0, 0)) ∧ RkS w0 wr g a n c D kj cd plj v os ∧ Ch (fun i => Er g v i ∨ i = bA) W7 wr ∧ Nw wr W7.heap.size 22 1 rv m xs ∧ m ≤ j ∧
    ((cd = 0 ∧ plj = pl ∧ kj ≤ n ∧ m = j ∧ ∃ ps : List (List Pt), ps.length = j ∧ Lrow (fun i => W7.heap.size ≤ i ∧ i < wr.heap.size ∧ rv.ownBlock ≠ some i) wr xs ps ∧ Rs.pre ps (many f (N - j) kj) = R) ∨ (∃ p cc : Nat, cd = (cc : Int) ∧ (cc : Int) ≠ 0 ∧ plj = (p : Int) ∧ R = .bad p cc))
theorem Rgr.next {N : Nat} {f : Nat → Rs (List Pt)} {R : Rs (List (List Pt))} {j m : Nat} {rv : Value} {wr w2 wA w5 : World} {kj : Nat} {xs : List Value} {ps : List (List Pt)} {ua : Option Addr} {um uc : Nat} {va : Option Addr} {vc : Nat}
    (hold : ∀ b, W7.heap.size ≤ b → b ≠ g ∧ v.ownBlock ≠ some b ∧ w0.heap.size ≤ b) (eA : bA ≠ g ∧ v.ownBlock ≠ some bA ∧ w0.heap.size ≤ bA) (hbA : bA < W7.heap.size)
    (hblk : wr.heap[bA]? = some (.cells #[.int .i64 3, .slice none 0 0, rv, .slice none 0 0] 26 (0, 0))) (hCr : Ch (fun i => Er g v i ∨ i = bA) W7 wr) (hN : Nw wr W7.heap.size 22 1 rv m xs) (hmj : m = j) (hpl : ps.length = j) (hL : Lrow (fun i => W7.heap.size ≤ i ∧ i < wr.heap.size ∧ rv.ownBlock ≠ some i) wr xs ps) (hM : Rs.pre ps (many f (N - j) kj) = R) (hj : j < N)
    (hP : Rps w0 wr g a n c D pl v os (f kj) (.slice ua um uc) w2) (hA : Below w2.heap.size w2 wA) (hN5 : Nw w5 W7.heap.size 22 1 (.slice va (m + 1) vc) (m + 1) (xs ++ [.slice ua um uc])) (hg5 : wA.grownBy w5 rv.ownBlock) (ho5 : (Value.slice va (m + 1) vc).ownBlock = rv.ownBlock ∨ (Value.slice va (m + 1) vc).ownBlock = some wA.heap.size) :
    (∃ cd, Rgr w0 W7 g bA a n c D pl v os N f R (j + 1) (m + 1) (.slice va (m + 1) vc) cd (w5.setCell ⟨bA, 2, none⟩ (.slice va (m + 1) vc))) ∧ w5.cell? ⟨bA, 2, none⟩ = some rv ∧ w5.frozen? ⟨bA, 2, none⟩ = false := by
  obtain ⟨hC2, hP⟩ := hP
  have hrb := fun b (e : rv.ownBlock = some b) => hN.blk e
  have s1 := hCr.size
  have s2 := hC2.size
  have s3 := hA.size
  have s4 := hg5.size
  have hrA : rv.ownBlock ≠ some bA := fun e => by have := (hrb _ e).1; omega
  have hvn : (Value.slice va (m + 1) vc).ownBlock ≠ some bA := by
    rcases ho5 with q | q
    · rw [q]; exact hrA
    · rw [q]; intro e; cases e; omega
  -- blocks that no step turns
  have hk : ∀ b, b < wr.heap.size → ¬ Er g v b → rv.ownBlock ≠ some b → w5.heap[b]? = wr.heap[b]? := fun b h1 h2 h3 => (hg5.block b (by omega) (fun e => h3 e.symm)).trans ((hA.block b (by omega)).trans (hC2.block b h1 h2))
  have hbA5 : w5.heap[bA]? = some (.cells #[.int .i64 3, .slice none 0 0, rv, .slice none 0 0] 26 (0, 0)) := (hk bA (lt_of_block hblk) (fun q => by
    rcases q with q | q
    · exact eA.1 q
    · exact eA.2.1 q) hrA).trans hblk
  have hse : ∀ b, b ≠ bA → (w5.setCell ⟨bA, 2, none⟩ (.slice va (m + 1) vc)).heap[b]? = w5.heap[b]? := fun b hb => Below.heap_setCell _ _ _ _ (by exact hb)
  have hzz : (w5.setCell ⟨bA, 2, none⟩ (.slice va (m + 1) vc)).heap.size = w5.heap.size := by simp [World.setCell]
  have hC25 : Ch (fun i => (W7.heap.size ≤ i ∧ rv.ownBlock = some i) ∨ i = bA) w2 (w5.setCell ⟨bA, 2, none⟩ (.slice va (m + 1) vc)) := by
    have h1 : Ch (fun i => (W7.heap.size ≤ i ∧ rv.ownBlock = some i) ∨ i = bA) w2 w5 := (Ch.of_below (X := fun i => (W7.heap.size ≤ i ∧ rv.ownBlock = some i) ∨ i = bA) hA).trans (Ch.of_grown (X := fun i => (W7.heap.size ≤ i ∧ rv.ownBlock = some i) ∨ i = bA) hg5 (fun b e => Or.inl ⟨(hrb b e).1, e⟩)) (fun _ _ x => x)
    exact h1.setCell (Or.inr (Or.inr rfl)) _
  have hSt : ∀ {k' : Nat} {cd' pl' : Int}, RkS w0 w2 g a n c D k' cd' pl' v os → RkS w0 (w5.setCell ⟨bA, 2, none⟩ (.slice va (m + 1) vc)) g a n c D k' cd' pl' v os := fun h => h.grow hC25 (fun q => by
    rcases q with q | q
    · exact (hold g q.1).1 rfl
    · exact eA.1 q.symm) (fun b hb q => by
    rcases q with q | q
    · exact (hold b q.1).2.1 hb
    · exact eA.2.1 (by rw [hb, q])) (fun b _ q => by
    rcases q with q | q
    · exact (hold b q.1).2.2
    · rw [q]; exact eA.2.2)
  have hCF : Ch (fun i => Er g v i ∨ i = bA) W7 (w5.setCell ⟨bA, 2, none⟩ (.slice va (m + 1) vc)) := (hCr.trans hC2 (fun i _ q => Or.inl q)).trans hC25 (fun i hi q => by
    rcases q with q | q
    · omega
    · exact Or.inr q)
  have hNF : Nw (w5.setCell ⟨bA, 2, none⟩ (.slice va (m + 1) vc)) W7.heap.size 22 1 (.slice va (m + 1) vc) (m + 1) (xs ++ [.slice ua um uc]) := hN5.keep (fun b e => hse b (fun q => hvn (by rw [e, q])))
  have hLF : Lrow (fun i => W7.heap.size ≤ i ∧ i < (w5.setCell ⟨bA, 2, none⟩ (.slice va (m + 1) vc)).heap.size ∧ (Value.slice va (m + 1) vc).ownBlock ≠ some i) (w5.setCell ⟨bA, 2, none⟩ (.slice va (m + 1) vc)) xs ps := by
    refine (hL.below (w' := w5.setCell ⟨bA, 2, none⟩ (.slice va (m + 1) vc)) ⟨by omega, fun i hi => (hse i (by have := hi.1; omega)).trans (hk i hi.2.1 (fun q => ?_) hi.2.2)⟩).mono (fun i hi => ⟨hi.1, by have := hi.2.1; omega, fun e => ?_⟩)
    · have := hold i hi.1
      rcases q with q | q
      · exact this.1 q
      · exact this.2.1 q
    · rcases ho5 with q | q
      · exact hi.2.2 (q ▸ e)
      · rw [q] at e; cases e; have := hi.2.1; omega
  refine ⟨?_, cell_of hbA5 2, by simp [World.frozen?, hbA5]⟩
  have hbF : (w5.setCell ⟨bA, 2, none⟩ (.slice va (m + 1) vc)).heap[bA]? = some (.cells #[.int .i64 3, .slice none 0 0, .slice va (m + 1) vc, .slice none 0 0] 26 (0, 0)) := by
    simp [World.setCell, Array.getElem?_modify, hbA5]
  obtain ⟨r, hr1⟩ : ∃ r, N - j = r + 1 := ⟨N - j - 1, by omega⟩
  have hr2 : N - (j + 1) = r := by omega
  cases hf : f kj with
  | bad p cc =>
    rw [hf] at hP
    obtain ⟨k', hS2, hcc⟩ := hP
    exact ⟨(cc : Int), k', (p : Int), _, hbF, hSt hS2, hCF, hNF, by omega, Or.inr ⟨p, cc, rfl, hcc, rfl, by rw [← hM, hr1, many_bad ps hf]⟩⟩
  | ok q k1 =>
    rw [hf] at hP
    obtain ⟨hPt, hS2, hk1⟩ := hP
    refine ⟨0, k1, pl, _, hbF, hSt hS2, hCF, hNF, by omega, Or.inl ⟨rfl, rfl, hk1, by omega, ps ++ [q], by rw [List.length_append, hpl]; rfl, hLF.snoc ?_, by rw [← hM, hr1, hr2, many_ok ps hf]⟩⟩
    refine (hPt.below (W' := w5.setCell ⟨bA, 2, none⟩ (.slice va (m + 1) vc)) ⟨by omega, fun i hi => ?_⟩).mono (fun i hi => ⟨by have := hi.1; omega, by have := hi.2; omega, fun e => ?_⟩)
    · exact (hse i (by have := hi.1; have := lt_of_block hblk; omega)).trans ((hg5.block i (by have := hi.2; omega) (fun e => by have := (hrb i e.symm).2.1; have := hi.1; omega)).trans (hA.block i hi.2))
    · rcases ho5 with q | q
      · rw [q] at e; have := (hrb i e).2.1; have := hi.1; omega
      · rw [q] at e; cases e; have := hi.2; omega
end
end Go.Proofs.YtinagjljebbceaaDoor
