/- Layer 17: the document's walk: rings by one relation; what a geometry comes to. -/
import Derived.Test.YtinagjljebbceaaDoorWkRc
import Derived.Deep.RegionHeld3
namespace Go.Proofs.YtinagjljebbceaaDoor
open Go.ChangeShapes Go.WideShapes Go.ChangeAt Go.RowKit
open Ep Oc Tr Wk
set_option linter.unusedVariables false
namespace Wk
theorem rring_is (l : List UInt8) (k : Nat) (little : Bool) : ringS l k little = (rcountS l 16 k little true).bind fun N k' => many (fun j => placeS l j little) N k' := by
  unfold ringS lineS countS rcountS
  cases hw : word l k 4 little with
  | bad p c => rfl
  | ok x k' =>
    simp only [bind_ok]
    by_cases hx : x = 0
    · subst hx
      rw [if_neg (by omega), if_pos (by simp)]
      rfl
    · rw [if_neg (by simp [hx] : ¬ (True ∧ x = 0))]
      by_cases hb : l.length - k' < x * 16
      · rw [if_pos hb]
        rfl
      · rw [if_neg hb, bind_ok]
        cases hm : many (fun j => placeS l j little) x k' with
        | bad p c => rfl
        | ok ps k2 =>
          have := many_len hm
          rw [bind_ok, if_neg (by omega)]
theorem rcount_false (l : List UInt8) (lst k : Nat) (little : Bool) : rcountS l lst k little false = countS l lst k little := by
  unfold rcountS countS
  cases hw : word l k 4 little with
  | bad p c => rfl
  | ok x k' =>
    simp only [bind_ok]
    rw [if_neg (by simp)]
theorem rcount_ok {l : List UInt8} {lst k x k' : Nat} {little ring : Bool} (h : rcountS l lst k little ring = .ok x k') : k' = k + 4 ∧ x * lst ≤ l.length - k' ∧ k' ≤ l.length ∨ l.length < k := by
  obtain ⟨u, j, h1, h2⟩ := bind_inv (r := word l k 4 little) h
  have a := word_ok h1
  split at h2
  · cases h2
  · split at h2
    · cases h2
    · injection h2 with h3 h4
      subst h3 h4
      omega
end Wk
/-- a count that the document has read: as it is, or none for an error -/
def Rcs (w0 w : World) (g : Nat) (a : Option Addr) (n c : Nat) (D pl : Int) (v : Value) (os : List Bool) (r : Rs Nat) (x : Int) (w' : World) : Prop :=
  Ch (Er g v) w w' ∧ match r with
  | .ok N k' => x = (N : Int) ∧ RkS w0 w' g a n c D k' 0 pl v os
  | .bad p cc => x = 0 ∧ ∃ k', RkS w0 w' g a n c D k' (cc : Int) (p : Int) v os ∧ (cc : Int) ≠ 0
theorem rcount_all {w0 w : World} {g : Nat} {a : Option Addr} {n c : Nat} {D : Int} {k : Nat} {pl : Int} {v : Value} {os : List Bool} {l : List UInt8} (h : RkS w0 w g a n c D k 0 pl v os) (hr : Rb w0 a n c l) (hn : n ≤ 65536) (hk : k ≤ n) (lst : Nat) (hls : lst ≤ 100) (little ring : Bool) :
    Calls Tryd.prog 74 #[.pointer (some ⟨g, 0, none⟩), .bool little, .int .i64 (lst : Int), .bool ring] w fun e w' => ∃ x, e = .returned (.int .i64 x) ∧ Rcs w0 w g a n c D pl v os (rcountS l lst k little ring) x w' := by
  refine (rcount_any h hr hn hk lst hls little ring).mono ?_
  intro e w' hq
  unfold Rst at hq
  unfold Rcs
  cases hr : rcountS l lst k little ring with
  | ok N k' =>
    rw [hr] at hq
    exact ⟨_, hq.1, hq.2.2, rfl, hq.2.1⟩
  | bad p cc =>
    rw [hr] at hq
    obtain ⟨u, k', h1, rfl, h3, h4, h5⟩ := hq
    exact ⟨0, h1, h5, rfl, k', h3, h4⟩
/-- a list of points that the document has read, or an error -/
def Rps (w0 w : World) (g : Nat) (a : Option Addr) (n c : Nat) (D pl : Int) (v : Value) (os : List Bool) (r : Rs (List Pt)) (u : Value) (w' : World) : Prop :=
  Ch (Er g v) w w' ∧ match r with
  | .ok ps k' => Pts (fun i => w.heap.size ≤ i ∧ i < w'.heap.size) w' u ps ∧ RkS w0 w' g a n c D k' 0 pl v os ∧ k' ≤ n
  | .bad p cc => ∃ k', RkS w0 w' g a n c D k' (cc : Int) (p : Int) v os ∧ (cc : Int) ≠ 0
theorem rpairs_all {w0 w w1 : World} {g : Nat} {a : Option Addr} {n c : Nat} {D : Int} {k : Nat} {pl : Int} {v : Value} {os : List Bool} {l : List UInt8} (hr : Rb w0 a n c l) (hn : n ≤ 65536) (hk : k ≤ n) {ring little : Bool} {x : Int} (hc : Rcs w0 w g a n c D pl v os (rcountS l 16 k little ring) x w1) :
    Calls Tryd.prog 73 #[.pointer (some ⟨g, 0, none⟩), .bool little, .int .i64 x] w1 fun e w' => ∃ ua um uc, e = .returned (.slice ua um uc) ∧ Rps w0 w g a n c D pl v os ((rcountS l 16 k little ring).bind fun N k' => many (fun j => placeS l j little) N k') (.slice ua um uc) w' := by
  have hl := hr.len
  unfold Rcs at hc
  obtain ⟨hC, hc⟩ := hc
  cases hq : rcountS l 16 k little ring with
  | bad p cc =>
    rw [hq] at hc
    obtain ⟨rfl, k', hS, hcc⟩ := hc
    refine (rpairs_err hS little).mono ?_
    rintro e w' ⟨rfl, rfl⟩
    exact ⟨none, 0, 0, rfl, hC, k', hS, hcc⟩
  | ok N k' =>
    rw [hq] at hc
    obtain ⟨rfl, hS⟩ := hc
    have hrc := rcount_ok hq
    have hk' : k' ≤ n := by omega
    refine (rpairs_any hS hr hn hk' N (by omega) little).mono ?_
    intro e w' hp
    rw [bind_ok]
    unfold Rpl at hp
    unfold Rps
    cases hm : many (fun j => placeS l j little) N k' with
    | ok ps k2 =>
      rw [hm] at hp
      obtain ⟨u, rfl, h2, h3, h4⟩ := hp
      obtain ⟨ua, uc, rfl⟩ := h4.slc
      have hf := fwd_many (fwd_place l little) N k' ps k2 (by omega) hm
      exact ⟨ua, _, uc, rfl, hC.trans h3 (fun _ _ x => x), h4.mono (fun i hi => ⟨Nat.le_trans hC.size hi.1, hi.2⟩), h2, by omega⟩
    | bad p cc =>
      rw [hm] at hp
      obtain ⟨ua, um, uc, k2, rfl, h2, h3, h4⟩ := hp
      exact ⟨ua, um, uc, rfl, hC.trans h4 (fun _ _ x => x), k2, h2, h3⟩
/-- what the document's walk of a geometry comes to -/
def Rge (w0 w : World) (g : Nat) (a : Option Addr) (n c : Nat) (D pl : Int) (v : Value) (os : List Bool) (r : Rs (Tree × List Bool)) (e : Ending) (w' : World) : Prop :=
  match r with
  | .ok tb k' => ∃ u v', e = .returned u ∧ RkS w0 w' g a n c D k' 0 pl v' (os ++ tb.2) ∧ Ch (Er g v) w w' ∧ (v'.ownBlock = v.ownBlock ∨ ∃ b, v'.ownBlock = some b ∧ w.heap.size ≤ b) ∧ TV (fun i => w.heap.size ≤ i ∧ i < w'.heap.size ∧ v'.ownBlock ≠ some i) w' u tb.1
  | .bad p cc => ∃ K a1 n1 c1 a2 n2 c2 a3 n3 c3 k' v' os', e = .returned (.agg #[.int .i64 K, .slice a1 n1 c1, .slice a2 n2 c2, .slice a3 n3 c3]) ∧ RkS w0 w' g a n c D k' (cc : Int) (p : Int) v' os' ∧ (cc : Int) ≠ 0 ∧ Ch (Er g v) w w' ∧ (v'.ownBlock = v.ownBlock ∨ ∃ b, v'.ownBlock = some b ∧ w.heap.size ≤ b)
theorem er_sub {g n : Nat} {v v' : Value} (ho : v'.ownBlock = v.ownBlock ∨ ∃ b, v'.ownBlock = some b ∧ n ≤ b) : ∀ i, i < n → Er g v' i → Er g v i := by
  rintro i hi (e | e)
  · exact Or.inl e
  · rcases ho with q | ⟨b, q, hb⟩
    · exact Or.inr (q ▸ e)
    · rw [q] at e
      cases e
      omega
/-- an order is laid behind the others -/
theorem RkS.app {w0 w wA wB : World} {g : Nat} {a : Option Addr} {n c : Nat} {D : Int} {k : Nat} {cd pl : Int} {v v' : Value} {os : List Bool} {b : Bool} (h : RkS w0 w g a n c D k cd pl v os) (hA : Below w.heap.size w wA) (hg : wA.grownBy wB v.ownBlock) (ho : v'.ownBlock = v.ownBlock ∨ v'.ownBlock = some wA.heap.size) (hB : Bo wB w0.heap.size v' (os ++ [b])) :
    RkS w0 (wB.setCell ⟨g, 5, none⟩ v') g a n c D k cd pl v' (os ++ [b]) ∧ Ch (Er g v) w (wB.setCell ⟨g, 5, none⟩ v') ∧ (v'.ownBlock = v.ownBlock ∨ ∃ b, v'.ownBlock = some b ∧ w.heap.size ≤ b) ∧ wB.cell? ⟨g, 5, none⟩ = some v ∧ wB.frozen? ⟨g, 5, none⟩ = false := by
  have hlt := h.lt
  have hs := hA.size
  have hbk : wB.heap[g]? = some (.cells #[.slice a n c, .int .i64 (k : Int), .int .i64 D, .int .i64 cd, .int .i64 pl, v] 80 (0, 0)) := by
    rw [hg.block g (by omega) (fun e => h.ob e.symm)]
    exact (h.later hA).blk
  have hne2 : v'.ownBlock ≠ some g := by
    intro e
    obtain ⟨x, hx⟩ := hB.nocell e (cell_of hbk 0)
    cases hx
  have hch : Ch (Er g v) w (wB.setCell ⟨g, 5, none⟩ v') := by
    have h1 : Ch (Er g v) w wB := (Ch.of_below (X := Er g v) hA).trans (Ch.of_grown (X := Er g v) hg (fun k e => Or.inr e)) (fun _ _ x => x)
    exact h1.setCell (Or.inr (Or.inl rfl)) _
  refine ⟨⟨h.bel.trans (hch.below (fun i hi x => ?_) h.bel.size), (set6_block hbk v').2.2.2, hB.keep (fun b e => Below.heap_setCell _ _ _ _ (fun q => hne2 (by rw [e]; exact congrArg some q))), h.lo⟩, hch, ?_, cell_of hbk 5, by simp [World.frozen?, hbk]⟩
  · rcases x with rfl | e
    · exact h.lo
    · exact (h.row.blk e).1
  · rcases ho with e | e
    · exact Or.inl e
    · exact Or.inr ⟨_, e, hs⟩
/-- the end: the geometry is laid into the result -/
theorem fin_rg {w0 w w7 w9 : World} {g b r : Nat} {a : Option Addr} {n c : Nat} {D : Int} {k7 : Nat} {cd pl : Int} {v v7 : Value} {os7 : List Bool} (h7 : RkS w0 w7 g a n c D k7 cd pl v7 os7) (hC : Ch (Er g v) w w7) (hI : In r (r + 1) w7 w9) (hr : w.heap.size ≤ r) (er : r ≠ g ∧ v7.ownBlock ≠ some r ∧ w0.heap.size ≤ r) :
    RkS w0 w9 g a n c D k7 cd pl v7 os7 ∧ Ch (Er g v) w w9 := by
  have hCb := Ch.of_in (X := fun i => i = r) hI rfl
  exact ⟨h7.grow hCb (fun q => er.1 q.symm) (fun b hb q => er.2.1 (by rw [hb, q])) (fun b _ q => by rw [q]; exact er.2.2), hC.trans hCb (fun i hi q => by omega)⟩
end Go.Proofs.YtinagjljebbceaaDoor
