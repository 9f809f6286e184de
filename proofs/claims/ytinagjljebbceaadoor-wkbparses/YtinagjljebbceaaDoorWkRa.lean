/- Layer 17: the document's walk: what it is in memory; numbers. -/
import Derived.Test.YtinagjljebbceaaDoorWkF
namespace Go.Proofs.YtinagjljebbceaaDoor
open Go.ChangeShapes Go.WideShapes Go.ChangeAt Go.RowKit
open Ep Oc Tr Wk
set_option linter.unusedVariables false
/-- the document's walk over l, at k, with the error cd at the place pl -/
structure RkS (w0 w : World) (g : Nat) (a : Option Addr) (n c : Nat) (D : Int) (k : Nat) (cd pl : Int) (v : Value) (os : List Bool) : Prop where
  bel : Below w0.heap.size w0 w
  blk : w.heap[g]? = some (.cells #[.slice a n c, .int .i64 (k : Int), .int .i64 D, .int .i64 cd, .int .i64 pl, v] 80 (0, 0))
  row : Bo w w0.heap.size v os
  lo : w0.heap.size ≤ g
namespace Wk
def Er (g : Nat) (v : Value) (k : Nat) : Prop := k = g ∨ v.ownBlock = some k
theorem set6_block {w : World} {b : Nat} {t : TypeId} {f : Nat × Nat} {x0 x1 x2 x3 x4 x5 : Value} (h : w.heap[b]? = some (.cells #[x0, x1, x2, x3, x4, x5] t f)) (y : Value) : (w.setCell ⟨b, 1, none⟩ y).heap[b]? = some (.cells #[x0, y, x2, x3, x4, x5] t f) ∧ (w.setCell ⟨b, 3, none⟩ y).heap[b]? = some (.cells #[x0, x1, x2, y, x4, x5] t f) ∧ (w.setCell ⟨b, 4, none⟩ y).heap[b]? = some (.cells #[x0, x1, x2, x3, y, x5] t f) ∧ (w.setCell ⟨b, 5, none⟩ y).heap[b]? = some (.cells #[x0, x1, x2, x3, x4, y] t f) := by
  simp [World.setCell, Array.getElem?_modify, h]
end Wk
section
variable {w0 w : World} {g : Nat} {a : Option Addr} {n c : Nat} {D : Int} {k : Nat} {cd pl : Int} {v : Value} {os : List Bool}
theorem RkS.lt (h : RkS w0 w g a n c D k cd pl v os) : g < w.heap.size := lt_of_block h.blk
theorem RkS.cells (h : RkS w0 w g a n c D k cd pl v os) : w.cell? ⟨g, 0, none⟩ = some (.slice a n c) ∧ w.cell? ⟨g, 1, none⟩ = some (.int .i64 (k : Int)) ∧ w.cell? ⟨g, 2, none⟩ = some (.int .i64 D) ∧ w.cell? ⟨g, 3, none⟩ = some (.int .i64 cd) ∧ w.cell? ⟨g, 4, none⟩ = some (.int .i64 pl) ∧ w.cell? ⟨g, 5, none⟩ = some v :=
  ⟨cell_of h.blk 0, cell_of h.blk 1, cell_of h.blk 2, cell_of h.blk 3, cell_of h.blk 4, cell_of h.blk 5⟩
theorem RkS.frozen (h : RkS w0 w g a n c D k cd pl v os) (i : Nat) : w.frozen? ⟨g, i, none⟩ = false := by simp [World.frozen?, h.blk]
theorem RkS.ob (h : RkS w0 w g a n c D k cd pl v os) : v.ownBlock ≠ some g := by
  intro e
  obtain ⟨b, hb⟩ := h.row.nocell e h.cells.1
  cases hb
theorem RkS.later {w' : World} (h : RkS w0 w g a n c D k cd pl v os) (hb : Below w.heap.size w w') : RkS w0 w' g a n c D k cd pl v os :=
  ⟨h.bel.trans (hb.mono h.bel.size), (hb.block g h.lt).trans h.blk, h.row.keep (fun b e => hb.block b (h.row.blk e).2.1), h.lo⟩
theorem RkS.grow {w' : World} {X : Nat → Prop} (h : RkS w0 w g a n c D k cd pl v os) (hb : Ch X w w') (h1 : ¬ X g) (h2 : ∀ b, v.ownBlock = some b → ¬ X b) (h3 : ∀ b, b < w.heap.size → X b → w0.heap.size ≤ b) : RkS w0 w' g a n c D k cd pl v os :=
  ⟨h.bel.trans (hb.below h3 h.bel.size), (hb.block g h.lt h1).trans h.blk, h.row.keep (fun b e => hb.block b (h.row.blk e).2.1 (h2 b e)), h.lo⟩
theorem RkS.old (h : RkS w0 w g a n c D k cd pl v os) {b : Nat} (hb : w.heap.size ≤ b) : b ≠ g ∧ v.ownBlock ≠ some b ∧ w0.heap.size ≤ b := by
  have h1 := h.lt
  have h2 := h.bel.size
  exact ⟨by omega, fun e => by have := (h.row.blk e).2.1; omega, by omega⟩
theorem RkS.ex (h : RkS w0 w g a n c D k cd pl v os) {b : Nat} (hb : w.heap.size ≤ b) : ¬ Er g v b := fun q => by
  have := h.old hb
  rcases q with q | q
  · exact this.1 q
  · exact this.2.1 q
/-- a field of the walk is written -/
theorem RkS.in_ (h : RkS w0 w g a n c D k cd pl v os) {w' : World} (hi : In g (g + 1) w w') {k' : Nat} {cd' pl' : Int} (hb : w'.heap[g]? = some (.cells #[.slice a n c, .int .i64 (k' : Int), .int .i64 D, .int .i64 cd', .int .i64 pl', v] 80 (0, 0))) : RkS w0 w' g a n c D k' cd' pl' v os ∧ Ch (Er g v) w w' := by
  have hlo := h.lo
  refine ⟨⟨?_, hb, h.row.keep (fun b e => hi.block b (h.row.blk e).2.1 (by
    have : b ≠ g := fun q => h.ob (by rw [e, q])
    omega)), h.lo⟩, Ch.of_in hi (Or.inl rfl)⟩
  exact ⟨hi.os.trans h.bel.os, hi.tape.trans h.bel.tape, hi.output.trans h.bel.output, Nat.le_trans h.bel.size hi.size, fun i hi' => (hi.block i (Nat.lt_of_lt_of_le hi' h.bel.size) (by omega)).trans (h.bel.block i hi')⟩
end
set_option maxHeartbeats 1600000 in
set_option maxRecDepth 100000 in
theorem rfault_any {w0 w : World} {g : Nat} {a : Option Addr} {n c : Nat} {D : Int} {k : Nat} {pl : Int} {v : Value} {os : List Bool} (h : RkS w0 w g a n c D k 0 pl v os) (p cd : Int) :
    Calls Tryd.prog 48 #[.pointer (some ⟨g, 0, none⟩), .int .i64 p, .int .i64 cd] w fun e w' => e = .returned (.tuple #[]) ∧ RkS w0 w' g a n c D k cd p v os ∧ Ch (Er g v) w w' := by
  obtain ⟨c0, c1, c2, c3, c4, c5⟩ := h.cells
  have z3 := h.frozen 3
  have z4 := h.frozen 4
  have HS : Hid (RkS w0 w g a n c D k 0 pl v os) := h
  clear h
  go_enter Tryd.func48, Tryd.ntmps48
  go_wp2
  go_end0
  have b1 := (set6_block HS.out.blk (.int .i64 cd)).2.1
  have b2 := (set6_block b1 (.int .i64 p)).2.2.1
  have hI : In g (g + 1) w ((w.setCell ⟨g, 3, none⟩ (.int .i64 cd)).setCell ⟨g, 4, none⟩ (.int .i64 p)) := ((In.refl _ _ _).set1 3 _).set1 4 _
  exact ⟨rfl, HS.out.in_ hI b2⟩
set_option maxHeartbeats 1600000 in
set_option maxRecDepth 100000 in
theorem rnumber_err {w0 w : World} {g : Nat} {a : Option Addr} {n c : Nat} {D : Int} {k : Nat} {cd pl : Int} {v : Value} {os : List Bool} (h : RkS w0 w g a n c D k cd pl v os) (hcd : cd ≠ 0) (m : Int) (little : Bool) :
    Calls Tryd.prog 70 #[.pointer (some ⟨g, 0, none⟩), .int .i64 m, .bool little] w fun e w' => e = .returned (.int .u64 0) ∧ w' = w := by
  obtain ⟨c0, c1, c2, c3, c4, c5⟩ := h.cells
  have t1 : (cd != 0) = true := by simpa using hcd
  clear h
  go_enter Tryd.func70, Tryd.ntmps70
  go_wp2
  go_ret
  exact ⟨rfl, rfl⟩
/-- where a number is read: the place of its i-th byte -/
def Wk.ri (little : Bool) (k m i : Nat) : Nat := if little then k + m - 1 - i else k + i
theorem Wk.num_ri {l : List UInt8} {k m i : Nat} {little : Bool} (hm : m ≤ l.length - k) (hi : i < m) : num ((if little then ((l.drop k).take m).reverse else (l.drop k).take m).take (i + 1)) = num ((if little then ((l.drop k).take m).reverse else (l.drop k).take m).take i) * 256 + (l.getD (ri little k m i) 0).toNat := by
  have hlen : ((l.drop k).take m).length = m := by rw [List.length_take, List.length_drop]; omega
  cases little
  · simp only [Bool.false_eq_true, if_false, ri]
    rw [num_take (by rw [hlen]; exact hi)]
    congr 2
    rw [List.getD_eq_getElem?_getD, List.getElem?_take_of_lt hi, List.getElem?_drop, List.getD_eq_getElem?_getD]
  · simp only [if_true, ri]
    rw [num_take (by rw [List.length_reverse, hlen]; exact hi)]
    congr 2
    rw [List.getD_eq_getElem?_getD, List.getElem?_reverse (by rw [hlen]; exact hi), hlen, List.getElem?_take_of_lt (by omega), List.getElem?_drop, List.getD_eq_getElem?_getD]
    congr 2
    omega
set_option maxHeartbeats 3200000 in
set_option maxRecDepth 100000 in
theorem rnumber_ok {w0 w : World} {g : Nat} {a : Option Addr} {n c : Nat} {D : Int} {k : Nat} {pl : Int} {v : Value} {os : List Bool} {l : List UInt8} (h : RkS w0 w g a n c D k 0 pl v os) (hr : Rb w0 a n c l) (hn : n ≤ 100000000) (hk : k ≤ n) {m x k' : Nat} {little : Bool} (hm1 : 1 ≤ m) (hm8 : m ≤ 8) (hw : word l k m little = .ok x k') :
    Calls Tryd.prog 70 #[.pointer (some ⟨g, 0, none⟩), .int .i64 (m : Int), .bool little] w fun e w' => e = .returned (.int .u64 (x : Int)) ∧ RkS w0 w' g a n c D k' 0 pl v os ∧ Ch (Er g v) w w' := by
  have hl := hr.len
  have hwo := word_ok hw
  have hrw := hr.later h.bel
  have hc9 := hr.2
  obtain ⟨rfl, hml, hx9⟩ := hwo
  rw [hl] at hml
  have hx : x = num (if little then ((l.drop k).take m).reverse else (l.drop k).take m) := by
    unfold word at hw
    rw [if_neg (by omega)] at hw
    injection hw with h1 h2
    rw [← h1]
    rfl
  have HX : Hid (x = num (if little then ((l.drop k).take m).reverse else (l.drop k).take m)) := hx
  have HNx : Hid (∀ i, i < m → num ((if little then ((l.drop k).take m).reverse else (l.drop k).take m).take (i + 1)) = num ((if little then ((l.drop k).take m).reverse else (l.drop k).take m).take i) * 256 + (l.getD (ri little k m i) 0).toNat) := fun i hi => num_ri (by omega) hi
  have HQl : Hid ((if little then ((l.drop k).take m).reverse else (l.drop k).take m).length = m) := by
    show _ = _
    have hlen : ((l.drop k).take m).length = m := by rw [List.length_take, List.length_drop]; omega
    cases little
    · simpa using hlen
    · simpa using hlen
  generalize (if little then ((l.drop k).take m).reverse else (l.drop k).take m) = q at *
  obtain ⟨c0, c1, c2, c3, c4, c5⟩ := h.cells
  have z1 := h.frozen 1
  have HS : Hid (RkS w0 w g a n c D k 0 pl v os) := h
  obtain ⟨b, off, rfl, hbB, hcl⟩ := hrw.cells (by omega)
  have HCl : Hid (∀ i, i < n → w.cell? ⟨b, off + i, none⟩ = some (.int .u8 ((l.getD i 0).toNat : Int))) := hcl
  have t1 : decide ((n : Int) - (k : Int) < (m : Int)) = false := by simp; omega
  have hkn : (k : Int) ≤ (n : Int) := by omega
  clear h hr hrw hcl hw hx hx9 hl
  go_enter Tryd.func70, Tryd.ntmps70
  go_wp2
  go_quiet (fail)
  obtain ⟨V, hV⟩ : ∃ V, V = w.drewN nq := ⟨_, rfl⟩
  have hbV : Below w.heap.size w V := by rw [hV]; exact below_drewN (Below.refl _ _) nq
  rw [← hV]
  clear hV
  have c0' := (hbV.cell (p := ⟨g, 0, none⟩) (cell_lt c0)).trans c0
  have c1' := (hbV.cell (p := ⟨g, 1, none⟩) (cell_lt c1)).trans c1
  clear c0 c1 c2 c3 c4 c5
  go_wp2
  go_loopw [7, 8, 9] (fun v i _ wr => ∃ j : Nat, j ≤ m ∧ i = .int .i64 (j : Int) ∧ v = .int .u64 ((num (q.take j) : Nat) : Int) ∧ wr = V) (fun _ i _ _ => m - (intOf i).toNat)
  case atStart => exact ⟨0, Nat.zero_le _, rfl, rfl, rfl⟩
  case round =>
    obtain ⟨j, hj, rfl, rfl, rfl⟩ := hrel
    by_cases hlt : j < m
    · have hri : ri little k m j < n := by unfold ri; split <;> omega
      have HNj : Hid (num (q.take (j + 1)) = num (q.take j) * 256 + (l.getD (ri little k m j) 0).toNat) := HNx.out j hlt
      have hce := (hbV.cell (p := ⟨b, off + ri little k m j, none⟩) (by have := cell_lt (HCl.out _ hri); exact this)).trans (HCl.out _ hri)
      have hx8 := (l.getD (ri little k m j) 0).toNat_lt
      have hsm := num_small (l := q) (k := j) (by omega)
      generalize (l.getD (ri little k m j) 0).toNat = y at *
      generalize num (q.take j) = X at *
      have s3 : (X : Int) * 256 < 18446744073709551616 := by omega
      have s4 : (X : Int) * 256 + (y : Int) < 18446744073709551616 := by omega
      cases little
      · simp only [ri, Bool.false_eq_true, if_false] at hri hce
        have hbd : ((k : Int) + (j : Int)) < (n : Int) := by omega
        go_wp2
        refine ⟨⟨j + 1, by omega, by go_num, by rw [HNj.out]; simp, trivial⟩, ?_⟩
        simp [intOf]
        omega
      · simp only [ri, if_true] at hri hce
        obtain ⟨r, hr⟩ : ∃ r, r = k + m - 1 - j := ⟨_, rfl⟩
        rw [← hr] at hri hce
        have er : (k : Int) + (m : Int) - 1 - (j : Int) = (r : Int) := by omega
        have hrn : (r : Int) < (n : Int) := by omega
        have hr0 : (0 : Int) ≤ (r : Int) := by omega
        clear hr
        go_wp2
        refine ⟨⟨j + 1, by omega, by go_num, by rw [HNj.out]; simp, trivial⟩, ?_⟩
        simp [intOf]
        omega
    · have hjm : j = m := by omega
      subst hjm
      have HE : Hid (num (q.take j) = x) := by show _ = _; rw [HX.out, List.take_of_length_le (by rw [HQl.out]; exact Nat.le_refl _)]
      have z1' : wr.frozen? ⟨g, 1, none⟩ = false := (World.frozen?_of_block (a := ⟨g, 1, none⟩) (hbV.block g HS.out.lt)).trans z1
      generalize num (q.take j) = X at *
      go_wp2
      go_ret
      have hS2 := HS.out.later hbV
      have b1 := (set6_block hS2.blk (.int .i64 ((k + j : Nat) : Int))).1
      have hI : In g (g + 1) wr (wr.setCell ⟨g, 1, none⟩ (.int .i64 ((k + j : Nat) : Int))) := (In.refl _ _ _).set1 1 _
      have hfin := hS2.in_ hI b1
      have e1 : ((k + j : Nat) : Int) = (k : Int) + (j : Int) := by omega
      rw [e1] at hfin
      refine ⟨by rw [HE.out]; rfl, hfin.1, (Ch.of_below (X := Er g v) hbV).trans hfin.2 (fun _ _ x => x)⟩
set_option maxHeartbeats 1600000 in
set_option maxRecDepth 100000 in
theorem rnumber_bad {w0 w : World} {g : Nat} {a : Option Addr} {n c : Nat} {D : Int} {k : Nat} {pl : Int} {v : Value} {os : List Bool} {l : List UInt8} (h : RkS w0 w g a n c D k 0 pl v os) (hr : Rb w0 a n c l) (hn : n ≤ 100000000) (hk : k ≤ n) {m p cc : Nat} {little : Bool} (hm8 : m ≤ 8) (hw : word l k m little = .bad p cc) :
    Calls Tryd.prog 70 #[.pointer (some ⟨g, 0, none⟩), .int .i64 (m : Int), .bool little] w fun e w' => e = .returned (.int .u64 0) ∧ RkS w0 w' g a n c D k (cc : Int) (p : Int) v os ∧ Ch (Er g v) w w' := by
  have hl := hr.len
  have hc9 := hr.2
  obtain ⟨rfl, rfl, hsh⟩ := word_bad hw
  rw [hl] at hsh
  obtain ⟨c0, c1, c2, c3, c4, c5⟩ := h.cells
  have t1 : decide ((n : Int) - (p : Int) < (m : Int)) = true := by simp; omega
  have hkn : (p : Int) ≤ (n : Int) := by omega
  clear hr hw hl
  go_enter Tryd.func70, Tryd.ntmps70
  go_wp2
  go_quiet (fail)
  obtain ⟨V, hV⟩ : ∃ V, V = w.drewN nq := ⟨_, rfl⟩
  have hbV : Below w.heap.size w V := by rw [hV]; exact below_drewN (Below.refl _ _) nq
  rw [← hV]
  clear hV c0 c1 c2 c3 c4 c5
  have hV2 := h.later hbV
  obtain ⟨c0, c1, c2, c3, c4, c5⟩ := hV2.cells
  have hF := rfault_any hV2 (p : Int) 160
  clear hV2 h
  go_wp2_with fail
  refine hF.mono ?_
  rintro e w2 ⟨rfl, hS, hC⟩
  clear hF c0 c1 c2 c3 c4 c5
  go_wp2
  go_ret
  exact ⟨rfl, hS, (Ch.of_below (X := Er g v) hbV).trans hC (fun _ _ x => x)⟩
namespace Wk
theorem rfin_is {x : Nat} (hx : x < 18446744073709551616) : (bits .and .u64 ((x / 4503599627370496 : Nat) : Int) 2047 != 2047) = finB x := by
  have := u64_and_nat (x / 4503599627370496) 2047 (by omega) (by decide)
  rw [show ((2047 : Nat) : Int) = 2047 from rfl, show (2047 : Nat) = 2 ^ 11 - 1 by decide, Nat.and_two_pow_sub_one_eq_mod] at this
  rw [this]
  unfold finB
  rw [Bool.eq_iff_iff]
  simp only [bne_iff_ne, ne_eq]
  omega
theorem rnan_is {x : Nat} (hx : x < 18446744073709551616) : (bits .and .u64 (x : Int) 4503599627370495 != 0) = (x % 4503599627370496 != 0) := by
  have := u64_and_nat x 4503599627370495 hx (by decide)
  rw [show ((4503599627370495 : Nat) : Int) = 4503599627370495 from rfl, show (4503599627370495 : Nat) = 2 ^ 52 - 1 by decide, Nat.and_two_pow_sub_one_eq_mod] at this
  rw [this]
  rw [Bool.eq_iff_iff]
  simp only [bne_iff_ne, ne_eq]
  omega
end Wk
set_option maxHeartbeats 1600000 in
theorem rfinite_any {x : Nat} (hx : x < 18446744073709551616) (w : World) :
    Calls Tryd.prog 98 #[.int .u64 (x : Int)] w fun e w' => e = .returned (.bool (finB x)) ∧ w' = w := by
  have HF : Hid ((bits .and .u64 ((x / 4503599627370496 : Nat) : Int) 2047 != 2047) = finB x) := rfin_is hx
  go_enter Tryd.func98, Tryd.ntmps98
  go_wp2
  go_ret
  exact ⟨by rw [← HF.out]; rfl, rfl⟩
set_option maxHeartbeats 1600000 in
theorem member_any (home kind : Nat) (w : World) :
    Calls Tryd.prog 71 #[.int .i64 (home : Int), .int .i64 (kind : Int)] w fun e w' => e = .returned (.bool (fitsB home kind)) ∧ w' = w := by
  have HK : ∀ n : Nat, Hid (((kind : Int) == (n : Int)) = (kind == n)) := fun n => by show _ = _; rw [Bool.eq_iff_iff]; simp; omega
  by_cases h4 : home = 4
  · subst h4
    go_enter Tryd.func71, Tryd.ntmps71
    go_wp2
    go_ret
    exact ⟨by have := (HK 1).out; unfold fitsB; rw [if_pos rfl, ← this]; rfl, rfl⟩
  · have t4 : ((home : Int) == 4) = false := by simp; omega
    by_cases h5 : home = 5
    · subst h5
      go_enter Tryd.func71, Tryd.ntmps71
      go_wp2
      go_ret
      exact ⟨by have := (HK 2).out; unfold fitsB; rw [if_neg h4, if_pos rfl, ← this]; rfl, rfl⟩
    · have t5 : ((home : Int) == 5) = false := by simp; omega
      by_cases h6 : home = 6
      · subst h6
        go_enter Tryd.func71, Tryd.ntmps71
        go_wp2
        go_ret
        exact ⟨by have := (HK 3).out; unfold fitsB; rw [if_neg h4, if_neg h5, if_pos rfl, ← this]; rfl, rfl⟩
      · have t6 : ((home : Int) == 6) = false := by simp; omega
        go_enter Tryd.func71, Tryd.ntmps71
        go_wp2
        go_ret
        exact ⟨by unfold fitsB; rw [if_neg h4, if_neg h5, if_neg h6]; rfl, rfl⟩
end Go.Proofs.YtinagjljebbceaaDoor
