/- Layer 17: places, lines, rings. -/
import Derived.Test.YtinagjljebbceaaDoorWkA
import Derived.Test.YtinagjljebbceaaDoorWkNw
namespace Go.Proofs.YtinagjljebbceaaDoor
open Go.ChangeShapes Go.WideShapes Go.ChangeAt Go.RowKit
open Ep Oc Tr Wk
set_option linter.unusedVariables false
def ptV (q : Pt) : Value := .agg #[.int .u64 q.1, .int .u64 q.2]
theorem pats_lt {l : List UInt8} {k k' : Nat} {little : Bool} {q : Nat × Nat} (h : patsS l k little = .ok q k') : q.1 < 18446744073709551616 ∧ q.2 < 18446744073709551616 := by
  obtain ⟨x, j, h1, h2⟩ := bind_inv (r := word l k 8 little) h
  obtain ⟨y, j2, h3, h4⟩ := bind_inv h2
  have a := (word_ok h1).2.2
  have b := (word_ok h3).2.2
  injection h4 with h5 h6
  subst h5
  exact ⟨a, b⟩
set_option maxHeartbeats 3200000 in
set_option maxRecDepth 100000 in
theorem place17_any {w0 w : World} {gw gr : Nat} {D : Int} {l : List UInt8} {k : Nat} {v : Value} {os : List Bool} (h : WkS w0 w gw gr D l k v os) (hE : ErrVar w0) (little : Bool) :
    Calls Tryd.prog 111 #[.pointer (some ⟨gw, 0, none⟩), .bool little] w (Pst w0 w gw gr D l v os (placeS l k little) ptV) := by
  obtain ⟨B, hB⟩ : ∃ B, B = w.heap.size := ⟨_, rfl⟩
  have hl1 := h.lts
  have hl2 := h.bel.size
  have hne1 : B ≠ gr := by omega
  have hne2 : B ≠ gw := by omega
  have hob : v.ownBlock ≠ some B := fun e => by have := (h.row.blk e).2.1; omega
  obtain ⟨W, hW0⟩ : ∃ W, W = w.alloc (.cells #[.int .u64 0, .int .u64 0] 93) := ⟨_, rfl⟩
  have hbW : Below w.heap.size w W := by rw [hW0]; exact alloc_below _
  have hBW : W.heap[B]? = some (.cells #[.int .u64 0, .int .u64 0] 93 (0, 0)) := by rw [hW0, hB]; exact heap_alloc_new _ _
  have hS := h.later hbW
  have hk9 := h.rd.le
  have HW : Hid (w.alloc (.cells #[.int .u64 0, .int .u64 0] 93) = W) := hW0.symm
  have hA := at16_any hS.rd
  have hP := pats17_any hS hE little
  obtain ⟨c0, c1, c2⟩ := hS.wk.cells
  have h0B : w0.heap.size ≤ B := by omega
  have HB : Hid (B = w.heap.size) := hB
  cases hp : patsS l k little with
  | bad p c =>
    rw [hp] at hP
    have HR : Hid (placeS l k little = .bad p c) := by show (patsS l k little).bind _ = _; rw [hp]; rfl
    clear hp h hW0 hB hE hS
    go_enter Tryd.func111, Tryd.ntmps111
    go_upto_region 1 with (fail)
    rw [HW.out]
    go_wp2_with fail
    refine hA.mono ?_
    rintro e w2 ⟨rfl, rfl⟩
    clear hA c0 c1 c2
    go_wp2_with fail
    refine hP.mono ?_
    rintro e w3 ⟨hf, hb⟩
    rw [flw_of hf]
    clear hP
    go_wp2
    refine ⟨rfl, ?_⟩
    unfold Pst
    rw [HR.out]
    exact ⟨rfl, hb⟩
  | ok q k1 =>
    rw [hp] at hP
    obtain ⟨x, y⟩ := q
    have hxy := pats_lt hp
    simp only at hxy
    have HK : Hid (placeS l k little = (mustS k (x, y)).bind fun _ _ => .ok (pt (x, y)) k1) := by show (patsS l k little).bind _ = _; rw [hp]; rfl
    have hM := fun w => must17_any (k := k) (by omega) hxy.1 hxy.2 w
    clear hp h hW0 hB hE hxy
    go_enter Tryd.func111, Tryd.ntmps111
    go_upto_region 1 with (fail)
    rw [HW.out]
    go_wp2_with fail
    refine hA.mono ?_
    rintro e w2 ⟨rfl, rfl⟩
    clear hA c0 c1 c2
    go_wp2_with fail
    refine hP.mono ?_
    rintro e w3 ⟨rfl, hS3, hCh⟩
    clear hP hS
    have hBW3 := (hCh.block B (lt_of_block hBW) (fun q => by
      rcases q with q | q | q
      · exact hne1 q
      · exact hne2 q
      · exact hob q)).trans hBW
    have hCh3 := (Ch.of_below (X := Ex gw gr v) hbW).trans hCh (fun _ _ x => x)
    clear hCh hBW hbW
    simp only [ptv]
    go_upto_region 3 with (fail)
    obtain ⟨W4, hW4⟩ : ∃ W4, W4 = w3.alloc (.cells #[.int .u64 (x : Int), .int .u64 (y : Int)] 93) := ⟨_, rfl⟩
    have hb4 : Below w3.heap.size w3 W4 := by rw [hW4]; exact alloc_below _
    have hB4 : W4.heap[w3.heap.size]? = some (.cells #[.int .u64 (x : Int), .int .u64 (y : Int)] 93 (0, 0)) := by rw [hW4]; exact heap_alloc_new _ _
    rw [← hW4]
    have c0 := cell_of hB4 0
    have c1 := cell_of hB4 1
    simp only [List.getElem?_toArray, List.getElem?_cons_zero, List.getElem?_cons_succ] at c0 c1
    have hM4 := hM W4
    clear hM hW4
    obtain ⟨B2, hB2⟩ : ∃ B2, B2 = w3.heap.size := ⟨_, rfl⟩
    rw [← hB2] at c0 c1 hB4 ⊢
    have HB2 : Hid (B2 = w3.heap.size) := hB2
    clear hB2
    cases hm : mustS k (x, y) with
    | bad p c =>
      rw [hm] at hM4
      have HR : Hid (placeS l k little = .bad p c) := by show _ = _; rw [HK.out, hm]; rfl
      have hbe := hS3.bel.trans (hb4.mono hS3.bel.size)
      clear hm HK hS3 hBW3 hCh3 hb4
      go_wp2_with fail
      refine hM4.mono ?_
      rintro e w5 ⟨hb5, hf⟩
      rw [flw_of hf]
      have hbe5 := hbe.trans (hb5.mono hbe.size)
      clear hM4 c0 c1 hB4 hbe hb5
      go_wp2
      refine ⟨rfl, ?_⟩
      unfold Pst
      rw [HR.out]
      exact ⟨rfl, hbe5⟩
    | ok u k9 =>
      rw [hm] at hM4
      have HR : Hid (placeS l k little = .ok (pt (x, y)) k1) := by show _ = _; rw [HK.out, hm]; rfl
      clear hm HK
      go_wp2_with fail
      refine hM4.mono ?_
      rintro e w5 ⟨hb5, hf⟩
      obtain rfl : e = .returned (.tuple #[]) := hf
      clear hM4 c0 c1
      have hB5 := (hb5.block B2 (lt_of_block hB4)).trans hB4
      have hb35 := hb4.trans (hb5.mono hb4.size)
      have hS5 := hS3.later hb35
      have hBW5 := (hb35.block B (lt_of_block hBW3)).trans hBW3
      have hCh5 := hCh3.trans (Ch.of_below (X := Ex gw gr v) hb35) (fun _ _ x => x)
      clear hB4 hb5 hb4 hb35 hS3 hBW3 hCh3
      have c0 := cell_of hB5 0
      have c1 := cell_of hB5 1
      have d0 := cell_of hBW5 0
      have d1 := cell_of hBW5 1
      have z0 : w5.frozen? ⟨B, 0, none⟩ = false := by simp [World.frozen?, hBW5]
      have z1 : w5.frozen? ⟨B, 1, none⟩ = false := by simp [World.frozen?, hBW5]
      simp only [List.getElem?_toArray, List.getElem?_cons_zero, List.getElem?_cons_succ] at c0 c1 d0 d1
      have HS : Hid (WkS w0 w5 gw gr D l k1 v os) := hS5
      have HBB : Hid (w5.heap[B]? = some (.cells #[.int .u64 0, .int .u64 0] 93 (0, 0))) := hBW5
      have HC : Hid (Ch (Ex gw gr v) w w5) := hCh5
      clear hB5 hS5 hBW5 hCh5
      rw [← HB.out]
      go_wp2
      have hF := set2_block HBB.out (.int .u64 (x : Int)) (.int .u64 (y : Int))
      have f0 := cell_of hF 0
      have f1 := cell_of hF 1
      simp only [List.getElem?_toArray, List.getElem?_cons_zero, List.getElem?_cons_succ] at f0 f1
      refine bodyPost_ret (v := ptv (x, y)) (by simp [results, Tryd.results111, go_sem, f0, f1, ptv]) rfl ?_
      have hI : In B (B + 1) w5 ((w5.setCell ⟨B, 0, none⟩ (.int .u64 (x : Int))).setCell ⟨B, 1, none⟩ (.int .u64 (y : Int))) := ((In.refl _ _ _).set1 0 _).set1 1 _
      unfold Pst
      rw [HR.out]
      refine ⟨rfl, HS.out.inb hI h0B hne1 hne2 hob (NoB.two HBB.out (by simp) (by simp)), ?_⟩
      exact (HC.out.setCell (p := ⟨B, 0, none⟩) (Or.inl (by rw [← HB.out]; exact Nat.le_refl _)) _).setCell (p := ⟨B, 1, none⟩) (Or.inl (by rw [← HB.out]; exact Nat.le_refl _)) _
/-- a box: a block of one cell -/
def Bx (w : World) (b : Nat) (t : TypeId) (x : Value) : Prop := w.heap[b]? = some (.cells #[x] t (0, 0))
theorem Bx.lt {w : World} {b : Nat} {t : TypeId} {x : Value} (h : Bx w b t x) : b < w.heap.size := lt_of_block h
theorem Bx.cell {w : World} {b : Nat} {t : TypeId} {x : Value} (h : Bx w b t x) : w.cell? ⟨b, 0, none⟩ = some x := cell_of h 0
theorem Bx.later {w w' : World} {b : Nat} {t : TypeId} {x : Value} (h : Bx w b t x) (hb : Below w.heap.size w w') : Bx w' b t x := (hb.block b h.lt).trans h
theorem Bx.ch {w w' : World} {X : Nat → Prop} {b : Nat} {t : TypeId} {x : Value} (h : Bx w b t x) (hb : Ch X w w') (hx : ¬ X b) : Bx w' b t x := (hb.block b h.lt hx).trans h
theorem Bx.new (w : World) (t : TypeId) (x : Value) : Bx (w.alloc (.cells #[x] t)) w.heap.size t x := heap_alloc_new _ _
set_option maxHeartbeats 3200000 in
set_option maxRecDepth 100000 in
theorem line1_any {w0 w : World} {gw gr : Nat} {D : Int} {l : List UInt8} {k : Nat} {v : Value} {os : List Bool} (h : WkS w0 w gw gr D l k v os) (hE : ErrVar w0) {b1 b2 : Nat} {little : Bool} (h1 : Bx w b1 164 (.pointer (some ⟨gw, 0, none⟩))) (h2 : Bx w b2 4 (.bool little)) :
    Calls Tryd.prog 110 #[.pointer (some ⟨b1, 0, none⟩), .pointer (some ⟨b2, 0, none⟩)] w (Pst w0 w gw gr D l v os (placeS l k little) ptV) := by
  obtain ⟨B, hB⟩ : ∃ B, B = w.heap.size := ⟨_, rfl⟩
  obtain ⟨hne1, hne2, hob, h0B⟩ := h.old (b := B) (by omega)
  obtain ⟨W, hW0⟩ : ∃ W, W = w.alloc (.cells #[.int .u64 0, .int .u64 0] 93) := ⟨_, rfl⟩
  have hbW : Below w.heap.size w W := by rw [hW0]; exact alloc_below _
  have hBW : W.heap[B]? = some (.cells #[.int .u64 0, .int .u64 0] 93 (0, 0)) := by rw [hW0, hB]; exact heap_alloc_new _ _
  have hS := h.later hbW
  have HW : Hid (w.alloc (.cells #[.int .u64 0, .int .u64 0] 93) = W) := hW0.symm
  have hP := place17_any hS hE little
  have c1 := (h1.later hbW).cell
  have c2 := (h2.later hbW).cell
  have HB : Hid (B = w.heap.size) := hB
  cases hp : placeS l k little with
  | bad p c =>
    rw [hp] at hP
    clear h hW0 hB hE hS
    go_enter Tryd.func110, Tryd.ntmps110
    go_upto_region 1 with (fail)
    rw [HW.out]
    go_wp2_with fail
    refine hP.mono ?_
    rintro e w3 ⟨hf, hb⟩
    rw [flw_of hf]
    clear hP
    go_wp2
    exact ⟨rfl, rfl, hb⟩
  | ok q k1 =>
    rw [hp] at hP
    obtain ⟨x, y⟩ := q
    clear h hW0 hB hE hS
    go_enter Tryd.func110, Tryd.ntmps110
    go_upto_region 1 with (fail)
    rw [HW.out]
    go_wp2_with fail
    refine hP.mono ?_
    rintro e w5 ⟨rfl, hS5, hCh⟩
    clear hP c1 c2
    have hBW5 := (hCh.block B (lt_of_block hBW) (fun q => by
      rcases q with q | q | q
      · exact hne1 q
      · exact hne2 q
      · exact hob q)).trans hBW
    have hCh5 := (Ch.of_below (X := Ex gw gr v) hbW).trans hCh (fun _ _ x => x)
    clear hCh hBW hbW
    have d0 := cell_of hBW5 0
    have d1 := cell_of hBW5 1
    have z0 : w5.frozen? ⟨B, 0, none⟩ = false := by simp [World.frozen?, hBW5]
    have z1 : w5.frozen? ⟨B, 1, none⟩ = false := by simp [World.frozen?, hBW5]
    simp only [List.getElem?_toArray, List.getElem?_cons_zero, List.getElem?_cons_succ] at d0 d1
    have HS : Hid (WkS w0 w5 gw gr D l k1 v os) := hS5
    have HBB : Hid (w5.heap[B]? = some (.cells #[.int .u64 0, .int .u64 0] 93 (0, 0))) := hBW5
    have HC : Hid (Ch (Ex gw gr v) w w5) := hCh5
    clear hS5 hBW5 hCh5
    rw [← HB.out]
    simp only [ptV]
    go_wp2
    have hF := set2_block HBB.out (.int .u64 x) (.int .u64 y)
    have f0 := cell_of hF 0
    have f1 := cell_of hF 1
    simp only [List.getElem?_toArray, List.getElem?_cons_zero, List.getElem?_cons_succ] at f0 f1
    refine bodyPost_ret (v := ptV (x, y)) (by simp [results, Tryd.results110, go_sem, f0, f1, ptV]) rfl ?_
    have hI : In B (B + 1) w5 ((w5.setCell ⟨B, 0, none⟩ (.int .u64 x)).setCell ⟨B, 1, none⟩ (.int .u64 y)) := ((In.refl _ _ _).set1 0 _).set1 1 _
    refine ⟨rfl, HS.out.inb hI h0B hne1 hne2 hob (NoB.two HBB.out (by simp) (by simp)), ?_⟩
    exact (HC.out.setCell (p := ⟨B, 0, none⟩) (Or.inl (by rw [← HB.out]; exact Nat.le_refl _)) _).setCell (p := ⟨B, 1, none⟩) (Or.inl (by rw [← HB.out]; exact Nat.le_refl _)) _
end Go.Proofs.YtinagjljebbceaaDoor
