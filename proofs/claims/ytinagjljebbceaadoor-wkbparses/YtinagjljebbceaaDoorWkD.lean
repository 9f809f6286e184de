/- Layer 17: lines, rings, spots. -/
import Derived.Test.YtinagjljebbceaaDoorWkC
namespace Go.Proofs.YtinagjljebbceaaDoor
open Go.ChangeShapes Go.WideShapes Go.ChangeAt Go.RowKit
open Ep Oc Tr Wk
set_option linter.unusedVariables false
theorem Pln.mono {w0 w W w' : World} {gw gr : Nat} {D : Int} {l : List UInt8} {v : Value} {os : List Bool} {r : Rs (List Pt)} {e : Ending} (h : Pln w0 W gw gr D l v os r e w') (hC : Ch (Ex gw gr v) w W) : Pln w0 w gw gr D l v os r e w' := by
  unfold Pln at *
  cases r with
  | bad p c => exact h
  | ok ps k' =>
    obtain ⟨u, h1, h2, h3, h4, h5⟩ := h
    refine ⟨u, h1, h2, hC.trans h3 (fun _ _ x => x), fun hl => (h4 hl).mono (fun i hi => ⟨Nat.le_trans hC.size hi.1, hi.2⟩), h5⟩
set_option maxHeartbeats 3200000 in
set_option maxRecDepth 100000 in
theorem line17_any {w0 w : World} {gw gr : Nat} {D : Int} {l : List UInt8} {k : Nat} {v : Value} {os : List Bool} (h : WkS w0 w gw gr D l k v os) (hE : ErrVar w0) (hl : l.length ≤ 65536) (little : Bool) :
    Calls Tryd.prog 79 #[.pointer (some ⟨gw, 0, none⟩), .bool little] w (Pln w0 w gw gr D l v os (lineS l k little)) := by
  obtain ⟨W, hW0⟩ : ∃ W, W = (w.alloc (.cells #[.pointer (some ⟨gw, 0, none⟩)] 164)).alloc (.cells #[.bool little] 4) := ⟨_, rfl⟩
  have hbW : Below w.heap.size w W := by rw [hW0]; exact (alloc_below _).alloc (by simp) _
  have hS := h.later hbW
  have g1 : Bx W w.heap.size 164 (.pointer (some ⟨gw, 0, none⟩)) := by
    rw [hW0]
    exact (Bx.new w _ _).later (alloc_below _)
  have g2 : Bx W (w.heap.size + 1) 4 (.bool little) := by
    rw [hW0]
    have := Bx.new (w.alloc (.cells #[.pointer (some ⟨gw, 0, none⟩)] 164)) 4 (.bool little)
    simpa using this
  have x1 : ¬ Ex gw gr v w.heap.size := fun q => by
    have := h.old (b := w.heap.size) (Nat.le_refl _)
    rcases q with q | q | q
    · exact this.1 q
    · exact this.2.1 q
    · exact this.2.2.1 q
  have x2 : ¬ Ex gw gr v (w.heap.size + 1) := fun q => by
    have := h.old (b := w.heap.size + 1) (by omega)
    rcases q with q | q | q
    · exact this.1 q
    · exact this.2.1 q
    · exact this.2.2.1 q
  have HW : Hid ((w.alloc (.cells #[.pointer (some ⟨gw, 0, none⟩)] 164)).alloc (.cells #[.bool little] 4) = W) := hW0.symm
  have hCt := count17_any hS hE 16 (by decide) little
  have c1 := g1.cell
  have c2 := g2.cell
  have HCW : Hid (Ch (Ex gw gr v) w W) := Ch.of_below hbW
  cases hc : countS l 16 k little with
  | bad p c =>
    rw [hc] at hCt
    have HR : Hid (lineS l k little = .bad p c) := by show (countS l 16 k little).bind _ = _; rw [hc]; rfl
    clear hc h hW0 hE hS
    go_enter Tryd.func79, Tryd.ntmps79
    go_upto_region 1 with (fail)
    rw [HW.out]
    go_wp2_with fail
    refine hCt.mono ?_
    rintro e w3 ⟨hf, hb⟩
    rw [flw_of hf]
    clear hCt
    go_wp2
    refine ⟨rfl, ?_⟩
    unfold Pln
    rw [HR.out]
    exact ⟨rfl, hb⟩
  | ok n k1 =>
    rw [hc] at hCt
    have hcn := count_ok hc
    have HR : Hid (lineS l k little = many (fun j => placeS l j little) n k1) := by show (countS l 16 k little).bind _ = _; rw [hc]; rfl
    have hn9 : n ≤ 100000 := by omega
    clear hc h hW0 hS hcn
    go_enter Tryd.func79, Tryd.ntmps79
    go_upto_region 1 with (fail)
    rw [HW.out]
    go_wp2_with fail
    refine hCt.mono ?_
    rintro e w3 ⟨rfl, hS3, hC3⟩
    clear hCt c1 c2
    have hM := members_pt hS3 hE (g1.ch hC3 x1) (g2.ch hC3 x2) x1 x2 hn9
    have HC : Hid (Ch (Ex gw gr v) w w3) := HCW.out.trans hC3 (fun _ _ x => x)
    clear g1 g2 hC3 hS3 hE
    go_wp2_with fail
    refine hM.mono ?_
    intro e w4 hp
    clear hM
    rw [← HR.out] at hp
    have hp2 := hp.mono HC.out
    clear hp
    cases hr : lineS l k little with
    | bad p c =>
      rw [hr] at hp2
      obtain ⟨hf, hb⟩ := hp2
      rw [flw_of hf]
      go_wp2
      exact ⟨rfl, rfl, hb⟩
    | ok ps k2 =>
      rw [hr] at hp2
      obtain ⟨u, rfl, h2, h3, h4, a, c, rfl, hac⟩ := hp2
      go_wp2
      go_ret
      unfold Pln
      rw [hr]
      exact ⟨_, rfl, h2, h3, h4, a, c, rfl, hac⟩
theorem line_len {l : List UInt8} {k k' : Nat} {little : Bool} {ps : List Pt} (hl : l.length ≤ 65536) (h : lineS l k little = .ok ps k') : ps.length ≤ 1048576 := by
  obtain ⟨n, j, h1, h2⟩ := bind_inv (r := countS l 16 k little) h
  have a := count_ok h1
  have b := many_len h2
  omega
set_option maxHeartbeats 3200000 in
set_option maxRecDepth 100000 in
theorem ring17_any {w0 w : World} {gw gr : Nat} {D : Int} {l : List UInt8} {k : Nat} {v : Value} {os : List Bool} (h : WkS w0 w gw gr D l k v os) (hE : ErrVar w0) (hl : l.length ≤ 65536) (little : Bool) :
    Calls Tryd.prog 83 #[.pointer (some ⟨gw, 0, none⟩), .bool little] w (Pln w0 w gw gr D l v os (ringS l k little)) := by
  obtain ⟨c0, c1, c2⟩ := h.wk.cells
  have hA := at16_any h.rd
  have hL := line17_any h hE hl little
  cases hr : lineS l k little with
  | bad p c =>
    rw [hr] at hL
    have HR : Hid (ringS l k little = .bad p c) := by show (lineS l k little).bind _ = _; rw [hr]; rfl
    clear hr h hE
    go_enter Tryd.func83, Tryd.ntmps83
    go_wp2_with fail
    refine hA.mono ?_
    rintro e w2 ⟨rfl, rfl⟩
    clear hA
    go_wp2_with fail
    refine hL.mono ?_
    rintro e w3 ⟨hf, hb⟩
    rw [flw_of hf]
    clear hL
    go_wp2
    refine ⟨rfl, ?_⟩
    unfold Pln
    rw [HR.out]
    exact ⟨rfl, hb⟩
  | ok ps k1 =>
    rw [hr] at hL
    have HR : Hid (ringS l k little = if ps.length = 0 then .bad k 176 else .ok ps k1) := by show (lineS l k little).bind _ = _; rw [hr]; rfl
    clear hr h hE
    go_enter Tryd.func83, Tryd.ntmps83
    go_wp2_with fail
    refine hA.mono ?_
    rintro e w2 ⟨rfl, rfl⟩
    clear hA
    go_wp2_with fail
    refine hL.mono ?_
    rintro e w3 ⟨u, rfl, h2, h3, h4, a, c, rfl, hac⟩
    clear hL c0 c1 c2
    have H2 : Hid (WkS w0 w3 gw gr D l k1 v os) := h2
    have H4 : Hid (ps.length ≤ 1048576 → Pts (fun i => w2.heap.size ≤ i ∧ i < w3.heap.size) w3 (.slice a ps.length c) ps) := h4
    clear h2 h4
    obtain ⟨n, hn⟩ : ∃ n, n = ps.length := ⟨_, rfl⟩
    have HN : Hid (n = ps.length) := hn
    rw [← hn] at HR H4 hac ⊢
    clear hn
    by_cases h0 : n = 0
    · subst h0
      go_wp2_with fail
      refine (giveUp_any k 176 _).mono ?_
      rintro e w4 ⟨hf, rfl⟩
      rw [flw_of hf]
      go_wp2
      refine ⟨rfl, ?_⟩
      unfold Pln
      rw [HR.out, if_pos (by trivial)]
      exact ⟨rfl, H2.out.bel⟩
    · have t0 : ((n : Int) == 0) = false := by simp; omega
      go_wp2
      go_ret
      unfold Pln
      rw [HR.out, if_neg h0]
      refine ⟨_, rfl, H2.out, h3, ?_, a, c, ?_⟩
      · have := H4.out
        rw [HN.out] at this ⊢
        exact this
      · rw [← HN.out]
        exact ⟨rfl, hac⟩
set_option maxHeartbeats 3200000 in
set_option maxRecDepth 100000 in
theorem spot17_any {w0 w : World} {gw gr : Nat} {D : Int} {l : List UInt8} {k : Nat} {v : Value} {os : List Bool} (h : WkS w0 w gw gr D l k v os) (hE : ErrVar w0) (little : Bool) :
    Calls Tryd.prog 78 #[.pointer (some ⟨gw, 0, none⟩), .bool little] w (Pln w0 w gw gr D l v os (spotS l k little)) := by
  obtain ⟨c0, c1, c2⟩ := h.wk.cells
  have hk9 := h.rd.le
  have hA := at16_any h.rd
  have hP := pats17_any h hE little
  cases hp : patsS l k little with
  | bad p c =>
    rw [hp] at hP
    have HR : Hid (spotS l k little = .bad p c) := by show (patsS l k little).bind _ = _; rw [hp]; rfl
    clear hp h hE
    go_enter Tryd.func78, Tryd.ntmps78
    go_wp2_with fail
    refine hA.mono ?_
    rintro e w2 ⟨rfl, rfl⟩
    clear hA
    go_wp2_with fail
    refine hP.mono ?_
    rintro e w3 ⟨hf, hb⟩
    rw [flw_of hf]
    clear hP
    go_wp2
    refine ⟨rfl, ?_⟩
    unfold Pln
    rw [HR.out]
    exact ⟨rfl, hb⟩
  | ok q k1 =>
    rw [hp] at hP
    obtain ⟨x, y⟩ := q
    have hxy := pats_lt hp
    simp only at hxy
    have HK : Hid (spotS l k little = if nanB x = true ∧ nanB y = true then .ok [] k1 else (mustS k (x, y)).bind fun _ _ => .ok [pt (x, y)] k1) := by show (patsS l k little).bind _ = _; rw [hp]; rfl
    have hM := fun w => must17_any (k := k) (by omega) hxy.1 hxy.2 w
    have hNx := fun w => isNaN_any hxy.1 w
    have hNy := fun w => isNaN_any hxy.2 w
    have HXY : Hid (x < 18446744073709551616 ∧ y < 18446744073709551616) := hxy
    clear hp h hE hxy
    go_enter Tryd.func78, Tryd.ntmps78
    go_wp2_with fail
    refine hA.mono ?_
    rintro e w2 ⟨rfl, rfl⟩
    clear hA
    go_wp2_with fail
    refine hP.mono ?_
    rintro e w3 ⟨rfl, hS3, hC3⟩
    clear hP c0 c1 c2
    simp only [ptv]
    go_upto_region 3 with (fail)
    obtain ⟨W4, hW4⟩ : ∃ W4, W4 = w3.alloc (.cells #[.int .u64 (x : Int), .int .u64 (y : Int)] 93) := ⟨_, rfl⟩
    have hb4 : Below w3.heap.size w3 W4 := by rw [hW4]; exact alloc_below _
    have hB4 : W4.heap[w3.heap.size]? = some (.cells #[.int .u64 (x : Int), .int .u64 (y : Int)] 93 (0, 0)) := by rw [hW4]; exact heap_alloc_new _ _
    rw [← hW4]
    have hS4 := hS3.later hb4
    have hC4 := hC3.trans (Ch.of_below (X := Ex gw gr v) hb4) (fun _ _ x => x)
    have c0 := cell_of hB4 0
    have c1 := cell_of hB4 1
    simp only [List.getElem?_toArray, List.getElem?_cons_zero, List.getElem?_cons_succ] at c0 c1
    have hM4 := hM W4
    have hNx4 := hNx W4
    have hNy4 := hNy W4
    have HB4 : Hid (W4.heap[w3.heap.size]? = some (.cells #[.int .u64 (x : Int), .int .u64 (y : Int)] 93 (0, 0))) := hB4
    obtain ⟨B2, hB2⟩ : ∃ B2, B2 = w3.heap.size := ⟨_, rfl⟩
    rw [← hB2] at c0 c1 HB4 ⊢
    have HBB : Hid (B2 = w3.heap.size) := hB2
    have HC : Hid (Ch (Ex gw gr v) w2 W4) := hC4
    have HS : Hid (WkS w0 W4 gw gr D l k1 v os) := hS4
    clear hM hW4 hNx hNy hB2 hS3 hC3 hb4 hB4 hS4 hC4
    by_cases hx : nanB x = true
    · rw [hx] at hNx4
      go_wp2_with fail
      refine hNx4.mono ?_
      rintro e w5 ⟨rfl, rfl⟩
      clear hNx4
      by_cases hy : nanB y = true
      · rw [hy] at hNy4
        go_wp2_with fail
        refine hNy4.mono ?_
        rintro e w5 ⟨rfl, rfl⟩
        clear hNy4
        go_wp2
        go_ret
        unfold Pln
        rw [HK.out, if_pos ⟨hx, hy⟩]
        exact ⟨_, rfl, HS.out, HC.out, fun _ => ⟨by simp, none, 0, rfl, fun i q hq => by cases hq⟩, none, 0, rfl, Nat.le_refl _⟩
      · have hyf : nanB y = false := by simpa using hy
        rw [hyf] at hNy4
        have HN : Hid (¬ (nanB x = true ∧ nanB y = true)) := fun q => hy q.2
        go_wp2_with fail
        refine hNy4.mono ?_
        rintro e w5 ⟨rfl, rfl⟩
        clear hNy4
        cases hm : mustS k (x, y) with
        | bad p c =>
          rw [hm] at hM4
          have HR : Hid (spotS l k little = .bad p c) := by show _ = _; rw [HK.out, if_neg HN.out, hm]; rfl
          clear hm HK
          go_wp2_with fail
          refine hM4.mono ?_
          rintro e w6 ⟨hb5, hf⟩
          rw [flw_of hf]
          have hbe5 := HS.out.bel.trans (hb5.mono HS.out.bel.size)
          clear hM4 c0 c1 hb5
          go_wp2
          refine ⟨rfl, ?_⟩
          unfold Pln
          rw [HR.out]
          exact ⟨rfl, hbe5⟩
        | ok u k9 =>
          rw [hm] at hM4
          have HR : Hid (spotS l k little = .ok [pt (x, y)] k1) := by show _ = _; rw [HK.out, if_neg HN.out, hm]; rfl
          clear hm HK
          go_wp2_with fail
          refine hM4.mono ?_
          rintro e w6 ⟨hb5, hf⟩
          obtain rfl : e = .returned (.tuple #[]) := hf
          clear hM4 c0 c1
          have hB5 := (hb5.block B2 (lt_of_block HB4.out)).trans HB4.out
          have c0 := cell_of hB5 0
          have c1 := cell_of hB5 1
          simp only [List.getElem?_toArray, List.getElem?_cons_zero, List.getElem?_cons_succ] at c0 c1
          have HS6 : Hid (WkS w0 w6 gw gr D l k1 v os) := HS.out.later hb5
          have HC6 : Hid (Ch (Ex gw gr v) w2 w6) := HC.out.trans (Ch.of_below (X := Ex gw gr v) hb5) (fun _ _ x => x)
          clear hb5 hB5
          go_wp2
          go_ret
          unfold Pln
          rw [HR.out]
          have hb7 : Below w6.heap.size w6 (w6.alloc (.cells #[.int .u64 (x : Int), .int .u64 (y : Int)] 93)) := alloc_below _
          have hB7 : (w6.alloc (.cells #[.int .u64 (x : Int), .int .u64 (y : Int)] 93)).heap[w6.heap.size]? = some (.cells #[.int .u64 (x : Int), .int .u64 (y : Int)] 93 (0, 0)) := heap_alloc_new _ _
          refine ⟨_, rfl, HS6.out.later hb7, HC6.out.trans (Ch.of_below (X := Ex gw gr v) hb7) (fun _ _ x => x), fun _ => ⟨by simp, _, 1, rfl, fun i q hq => ?_⟩, _, 1, rfl, Nat.le_refl _⟩
          match i, hq with
          | 0, hq =>
            cases hq
            have := HXY.out
            have hsz := HC6.out.size
            exact ⟨_, 0, rfl, ⟨hsz, by simp⟩, ⟨by simp [pt], by simp only [pt]; omega⟩, ⟨by simp [pt], by simp only [pt]; omega⟩, cell_of hB7 0, cell_of hB7 1⟩
    · have hxf : nanB x = false := by simpa using hx
      rw [hxf] at hNx4
      have HN : Hid (¬ (nanB x = true ∧ nanB y = true)) := fun q => hx q.1
      go_wp2_with fail
      refine hNx4.mono ?_
      rintro e w5 ⟨rfl, rfl⟩
      clear hNx4 hNy4
      cases hm : mustS k (x, y) with
      | bad p c =>
        rw [hm] at hM4
        have HR : Hid (spotS l k little = .bad p c) := by show _ = _; rw [HK.out, if_neg HN.out, hm]; rfl
        clear hm HK
        go_wp2_with fail
        refine hM4.mono ?_
        rintro e w6 ⟨hb5, hf⟩
        rw [flw_of hf]
        have hbe5 := HS.out.bel.trans (hb5.mono HS.out.bel.size)
        clear hM4 c0 c1 hb5
        go_wp2
        refine ⟨rfl, ?_⟩
        unfold Pln
        rw [HR.out]
        exact ⟨rfl, hbe5⟩
      | ok u k9 =>
        rw [hm] at hM4
        have HR : Hid (spotS l k little = .ok [pt (x, y)] k1) := by show _ = _; rw [HK.out, if_neg HN.out, hm]; rfl
        clear hm HK
        go_wp2_with fail
        refine hM4.mono ?_
        rintro e w6 ⟨hb5, hf⟩
        obtain rfl : e = .returned (.tuple #[]) := hf
        clear hM4 c0 c1
        have hB5 := (hb5.block B2 (lt_of_block HB4.out)).trans HB4.out
        have c0 := cell_of hB5 0
        have c1 := cell_of hB5 1
        simp only [List.getElem?_toArray, List.getElem?_cons_zero, List.getElem?_cons_succ] at c0 c1
        have HS6 : Hid (WkS w0 w6 gw gr D l k1 v os) := HS.out.later hb5
        have HC6 : Hid (Ch (Ex gw gr v) w2 w6) := HC.out.trans (Ch.of_below (X := Ex gw gr v) hb5) (fun _ _ x => x)
        clear hb5 hB5
        go_wp2
        go_ret
        unfold Pln
        rw [HR.out]
        have hb7 : Below w6.heap.size w6 (w6.alloc (.cells #[.int .u64 (x : Int), .int .u64 (y : Int)] 93)) := alloc_below _
        have hB7 : (w6.alloc (.cells #[.int .u64 (x : Int), .int .u64 (y : Int)] 93)).heap[w6.heap.size]? = some (.cells #[.int .u64 (x : Int), .int .u64 (y : Int)] 93 (0, 0)) := heap_alloc_new _ _
        refine ⟨_, rfl, HS6.out.later hb7, HC6.out.trans (Ch.of_below (X := Ex gw gr v) hb7) (fun _ _ x => x), fun _ => ⟨by simp, _, 1, rfl, fun i q hq => ?_⟩, _, 1, rfl, Nat.le_refl _⟩
        match i, hq with
        | 0, hq =>
          cases hq
          have := HXY.out
          have hsz := HC6.out.size
          exact ⟨_, 0, rfl, ⟨hsz, by simp⟩, ⟨by simp [pt], by simp only [pt]; omega⟩, ⟨by simp [pt], by simp only [pt]; omega⟩, cell_of hB7 0, cell_of hB7 1⟩
end Go.Proofs.YtinagjljebbceaaDoor
