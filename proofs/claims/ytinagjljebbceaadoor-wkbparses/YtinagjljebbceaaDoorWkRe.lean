/- Layer 17: the document's walk of a geometry. -/
import Derived.Test.YtinagjljebbceaaDoorWkRg
namespace Go.Proofs.YtinagjljebbceaaDoor
open Go.ChangeShapes Go.WideShapes Go.ChangeAt Go.RowKit
open Ep Oc Tr Wk
set_option linter.unusedVariables false
theorem set_cell4R {w : World} {b : Nat} {t : TypeId} {f : Nat × Nat} {x0 x1 x2 x3 : Value} (h : w.heap[b]? = some (.cells #[x0, x1, x2, x3] t f)) (y : Value) : (w.setCell ⟨b, 1, none⟩ y).heap[b]? = some (.cells #[x0, y, x2, x3] t f) ∧ (w.setCell ⟨b, 2, none⟩ y).heap[b]? = some (.cells #[x0, x1, y, x3] t f) ∧ (w.setCell ⟨b, 3, none⟩ y).heap[b]? = some (.cells #[x0, x1, x2, y] t f) := by
  simp [World.setCell, Array.getElem?_modify, h]
theorem below_drewR (w : World) : Below w.heap.size w w.drew := ⟨rfl, rfl, rfl, Nat.le_refl _, fun _ _ => rfl⟩
theorem info_gm8 : (Tryd.prog.info? 26).map (fun i => (i.zero, i.size, i.bytes)) = some (some (.agg #[.int .i64 0, .slice none 0 0, .slice none 0 0, .slice none 0 0]), 4, 80) := by kernel_rfl
theorem zero_gm8 : ∀ x ∈ (Value.agg #[.int .i64 0, .slice none 0 0, .slice none 0 0, .slice none 0 0]).cells.toList, NB8 x := by
  intro x hx z
  simp [Value.cells] at hx
  rcases hx with rfl | rfl <;> simp
theorem lev_wrap {lev : Nat} (h : lev ≤ 1000) : ((lev + 1 : Nat) : Int) = IntKind.i64.wrap ((lev : Int) + 1) := by
  rw [IntKind.wrap_i64]
  omega
theorem hidR {p : Prop} (h : p) : Hid p := h
set_option maxHeartbeats 60000000 in
set_option maxRecDepth 100000 in
theorem rgeom17 {w0 : World} {g : Nat} {a : Option Addr} {n c : Nat} {D pl : Int} {l : List UInt8} (hr : Rb w0 a n c l) (hn : n ≤ 65536) (hD : D ≤ 256) : ∀ (f home lev : Nat), f = (D + 1 - (lev : Int)).toNat → lev ≤ 1000 → ∀ {w : World} {k : Nat} {v : Value} {os : List Bool}, RkS w0 w g a n c D k 0 pl v os → k ≤ n → os.length ≤ k →
    Calls Tryd.prog 49 #[.pointer (some ⟨g, 0, none⟩), .int .i64 (home : Int), .int .i64 (lev : Int)] w (Rge w0 w g a n c D pl v os (geomS l f home k)) := by
  intro f
  induction f with
  | zero =>
    intro home lev hf hlev w k v os h hk hos
    have HFu : Hid (0 = (D + 1 - (lev : Int)).toNat) := hf
    have hlD : D < (lev : Int) := by omega
    clear hf
    have hl := hr.len
    have HL : Hid (l.length = n) := hl
    obtain ⟨B0, hB0⟩ : ∃ B, B = w.heap.size := ⟨_, rfl⟩
    have HB0 : Hid (B0 = w.heap.size) := hB0
    obtain ⟨eB1, eB2, eB3⟩ := h.old (b := B0) (by omega)
    have hnx : ∀ b, w.heap.size ≤ b → ¬ Er g v b := fun b hb => h.ex hb
    have hxB := hnx B0 (by omega)
    obtain ⟨W, hW0⟩ : ∃ W, W = w.alloc (.cells #[.int .i64 0, .slice none 0 0, .slice none 0 0, .slice none 0 0] 26) := ⟨_, rfl⟩
    have hbW : Below w.heap.size w W := by rw [hW0]; exact alloc_below _
    have gz : W.heap[B0]? = some (.cells #[.int .i64 0, .slice none 0 0, .slice none 0 0, .slice none 0 0] 26 (0, 0)) := by rw [hW0, hB0]; exact heap_alloc_new _ _
    have hS := h.later hbW
    have HW : Hid (w.alloc (.cells #[.int .i64 0, .slice none 0 0, .slice none 0 0, .slice none 0 0] 26) = W) := hW0.symm
    have HC : Hid (Ch (Er g v) w W) := Ch.of_below hbW
    have hgeom : geomS l 0 home k = (headS l home k).bind fun _ _ => .bad k 191 := rfl
    obtain ⟨c0, c1, c2, c3, c4, c5⟩ := hS.cells
    clear h hW0 hB0 hbW
    cases hw1 : word l k 1 false with
    | bad p cc =>
      have hN := rnumber_bad hS hr (by omega) hk (by omega) hw1
      obtain ⟨rfl, rfl, _⟩ := word_bad hw1
      have HR : Hid (geomS l 0 home p = .bad p 160) := by show _ = _; rw [hgeom]; unfold headS ordS; rw [hw1]; rfl
      clear hw1 hS hgeom
      go_enter Tryd.func49, Tryd.ntmps49
      go_upto_region 1 with (fail)
      rw [HW.out, ← HB0.out]
      go_wp2_with fail
      refine hN.mono ?_
      rintro e w2 ⟨rfl, hS2, hC2⟩
      clear hN c0 c1 c2 c3 c4 c5
      have gz2 := (hC2.block B0 (lt_of_block gz) hxB).trans gz
      have HC2 : Hid (Ch (Er g v) w w2) := HC.out.trans hC2 (fun _ _ x => x)
      obtain ⟨c0, c1, c2, c3, c4, c5⟩ := hS2.cells
      clear hC2 gz HC
      have hN6 := rnumber_err hS2 (by decide) 4 false
      go_wp2_with fail
      refine hN6.mono ?_
      rintro e w6 ⟨rfl, hw6⟩
      rw [hw6]
      clear hN6 hw6 w6
      have z0 : w2.frozen? ⟨B0, 0, none⟩ = false := by simp [World.frozen?, gz2]
      have z1 : w2.frozen? ⟨B0, 1, none⟩ = false := by simp [World.frozen?, gz2]
      have z2 : w2.frozen? ⟨B0, 2, none⟩ = false := by simp [World.frozen?, gz2]
      have z3 : w2.frozen? ⟨B0, 3, none⟩ = false := by simp [World.frozen?, gz2]
      have q0 := cell_of gz2 0
      have q1 := cell_of gz2 1
      have q2 := cell_of gz2 2
      have q3 := cell_of gz2 3
      simp only [List.getElem?_toArray, List.getElem?_cons_zero, List.getElem?_cons_succ] at q0 q1 q2 q3
      have HS9 := hidR hS2
      have HZ9 := hidR gz2
      clear hS2 gz2
      go_wp2
      have hF := set4_block HZ9.out (.int .i64 0) (.slice none 0 0) (.slice none 0 0) (.slice none 0 0)
      have r0 := cell_of hF 0
      have r1 := cell_of hF 1
      have r2 := cell_of hF 2
      have r3 := cell_of hF 3
      simp only [List.getElem?_toArray, List.getElem?_cons_zero, List.getElem?_cons_succ] at r0 r1 r2 r3
      refine bodyPost_ret (v := .agg #[.int .i64 0, .slice none 0 0, .slice none 0 0, .slice none 0 0]) (by simp [results, Tryd.results49, go_sem, r0, r1, r2, r3]) rfl ?_
      have hI9 : In B0 (B0 + 1) w2 ((((w2.setCell ⟨B0, 0, none⟩ (.int .i64 0)).setCell ⟨B0, 1, none⟩ (.slice none 0 0)).setCell ⟨B0, 2, none⟩ (.slice none 0 0)).setCell ⟨B0, 3, none⟩ (.slice none 0 0)) := ((((In.refl _ _ _).set1 0 _).set1 1 _).set1 2 _).set1 3 _
      have hfin := fin_rg (b := 0) HS9.out HC2.out hI9 (by rw [← HB0.out]; exact Nat.le_refl _) ⟨eB1, eB2, eB3⟩
      unfold Rge
      rw [HR.out]
      exact ⟨_, _, _, _, _, _, _, _, _, _, _, _, _, rfl, hfin.1, by decide, hfin.2, Or.inl rfl⟩
    | ok x k1 =>
      have hN := rnumber_ok hS hr (by omega) hk (by omega) (by omega) hw1
      have hx8 := (word_ok hw1).2.2
      rw [Nat.pow_one] at hx8
      have hk1 := (word_ok hw1).1
      have hk1n := fwd_word l 1 false k x k1 (by omega) hw1
      have HG1 : Hid (geomS l 0 home k = if 1 < x then .bad k 170 else (kindS l home k1 (x == 1)).bind fun kind k2 => .bad k 191) := by
        show _ = _
        rw [hgeom]
        unfold headS ordS
        rw [hw1, bind_ok]
        split
        · rfl
        · rw [bind_ok]
          cases kindS l home k1 (x == 1) <;> rfl
      clear hw1 hS hgeom
      go_enter Tryd.func49, Tryd.ntmps49
      go_upto_region 1 with (fail)
      rw [HW.out, ← HB0.out]
      go_wp2_with fail
      refine hN.mono ?_
      rintro e w2 ⟨rfl, hS2, hC2⟩
      clear hN c0 c1 c2 c3 c4 c5
      have gz2 := (hC2.block B0 (lt_of_block gz) hxB).trans gz
      have HC2 : Hid (Ch (Er g v) w w2) := HC.out.trans hC2 (fun _ _ x => x)
      obtain ⟨c0, c1, c2, c3, c4, c5⟩ := hS2.cells
      clear hC2 gz HC
      by_cases hx1 : 1 < x
      · have HR : Hid (geomS l 0 home k = .bad k 170) := by show _ = _; rw [HG1.out, if_pos hx1]
        have t1 : decide ((x : Int) > 1) = true := by simp; omega
        have t2 : ((x : Int) == 1) = false := by simp; omega
        have hF := rfault_any hS2 (k : Int) 170
        clear hS2
        go_wp2_with fail
        refine hF.mono ?_
        rintro e w3 ⟨rfl, hS3, hC3⟩
        clear hF c0 c1 c2 c3 c4 c5
        have gz3 := (hC3.block B0 (lt_of_block gz2) hxB).trans gz2
        have HC3 : Hid (Ch (Er g v) w w3) := HC2.out.trans hC3 (fun _ _ x => x)
        obtain ⟨c0, c1, c2, c3, c4, c5⟩ := hS3.cells
        clear hC3 gz2 HC2
        have hN6 := rnumber_err hS3 (by decide) 4 false
        go_wp2_with fail
        refine hN6.mono ?_
        rintro e w6 ⟨rfl, hw6⟩
        rw [hw6]
        clear hN6 hw6 w6
        have z0 : w3.frozen? ⟨B0, 0, none⟩ = false := by simp [World.frozen?, gz3]
        have z1 : w3.frozen? ⟨B0, 1, none⟩ = false := by simp [World.frozen?, gz3]
        have z2 : w3.frozen? ⟨B0, 2, none⟩ = false := by simp [World.frozen?, gz3]
        have z3 : w3.frozen? ⟨B0, 3, none⟩ = false := by simp [World.frozen?, gz3]
        have q0 := cell_of gz3 0
        have q1 := cell_of gz3 1
        have q2 := cell_of gz3 2
        have q3 := cell_of gz3 3
        simp only [List.getElem?_toArray, List.getElem?_cons_zero, List.getElem?_cons_succ] at q0 q1 q2 q3
        have HS9 := hidR hS3
        have HZ9 := hidR gz3
        clear hS3 gz3
        go_wp2
        have hF := set4_block HZ9.out (.int .i64 0) (.slice none 0 0) (.slice none 0 0) (.slice none 0 0)
        have r0 := cell_of hF 0
        have r1 := cell_of hF 1
        have r2 := cell_of hF 2
        have r3 := cell_of hF 3
        simp only [List.getElem?_toArray, List.getElem?_cons_zero, List.getElem?_cons_succ] at r0 r1 r2 r3
        refine bodyPost_ret (v := .agg #[.int .i64 0, .slice none 0 0, .slice none 0 0, .slice none 0 0]) (by simp [results, Tryd.results49, go_sem, r0, r1, r2, r3]) rfl ?_
        have hI9 : In B0 (B0 + 1) w3 ((((w3.setCell ⟨B0, 0, none⟩ (.int .i64 0)).setCell ⟨B0, 1, none⟩ (.slice none 0 0)).setCell ⟨B0, 2, none⟩ (.slice none 0 0)).setCell ⟨B0, 3, none⟩ (.slice none 0 0)) := ((((In.refl _ _ _).set1 0 _).set1 1 _).set1 2 _).set1 3 _
        have hfin := fin_rg (b := 0) HS9.out HC3.out hI9 (by rw [← HB0.out]; exact Nat.le_refl _) ⟨eB1, eB2, eB3⟩
        unfold Rge
        rw [HR.out]
        exact ⟨_, _, _, _, _, _, _, _, _, _, _, _, _, rfl, hfin.1, by decide, hfin.2, Or.inl rfl⟩
      · have t1 : decide ((x : Int) > 1) = false := by simp; omega
        have t1' : decide (1 < (x : Int)) = false := by simp; omega
        have t2 : ((x : Int) == 1) = (x == 1) := by rw [Bool.eq_iff_iff]; simp; omega
        have HG2 : Hid (geomS l 0 home k = (kindS l home k1 (x == 1)).bind fun kind k2 => .bad k 191) := by show _ = _; rw [HG1.out, if_neg hx1]
        clear HG1
        generalize (x == 1) = little at *
        cases hw4 : word l k1 4 little with
        | bad p cc =>
          have hN := rnumber_bad hS2 hr (by omega) (by omega) (by omega) hw4
          obtain ⟨rfl, rfl, _⟩ := word_bad hw4
          have HR : Hid (geomS l 0 home k = .bad p 160) := by show _ = _; rw [HG2.out]; unfold kindS; rw [hw4]; rfl
          clear hw4 hS2
          go_wp2_with fail
          refine hN.mono ?_
          rintro e w3 ⟨rfl, hS3, hC3⟩
          clear hN c0 c1 c2 c3 c4 c5
          have gz3 := (hC3.block B0 (lt_of_block gz2) hxB).trans gz2
          have HC3 : Hid (Ch (Er g v) w w3) := HC2.out.trans hC3 (fun _ _ x => x)
          obtain ⟨c0, c1, c2, c3, c4, c5⟩ := hS3.cells
          clear hC3 gz2 HC2
          have z0 : w3.frozen? ⟨B0, 0, none⟩ = false := by simp [World.frozen?, gz3]
          have z1 : w3.frozen? ⟨B0, 1, none⟩ = false := by simp [World.frozen?, gz3]
          have z2 : w3.frozen? ⟨B0, 2, none⟩ = false := by simp [World.frozen?, gz3]
          have z3 : w3.frozen? ⟨B0, 3, none⟩ = false := by simp [World.frozen?, gz3]
          have q0 := cell_of gz3 0
          have q1 := cell_of gz3 1
          have q2 := cell_of gz3 2
          have q3 := cell_of gz3 3
          simp only [List.getElem?_toArray, List.getElem?_cons_zero, List.getElem?_cons_succ] at q0 q1 q2 q3
          have HS9 := hidR hS3
          have HZ9 := hidR gz3
          clear hS3 gz3
          go_wp2
          have hF := set4_block HZ9.out (.int .i64 0) (.slice none 0 0) (.slice none 0 0) (.slice none 0 0)
          have r0 := cell_of hF 0
          have r1 := cell_of hF 1
          have r2 := cell_of hF 2
          have r3 := cell_of hF 3
          simp only [List.getElem?_toArray, List.getElem?_cons_zero, List.getElem?_cons_succ] at r0 r1 r2 r3
          refine bodyPost_ret (v := .agg #[.int .i64 0, .slice none 0 0, .slice none 0 0, .slice none 0 0]) (by simp [results, Tryd.results49, go_sem, r0, r1, r2, r3]) rfl ?_
          have hI9 : In B0 (B0 + 1) w3 ((((w3.setCell ⟨B0, 0, none⟩ (.int .i64 0)).setCell ⟨B0, 1, none⟩ (.slice none 0 0)).setCell ⟨B0, 2, none⟩ (.slice none 0 0)).setCell ⟨B0, 3, none⟩ (.slice none 0 0)) := ((((In.refl _ _ _).set1 0 _).set1 1 _).set1 2 _).set1 3 _
          have hfin := fin_rg (b := 0) HS9.out HC3.out hI9 (by rw [← HB0.out]; exact Nat.le_refl _) ⟨eB1, eB2, eB3⟩
          unfold Rge
          rw [HR.out]
          exact ⟨_, _, _, _, _, _, _, _, _, _, _, _, _, rfl, hfin.1, by decide, hfin.2, Or.inl rfl⟩
        | ok kind k2 =>
          have hN := rnumber_ok hS2 hr (by omega) (by omega) (by omega) (by omega) hw4
          have hy9 := (word_ok hw4).2.2
          rw [show (256 : Nat) ^ 4 = 4294967296 by decide] at hy9
          have hk2 := (word_ok hw4).1
          have hk2n := fwd_word l 4 little k1 kind k2 (by omega) hw4
          have hy8 : (kind : Int) % 18446744073709551616 = (kind : Int) := by omega
          have HG3 : Hid (geomS l 0 home k = if kind < 1 ∨ 7 < kind then .bad k1 171 else if fitsB home kind = false then .bad k1 172 else .bad k 191) := by
            show _ = _
            rw [HG2.out]
            unfold kindS
            rw [hw4, bind_ok]
            split
            · rfl
            · split
              · rfl
              · rfl
          have HK1 : Hid ((k : Int) + 1 = (k1 : Int)) := by show _ = _; omega
          clear hw4 hS2 HG2
          go_wp2_with fail
          refine hN.mono ?_
          rintro e w3 ⟨rfl, hS3, hC3⟩
          clear hN c0 c1 c2 c3 c4 c5
          have gz3 := (hC3.block B0 (lt_of_block gz2) hxB).trans gz2
          have HC3 : Hid (Ch (Er g v) w w3) := HC2.out.trans hC3 (fun _ _ x => x)
          obtain ⟨c0, c1, c2, c3, c4, c5⟩ := hS3.cells
          clear hC3 gz2 HC2
          by_cases hkd : kind < 1 ∨ 7 < kind
          · have HR : Hid (geomS l 0 home k = .bad k1 171) := by show _ = _; rw [HG3.out, if_pos hkd]
            have hF := rfault_any hS3 ((k : Int) + 1) 171
            clear hS3
            by_cases hkd1 : kind < 1
            · have s1 : decide ((kind : Int) < 1) = true := by simp; omega
              go_wp2_with fail
              refine hF.mono ?_
              rintro e w4 ⟨rfl, hS4, hC4⟩
              clear hF c0 c1 c2 c3 c4 c5
              rw [HK1.out] at hS4
              have gz4 := (hC4.block B0 (lt_of_block gz3) hxB).trans gz3
              have HC4 : Hid (Ch (Er g v) w w4) := HC3.out.trans hC4 (fun _ _ x => x)
              obtain ⟨c0, c1, c2, c3, c4, c5⟩ := hS4.cells
              clear hC4 gz3 HC3
              have z0 : w4.frozen? ⟨B0, 0, none⟩ = false := by simp [World.frozen?, gz4]
              have z1 : w4.frozen? ⟨B0, 1, none⟩ = false := by simp [World.frozen?, gz4]
              have z2 : w4.frozen? ⟨B0, 2, none⟩ = false := by simp [World.frozen?, gz4]
              have z3 : w4.frozen? ⟨B0, 3, none⟩ = false := by simp [World.frozen?, gz4]
              have q0 := cell_of gz4 0
              have q1 := cell_of gz4 1
              have q2 := cell_of gz4 2
              have q3 := cell_of gz4 3
              simp only [List.getElem?_toArray, List.getElem?_cons_zero, List.getElem?_cons_succ] at q0 q1 q2 q3
              have HS9 := hidR hS4
              have HZ9 := hidR gz4
              clear hS4 gz4
              go_wp2
              have hF := set4_block HZ9.out (.int .i64 0) (.slice none 0 0) (.slice none 0 0) (.slice none 0 0)
              have r0 := cell_of hF 0
              have r1 := cell_of hF 1
              have r2 := cell_of hF 2
              have r3 := cell_of hF 3
              simp only [List.getElem?_toArray, List.getElem?_cons_zero, List.getElem?_cons_succ] at r0 r1 r2 r3
              refine bodyPost_ret (v := .agg #[.int .i64 0, .slice none 0 0, .slice none 0 0, .slice none 0 0]) (by simp [results, Tryd.results49, go_sem, r0, r1, r2, r3]) rfl ?_
              have hI9 : In B0 (B0 + 1) w4 ((((w4.setCell ⟨B0, 0, none⟩ (.int .i64 0)).setCell ⟨B0, 1, none⟩ (.slice none 0 0)).setCell ⟨B0, 2, none⟩ (.slice none 0 0)).setCell ⟨B0, 3, none⟩ (.slice none 0 0)) := ((((In.refl _ _ _).set1 0 _).set1 1 _).set1 2 _).set1 3 _
              have hfin := fin_rg (b := 0) HS9.out HC4.out hI9 (by rw [← HB0.out]; exact Nat.le_refl _) ⟨eB1, eB2, eB3⟩
              unfold Rge
              rw [HR.out]
              exact ⟨_, _, _, _, _, _, _, _, _, _, _, _, _, rfl, hfin.1, by decide, hfin.2, Or.inl rfl⟩
            · have s1 : decide ((kind : Int) < 1) = false := by simp; omega
              have s2 : decide ((kind : Int) > 7) = true := by simp; omega
              go_wp2_with fail
              refine hF.mono ?_
              rintro e w4 ⟨rfl, hS4, hC4⟩
              clear hF c0 c1 c2 c3 c4 c5
              rw [HK1.out] at hS4
              have gz4 := (hC4.block B0 (lt_of_block gz3) hxB).trans gz3
              have HC4 : Hid (Ch (Er g v) w w4) := HC3.out.trans hC4 (fun _ _ x => x)
              obtain ⟨c0, c1, c2, c3, c4, c5⟩ := hS4.cells
              clear hC4 gz3 HC3
              have z0 : w4.frozen? ⟨B0, 0, none⟩ = false := by simp [World.frozen?, gz4]
              have z1 : w4.frozen? ⟨B0, 1, none⟩ = false := by simp [World.frozen?, gz4]
              have z2 : w4.frozen? ⟨B0, 2, none⟩ = false := by simp [World.frozen?, gz4]
              have z3 : w4.frozen? ⟨B0, 3, none⟩ = false := by simp [World.frozen?, gz4]
              have q0 := cell_of gz4 0
              have q1 := cell_of gz4 1
              have q2 := cell_of gz4 2
              have q3 := cell_of gz4 3
              simp only [List.getElem?_toArray, List.getElem?_cons_zero, List.getElem?_cons_succ] at q0 q1 q2 q3
              have HS9 := hidR hS4
              have HZ9 := hidR gz4
              clear hS4 gz4
              go_wp2
              have hF := set4_block HZ9.out (.int .i64 0) (.slice none 0 0) (.slice none 0 0) (.slice none 0 0)
              have r0 := cell_of hF 0
              have r1 := cell_of hF 1
              have r2 := cell_of hF 2
              have r3 := cell_of hF 3
              simp only [List.getElem?_toArray, List.getElem?_cons_zero, List.getElem?_cons_succ] at r0 r1 r2 r3
              refine bodyPost_ret (v := .agg #[.int .i64 0, .slice none 0 0, .slice none 0 0, .slice none 0 0]) (by simp [results, Tryd.results49, go_sem, r0, r1, r2, r3]) rfl ?_
              have hI9 : In B0 (B0 + 1) w4 ((((w4.setCell ⟨B0, 0, none⟩ (.int .i64 0)).setCell ⟨B0, 1, none⟩ (.slice none 0 0)).setCell ⟨B0, 2, none⟩ (.slice none 0 0)).setCell ⟨B0, 3, none⟩ (.slice none 0 0)) := ((((In.refl _ _ _).set1 0 _).set1 1 _).set1 2 _).set1 3 _
              have hfin := fin_rg (b := 0) HS9.out HC4.out hI9 (by rw [← HB0.out]; exact Nat.le_refl _) ⟨eB1, eB2, eB3⟩
              unfold Rge
              rw [HR.out]
              exact ⟨_, _, _, _, _, _, _, _, _, _, _, _, _, rfl, hfin.1, by decide, hfin.2, Or.inl rfl⟩
          · have s1 : decide ((kind : Int) < 1) = false := by simp; omega
            have s2 : decide ((kind : Int) > 7) = false := by simp; omega
            have hMb := member_any home kind w3
            by_cases hft : fitsB home kind = false
            · have HR : Hid (geomS l 0 home k = .bad k1 172) := by show _ = _; rw [HG3.out, if_neg hkd, if_pos hft]
              rw [hft] at hMb
              have hF := rfault_any hS3 ((k : Int) + 1) 172
              clear hS3
              go_wp2_with fail
              refine hMb.mono ?_
              rintro e w4 ⟨rfl, rfl⟩
              clear hMb
              go_wp2_with fail
              refine hF.mono ?_
              rintro e w5 ⟨rfl, hS4, hC4⟩
              clear hF c0 c1 c2 c3 c4 c5
              rw [HK1.out] at hS4
              have gz4 := (hC4.block B0 (lt_of_block gz3) hxB).trans gz3
              have HC4 : Hid (Ch (Er g v) w w5) := HC3.out.trans hC4 (fun _ _ x => x)
              obtain ⟨c0, c1, c2, c3, c4, c5⟩ := hS4.cells
              clear hC4 gz3 HC3
              have z0 : w5.frozen? ⟨B0, 0, none⟩ = false := by simp [World.frozen?, gz4]
              have z1 : w5.frozen? ⟨B0, 1, none⟩ = false := by simp [World.frozen?, gz4]
              have z2 : w5.frozen? ⟨B0, 2, none⟩ = false := by simp [World.frozen?, gz4]
              have z3 : w5.frozen? ⟨B0, 3, none⟩ = false := by simp [World.frozen?, gz4]
              have q0 := cell_of gz4 0
              have q1 := cell_of gz4 1
              have q2 := cell_of gz4 2
              have q3 := cell_of gz4 3
              simp only [List.getElem?_toArray, List.getElem?_cons_zero, List.getElem?_cons_succ] at q0 q1 q2 q3
              have HS9 := hidR hS4
              have HZ9 := hidR gz4
              clear hS4 gz4
              go_wp2
              have hF := set4_block HZ9.out (.int .i64 0) (.slice none 0 0) (.slice none 0 0) (.slice none 0 0)
              have r0 := cell_of hF 0
              have r1 := cell_of hF 1
              have r2 := cell_of hF 2
              have r3 := cell_of hF 3
              simp only [List.getElem?_toArray, List.getElem?_cons_zero, List.getElem?_cons_succ] at r0 r1 r2 r3
              refine bodyPost_ret (v := .agg #[.int .i64 0, .slice none 0 0, .slice none 0 0, .slice none 0 0]) (by simp [results, Tryd.results49, go_sem, r0, r1, r2, r3]) rfl ?_
              have hI9 : In B0 (B0 + 1) w5 ((((w5.setCell ⟨B0, 0, none⟩ (.int .i64 0)).setCell ⟨B0, 1, none⟩ (.slice none 0 0)).setCell ⟨B0, 2, none⟩ (.slice none 0 0)).setCell ⟨B0, 3, none⟩ (.slice none 0 0)) := ((((In.refl _ _ _).set1 0 _).set1 1 _).set1 2 _).set1 3 _
              have hfin := fin_rg (b := 0) HS9.out HC4.out hI9 (by rw [← HB0.out]; exact Nat.le_refl _) ⟨eB1, eB2, eB3⟩
              unfold Rge
              rw [HR.out]
              exact ⟨_, _, _, _, _, _, _, _, _, _, _, _, _, rfl, hfin.1, by decide, hfin.2, Or.inl rfl⟩
            · rw [show fitsB home kind = true by simpa using hft] at hMb
              have HG4 : Hid (geomS l 0 home k = .bad k 191) := by show _ = _; rw [HG3.out, if_neg hkd, if_neg hft]
              have t9 : decide ((lev : Int) > D) = true := by simp; omega
              go_wp2_with fail
              refine hMb.mono ?_
              rintro e w4 ⟨rfl, rfl⟩
              clear hMb HG3
              have HR : Hid (geomS l 0 home k = .bad k 191) := HG4
              have hF := rfault_any hS3 (k : Int) 191
              clear hS3
              go_wp2_with fail
              refine hF.mono ?_
              rintro e w5 ⟨rfl, hS4, hC4⟩
              clear hF c0 c1 c2 c3 c4 c5
              have gz4 := (hC4.block B0 (lt_of_block gz3) hxB).trans gz3
              have HC4 : Hid (Ch (Er g v) w w5) := HC3.out.trans hC4 (fun _ _ x => x)
              obtain ⟨c0, c1, c2, c3, c4, c5⟩ := hS4.cells
              clear hC4 gz3 HC3
              have z0 : w5.frozen? ⟨B0, 0, none⟩ = false := by simp [World.frozen?, gz4]
              have z1 : w5.frozen? ⟨B0, 1, none⟩ = false := by simp [World.frozen?, gz4]
              have z2 : w5.frozen? ⟨B0, 2, none⟩ = false := by simp [World.frozen?, gz4]
              have z3 : w5.frozen? ⟨B0, 3, none⟩ = false := by simp [World.frozen?, gz4]
              have q0 := cell_of gz4 0
              have q1 := cell_of gz4 1
              have q2 := cell_of gz4 2
              have q3 := cell_of gz4 3
              simp only [List.getElem?_toArray, List.getElem?_cons_zero, List.getElem?_cons_succ] at q0 q1 q2 q3
              have HS9 := hidR hS4
              have HZ9 := hidR gz4
              clear hS4 gz4
              go_wp2
              have hF := set4_block HZ9.out (.int .i64 0) (.slice none 0 0) (.slice none 0 0) (.slice none 0 0)
              have r0 := cell_of hF 0
              have r1 := cell_of hF 1
              have r2 := cell_of hF 2
              have r3 := cell_of hF 3
              simp only [List.getElem?_toArray, List.getElem?_cons_zero, List.getElem?_cons_succ] at r0 r1 r2 r3
              refine bodyPost_ret (v := .agg #[.int .i64 0, .slice none 0 0, .slice none 0 0, .slice none 0 0]) (by simp [results, Tryd.results49, go_sem, r0, r1, r2, r3]) rfl ?_
              have hI9 : In B0 (B0 + 1) w5 ((((w5.setCell ⟨B0, 0, none⟩ (.int .i64 0)).setCell ⟨B0, 1, none⟩ (.slice none 0 0)).setCell ⟨B0, 2, none⟩ (.slice none 0 0)).setCell ⟨B0, 3, none⟩ (.slice none 0 0)) := ((((In.refl _ _ _).set1 0 _).set1 1 _).set1 2 _).set1 3 _
              have hfin := fin_rg (b := 0) HS9.out HC4.out hI9 (by rw [← HB0.out]; exact Nat.le_refl _) ⟨eB1, eB2, eB3⟩
              unfold Rge
              rw [HR.out]
              exact ⟨_, _, _, _, _, _, _, _, _, _, _, _, _, rfl, hfin.1, by decide, hfin.2, Or.inl rfl⟩
  | succ f ih =>
  intro home lev hf hlev w k v os h hk hos
  have HFu : Hid (f + 1 = (D + 1 - (lev : Int)).toNat) := hf
  have hlD : (lev : Int) ≤ D := by omega
  clear hf
  have hl := hr.len
  have HL : Hid (l.length = n) := hl
  obtain ⟨B0, hB0⟩ : ∃ B, B = w.heap.size := ⟨_, rfl⟩
  have HB0 : Hid (B0 = w.heap.size) := hB0
  obtain ⟨eB1, eB2, eB3⟩ := h.old (b := B0) (by omega)
  have hnx : ∀ b, w.heap.size ≤ b → ¬ Er g v b := fun b hb => h.ex hb
  have hxB := hnx B0 (by omega)
  obtain ⟨W, hW0⟩ : ∃ W, W = w.alloc (.cells #[.int .i64 0, .slice none 0 0, .slice none 0 0, .slice none 0 0] 26) := ⟨_, rfl⟩
  have hbW : Below w.heap.size w W := by rw [hW0]; exact alloc_below _
  have gz : W.heap[B0]? = some (.cells #[.int .i64 0, .slice none 0 0, .slice none 0 0, .slice none 0 0] 26 (0, 0)) := by rw [hW0, hB0]; exact heap_alloc_new _ _
  have hS := h.later hbW
  have HW : Hid (w.alloc (.cells #[.int .i64 0, .slice none 0 0, .slice none 0 0, .slice none 0 0] 26) = W) := hW0.symm
  have HC : Hid (Ch (Er g v) w W) := Ch.of_below hbW
  have hgeom : geomS l (f + 1) home k = (headS l home k).bind fun h k1 => (bodyS l (geomS l f) h.1 h.2 k1).bind fun r k' => .ok (r.1, h.1 :: r.2) k' := rfl
  obtain ⟨c0, c1, c2, c3, c4, c5⟩ := hS.cells
  clear h hW0 hB0 hbW
  cases hw1 : word l k 1 false with
  | bad p cc =>
    have hN := rnumber_bad hS hr (by omega) hk (by omega) hw1
    obtain ⟨rfl, rfl, _⟩ := word_bad hw1
    have HR : Hid (geomS l (f + 1) home p = .bad p 160) := by show _ = _; rw [hgeom]; unfold headS ordS; rw [hw1]; rfl
    clear hw1 hS ih hgeom
    go_enter Tryd.func49, Tryd.ntmps49
    go_upto_region 1 with (fail)
    rw [HW.out, ← HB0.out]
    go_wp2_with fail
    refine hN.mono ?_
    rintro e w2 ⟨rfl, hS2, hC2⟩
    clear hN c0 c1 c2 c3 c4 c5
    have gz2 := (hC2.block B0 (lt_of_block gz) hxB).trans gz
    have HC2 : Hid (Ch (Er g v) w w2) := HC.out.trans hC2 (fun _ _ x => x)
    obtain ⟨c0, c1, c2, c3, c4, c5⟩ := hS2.cells
    clear hC2 gz HC
    have hN6 := rnumber_err hS2 (by decide) 4 false
    go_wp2_with fail
    refine hN6.mono ?_
    rintro e w6 ⟨rfl, hw6⟩
    rw [hw6]
    clear hN6 hw6 w6
    have z0 : w2.frozen? ⟨B0, 0, none⟩ = false := by simp [World.frozen?, gz2]
    have z1 : w2.frozen? ⟨B0, 1, none⟩ = false := by simp [World.frozen?, gz2]
    have z2 : w2.frozen? ⟨B0, 2, none⟩ = false := by simp [World.frozen?, gz2]
    have z3 : w2.frozen? ⟨B0, 3, none⟩ = false := by simp [World.frozen?, gz2]
    have q0 := cell_of gz2 0
    have q1 := cell_of gz2 1
    have q2 := cell_of gz2 2
    have q3 := cell_of gz2 3
    simp only [List.getElem?_toArray, List.getElem?_cons_zero, List.getElem?_cons_succ] at q0 q1 q2 q3
    have HS9 := hidR hS2
    have HZ9 := hidR gz2
    clear hS2 gz2
    go_wp2
    have hF := set4_block HZ9.out (.int .i64 0) (.slice none 0 0) (.slice none 0 0) (.slice none 0 0)
    have r0 := cell_of hF 0
    have r1 := cell_of hF 1
    have r2 := cell_of hF 2
    have r3 := cell_of hF 3
    simp only [List.getElem?_toArray, List.getElem?_cons_zero, List.getElem?_cons_succ] at r0 r1 r2 r3
    refine bodyPost_ret (v := .agg #[.int .i64 0, .slice none 0 0, .slice none 0 0, .slice none 0 0]) (by simp [results, Tryd.results49, go_sem, r0, r1, r2, r3]) rfl ?_
    have hI9 : In B0 (B0 + 1) w2 ((((w2.setCell ⟨B0, 0, none⟩ (.int .i64 0)).setCell ⟨B0, 1, none⟩ (.slice none 0 0)).setCell ⟨B0, 2, none⟩ (.slice none 0 0)).setCell ⟨B0, 3, none⟩ (.slice none 0 0)) := ((((In.refl _ _ _).set1 0 _).set1 1 _).set1 2 _).set1 3 _
    have hfin := fin_rg (b := 0) HS9.out HC2.out hI9 (by rw [← HB0.out]; exact Nat.le_refl _) ⟨eB1, eB2, eB3⟩
    unfold Rge
    rw [HR.out]
    exact ⟨_, _, _, _, _, _, _, _, _, _, _, _, _, rfl, hfin.1, by decide, hfin.2, Or.inl rfl⟩
  | ok x k1 =>
    have hN := rnumber_ok hS hr (by omega) hk (by omega) (by omega) hw1
    have hx8 := (word_ok hw1).2.2
    rw [Nat.pow_one] at hx8
    have hk1 := (word_ok hw1).1
    have hk1n := fwd_word l 1 false k x k1 (by omega) hw1
    have HG1 : Hid (geomS l (f + 1) home k = if 1 < x then .bad k 170 else (kindS l home k1 (x == 1)).bind fun kind k2 => (bodyS l (geomS l f) (x == 1) kind k2).bind fun r k' => .ok (r.1, (x == 1) :: r.2) k') := by
      show _ = _
      rw [hgeom]
      unfold headS ordS
      rw [hw1, bind_ok]
      split
      · rfl
      · rw [bind_ok]
        cases kindS l home k1 (x == 1) <;> rfl
    clear hw1 hS hgeom
    go_enter Tryd.func49, Tryd.ntmps49
    go_upto_region 1 with (fail)
    rw [HW.out, ← HB0.out]
    go_wp2_with fail
    refine hN.mono ?_
    rintro e w2 ⟨rfl, hS2, hC2⟩
    clear hN c0 c1 c2 c3 c4 c5
    have gz2 := (hC2.block B0 (lt_of_block gz) hxB).trans gz
    have HC2 : Hid (Ch (Er g v) w w2) := HC.out.trans hC2 (fun _ _ x => x)
    obtain ⟨c0, c1, c2, c3, c4, c5⟩ := hS2.cells
    clear hC2 gz HC
    by_cases hx1 : 1 < x
    · have HR : Hid (geomS l (f + 1) home k = .bad k 170) := by show _ = _; rw [HG1.out, if_pos hx1]
      have t1 : decide ((x : Int) > 1) = true := by simp; omega
      have t2 : ((x : Int) == 1) = false := by simp; omega
      have hF := rfault_any hS2 (k : Int) 170
      clear hS2 ih
      go_wp2_with fail
      refine hF.mono ?_
      rintro e w3 ⟨rfl, hS3, hC3⟩
      clear hF c0 c1 c2 c3 c4 c5
      have gz3 := (hC3.block B0 (lt_of_block gz2) hxB).trans gz2
      have HC3 : Hid (Ch (Er g v) w w3) := HC2.out.trans hC3 (fun _ _ x => x)
      obtain ⟨c0, c1, c2, c3, c4, c5⟩ := hS3.cells
      clear hC3 gz2 HC2
      have hN6 := rnumber_err hS3 (by decide) 4 false
      go_wp2_with fail
      refine hN6.mono ?_
      rintro e w6 ⟨rfl, hw6⟩
      rw [hw6]
      clear hN6 hw6 w6
      have z0 : w3.frozen? ⟨B0, 0, none⟩ = false := by simp [World.frozen?, gz3]
      have z1 : w3.frozen? ⟨B0, 1, none⟩ = false := by simp [World.frozen?, gz3]
      have z2 : w3.frozen? ⟨B0, 2, none⟩ = false := by simp [World.frozen?, gz3]
      have z3 : w3.frozen? ⟨B0, 3, none⟩ = false := by simp [World.frozen?, gz3]
      have q0 := cell_of gz3 0
      have q1 := cell_of gz3 1
      have q2 := cell_of gz3 2
      have q3 := cell_of gz3 3
      simp only [List.getElem?_toArray, List.getElem?_cons_zero, List.getElem?_cons_succ] at q0 q1 q2 q3
      have HS9 := hidR hS3
      have HZ9 := hidR gz3
      clear hS3 gz3
      go_wp2
      have hF := set4_block HZ9.out (.int .i64 0) (.slice none 0 0) (.slice none 0 0) (.slice none 0 0)
      have r0 := cell_of hF 0
      have r1 := cell_of hF 1
      have r2 := cell_of hF 2
      have r3 := cell_of hF 3
      simp only [List.getElem?_toArray, List.getElem?_cons_zero, List.getElem?_cons_succ] at r0 r1 r2 r3
      refine bodyPost_ret (v := .agg #[.int .i64 0, .slice none 0 0, .slice none 0 0, .slice none 0 0]) (by simp [results, Tryd.results49, go_sem, r0, r1, r2, r3]) rfl ?_
      have hI9 : In B0 (B0 + 1) w3 ((((w3.setCell ⟨B0, 0, none⟩ (.int .i64 0)).setCell ⟨B0, 1, none⟩ (.slice none 0 0)).setCell ⟨B0, 2, none⟩ (.slice none 0 0)).setCell ⟨B0, 3, none⟩ (.slice none 0 0)) := ((((In.refl _ _ _).set1 0 _).set1 1 _).set1 2 _).set1 3 _
      have hfin := fin_rg (b := 0) HS9.out HC3.out hI9 (by rw [← HB0.out]; exact Nat.le_refl _) ⟨eB1, eB2, eB3⟩
      unfold Rge
      rw [HR.out]
      exact ⟨_, _, _, _, _, _, _, _, _, _, _, _, _, rfl, hfin.1, by decide, hfin.2, Or.inl rfl⟩
    · have t1 : decide ((x : Int) > 1) = false := by simp; omega
      have t1' : decide (1 < (x : Int)) = false := by simp; omega
      have t2 : ((x : Int) == 1) = (x == 1) := by rw [Bool.eq_iff_iff]; simp; omega
      have HG2 : Hid (geomS l (f + 1) home k = (kindS l home k1 (x == 1)).bind fun kind k2 => (bodyS l (geomS l f) (x == 1) kind k2).bind fun r k' => .ok (r.1, (x == 1) :: r.2) k') := by show _ = _; rw [HG1.out, if_neg hx1]
      clear HG1
      generalize (x == 1) = little at *
      cases hw4 : word l k1 4 little with
      | bad p cc =>
        have hN := rnumber_bad hS2 hr (by omega) (by omega) (by omega) hw4
        obtain ⟨rfl, rfl, _⟩ := word_bad hw4
        have HR : Hid (geomS l (f + 1) home k = .bad p 160) := by show _ = _; rw [HG2.out]; unfold kindS; rw [hw4]; rfl
        clear hw4 hS2 ih
        go_wp2_with fail
        refine hN.mono ?_
        rintro e w3 ⟨rfl, hS3, hC3⟩
        clear hN c0 c1 c2 c3 c4 c5
        have gz3 := (hC3.block B0 (lt_of_block gz2) hxB).trans gz2
        have HC3 : Hid (Ch (Er g v) w w3) := HC2.out.trans hC3 (fun _ _ x => x)
        obtain ⟨c0, c1, c2, c3, c4, c5⟩ := hS3.cells
        clear hC3 gz2 HC2
        have z0 : w3.frozen? ⟨B0, 0, none⟩ = false := by simp [World.frozen?, gz3]
        have z1 : w3.frozen? ⟨B0, 1, none⟩ = false := by simp [World.frozen?, gz3]
        have z2 : w3.frozen? ⟨B0, 2, none⟩ = false := by simp [World.frozen?, gz3]
        have z3 : w3.frozen? ⟨B0, 3, none⟩ = false := by simp [World.frozen?, gz3]
        have q0 := cell_of gz3 0
        have q1 := cell_of gz3 1
        have q2 := cell_of gz3 2
        have q3 := cell_of gz3 3
        simp only [List.getElem?_toArray, List.getElem?_cons_zero, List.getElem?_cons_succ] at q0 q1 q2 q3
        have HS9 := hidR hS3
        have HZ9 := hidR gz3
        clear hS3 gz3
        go_wp2
        have hF := set4_block HZ9.out (.int .i64 0) (.slice none 0 0) (.slice none 0 0) (.slice none 0 0)
        have r0 := cell_of hF 0
        have r1 := cell_of hF 1
        have r2 := cell_of hF 2
        have r3 := cell_of hF 3
        simp only [List.getElem?_toArray, List.getElem?_cons_zero, List.getElem?_cons_succ] at r0 r1 r2 r3
        refine bodyPost_ret (v := .agg #[.int .i64 0, .slice none 0 0, .slice none 0 0, .slice none 0 0]) (by simp [results, Tryd.results49, go_sem, r0, r1, r2, r3]) rfl ?_
        have hI9 : In B0 (B0 + 1) w3 ((((w3.setCell ⟨B0, 0, none⟩ (.int .i64 0)).setCell ⟨B0, 1, none⟩ (.slice none 0 0)).setCell ⟨B0, 2, none⟩ (.slice none 0 0)).setCell ⟨B0, 3, none⟩ (.slice none 0 0)) := ((((In.refl _ _ _).set1 0 _).set1 1 _).set1 2 _).set1 3 _
        have hfin := fin_rg (b := 0) HS9.out HC3.out hI9 (by rw [← HB0.out]; exact Nat.le_refl _) ⟨eB1, eB2, eB3⟩
        unfold Rge
        rw [HR.out]
        exact ⟨_, _, _, _, _, _, _, _, _, _, _, _, _, rfl, hfin.1, by decide, hfin.2, Or.inl rfl⟩
      | ok kind k2 =>
        have hN := rnumber_ok hS2 hr (by omega) (by omega) (by omega) (by omega) hw4
        have hy9 := (word_ok hw4).2.2
        rw [show (256 : Nat) ^ 4 = 4294967296 by decide] at hy9
        have hk2 := (word_ok hw4).1
        have hk2n := fwd_word l 4 little k1 kind k2 (by omega) hw4
        have hy8 : (kind : Int) % 18446744073709551616 = (kind : Int) := by omega
        have HG3 : Hid (geomS l (f + 1) home k = if kind < 1 ∨ 7 < kind then .bad k1 171 else if fitsB home kind = false then .bad k1 172 else (bodyS l (geomS l f) little kind k2).bind fun r k' => .ok (r.1, little :: r.2) k') := by
          show _ = _
          rw [HG2.out]
          unfold kindS
          rw [hw4, bind_ok]
          split
          · rfl
          · split
            · rfl
            · rfl
        have HK1 : Hid ((k : Int) + 1 = (k1 : Int)) := by show _ = _; omega
        clear hw4 hS2 HG2
        go_wp2_with fail
        refine hN.mono ?_
        rintro e w3 ⟨rfl, hS3, hC3⟩
        clear hN c0 c1 c2 c3 c4 c5
        have gz3 := (hC3.block B0 (lt_of_block gz2) hxB).trans gz2
        have HC3 : Hid (Ch (Er g v) w w3) := HC2.out.trans hC3 (fun _ _ x => x)
        obtain ⟨c0, c1, c2, c3, c4, c5⟩ := hS3.cells
        clear hC3 gz2 HC2
        by_cases hkd : kind < 1 ∨ 7 < kind
        · have HR : Hid (geomS l (f + 1) home k = .bad k1 171) := by show _ = _; rw [HG3.out, if_pos hkd]
          have hF := rfault_any hS3 ((k : Int) + 1) 171
          clear hS3 ih
          by_cases hkd1 : kind < 1
          · have s1 : decide ((kind : Int) < 1) = true := by simp; omega
            go_wp2_with fail
            refine hF.mono ?_
            rintro e w4 ⟨rfl, hS4, hC4⟩
            clear hF c0 c1 c2 c3 c4 c5
            rw [HK1.out] at hS4
            have gz4 := (hC4.block B0 (lt_of_block gz3) hxB).trans gz3
            have HC4 : Hid (Ch (Er g v) w w4) := HC3.out.trans hC4 (fun _ _ x => x)
            obtain ⟨c0, c1, c2, c3, c4, c5⟩ := hS4.cells
            clear hC4 gz3 HC3
            have z0 : w4.frozen? ⟨B0, 0, none⟩ = false := by simp [World.frozen?, gz4]
            have z1 : w4.frozen? ⟨B0, 1, none⟩ = false := by simp [World.frozen?, gz4]
            have z2 : w4.frozen? ⟨B0, 2, none⟩ = false := by simp [World.frozen?, gz4]
            have z3 : w4.frozen? ⟨B0, 3, none⟩ = false := by simp [World.frozen?, gz4]
            have q0 := cell_of gz4 0
            have q1 := cell_of gz4 1
            have q2 := cell_of gz4 2
            have q3 := cell_of gz4 3
            simp only [List.getElem?_toArray, List.getElem?_cons_zero, List.getElem?_cons_succ] at q0 q1 q2 q3
            have HS9 := hidR hS4
            have HZ9 := hidR gz4
            clear hS4 gz4
            go_wp2
            have hF := set4_block HZ9.out (.int .i64 0) (.slice none 0 0) (.slice none 0 0) (.slice none 0 0)
            have r0 := cell_of hF 0
            have r1 := cell_of hF 1
            have r2 := cell_of hF 2
            have r3 := cell_of hF 3
            simp only [List.getElem?_toArray, List.getElem?_cons_zero, List.getElem?_cons_succ] at r0 r1 r2 r3
            refine bodyPost_ret (v := .agg #[.int .i64 0, .slice none 0 0, .slice none 0 0, .slice none 0 0]) (by simp [results, Tryd.results49, go_sem, r0, r1, r2, r3]) rfl ?_
            have hI9 : In B0 (B0 + 1) w4 ((((w4.setCell ⟨B0, 0, none⟩ (.int .i64 0)).setCell ⟨B0, 1, none⟩ (.slice none 0 0)).setCell ⟨B0, 2, none⟩ (.slice none 0 0)).setCell ⟨B0, 3, none⟩ (.slice none 0 0)) := ((((In.refl _ _ _).set1 0 _).set1 1 _).set1 2 _).set1 3 _
            have hfin := fin_rg (b := 0) HS9.out HC4.out hI9 (by rw [← HB0.out]; exact Nat.le_refl _) ⟨eB1, eB2, eB3⟩
            unfold Rge
            rw [HR.out]
            exact ⟨_, _, _, _, _, _, _, _, _, _, _, _, _, rfl, hfin.1, by decide, hfin.2, Or.inl rfl⟩
          · have s1 : decide ((kind : Int) < 1) = false := by simp; omega
            have s2 : decide ((kind : Int) > 7) = true := by simp; omega
            go_wp2_with fail
            refine hF.mono ?_
            rintro e w4 ⟨rfl, hS4, hC4⟩
            clear hF c0 c1 c2 c3 c4 c5
            rw [HK1.out] at hS4
            have gz4 := (hC4.block B0 (lt_of_block gz3) hxB).trans gz3
            have HC4 : Hid (Ch (Er g v) w w4) := HC3.out.trans hC4 (fun _ _ x => x)
            obtain ⟨c0, c1, c2, c3, c4, c5⟩ := hS4.cells
            clear hC4 gz3 HC3
            have z0 : w4.frozen? ⟨B0, 0, none⟩ = false := by simp [World.frozen?, gz4]
            have z1 : w4.frozen? ⟨B0, 1, none⟩ = false := by simp [World.frozen?, gz4]
            have z2 : w4.frozen? ⟨B0, 2, none⟩ = false := by simp [World.frozen?, gz4]
            have z3 : w4.frozen? ⟨B0, 3, none⟩ = false := by simp [World.frozen?, gz4]
            have q0 := cell_of gz4 0
            have q1 := cell_of gz4 1
            have q2 := cell_of gz4 2
            have q3 := cell_of gz4 3
            simp only [List.getElem?_toArray, List.getElem?_cons_zero, List.getElem?_cons_succ] at q0 q1 q2 q3
            have HS9 := hidR hS4
            have HZ9 := hidR gz4
            clear hS4 gz4
            go_wp2
            have hF := set4_block HZ9.out (.int .i64 0) (.slice none 0 0) (.slice none 0 0) (.slice none 0 0)
            have r0 := cell_of hF 0
            have r1 := cell_of hF 1
            have r2 := cell_of hF 2
            have r3 := cell_of hF 3
            simp only [List.getElem?_toArray, List.getElem?_cons_zero, List.getElem?_cons_succ] at r0 r1 r2 r3
            refine bodyPost_ret (v := .agg #[.int .i64 0, .slice none 0 0, .slice none 0 0, .slice none 0 0]) (by simp [results, Tryd.results49, go_sem, r0, r1, r2, r3]) rfl ?_
            have hI9 : In B0 (B0 + 1) w4 ((((w4.setCell ⟨B0, 0, none⟩ (.int .i64 0)).setCell ⟨B0, 1, none⟩ (.slice none 0 0)).setCell ⟨B0, 2, none⟩ (.slice none 0 0)).setCell ⟨B0, 3, none⟩ (.slice none 0 0)) := ((((In.refl _ _ _).set1 0 _).set1 1 _).set1 2 _).set1 3 _
            have hfin := fin_rg (b := 0) HS9.out HC4.out hI9 (by rw [← HB0.out]; exact Nat.le_refl _) ⟨eB1, eB2, eB3⟩
            unfold Rge
            rw [HR.out]
            exact ⟨_, _, _, _, _, _, _, _, _, _, _, _, _, rfl, hfin.1, by decide, hfin.2, Or.inl rfl⟩
        · have s1 : decide ((kind : Int) < 1) = false := by simp; omega
          have s2 : decide ((kind : Int) > 7) = false := by simp; omega
          have hMb := member_any home kind w3
          by_cases hft : fitsB home kind = false
          · have HR : Hid (geomS l (f + 1) home k = .bad k1 172) := by show _ = _; rw [HG3.out, if_neg hkd, if_pos hft]
            rw [hft] at hMb
            have hF := rfault_any hS3 ((k : Int) + 1) 172
            clear hS3 ih
            go_wp2_with fail
            refine hMb.mono ?_
            rintro e w4 ⟨rfl, rfl⟩
            clear hMb
            go_wp2_with fail
            refine hF.mono ?_
            rintro e w5 ⟨rfl, hS4, hC4⟩
            clear hF c0 c1 c2 c3 c4 c5
            rw [HK1.out] at hS4
            have gz4 := (hC4.block B0 (lt_of_block gz3) hxB).trans gz3
            have HC4 : Hid (Ch (Er g v) w w5) := HC3.out.trans hC4 (fun _ _ x => x)
            obtain ⟨c0, c1, c2, c3, c4, c5⟩ := hS4.cells
            clear hC4 gz3 HC3
            have z0 : w5.frozen? ⟨B0, 0, none⟩ = false := by simp [World.frozen?, gz4]
            have z1 : w5.frozen? ⟨B0, 1, none⟩ = false := by simp [World.frozen?, gz4]
            have z2 : w5.frozen? ⟨B0, 2, none⟩ = false := by simp [World.frozen?, gz4]
            have z3 : w5.frozen? ⟨B0, 3, none⟩ = false := by simp [World.frozen?, gz4]
            have q0 := cell_of gz4 0
            have q1 := cell_of gz4 1
            have q2 := cell_of gz4 2
            have q3 := cell_of gz4 3
            simp only [List.getElem?_toArray, List.getElem?_cons_zero, List.getElem?_cons_succ] at q0 q1 q2 q3
            have HS9 := hidR hS4
            have HZ9 := hidR gz4
            clear hS4 gz4
            go_wp2
            have hF := set4_block HZ9.out (.int .i64 0) (.slice none 0 0) (.slice none 0 0) (.slice none 0 0)
            have r0 := cell_of hF 0
            have r1 := cell_of hF 1
            have r2 := cell_of hF 2
            have r3 := cell_of hF 3
            simp only [List.getElem?_toArray, List.getElem?_cons_zero, List.getElem?_cons_succ] at r0 r1 r2 r3
            refine bodyPost_ret (v := .agg #[.int .i64 0, .slice none 0 0, .slice none 0 0, .slice none 0 0]) (by simp [results, Tryd.results49, go_sem, r0, r1, r2, r3]) rfl ?_
            have hI9 : In B0 (B0 + 1) w5 ((((w5.setCell ⟨B0, 0, none⟩ (.int .i64 0)).setCell ⟨B0, 1, none⟩ (.slice none 0 0)).setCell ⟨B0, 2, none⟩ (.slice none 0 0)).setCell ⟨B0, 3, none⟩ (.slice none 0 0)) := ((((In.refl _ _ _).set1 0 _).set1 1 _).set1 2 _).set1 3 _
            have hfin := fin_rg (b := 0) HS9.out HC4.out hI9 (by rw [← HB0.out]; exact Nat.le_refl _) ⟨eB1, eB2, eB3⟩
            unfold Rge
            rw [HR.out]
            exact ⟨_, _, _, _, _, _, _, _, _, _, _, _, _, rfl, hfin.1, by decide, hfin.2, Or.inl rfl⟩
          · rw [show fitsB home kind = true by simpa using hft] at hMb
            have HG4 : Hid (geomS l (f + 1) home k = (bodyS l (geomS l f) little kind k2).bind fun r k' => .ok (r.1, little :: r.2) k') := by show _ = _; rw [HG3.out, if_neg hkd, if_neg hft]
            have t9 : decide ((lev : Int) > D) = false := by simp; omega
            go_wp2_with fail
            refine hMb.mono ?_
            rintro e w4 ⟨rfl, rfl⟩
            clear hMb HG3
            have hos2 : os.length + 1 ≤ k2 := by omega
            obtain ⟨va, vn, rfl, hva⟩ := hS3.row.slice
            go_upto_region 15 with (fail)
            obtain ⟨c0', c1', c2', c3', c4', c5'⟩ := hS3.cells
            have hz5 := hS3.frozen 5
            have hbA : Below w4.heap.size w4 (w4.alloc (.cells #[.bool little] 4)) := alloc_below _
            obtain ⟨v', wB, hrun, hBo, hgr, hvo⟩ := run_appB (w4.alloc (.cells #[.bool little] 4)) (q := w4.heap.size) (b := little) ((hS3.later hbA).row) (by simp) (by omega) (by have := hS3.bel.size; have := hbA.size; omega) 27
            obtain ⟨xa, xc, rfl, _⟩ := hBo.slice
            have hxl : (os ++ [little]).length = os.length + 1 := by simp
            rw [hxl] at hrun hBo hvo
            obtain ⟨hS6, hC6, hv6, cB5, zB5⟩ := hS3.app hbA hgr hvo hBo
            obtain ⟨L, hL⟩ : ∃ L, L = os.length + 1 := ⟨_, rfl⟩
            rw [← hL] at hrun hS6 hC6 hv6
            clear hL hxl hBo hgr hvo
            go_upto_region 17 with (at_builtin; refine wpList_append8 rfl _ _ 27 rfl _ _ rfl rfl hrun ?_)
            obtain ⟨W6, hW6⟩ : ∃ W6, W6 = wB.setCell ⟨g, 5, none⟩ (.slice xa L xc) := ⟨_, rfl⟩
            have hz6 : wB.heap.size = W6.heap.size := by rw [hW6]; simp [World.setCell]
            rw [← hW6, hz6]
            rw [← hW6] at hS6 hC6
            clear hW6 hz6 cB5 zB5 hrun hz5 c0' c1' c2' c3' c4' c5' hbA hS3 c0 c1 c2 c3 c4 c5
            have gz6 := (hC6.block B0 (lt_of_block gz3) hxB).trans gz3
            have HC6 : Hid (Ch (Er g (.slice va os.length vn)) w W6) := HC3.out.trans hC6 (fun _ _ x => x)
            have HV6 : Hid ((Value.slice xa L xc).ownBlock = (Value.slice va os.length vn).ownBlock ∨ ∃ b, (Value.slice xa L xc).ownBlock = some b ∧ w.heap.size ≤ b) := by
              have := HC3.out.size
              rcases hv6 with q | ⟨b, q, hb⟩
              · exact Or.inl q
              · exact Or.inr ⟨b, q, by omega⟩
            have yB : ¬ Er g (.slice xa L xc) B0 := fun q => by
              rcases q with q | q
              · exact eB1 q
              · rcases hv6 with q2 | ⟨b, q2, hb⟩
                · exact eB2 (q2 ▸ q)
                · rw [q2] at q
                  cases q
                  have := lt_of_block gz3
                  omega
            clear hC6 hv6 gz3 HC3
            obtain ⟨W7, hW7⟩ : ∃ W7, W7 = W6.alloc (.cells #[.int .i64 (kind : Int), .slice none 0 0, .slice none 0 0, .slice none 0 0] 26) := ⟨_, rfl⟩
            have hb7 : Below W6.heap.size W6 W7 := by rw [hW7]; exact alloc_below _
            have gA : W7.heap[W6.heap.size]? = some (.cells #[.int .i64 (kind : Int), .slice none 0 0, .slice none 0 0, .slice none 0 0] 26 (0, 0)) := by rw [hW7]; exact heap_alloc_new _ _
            rw [← hW7]
            obtain ⟨bA, hbA⟩ : ∃ b, b = W6.heap.size := ⟨_, rfl⟩
            rw [← hbA] at gA ⊢
            have hS7 := hS6.later hb7
            have GZ : Hid (W7.heap[B0]? = some (.cells #[.int .i64 0, .slice none 0 0, .slice none 0 0, .slice none 0 0] 26 (0, 0))) := (hb7.block _ (lt_of_block gz6)).trans gz6
            have GA : Hid (W7.heap[bA]? = some (.cells #[.int .i64 (kind : Int), .slice none 0 0, .slice none 0 0, .slice none 0 0] 26 (0, 0))) := gA
            have HC7 : Hid (Ch (Er g (.slice va os.length vn)) w W7) := HC6.out.trans (Ch.of_below (X := Er g (.slice va os.length vn)) hb7) (fun _ _ x => x)
            have eA := hS6.old (b := bA) (by omega)
            have yA : ¬ Er g (.slice xa L xc) bA := hS6.ex (by omega)
            have NE : Hid (bA ≠ B0 ∧ w.heap.size ≤ bA ∧ w.heap.size ≤ B0 ∧ bA < W7.heap.size ∧ B0 < W7.heap.size) := ⟨by have := lt_of_block gz6; omega, by have := HC6.out.size; omega, by rw [← HB0.out]; exact Nat.le_refl _, lt_of_block gA, lt_of_block GZ.out⟩
            have hk3 : (os ++ [little]).length ≤ k2 := by rw [List.length_append]; exact hos2
            have HS7 := hidR hS7
            have hkk : 1 ≤ kind ∧ kind ≤ 7 := by omega
            clear hW7 hb7 hbA gA gz6 hS6 HC6 hnx s1 s2 t9 hkd hft
            by_cases e1 : kind = 1
            · subst e1
              have hP := rspot_any hS7 hr hn (by omega) little
              clear hS7 ih
              cases hr1 : spotS l k2 little with
              | bad p cc =>
                rw [hr1] at hP
                have HR : Hid (geomS l (f + 1) home k = .bad p cc) := by show _ = _; rw [HG4.out]; show ((spotS l k2 little).bind _).bind _ = _; rw [hr1]; rfl
                clear hr1
                go_wp2_with fail
                refine hP.mono ?_
                rintro e w8 ⟨ua, um, uc, k8, rfl, hS8, hcc, hC8⟩
                clear hP
                have gA8 : w8.heap[bA]? = some (.cells #[.int .i64 1, .slice none 0 0, .slice none 0 0, .slice none 0 0] 26 (0, 0)) := (hC8.block _ (lt_of_block GA.out) yA).trans GA.out
                have gz8 : w8.heap[B0]? = some (.cells #[.int .i64 0, .slice none 0 0, .slice none 0 0, .slice none 0 0] 26 (0, 0)) := (hC8.block _ (lt_of_block GZ.out) yB).trans GZ.out
                have HS8 := hidR hS8
                have HC8 := hidR hC8
                have HGA := hidR gA8
                have HGZ := hidR gz8
                have a0 := cell_of gA8 0
                have a1 := cell_of gA8 1
                have a2 := cell_of gA8 2
                have a3 := cell_of gA8 3
                simp only [List.getElem?_toArray, List.getElem?_cons_zero, List.getElem?_cons_succ] at a0 a1 a2 a3
                have f1 : w8.frozen? ⟨bA, 1, none⟩ = false := by simp [World.frozen?, gA8]
                clear hS8 hC8 gA8 gz8
                go_upto_region 36 with (fail)
                obtain ⟨w9, hw9⟩ : ∃ w9, w9 = w8.setCell ⟨bA, 1, none⟩ (.slice ua um uc) := ⟨_, rfl⟩
                rw [← hw9]
                have hI1 : In bA (bA + 1) w8 w9 := by rw [hw9]; exact (In.refl _ _ _).set1 1 _
                have gA9 : w9.heap[bA]? = some (.cells #[.int .i64 1, .slice ua um uc, .slice none 0 0, .slice none 0 0] 26 (0, 0)) := by rw [hw9]; exact (set_cell4R HGA.out (.slice ua um uc)).1
                have gz9 : w9.heap[B0]? = some (.cells #[.int .i64 0, .slice none 0 0, .slice none 0 0, .slice none 0 0] 26 (0, 0)) := (hI1.block _ (lt_of_block HGZ.out) (by have := NE.out.1; omega)).trans HGZ.out
                clear hw9 a0 a1 a2 a3 f1
                have a0 := cell_of gA9 0
                have a1 := cell_of gA9 1
                have a2 := cell_of gA9 2
                have a3 := cell_of gA9 3
                have b0 := cell_of gz9 0
                have b1 := cell_of gz9 1
                have b2 := cell_of gz9 2
                have b3 := cell_of gz9 3
                simp only [List.getElem?_toArray, List.getElem?_cons_zero, List.getElem?_cons_succ] at a0 a1 a2 a3 b0 b1 b2 b3
                have f0 : w9.frozen? ⟨B0, 0, none⟩ = false := by simp [World.frozen?, gz9]
                have f1 : w9.frozen? ⟨B0, 1, none⟩ = false := by simp [World.frozen?, gz9]
                have f2 : w9.frozen? ⟨B0, 2, none⟩ = false := by simp [World.frozen?, gz9]
                have f3 : w9.frozen? ⟨B0, 3, none⟩ = false := by simp [World.frozen?, gz9]
                have HZ9 := hidR gz9
                clear gA9 gz9
                go_wp2
                have hF := set4_block HZ9.out (.int .i64 1) (.slice ua um uc) (.slice none 0 0) (.slice none 0 0)
                have r0 := cell_of hF 0
                have r1 := cell_of hF 1
                have r2 := cell_of hF 2
                have r3 := cell_of hF 3
                simp only [List.getElem?_toArray, List.getElem?_cons_zero, List.getElem?_cons_succ] at r0 r1 r2 r3
                refine bodyPost_ret (v := .agg #[.int .i64 1, .slice ua um uc, .slice none 0 0, .slice none 0 0]) (by simp [results, Tryd.results49, go_sem, r0, r1, r2, r3]) rfl ?_
                have hI2 : In B0 (B0 + 1) w9 ((((w9.setCell ⟨B0, 0, none⟩ (.int .i64 1)).setCell ⟨B0, 1, none⟩ (.slice ua um uc)).setCell ⟨B0, 2, none⟩ (.slice none 0 0)).setCell ⟨B0, 3, none⟩ (.slice none 0 0)) := ((((In.refl _ _ _).set1 0 _).set1 1 _).set1 2 _).set1 3 _
                have hne := NE.out
                have hsz8 := HC8.out.size
                have hsz7 := HC7.out.size
                have s1 := hI1.size
                have s2 := hI2.size
                have hCw : Ch (Er g (.slice va os.length vn)) w w8 := HC7.out.trans HC8.out (fun i hi => er_sub HV6.out i hi)
                have hvA : Value.ownBlock (.slice xa L xc) ≠ some bA := fun e => yA (Or.inr e)
                have hvB : Value.ownBlock (.slice xa L xc) ≠ some B0 := fun e => yB (Or.inr e)
                have h9 := fin_rg (b := 0) HS8.out hCw hI1 hne.2.1 ⟨eA.1, hvA, eA.2.2⟩
                have h10 := fin_rg (b := 0) h9.1 h9.2 hI2 hne.2.2.1 ⟨eB1, hvB, eB3⟩
                unfold Rge
                rw [HR.out]
                exact ⟨_, _, _, _, _, _, _, _, _, _, _, _, _, rfl, h10.1, hcc, h10.2, HV6.out⟩
              | ok ps k8 =>
                rw [hr1] at hP
                have HR : Hid (geomS l (f + 1) home k = .ok ((⟨1, ps, []⟩, .nil), [little]) k8) := by show _ = _; rw [HG4.out]; show ((spotS l k2 little).bind _).bind _ = _; rw [hr1]; rfl
                clear hr1
                go_wp2_with fail
                refine hP.mono ?_
                rintro e w8 ⟨u, rfl, hS8, hC8, hP8⟩
                clear hP
                obtain ⟨ua, uc, hu⟩ := hP8.slc
                have hT : TV (fun i => W7.heap.size ≤ i ∧ i < w8.heap.size) w8 (.agg #[.int .i64 1, u, .slice none 0 0, .slice none 0 0]) (⟨1, ps, []⟩, .nil) := tv_of (t := (⟨1, ps, []⟩, .nil)) ⟨by simp, by simp⟩ hP8 ⟨by simp, none, 0, rfl, fun i q hq => by cases hq⟩ ⟨by simp [Fo.len], by simp [Fo.len]⟩ trivial
                obtain ⟨Q, hQ⟩ : ∃ Q, .slice ua Q uc = u := ⟨_, hu.symm⟩
                subst hQ
                clear hu
                have HT := hidR hT
                have gA8 : w8.heap[bA]? = some (.cells #[.int .i64 1, .slice none 0 0, .slice none 0 0, .slice none 0 0] 26 (0, 0)) := (hC8.block _ (lt_of_block GA.out) yA).trans GA.out
                have gz8 : w8.heap[B0]? = some (.cells #[.int .i64 0, .slice none 0 0, .slice none 0 0, .slice none 0 0] 26 (0, 0)) := (hC8.block _ (lt_of_block GZ.out) yB).trans GZ.out
                have HS8 := hidR hS8
                have HC8 := hidR hC8
                have HGA := hidR gA8
                have HGZ := hidR gz8
                have a0 := cell_of gA8 0
                have a1 := cell_of gA8 1
                have a2 := cell_of gA8 2
                have a3 := cell_of gA8 3
                simp only [List.getElem?_toArray, List.getElem?_cons_zero, List.getElem?_cons_succ] at a0 a1 a2 a3
                have f1 : w8.frozen? ⟨bA, 1, none⟩ = false := by simp [World.frozen?, gA8]
                clear hS8 hC8 gA8 gz8 hT
                go_upto_region 36 with (fail)
                obtain ⟨w9, hw9⟩ : ∃ w9, w9 = w8.setCell ⟨bA, 1, none⟩ (.slice ua Q uc) := ⟨_, rfl⟩
                rw [← hw9]
                have hI1 : In bA (bA + 1) w8 w9 := by rw [hw9]; exact (In.refl _ _ _).set1 1 _
                have gA9 : w9.heap[bA]? = some (.cells #[.int .i64 1, .slice ua Q uc, .slice none 0 0, .slice none 0 0] 26 (0, 0)) := by rw [hw9]; exact (set_cell4R HGA.out (.slice ua Q uc)).1
                have gz9 : w9.heap[B0]? = some (.cells #[.int .i64 0, .slice none 0 0, .slice none 0 0, .slice none 0 0] 26 (0, 0)) := (hI1.block _ (lt_of_block HGZ.out) (by have := NE.out.1; omega)).trans HGZ.out
                clear hw9 a0 a1 a2 a3 f1
                have a0 := cell_of gA9 0
                have a1 := cell_of gA9 1
                have a2 := cell_of gA9 2
                have a3 := cell_of gA9 3
                have b0 := cell_of gz9 0
                have b1 := cell_of gz9 1
                have b2 := cell_of gz9 2
                have b3 := cell_of gz9 3
                simp only [List.getElem?_toArray, List.getElem?_cons_zero, List.getElem?_cons_succ] at a0 a1 a2 a3 b0 b1 b2 b3
                have f0 : w9.frozen? ⟨B0, 0, none⟩ = false := by simp [World.frozen?, gz9]
                have f1 : w9.frozen? ⟨B0, 1, none⟩ = false := by simp [World.frozen?, gz9]
                have f2 : w9.frozen? ⟨B0, 2, none⟩ = false := by simp [World.frozen?, gz9]
                have f3 : w9.frozen? ⟨B0, 3, none⟩ = false := by simp [World.frozen?, gz9]
                have HZ9 := hidR gz9
                clear gA9 gz9
                go_wp2
                have hF := set4_block HZ9.out (.int .i64 1) (.slice ua Q uc) (.slice none 0 0) (.slice none 0 0)
                have r0 := cell_of hF 0
                have r1 := cell_of hF 1
                have r2 := cell_of hF 2
                have r3 := cell_of hF 3
                simp only [List.getElem?_toArray, List.getElem?_cons_zero, List.getElem?_cons_succ] at r0 r1 r2 r3
                refine bodyPost_ret (v := .agg #[.int .i64 1, .slice ua Q uc, .slice none 0 0, .slice none 0 0]) (by simp [results, Tryd.results49, go_sem, r0, r1, r2, r3]) rfl ?_
                have hI2 : In B0 (B0 + 1) w9 ((((w9.setCell ⟨B0, 0, none⟩ (.int .i64 1)).setCell ⟨B0, 1, none⟩ (.slice ua Q uc)).setCell ⟨B0, 2, none⟩ (.slice none 0 0)).setCell ⟨B0, 3, none⟩ (.slice none 0 0)) := ((((In.refl _ _ _).set1 0 _).set1 1 _).set1 2 _).set1 3 _
                have hne := NE.out
                have hsz8 := HC8.out.size
                have hsz7 := HC7.out.size
                have s1 := hI1.size
                have s2 := hI2.size
                have hCw : Ch (Er g (.slice va os.length vn)) w w8 := HC7.out.trans HC8.out (fun i hi => er_sub HV6.out i hi)
                have hvA : Value.ownBlock (.slice xa L xc) ≠ some bA := fun e => yA (Or.inr e)
                have hvB : Value.ownBlock (.slice xa L xc) ≠ some B0 := fun e => yB (Or.inr e)
                have h9 := fin_rg (b := 0) HS8.out hCw hI1 hne.2.1 ⟨eA.1, hvA, eA.2.2⟩
                have h10 := fin_rg (b := 0) h9.1 h9.2 hI2 hne.2.2.1 ⟨eB1, hvB, eB3⟩
                unfold Rge
                rw [HR.out]
                refine ⟨_, (.slice xa L xc), rfl, h10.1, h10.2, HV6.out, (HT.out.below ⟨by omega, fun i hi => ?_⟩).mono (fun i hi => ?_)⟩
                · have q1 := hi.1
                  exact (hI2.block i (by have := hi.2; omega) (by omega)).trans (hI1.block i (by have := hi.2; omega) (by omega))
                · have q1 := hi.1
                  exact ⟨by omega, by have := hi.2; omega, fun e => by have := (HS7.out.row.blk e).2.1; omega⟩
            · by_cases e2 : kind = 2
              · subst e2
                have hCt := rcount_all hS7 hr hn (by omega) 16 (by decide) little false
                have hPa := fun (x : Int) (w1 : World) (hq : Rcs w0 W7 g a n c D pl (.slice xa L xc) (os ++ [little]) (rcountS l 16 k2 little false) x w1) => rpairs_all hr hn (by omega) hq
                have HLn : Hid ((rcountS l 16 k2 little false).bind (fun N k' => many (fun j => placeS l j little) N k') = lineS l k2 little) := by show _ = _; rw [rcount_false]; rfl
                clear hS7 ih
                go_wp2_with fail
                refine hCt.mono ?_
                rintro e w7 ⟨xn, rfl, hRc⟩
                have hPa7 := hPa xn w7 hRc
                rw [HLn.out] at hPa7
                clear hCt hPa hRc
                cases hr1 : lineS l k2 little with
                | bad p cc =>
                  rw [hr1] at hPa7
                  have HR : Hid (geomS l (f + 1) home k = .bad p cc) := by show _ = _; rw [HG4.out]; show ((lineS l k2 little).bind _).bind _ = _; rw [hr1]; rfl
                  clear hr1
                  go_wp2_with fail
                  refine hPa7.mono ?_
                  rintro e w8 ⟨ua, um, uc, rfl, hC8, k8, hS8, hcc⟩
                  clear hPa7
                  have gA8 : w8.heap[bA]? = some (.cells #[.int .i64 2, .slice none 0 0, .slice none 0 0, .slice none 0 0] 26 (0, 0)) := (hC8.block _ (lt_of_block GA.out) yA).trans GA.out
                  have gz8 : w8.heap[B0]? = some (.cells #[.int .i64 0, .slice none 0 0, .slice none 0 0, .slice none 0 0] 26 (0, 0)) := (hC8.block _ (lt_of_block GZ.out) yB).trans GZ.out
                  have HS8 := hidR hS8
                  have HC8 := hidR hC8
                  have HGA := hidR gA8
                  have HGZ := hidR gz8
                  have a0 := cell_of gA8 0
                  have a1 := cell_of gA8 1
                  have a2 := cell_of gA8 2
                  have a3 := cell_of gA8 3
                  simp only [List.getElem?_toArray, List.getElem?_cons_zero, List.getElem?_cons_succ] at a0 a1 a2 a3
                  have f1 : w8.frozen? ⟨bA, 1, none⟩ = false := by simp [World.frozen?, gA8]
                  clear hS8 hC8 gA8 gz8
                  go_upto_region 36 with (fail)
                  obtain ⟨w9, hw9⟩ : ∃ w9, w9 = w8.setCell ⟨bA, 1, none⟩ (.slice ua um uc) := ⟨_, rfl⟩
                  rw [← hw9]
                  have hI1 : In bA (bA + 1) w8 w9 := by rw [hw9]; exact (In.refl _ _ _).set1 1 _
                  have gA9 : w9.heap[bA]? = some (.cells #[.int .i64 2, .slice ua um uc, .slice none 0 0, .slice none 0 0] 26 (0, 0)) := by rw [hw9]; exact (set_cell4R HGA.out (.slice ua um uc)).1
                  have gz9 : w9.heap[B0]? = some (.cells #[.int .i64 0, .slice none 0 0, .slice none 0 0, .slice none 0 0] 26 (0, 0)) := (hI1.block _ (lt_of_block HGZ.out) (by have := NE.out.1; omega)).trans HGZ.out
                  clear hw9 a0 a1 a2 a3 f1
                  have a0 := cell_of gA9 0
                  have a1 := cell_of gA9 1
                  have a2 := cell_of gA9 2
                  have a3 := cell_of gA9 3
                  have b0 := cell_of gz9 0
                  have b1 := cell_of gz9 1
                  have b2 := cell_of gz9 2
                  have b3 := cell_of gz9 3
                  simp only [List.getElem?_toArray, List.getElem?_cons_zero, List.getElem?_cons_succ] at a0 a1 a2 a3 b0 b1 b2 b3
                  have f0 : w9.frozen? ⟨B0, 0, none⟩ = false := by simp [World.frozen?, gz9]
                  have f1 : w9.frozen? ⟨B0, 1, none⟩ = false := by simp [World.frozen?, gz9]
                  have f2 : w9.frozen? ⟨B0, 2, none⟩ = false := by simp [World.frozen?, gz9]
                  have f3 : w9.frozen? ⟨B0, 3, none⟩ = false := by simp [World.frozen?, gz9]
                  have HZ9 := hidR gz9
                  clear gA9 gz9
                  go_wp2
                  have hF := set4_block HZ9.out (.int .i64 2) (.slice ua um uc) (.slice none 0 0) (.slice none 0 0)
                  have r0 := cell_of hF 0
                  have r1 := cell_of hF 1
                  have r2 := cell_of hF 2
                  have r3 := cell_of hF 3
                  simp only [List.getElem?_toArray, List.getElem?_cons_zero, List.getElem?_cons_succ] at r0 r1 r2 r3
                  refine bodyPost_ret (v := .agg #[.int .i64 2, .slice ua um uc, .slice none 0 0, .slice none 0 0]) (by simp [results, Tryd.results49, go_sem, r0, r1, r2, r3]) rfl ?_
                  have hI2 : In B0 (B0 + 1) w9 ((((w9.setCell ⟨B0, 0, none⟩ (.int .i64 2)).setCell ⟨B0, 1, none⟩ (.slice ua um uc)).setCell ⟨B0, 2, none⟩ (.slice none 0 0)).setCell ⟨B0, 3, none⟩ (.slice none 0 0)) := ((((In.refl _ _ _).set1 0 _).set1 1 _).set1 2 _).set1 3 _
                  have hne := NE.out
                  have hsz8 := HC8.out.size
                  have hsz7 := HC7.out.size
                  have s1 := hI1.size
                  have s2 := hI2.size
                  have hCw : Ch (Er g (.slice va os.length vn)) w w8 := HC7.out.trans HC8.out (fun i hi => er_sub HV6.out i hi)
                  have hvA : Value.ownBlock (.slice xa L xc) ≠ some bA := fun e => yA (Or.inr e)
                  have hvB : Value.ownBlock (.slice xa L xc) ≠ some B0 := fun e => yB (Or.inr e)
                  have h9 := fin_rg (b := 0) HS8.out hCw hI1 hne.2.1 ⟨eA.1, hvA, eA.2.2⟩
                  have h10 := fin_rg (b := 0) h9.1 h9.2 hI2 hne.2.2.1 ⟨eB1, hvB, eB3⟩
                  unfold Rge
                  rw [HR.out]
                  exact ⟨_, _, _, _, _, _, _, _, _, _, _, _, _, rfl, h10.1, hcc, h10.2, HV6.out⟩
                | ok ps k8 =>
                  rw [hr1] at hPa7
                  have HR : Hid (geomS l (f + 1) home k = .ok ((⟨2, ps, []⟩, .nil), [little]) k8) := by show _ = _; rw [HG4.out]; show ((lineS l k2 little).bind _).bind _ = _; rw [hr1]; rfl
                  clear hr1
                  go_wp2_with fail
                  refine hPa7.mono ?_
                  rintro e w8 ⟨ua, um, uc, rfl, hC8, hP8, hS8, _⟩
                  clear hPa7
                  obtain ⟨u, hu0⟩ : ∃ u, u = Value.slice ua um uc := ⟨_, rfl⟩
                  rw [← hu0] at hP8 ⊢
                  have hu : u = Value.slice ua um uc := hu0
                  clear hu0
                  have hT : TV (fun i => W7.heap.size ≤ i ∧ i < w8.heap.size) w8 (.agg #[.int .i64 2, u, .slice none 0 0, .slice none 0 0]) (⟨2, ps, []⟩, .nil) := tv_of (t := (⟨2, ps, []⟩, .nil)) ⟨by simp, by simp⟩ hP8 ⟨by simp, none, 0, rfl, fun i q hq => by cases hq⟩ ⟨by simp [Fo.len], by simp [Fo.len]⟩ trivial
                  obtain ⟨Q, hQ⟩ : ∃ Q, .slice ua Q uc = u := ⟨_, hu.symm⟩
                  subst hQ
                  clear hu
                  have HT := hidR hT
                  have gA8 : w8.heap[bA]? = some (.cells #[.int .i64 2, .slice none 0 0, .slice none 0 0, .slice none 0 0] 26 (0, 0)) := (hC8.block _ (lt_of_block GA.out) yA).trans GA.out
                  have gz8 : w8.heap[B0]? = some (.cells #[.int .i64 0, .slice none 0 0, .slice none 0 0, .slice none 0 0] 26 (0, 0)) := (hC8.block _ (lt_of_block GZ.out) yB).trans GZ.out
                  have HS8 := hidR hS8
                  have HC8 := hidR hC8
                  have HGA := hidR gA8
                  have HGZ := hidR gz8
                  have a0 := cell_of gA8 0
                  have a1 := cell_of gA8 1
                  have a2 := cell_of gA8 2
                  have a3 := cell_of gA8 3
                  simp only [List.getElem?_toArray, List.getElem?_cons_zero, List.getElem?_cons_succ] at a0 a1 a2 a3
                  have f1 : w8.frozen? ⟨bA, 1, none⟩ = false := by simp [World.frozen?, gA8]
                  clear hS8 hC8 gA8 gz8 hT
                  go_upto_region 36 with (fail)
                  obtain ⟨w9, hw9⟩ : ∃ w9, w9 = w8.setCell ⟨bA, 1, none⟩ (.slice ua Q uc) := ⟨_, rfl⟩
                  rw [← hw9]
                  have hI1 : In bA (bA + 1) w8 w9 := by rw [hw9]; exact (In.refl _ _ _).set1 1 _
                  have gA9 : w9.heap[bA]? = some (.cells #[.int .i64 2, .slice ua Q uc, .slice none 0 0, .slice none 0 0] 26 (0, 0)) := by rw [hw9]; exact (set_cell4R HGA.out (.slice ua Q uc)).1
                  have gz9 : w9.heap[B0]? = some (.cells #[.int .i64 0, .slice none 0 0, .slice none 0 0, .slice none 0 0] 26 (0, 0)) := (hI1.block _ (lt_of_block HGZ.out) (by have := NE.out.1; omega)).trans HGZ.out
                  clear hw9 a0 a1 a2 a3 f1
                  have a0 := cell_of gA9 0
                  have a1 := cell_of gA9 1
                  have a2 := cell_of gA9 2
                  have a3 := cell_of gA9 3
                  have b0 := cell_of gz9 0
                  have b1 := cell_of gz9 1
                  have b2 := cell_of gz9 2
                  have b3 := cell_of gz9 3
                  simp only [List.getElem?_toArray, List.getElem?_cons_zero, List.getElem?_cons_succ] at a0 a1 a2 a3 b0 b1 b2 b3
                  have f0 : w9.frozen? ⟨B0, 0, none⟩ = false := by simp [World.frozen?, gz9]
                  have f1 : w9.frozen? ⟨B0, 1, none⟩ = false := by simp [World.frozen?, gz9]
                  have f2 : w9.frozen? ⟨B0, 2, none⟩ = false := by simp [World.frozen?, gz9]
                  have f3 : w9.frozen? ⟨B0, 3, none⟩ = false := by simp [World.frozen?, gz9]
                  have HZ9 := hidR gz9
                  clear gA9 gz9
                  go_wp2
                  have hF := set4_block HZ9.out (.int .i64 2) (.slice ua Q uc) (.slice none 0 0) (.slice none 0 0)
                  have r0 := cell_of hF 0
                  have r1 := cell_of hF 1
                  have r2 := cell_of hF 2
                  have r3 := cell_of hF 3
                  simp only [List.getElem?_toArray, List.getElem?_cons_zero, List.getElem?_cons_succ] at r0 r1 r2 r3
                  refine bodyPost_ret (v := .agg #[.int .i64 2, .slice ua Q uc, .slice none 0 0, .slice none 0 0]) (by simp [results, Tryd.results49, go_sem, r0, r1, r2, r3]) rfl ?_
                  have hI2 : In B0 (B0 + 1) w9 ((((w9.setCell ⟨B0, 0, none⟩ (.int .i64 2)).setCell ⟨B0, 1, none⟩ (.slice ua Q uc)).setCell ⟨B0, 2, none⟩ (.slice none 0 0)).setCell ⟨B0, 3, none⟩ (.slice none 0 0)) := ((((In.refl _ _ _).set1 0 _).set1 1 _).set1 2 _).set1 3 _
                  have hne := NE.out
                  have hsz8 := HC8.out.size
                  have hsz7 := HC7.out.size
                  have s1 := hI1.size
                  have s2 := hI2.size
                  have hCw : Ch (Er g (.slice va os.length vn)) w w8 := HC7.out.trans HC8.out (fun i hi => er_sub HV6.out i hi)
                  have hvA : Value.ownBlock (.slice xa L xc) ≠ some bA := fun e => yA (Or.inr e)
                  have hvB : Value.ownBlock (.slice xa L xc) ≠ some B0 := fun e => yB (Or.inr e)
                  have h9 := fin_rg (b := 0) HS8.out hCw hI1 hne.2.1 ⟨eA.1, hvA, eA.2.2⟩
                  have h10 := fin_rg (b := 0) h9.1 h9.2 hI2 hne.2.2.1 ⟨eB1, hvB, eB3⟩
                  unfold Rge
                  rw [HR.out]
                  refine ⟨_, (.slice xa L xc), rfl, h10.1, h10.2, HV6.out, (HT.out.below ⟨by omega, fun i hi => ?_⟩).mono (fun i hi => ?_)⟩
                  · have q1 := hi.1
                    exact (hI2.block i (by have := hi.2; omega) (by omega)).trans (hI1.block i (by have := hi.2; omega) (by omega))
                  · have q1 := hi.1
                    exact ⟨by omega, by have := hi.2; omega, fun e => by have := (HS7.out.row.blk e).2.1; omega⟩
              · by_cases e3 : kind = 3
                · subst e3
                  have hCt := rcount_all hS7 hr hn (by omega) 20 (by decide) little false
                  rw [rcount_false] at hCt
                  have hold7 : ∀ b, W7.heap.size ≤ b → b ≠ g ∧ (Value.slice xa L xc).ownBlock ≠ some b ∧ w0.heap.size ≤ b := fun b hb => HS7.out.old hb
                  clear hS7 ih
                  cases hc : countS l 20 k2 little with
                  | bad p cc =>
                    rw [hc] at hCt
                    have HR : Hid (geomS l (f + 1) home k = .bad p cc) := by show _ = _; rw [HG4.out]; show ((countS l 20 k2 little).bind _).bind _ = _; rw [hc]; rfl
                    clear hc
                    go_wp2_with fail
                    refine hCt.mono ?_
                    rintro e w8 ⟨xn, rfl, hC8, rfl, k8, hS8, hcc⟩
                    clear hCt
                    obtain ⟨c0, c1, c2, c3, c4, c5⟩ := hS8.cells
                    go_wp2
                    refine wp_loop_rounds 1 ?_
                    rw [rounds_succ]
                    have gA9 : w8.heap[bA]? = some (.cells #[.int .i64 3, .slice none 0 0, .slice none 0 0, .slice none 0 0] 26 (0, 0)) := (hC8.block _ (lt_of_block GA.out) yA).trans GA.out
                    have gz9 : w8.heap[B0]? = some (.cells #[.int .i64 0, .slice none 0 0, .slice none 0 0, .slice none 0 0] 26 (0, 0)) := (hC8.block _ (lt_of_block GZ.out) yB).trans GZ.out
                    have HS8 := hidR hS8
                    have HC8 := hidR hC8
                    have hI1 : In bA (bA + 1) w8 w8 := In.refl _ _ _
                    clear hS8 hC8
                    go_upto_region 36 with (fail)
                    have a0 := cell_of gA9 0
                    have a1 := cell_of gA9 1
                    have a2 := cell_of gA9 2
                    have a3 := cell_of gA9 3
                    have b0 := cell_of gz9 0
                    have b1 := cell_of gz9 1
                    have b2 := cell_of gz9 2
                    have b3 := cell_of gz9 3
                    simp only [List.getElem?_toArray, List.getElem?_cons_zero, List.getElem?_cons_succ] at a0 a1 a2 a3 b0 b1 b2 b3
                    have f0 : w8.frozen? ⟨B0, 0, none⟩ = false := by simp [World.frozen?, gz9]
                    have f1 : w8.frozen? ⟨B0, 1, none⟩ = false := by simp [World.frozen?, gz9]
                    have f2 : w8.frozen? ⟨B0, 2, none⟩ = false := by simp [World.frozen?, gz9]
                    have f3 : w8.frozen? ⟨B0, 3, none⟩ = false := by simp [World.frozen?, gz9]
                    have HZ9 := hidR gz9
                    clear gA9 gz9
                    go_wp2
                    have hF := set4_block HZ9.out (.int .i64 3) (.slice none 0 0) (.slice none 0 0) (.slice none 0 0)
                    have r0 := cell_of hF 0
                    have r1 := cell_of hF 1
                    have r2 := cell_of hF 2
                    have r3 := cell_of hF 3
                    simp only [List.getElem?_toArray, List.getElem?_cons_zero, List.getElem?_cons_succ] at r0 r1 r2 r3
                    refine bodyPost_ret (v := .agg #[.int .i64 3, .slice none 0 0, .slice none 0 0, .slice none 0 0]) (by simp [results, Tryd.results49, go_sem, r0, r1, r2, r3]) rfl ?_
                    have hI2 : In B0 (B0 + 1) w8 ((((w8.setCell ⟨B0, 0, none⟩ (.int .i64 3)).setCell ⟨B0, 1, none⟩ (.slice none 0 0)).setCell ⟨B0, 2, none⟩ (.slice none 0 0)).setCell ⟨B0, 3, none⟩ (.slice none 0 0)) := ((((In.refl _ _ _).set1 0 _).set1 1 _).set1 2 _).set1 3 _
                    have hne := NE.out
                    have hsz8 := HC8.out.size
                    have hsz7 := HC7.out.size
                    have s1 := hI1.size
                    have s2 := hI2.size
                    have hCw : Ch (Er g (.slice va os.length vn)) w w8 := HC7.out.trans HC8.out (fun i hi => er_sub HV6.out i hi)
                    have hvA : Value.ownBlock (.slice xa L xc) ≠ some bA := fun e => yA (Or.inr e)
                    have hvB : Value.ownBlock (.slice xa L xc) ≠ some B0 := fun e => yB (Or.inr e)
                    have h9 := fin_rg (b := 0) HS8.out hCw hI1 hne.2.1 ⟨eA.1, hvA, eA.2.2⟩
                    have h10 := fin_rg (b := 0) h9.1 h9.2 hI2 hne.2.2.1 ⟨eB1, hvB, eB3⟩
                    unfold Rge
                    rw [HR.out]
                    exact ⟨_, _, _, _, _, _, _, _, _, _, _, _, _, rfl, h10.1, hcc, h10.2, HV6.out⟩
                  | ok N k3 =>
                    rw [hc] at hCt
                    have hcn := count_ok hc
                    have hN9 : N ≤ 100000 := by omega
                    have hk39 : k3 ≤ n := by have := fwd_count l 20 little k2 N k3 (by omega) hc; omega
                    have HGc : Hid (geomS l (f + 1) home k = ((many (fun j => ringS l j little) N k3).bind fun rs k' => Rs.ok (((⟨3, [], rs⟩, .nil) : Tree), ([] : List Bool)) k').bind fun r k' => .ok (r.1, little :: r.2) k') := by show _ = _; rw [HG4.out]; show ((countS l 20 k2 little).bind _).bind _ = _; rw [hc]; rfl
                    clear hc hcn HG4
                    go_wp2_with fail
                    refine hCt.mono ?_
                    rintro e w8 ⟨xn, rfl, hC8, rfl, hS8⟩
                    clear hCt
                    have HSt : Hid (Rgr w0 W7 g bA a n c D pl (.slice xa L xc) (os ++ [little]) N (fun j => ringS l j little) (many (fun j => ringS l j little) N k3) 0 0 (.slice none 0 0) 0 w8) := ⟨k3, pl, [], (hC8.block _ (lt_of_block GA.out) yA).trans GA.out, hS8, hC8.mono (fun i _ q => Or.inl q), Nw.nil _ _ _ _, Nat.le_refl _, Or.inl ⟨rfl, rfl, hk39, rfl, [], rfl, trivial, pre_nil _⟩⟩
                    have HGZ : Hid (∀ w', Ch (fun i => Er g (.slice xa L xc) i ∨ i = bA) W7 w' → w'.heap[B0]? = some (.cells #[.int .i64 0, .slice none 0 0, .slice none 0 0, .slice none 0 0] 26 (0, 0))) := fun w' hC => (hC.block B0 (lt_of_block GZ.out) (fun q => by
                      rcases q with q | q
                      · exact yB q
                      · exact NE.out.1 q.symm)).trans GZ.out
                    clear hS8 hC8
                    go_wp2
                    go_loopw [13] (fun i wr => ∃ (j m : Nat) (ra : Option Addr) (rc : Nat) (cd : Int), i = .int .i64 (j : Int) ∧ j ≤ N ∧ Hid (Rgr w0 W7 g bA a n c D pl (.slice xa L xc) (os ++ [little]) N (fun j => ringS l j little) (many (fun j => ringS l j little) N k3) j m (.slice ra m rc) cd wr)) (fun i _ => N - (intOf i).toNat)
                    case atStart => exact ⟨0, 0, none, 0, 0, rfl, Nat.zero_le _, HSt⟩
                    case round =>
                      obtain ⟨j, m, ra, rc, cd, rfl, hj, HX⟩ := hrel
                      obtain ⟨kj, plj, xs, hblk, hSr, hCr, hNr, hmj, hdis⟩ := HX.out
                      obtain ⟨c0, c1, c2, c3, c4, c5⟩ := hSr.cells
                      rcases hdis with ⟨rfl, rfl, hkj, hmj2, ps, hpl, hLr, hM⟩ | ⟨p, cc, rfl, hcc, rfl, hM⟩
                      · by_cases hlt : j < N
                        · have HOld := hidR hold7
                          have HEA := hidR eA
                          have hl9 : m ≤ 1000000 := by omega
                          have hbs : W7.heap.size ≤ wr.heap.size := hCr.size
                          have HCnt : ∀ w', Below wr.heap.size wr w' → Calls Tryd.prog 74 #[.pointer (some ⟨g, 0, none⟩), .bool little, .int .i64 16, .bool true] w' fun e w'' => ∃ x, e = .returned (.int .i64 x) ∧ Rcs w0 wr g a n c D plj (.slice xa L xc) (os ++ [little]) (rcountS l 16 kj little true) x w'' := fun w' hb => (rcount_all (hSr.later hb) hr hn hkj 16 (by decide) little true).mono (fun e w'' ⟨x, hx, hq1, hq2⟩ => ⟨x, hx, (Ch.of_below (X := Er g (.slice xa L xc)) hb).trans hq1 (fun _ _ x => x), hq2⟩)
                          have HPr : ∀ (x : Int) (w1 : World), Rcs w0 wr g a n c D plj (.slice xa L xc) (os ++ [little]) (rcountS l 16 kj little true) x w1 → Calls Tryd.prog 73 #[.pointer (some ⟨g, 0, none⟩), .bool little, .int .i64 x] w1 fun e w' => ∃ ua um uc, e = .returned (.slice ua um uc) ∧ Rps w0 wr g a n c D plj (.slice xa L xc) (os ++ [little]) (ringS l kj little) (.slice ua um uc) w' := fun x w1 hq => by rw [rring_is]; exact rpairs_all hr hn hkj hq
                          have HNext : ∀ {w2 wA w5 : World} {ua : Option Addr} {um uc : Nat} {va : Option Addr} {vc : Nat}, Rps w0 wr g a n c D plj (.slice xa L xc) (os ++ [little]) (ringS l kj little) (.slice ua um uc) w2 → Below w2.heap.size w2 wA → Nw w5 W7.heap.size 22 1 (.slice va (m + 1) vc) (m + 1) (xs ++ [.slice ua um uc]) → wA.grownBy w5 (Value.slice ra m rc).ownBlock → ((Value.slice va (m + 1) vc).ownBlock = (Value.slice ra m rc).ownBlock ∨ (Value.slice va (m + 1) vc).ownBlock = some wA.heap.size) → (∃ cd, Rgr w0 W7 g bA a n c D plj (.slice xa L xc) (os ++ [little]) N (fun j => ringS l j little) (many (fun j => ringS l j little) N k3) (j + 1) (m + 1) (.slice va (m + 1) vc) cd (w5.setCell ⟨bA, 2, none⟩ (.slice va (m + 1) vc))) ∧ w5.cell? ⟨bA, 2, none⟩ = some (.slice ra m rc) ∧ w5.frozen? ⟨bA, 2, none⟩ = false := fun h1 h2 h3 h4 h5 => Rgr.next hold7 eA NE.out.2.2.2.1 hblk hCr hNr hmj2 hpl hLr hM hlt h1 h2 h3 h4 h5
                          have HNk : ∀ w', (∀ b, (Value.slice ra m rc).ownBlock = some b → w'.heap[b]? = wr.heap[b]?) → Nw w' W7.heap.size 22 1 (.slice ra m rc) m xs := fun w' hq => hNr.keep hq
                          have HCell : ∀ w', Ch (Er g (.slice xa L xc)) wr w' → w'.cell? ⟨bA, 2, none⟩ = some (.slice ra m rc) ∧ (∀ b, (Value.slice ra m rc).ownBlock = some b → w'.heap[b]? = wr.heap[b]?) := fun w' hC => ⟨(hC.cell (p := ⟨bA, 2, none⟩) (lt_of_block hblk) yA).trans (cell_of hblk 2), fun b hb => hC.block b (hNr.blk hb).2.1 (fun q => by
                            have := hold7 b (hNr.blk hb).1
                            rcases q with q | q
                            · exact this.1 q
                            · exact this.2.1 q)⟩
                          have k2c := cell_of hblk 2
                          simp only [List.getElem?_toArray, List.getElem?_cons_zero, List.getElem?_cons_succ] at k2c
                          clear hLr hM hpl HX HSt hmj2
                          go_upto_region 35 with (fail)
                          go_region_law (first
                            | (go_simp; go_at_call 74; refine (HCnt _ (by first | exact Below.refl _ _ | exact below_drewN (Below.refl _ _) _ | exact below_drewR _)).mono ?_; rintro e w1 ⟨xn, rfl, hq1⟩; have hP1 := HPr xn w1 hq1; have m1 := (HCell w1 hq1.1).1)
                            | (go_simp; go_at_call 73; refine hP1.mono ?_; rintro e w2 ⟨ua, um, uc, rfl, hq2⟩; have m2 := (HCell w2 hq2.1).1; have m3 : (w2.alloc (.cells #[.slice ua um uc] 22)).cell? ⟨bA, 2, none⟩ = some (.slice ra m rc) := ((alloc_below (.cells #[.slice ua um uc] 22)).cell (p := ⟨bA, 2, none⟩) (cell_lt m2)).trans m2)
                            | (refine step_appN (by rfl) (.tmp 169) (.tmp 176) 23 22 (by rfl) Tryd.underlying23 info_spt7 rfl (by decide) zero_spt7 (by rfl) (HNk _ (fun b hb => ((alloc_below (.cells #[.slice ua um uc] 22)).block b (by have := (hNr.blk hb).2.1; have := hq2.1.size; omega)).trans ((HCell w2 hq2.1).2 b hb))) (by rfl) (news := [.slice ua um uc]) rfl (fun jj u hu => by rw [cell_of (Bx.new w2 22 (.slice ua um uc)) jj]; simpa using hu) (by simp [Value.oneCell']) (by simp [NB8]) hl9 (by decide) (by have := hq2.1.size; simp; omega) ?_; intro va vc w5 hN5 hg5 ho5; obtain ⟨⟨cd5, hR5⟩, m5, f5⟩ := HNext hq2 (alloc_below (.cells #[.slice ua um uc] 22)) hN5 hg5 ho5))
                          all_goals
                            clear c0 c1 c2 c3 c4 c5 k2c HCnt HPr HNext HNk HCell hP1 m1 m2 m3 m5 f5 hN5 hg5 ho5 hq1 hq2
                            have HR5 := hidR hR5
                            clear hR5
                            go_wp2
                            go_roundw
                            case rel => exact ⟨j + 1, m + 1, va, vc, cd5, by go_num, by omega, HR5⟩
                            case measure => simp [intOf]; omega
                        · have hjn : j = N := by omega
                          subst hjn
                          subst hmj2
                          have HRm : Hid (many (fun j => ringS l j little) m k3 = .ok ps kj) := by
                            show _ = _
                            rw [← hM, Nat.sub_self]
                            show Rs.ok (ps ++ []) kj = _
                            rw [List.append_nil]
                          have HR : Hid (geomS l (f + 1) home k = .ok ((⟨3, [], ps⟩, .nil), [little]) kj) := by show _ = _; rw [HGc.out, HRm.out]; rfl
                          have hNr' : wr.ownsRow W7.heap.size 22 1 (.slice ra m rc) ps.length xs := by rw [hpl]; exact hNr.own
                          have hRg := rgs_of hNr' hLr (by omega)
                          have hT : TV (fun i => W7.heap.size ≤ i ∧ i < wr.heap.size) wr (.agg #[.int .i64 3, .slice none 0 0, .slice ra m rc, .slice none 0 0]) (⟨3, [], ps⟩, .nil) := tv_of (t := (⟨3, [], ps⟩, .nil)) ⟨by simp, by simp⟩ ⟨by simp, none, 0, rfl, fun i q hq => by cases hq⟩ (hRg.mono (fun i hi => by
                            rcases hi with hi | hi
                            · exact ⟨hi.1, hi.2.1⟩
                            · exact ⟨(hNr.blk hi).1, (hNr.blk hi).2.1⟩)) ⟨by simp [Fo.len], by simp [Fo.len]⟩ trivial
                          have HT := hidR hT
                          have gz9 := HGZ.out wr hCr
                          have gA9 := hblk
                          have HC8 : Hid (Ch (fun i => Er g (.slice xa L xc) i ∨ i = bA) W7 wr) := hCr
                          have HS8 := hidR hSr
                          have hI1 : In bA (bA + 1) wr wr := In.refl _ _ _
                          go_upto_region 36 with (fail)
                          have a0 := cell_of gA9 0
                          have a1 := cell_of gA9 1
                          have a2 := cell_of gA9 2
                          have a3 := cell_of gA9 3
                          have b0 := cell_of gz9 0
                          have b1 := cell_of gz9 1
                          have b2 := cell_of gz9 2
                          have b3 := cell_of gz9 3
                          simp only [List.getElem?_toArray, List.getElem?_cons_zero, List.getElem?_cons_succ] at a0 a1 a2 a3 b0 b1 b2 b3
                          have f0 : wr.frozen? ⟨B0, 0, none⟩ = false := by simp [World.frozen?, gz9]
                          have f1 : wr.frozen? ⟨B0, 1, none⟩ = false := by simp [World.frozen?, gz9]
                          have f2 : wr.frozen? ⟨B0, 2, none⟩ = false := by simp [World.frozen?, gz9]
                          have f3 : wr.frozen? ⟨B0, 3, none⟩ = false := by simp [World.frozen?, gz9]
                          have HZ9 := hidR gz9
                          clear gA9 gz9
                          go_wp2
                          have hF := set4_block HZ9.out (.int .i64 3) (.slice none 0 0) (.slice ra m rc) (.slice none 0 0)
                          have r0 := cell_of hF 0
                          have r1 := cell_of hF 1
                          have r2 := cell_of hF 2
                          have r3 := cell_of hF 3
                          simp only [List.getElem?_toArray, List.getElem?_cons_zero, List.getElem?_cons_succ] at r0 r1 r2 r3
                          refine bodyPost_ret (v := .agg #[.int .i64 3, .slice none 0 0, .slice ra m rc, .slice none 0 0]) (by simp [results, Tryd.results49, go_sem, r0, r1, r2, r3]) rfl ?_
                          have hI2 : In B0 (B0 + 1) wr ((((wr.setCell ⟨B0, 0, none⟩ (.int .i64 3)).setCell ⟨B0, 1, none⟩ (.slice none 0 0)).setCell ⟨B0, 2, none⟩ (.slice ra m rc)).setCell ⟨B0, 3, none⟩ (.slice none 0 0)) := ((((In.refl _ _ _).set1 0 _).set1 1 _).set1 2 _).set1 3 _
                          have hne := NE.out
                          have hsz8 := HC8.out.size
                          have hsz7 := HC7.out.size
                          have s1 := hI1.size
                          have s2 := hI2.size
                          have hCw : Ch (Er g (.slice va os.length vn)) w wr := HC7.out.trans HC8.out (fun i hi q => by
                            rcases q with q | q
                            · exact er_sub HV6.out i hi q
                            · omega)
                          have hvA : Value.ownBlock (.slice xa L xc) ≠ some bA := fun e => yA (Or.inr e)
                          have hvB : Value.ownBlock (.slice xa L xc) ≠ some B0 := fun e => yB (Or.inr e)
                          have h9 := fin_rg (b := 0) HS8.out hCw hI1 hne.2.1 ⟨eA.1, hvA, eA.2.2⟩
                          have h10 := fin_rg (b := 0) h9.1 h9.2 hI2 hne.2.2.1 ⟨eB1, hvB, eB3⟩
                          unfold Rge
                          rw [HR.out]
                          refine ⟨_, (.slice xa L xc), rfl, h10.1, h10.2, HV6.out, (HT.out.below ⟨by omega, fun i hi => ?_⟩).mono (fun i hi => ?_)⟩
                          · have q1 := hi.1
                            exact (hI2.block i (by have := hi.2; omega) (by omega)).trans (hI1.block i (by have := hi.2; omega) (by omega))
                          · have q1 := hi.1
                            exact ⟨by omega, by have := hi.2; omega, fun e => by have := (HS7.out.row.blk e).2.1; omega⟩
                      · have HR : Hid (geomS l (f + 1) home k = .bad p cc) := by show _ = _; rw [HGc.out, hM]; rfl
                        have t0 : ((cc : Int) == 0) = false := by simpa using hcc
                        by_cases hlt : j < N
                        · have gz9 := HGZ.out wr hCr
                          have gA9 := hblk
                          have HC8 : Hid (Ch (fun i => Er g (.slice xa L xc) i ∨ i = bA) W7 wr) := hCr
                          have HS8 := hidR hSr
                          have hI1 : In bA (bA + 1) wr wr := In.refl _ _ _
                          go_upto_region 36 with (fail)
                          have a0 := cell_of gA9 0
                          have a1 := cell_of gA9 1
                          have a2 := cell_of gA9 2
                          have a3 := cell_of gA9 3
                          have b0 := cell_of gz9 0
                          have b1 := cell_of gz9 1
                          have b2 := cell_of gz9 2
                          have b3 := cell_of gz9 3
                          simp only [List.getElem?_toArray, List.getElem?_cons_zero, List.getElem?_cons_succ] at a0 a1 a2 a3 b0 b1 b2 b3
                          have f0 : wr.frozen? ⟨B0, 0, none⟩ = false := by simp [World.frozen?, gz9]
                          have f1 : wr.frozen? ⟨B0, 1, none⟩ = false := by simp [World.frozen?, gz9]
                          have f2 : wr.frozen? ⟨B0, 2, none⟩ = false := by simp [World.frozen?, gz9]
                          have f3 : wr.frozen? ⟨B0, 3, none⟩ = false := by simp [World.frozen?, gz9]
                          have HZ9 := hidR gz9
                          clear gA9 gz9
                          go_wp2
                          have hF := set4_block HZ9.out (.int .i64 3) (.slice none 0 0) (.slice ra m rc) (.slice none 0 0)
                          have r0 := cell_of hF 0
                          have r1 := cell_of hF 1
                          have r2 := cell_of hF 2
                          have r3 := cell_of hF 3
                          simp only [List.getElem?_toArray, List.getElem?_cons_zero, List.getElem?_cons_succ] at r0 r1 r2 r3
                          refine bodyPost_ret (v := .agg #[.int .i64 3, .slice none 0 0, .slice ra m rc, .slice none 0 0]) (by simp [results, Tryd.results49, go_sem, r0, r1, r2, r3]) rfl ?_
                          have hI2 : In B0 (B0 + 1) wr ((((wr.setCell ⟨B0, 0, none⟩ (.int .i64 3)).setCell ⟨B0, 1, none⟩ (.slice none 0 0)).setCell ⟨B0, 2, none⟩ (.slice ra m rc)).setCell ⟨B0, 3, none⟩ (.slice none 0 0)) := ((((In.refl _ _ _).set1 0 _).set1 1 _).set1 2 _).set1 3 _
                          have hne := NE.out
                          have hsz8 := HC8.out.size
                          have hsz7 := HC7.out.size
                          have s1 := hI1.size
                          have s2 := hI2.size
                          have hCw : Ch (Er g (.slice va os.length vn)) w wr := HC7.out.trans HC8.out (fun i hi q => by
                            rcases q with q | q
                            · exact er_sub HV6.out i hi q
                            · omega)
                          have hvA : Value.ownBlock (.slice xa L xc) ≠ some bA := fun e => yA (Or.inr e)
                          have hvB : Value.ownBlock (.slice xa L xc) ≠ some B0 := fun e => yB (Or.inr e)
                          have h9 := fin_rg (b := 0) HS8.out hCw hI1 hne.2.1 ⟨eA.1, hvA, eA.2.2⟩
                          have h10 := fin_rg (b := 0) h9.1 h9.2 hI2 hne.2.2.1 ⟨eB1, hvB, eB3⟩
                          unfold Rge
                          rw [HR.out]
                          exact ⟨_, _, _, _, _, _, _, _, _, _, _, _, _, rfl, h10.1, hcc, h10.2, HV6.out⟩
                        · have gz9 := HGZ.out wr hCr
                          have gA9 := hblk
                          have HC8 : Hid (Ch (fun i => Er g (.slice xa L xc) i ∨ i = bA) W7 wr) := hCr
                          have HS8 := hidR hSr
                          have hI1 : In bA (bA + 1) wr wr := In.refl _ _ _
                          go_upto_region 36 with (fail)
                          have a0 := cell_of gA9 0
                          have a1 := cell_of gA9 1
                          have a2 := cell_of gA9 2
                          have a3 := cell_of gA9 3
                          have b0 := cell_of gz9 0
                          have b1 := cell_of gz9 1
                          have b2 := cell_of gz9 2
                          have b3 := cell_of gz9 3
                          simp only [List.getElem?_toArray, List.getElem?_cons_zero, List.getElem?_cons_succ] at a0 a1 a2 a3 b0 b1 b2 b3
                          have f0 : wr.frozen? ⟨B0, 0, none⟩ = false := by simp [World.frozen?, gz9]
                          have f1 : wr.frozen? ⟨B0, 1, none⟩ = false := by simp [World.frozen?, gz9]
                          have f2 : wr.frozen? ⟨B0, 2, none⟩ = false := by simp [World.frozen?, gz9]
                          have f3 : wr.frozen? ⟨B0, 3, none⟩ = false := by simp [World.frozen?, gz9]
                          have HZ9 := hidR gz9
                          clear gA9 gz9
                          go_wp2
                          have hF := set4_block HZ9.out (.int .i64 3) (.slice none 0 0) (.slice ra m rc) (.slice none 0 0)
                          have r0 := cell_of hF 0
                          have r1 := cell_of hF 1
                          have r2 := cell_of hF 2
                          have r3 := cell_of hF 3
                          simp only [List.getElem?_toArray, List.getElem?_cons_zero, List.getElem?_cons_succ] at r0 r1 r2 r3
                          refine bodyPost_ret (v := .agg #[.int .i64 3, .slice none 0 0, .slice ra m rc, .slice none 0 0]) (by simp [results, Tryd.results49, go_sem, r0, r1, r2, r3]) rfl ?_
                          have hI2 : In B0 (B0 + 1) wr ((((wr.setCell ⟨B0, 0, none⟩ (.int .i64 3)).setCell ⟨B0, 1, none⟩ (.slice none 0 0)).setCell ⟨B0, 2, none⟩ (.slice ra m rc)).setCell ⟨B0, 3, none⟩ (.slice none 0 0)) := ((((In.refl _ _ _).set1 0 _).set1 1 _).set1 2 _).set1 3 _
                          have hne := NE.out
                          have hsz8 := HC8.out.size
                          have hsz7 := HC7.out.size
                          have s1 := hI1.size
                          have s2 := hI2.size
                          have hCw : Ch (Er g (.slice va os.length vn)) w wr := HC7.out.trans HC8.out (fun i hi q => by
                            rcases q with q | q
                            · exact er_sub HV6.out i hi q
                            · omega)
                          have hvA : Value.ownBlock (.slice xa L xc) ≠ some bA := fun e => yA (Or.inr e)
                          have hvB : Value.ownBlock (.slice xa L xc) ≠ some B0 := fun e => yB (Or.inr e)
                          have h9 := fin_rg (b := 0) HS8.out hCw hI1 hne.2.1 ⟨eA.1, hvA, eA.2.2⟩
                          have h10 := fin_rg (b := 0) h9.1 h9.2 hI2 hne.2.2.1 ⟨eB1, hvB, eB3⟩
                          unfold Rge
                          rw [HR.out]
                          exact ⟨_, _, _, _, _, _, _, _, _, _, _, _, _, rfl, h10.1, hcc, h10.2, HV6.out⟩
                · have t1 : ((kind : Int) == 1) = false := by simp; omega
                  have t2 : ((kind : Int) == 2) = false := by simp; omega
                  have t3 : ((kind : Int) == 3) = false := by simp; omega
                  have HBd : Hid (bodyS l (geomS l f) little kind k2 = (countS l (least kind) k2 little).bind fun n1 k1 => (many (geomS l f kind) n1 k1).bind fun ts k' => .ok ((⟨(kind : Int), [], []⟩, foOf (ts.map (·.1))), (ts.map (·.2)).flatten) k') := by
                    show _ = _
                    simp only [bodyS, if_neg e1, if_neg e2, if_neg e3]
                  have hold7 : ∀ b, W7.heap.size ≤ b → b ≠ g ∧ (Value.slice xa L xc).ownBlock ≠ some b ∧ w0.heap.size ≤ b := fun b hb => HS7.out.old hb
                  by_cases e4 : kind = 4
                  · subst e4
                    have hls : least 4 = 21 := rfl
                    rw [hls] at HBd
                    have e4 : True := trivial
                    have hCt := rcount_all hS7 hr hn (by omega) 21 (by decide) little false
                    rw [rcount_false] at hCt
                    clear hS7 hls e1 e2 e3 e4
                    cases hc : countS l 21 k2 little with
                    | bad p cc =>
                      rw [hc] at hCt
                      have HR : Hid (geomS l (f + 1) home k = .bad p cc) := by show _ = _; rw [HG4.out, HBd.out, hc]; rfl
                      clear hc ih
                      go_wp2_with fail
                      refine hCt.mono ?_
                      rintro e w8 ⟨xn, rfl, hC8, rfl, k8, hS8, hcc⟩
                      clear hCt
                      obtain ⟨c0, c1, c2, c3, c4, c5⟩ := hS8.cells
                      go_wp2
                      refine wp_loop_rounds 1 ?_
                      rw [rounds_succ]
                      have gA9 : w8.heap[bA]? = some (.cells #[.int .i64 4, .slice none 0 0, .slice none 0 0, .slice none 0 0] 26 (0, 0)) := (hC8.block _ (lt_of_block GA.out) yA).trans GA.out
                      have gz9 : w8.heap[B0]? = some (.cells #[.int .i64 0, .slice none 0 0, .slice none 0 0, .slice none 0 0] 26 (0, 0)) := (hC8.block _ (lt_of_block GZ.out) yB).trans GZ.out
                      have HS8 := hidR hS8
                      have HC8 := hidR hC8
                      have hI1 : In bA (bA + 1) w8 w8 := In.refl _ _ _
                      clear hS8 hC8
                      go_upto_region 36 with (fail)
                      have a0 := cell_of gA9 0
                      have a1 := cell_of gA9 1
                      have a2 := cell_of gA9 2
                      have a3 := cell_of gA9 3
                      have b0 := cell_of gz9 0
                      have b1 := cell_of gz9 1
                      have b2 := cell_of gz9 2
                      have b3 := cell_of gz9 3
                      simp only [List.getElem?_toArray, List.getElem?_cons_zero, List.getElem?_cons_succ] at a0 a1 a2 a3 b0 b1 b2 b3
                      have f0 : w8.frozen? ⟨B0, 0, none⟩ = false := by simp [World.frozen?, gz9]
                      have f1 : w8.frozen? ⟨B0, 1, none⟩ = false := by simp [World.frozen?, gz9]
                      have f2 : w8.frozen? ⟨B0, 2, none⟩ = false := by simp [World.frozen?, gz9]
                      have f3 : w8.frozen? ⟨B0, 3, none⟩ = false := by simp [World.frozen?, gz9]
                      have HZ9 := hidR gz9
                      clear gA9 gz9
                      go_wp2
                      have hF := set4_block HZ9.out (.int .i64 4) (.slice none 0 0) (.slice none 0 0) (.slice none 0 0)
                      have r0 := cell_of hF 0
                      have r1 := cell_of hF 1
                      have r2 := cell_of hF 2
                      have r3 := cell_of hF 3
                      simp only [List.getElem?_toArray, List.getElem?_cons_zero, List.getElem?_cons_succ] at r0 r1 r2 r3
                      refine bodyPost_ret (v := .agg #[.int .i64 4, .slice none 0 0, .slice none 0 0, .slice none 0 0]) (by simp [results, Tryd.results49, go_sem, r0, r1, r2, r3]) rfl ?_
                      have hI2 : In B0 (B0 + 1) w8 ((((w8.setCell ⟨B0, 0, none⟩ (.int .i64 4)).setCell ⟨B0, 1, none⟩ (.slice none 0 0)).setCell ⟨B0, 2, none⟩ (.slice none 0 0)).setCell ⟨B0, 3, none⟩ (.slice none 0 0)) := ((((In.refl _ _ _).set1 0 _).set1 1 _).set1 2 _).set1 3 _
                      have hne := NE.out
                      have hsz8 := HC8.out.size
                      have hsz7 := HC7.out.size
                      have s1 := hI1.size
                      have s2 := hI2.size
                      have hCw : Ch (Er g (.slice va os.length vn)) w w8 := HC7.out.trans HC8.out (fun i hi => er_sub HV6.out i hi)
                      have hvA : Value.ownBlock (.slice xa L xc) ≠ some bA := fun e => yA (Or.inr e)
                      have hvB : Value.ownBlock (.slice xa L xc) ≠ some B0 := fun e => yB (Or.inr e)
                      have h9 := fin_rg (b := 0) HS8.out hCw hI1 hne.2.1 ⟨eA.1, hvA, eA.2.2⟩
                      have h10 := fin_rg (b := 0) h9.1 h9.2 hI2 hne.2.2.1 ⟨eB1, hvB, eB3⟩
                      unfold Rge
                      rw [HR.out]
                      exact ⟨_, _, _, _, _, _, _, _, _, _, _, _, _, rfl, h10.1, hcc, h10.2, HV6.out⟩
                    | ok N k3 =>
                      rw [hc] at hCt
                      have hcn := count_ok hc
                      have hN9 : N ≤ 100000 := by omega
                      have hk39 : k3 ≤ n := by have := fwd_count l 21 little k2 N k3 (by omega) hc; omega
                      have hk3o : (os ++ [little]).length ≤ k3 := by omega
                      have HGc : Hid (geomS l (f + 1) home k = ((many (geomS l f 4) N k3).bind fun ts k' => Rs.ok (((⟨4, [], []⟩, foOf (ts.map (·.1))) : Tree), (ts.map (·.2)).flatten) k').bind fun r k' => .ok (r.1, little :: r.2) k') := by show _ = _; rw [HG4.out, HBd.out, hc]; rfl
                      clear hc hcn HG4 HBd
                      go_wp2_with fail
                      refine hCt.mono ?_
                      rintro e w8 ⟨xn, rfl, hC8, rfl, hS8⟩
                      clear hCt
                      have HSt : Hid (Rgp w0 W7 g bA a n c D pl (.slice xa L xc) (os ++ [little]) 4 N (geomS l f 4) (many (geomS l f 4) N k3) 0 0 (.slice none 0 0) 0 w8) := ⟨k3, pl, [], _, _, (hC8.block _ (lt_of_block GA.out) yA).trans GA.out, hS8, hC8.mono (fun i _ q => Or.inl q), Or.inl rfl, Nw.nil _ _ _ _, Nat.le_refl _, Or.inl ⟨rfl, rfl, hk39, rfl, hk3o, [], rfl, by simp, trivial, pre_nil _⟩⟩
                      have HGZ : Hid (∀ w', Ch (fun i => Er g (.slice xa L xc) i ∨ i = bA) W7 w' → w'.heap[B0]? = some (.cells #[.int .i64 0, .slice none 0 0, .slice none 0 0, .slice none 0 0] 26 (0, 0))) := fun w' hC => (hC.block B0 (lt_of_block GZ.out) (fun q => by
                        rcases q with q | q
                        · exact yB q
                        · exact NE.out.1 q.symm)).trans GZ.out
                      clear hS8 hC8
                      go_wp2
                      go_loopw [16] (fun i wr => ∃ (j m : Nat) (ra : Option Addr) (rc : Nat) (cd : Int), i = .int .i64 (j : Int) ∧ j ≤ N ∧ Hid (Rgp w0 W7 g bA a n c D pl (.slice xa L xc) (os ++ [little]) 4 N (geomS l f 4) (many (geomS l f 4) N k3) j m (.slice ra m rc) cd wr)) (fun i _ => N - (intOf i).toNat)
                      case atStart => exact ⟨0, 0, none, 0, 0, rfl, Nat.zero_le _, HSt⟩
                      case round =>
                        obtain ⟨j, m, ra, rc, cd, rfl, hj, HX⟩ := hrel
                        obtain ⟨kj, plj, xs, vj, osj, hblk, hSr, hCr, hvj, hNr, hmj, hdis⟩ := HX.out
                        obtain ⟨c0, c1, c2, c3, c4, c5⟩ := hSr.cells
                        have hov8 : ∀ b, b < W7.heap.size → (Value.slice xa L xc).ownBlock ≠ some b → vj.ownBlock ≠ some b := fun b hb hv e => by
                          rcases hvj with q | ⟨b', q, hb'⟩
                          · exact hv (q ▸ e)
                          · rw [q] at e; cases e; omega
                        have hown8 : vj.ownBlock = (Value.slice va os.length vn).ownBlock ∨ ∃ b, vj.ownBlock = some b ∧ w.heap.size ≤ b := by
                          have := HC7.out.size
                          rcases hvj with q | ⟨b', q, hb'⟩
                          · rw [q]; exact HV6.out
                          · exact Or.inr ⟨b', q, by omega⟩
                        rcases hdis with ⟨rfl, rfl, hkj, hmj2, hol, ts, hpl, hosj, hGr, hM⟩ | ⟨p, cc, rfl, hcc, rfl, hM⟩
                        · by_cases hlt : j < N
                          · have hl9 : m ≤ 1000000 := by omega
                            have hbs : W7.heap.size ≤ wr.heap.size := hCr.size
                            have HGe : ∀ w', Below wr.heap.size wr w' → Calls Tryd.prog 49 #[.pointer (some ⟨g, 0, none⟩), .int .i64 4, .int .i64 (IntKind.i64.wrap ((lev : Int) + 1))] w' fun e w'' => ∃ K a1 n1 c1 a2 n2 c2 a3 n3 c3, e = .returned (.agg #[.int .i64 K, .slice a1 n1 c1, .slice a2 n2 c2, .slice a3 n3 c3]) ∧ Rgq w0 wr g a n c D plj vj osj (geomS l f 4 kj) (.agg #[.int .i64 K, .slice a1 n1 c1, .slice a2 n2 c2, .slice a3 n3 c3]) w'' := fun w' hb => by
                              have h1 := ih 4 (lev + 1) (by have := HFu.out; omega) (by omega) (hSr.later hb) hkj hol
                              rw [show ((lev + 1 : Nat) : Int) = IntKind.i64.wrap ((lev : Int) + 1) from lev_wrap hlev] at h1
                              refine h1.mono ?_
                              intro e w'' hq
                              obtain ⟨K, a1, n1, c1', a2, n2, c2', a3, n3, c3', he, hC, v2, os2, k2', cd2, pl2, hq1, hq2, hq3⟩ := hq.all
                              refine ⟨K, a1, n1, c1', a2, n2, c2', a3, n3, c3', he, (Ch.of_below (X := Er g vj) hb).trans hC (fun _ _ x => x), v2, os2, k2', cd2, pl2, hq1, ?_, ?_⟩
                              · rcases hq2 with q | ⟨b, q, hbb⟩
                                · exact Or.inl q
                                · exact Or.inr ⟨b, q, Nat.le_trans hb.size hbb⟩
                              · cases hgk : geomS l f 4 kj with
                                | bad p cc => rw [hgk] at hq3; exact hq3
                                | ok tb k9 =>
                                  rw [hgk] at hq3
                                  exact ⟨hq3.1, hq3.2.1, hq3.2.2.1, hq3.2.2.2.1, hq3.2.2.2.2.mono (fun i hi => ⟨Nat.le_trans hb.size hi.1, hi.2⟩)⟩
                            have HNext : ∀ {w2 wA w5 : World} {x0 x1 x2 x3 : Value} {va' : Option Addr} {vc : Nat}, Rgq w0 wr g a n c D plj vj osj (geomS l f 4 kj) (.agg #[x0, x1, x2, x3]) w2 → Below w2.heap.size w2 wA → Nw w5 W7.heap.size 26 4 (.slice va' (m + 1) vc) (m + 1) (xs ++ [x0, x1, x2, x3]) → wA.grownBy w5 (Value.slice ra m rc).ownBlock → ((Value.slice va' (m + 1) vc).ownBlock = (Value.slice ra m rc).ownBlock ∨ (Value.slice va' (m + 1) vc).ownBlock = some wA.heap.size) → (∃ cd, Rgp w0 W7 g bA a n c D plj (.slice xa L xc) (os ++ [little]) 4 N (geomS l f 4) (many (geomS l f 4) N k3) (j + 1) (m + 1) (.slice va' (m + 1) vc) cd (w5.setCell ⟨bA, 3, none⟩ (.slice va' (m + 1) vc))) ∧ w5.cell? ⟨bA, 3, none⟩ = some (.slice ra m rc) ∧ w5.frozen? ⟨bA, 3, none⟩ = false := fun h1 h2 h3 h4 h5 => Rgp.next (lh := 0) hold7 eA NE.out.2.2.2.1 hblk hSr hCr hvj hNr hmj2 hol hpl hosj hGr hM hlt (fun k r k' hq => geom_len l f 4 k r k' hq) (fun r k' hq => by have := fwd_geom l f 4 kj r k' (by omega) hq; omega) h1 h2 h3 h4 h5
                            have HNk : ∀ w', (∀ b, (Value.slice ra m rc).ownBlock = some b → w'.heap[b]? = wr.heap[b]?) → Nw w' W7.heap.size 26 4 (.slice ra m rc) m xs := fun w' hq => hNr.keep hq
                            have HCell : ∀ w', Ch (Er g vj) wr w' → w'.cell? ⟨bA, 3, none⟩ = some (.slice ra m rc) ∧ (∀ b, (Value.slice ra m rc).ownBlock = some b → w'.heap[b]? = wr.heap[b]?) := fun w' hC => ⟨(hC.cell (p := ⟨bA, 3, none⟩) (lt_of_block hblk) (fun q => by
                              rcases q with q | q
                              · exact eA.1 q
                              · exact hov8 bA NE.out.2.2.2.1 eA.2.1 q)).trans (cell_of hblk 3), fun b hb => hC.block b (hNr.blk hb).2.1 (fun q => by
                              rcases q with q | q
                              · exact (hold7 b (hNr.blk hb).1).1 q
                              · exact hNr.ne_bo hSr.row (by decide) hb q)⟩
                            have k2c := cell_of hblk 3
                            simp only [List.getElem?_toArray, List.getElem?_cons_zero, List.getElem?_cons_succ] at k2c
                            have hlb : (lev : Int) ≤ 1000 := by omega
                            clear hGr hM hpl HX HSt ih hosj hmj2
                            go_upto_region 25 with (fail)
                            go_region_law (first
                              | (go_simp; go_at_call 49; refine (HGe _ (by first | exact Below.refl _ _ | exact below_drewN (Below.refl _ _) _ | exact below_drewR _)).mono ?_; rintro e w2 ⟨K, a1, n1, d1, a2, n2, d2, a3, n3, d3, rfl, hq2⟩; have m2 := (HCell w2 hq2.1).1; have m3 : (w2.alloc (.cells #[.int .i64 K, .slice a1 n1 d1, .slice a2 n2 d2, .slice a3 n3 d3] 26)).cell? ⟨bA, 3, none⟩ = some (.slice ra m rc) := ((alloc_below (.cells #[.int .i64 K, .slice a1 n1 d1, .slice a2 n2 d2, .slice a3 n3 d3] 26)).cell (p := ⟨bA, 3, none⟩) (cell_lt m2)).trans m2)
                              | (refine step_appN (by rfl) (.tmp 127) (.tmp 133) 24 26 (by rfl) Tryd.underlying24 info_gm8 rfl (by decide) zero_gm8 (by rfl) (HNk _ (fun b hb => ((alloc_below (.cells #[.int .i64 K, .slice a1 n1 d1, .slice a2 n2 d2, .slice a3 n3 d3] 26)).block b (by have := (hNr.blk hb).2.1; have := hq2.1.size; omega)).trans ((HCell w2 hq2.1).2 b hb))) (by rfl) (news := [.int .i64 K, .slice a1 n1 d1, .slice a2 n2 d2, .slice a3 n3 d3]) rfl (fun jj u hu => by rw [cell_of (heap_alloc_new w2 (.cells #[.int .i64 K, .slice a1 n1 d1, .slice a2 n2 d2, .slice a3 n3 d3] 26)) jj]; simpa using hu) (by simp [Value.oneCell']) (by simp [NB8]) hl9 (by decide) (by have := hq2.1.size; simp; omega) ?_; intro va' vc w5 hN5 hg5 ho5; obtain ⟨⟨cd5, hR5⟩, m5, f5⟩ := HNext hq2 (alloc_below (.cells #[.int .i64 K, .slice a1 n1 d1, .slice a2 n2 d2, .slice a3 n3 d3] 26)) hN5 hg5 ho5))
                            all_goals
                              clear c0 c1 c2 c3 c4 c5 k2c HGe HNext HNk HCell m2 m3 m5 f5 hN5 hg5 ho5 hq2
                              have HR5 := hidR hR5
                              clear hR5
                              go_wp2
                              go_roundw
                              case rel => exact ⟨j + 1, m + 1, va', vc, cd5, by go_num, by omega, HR5⟩
                              case measure => simp [intOf]; omega
                          · have hjn : j = N := by omega
                            subst hjn
                            subst hmj2
                            have HRm : Hid (many (geomS l f 4) m k3 = .ok ts kj) := by
                              show _ = _
                              rw [← hM, Nat.sub_self]
                              show Rs.ok (ts ++ []) kj = _
                              rw [List.append_nil]
                            have HR : Hid (geomS l (f + 1) home k = .ok ((⟨4, [], []⟩, foOf (ts.map (·.1))), little :: (ts.map (·.2)).flatten) kj) := by show _ = _; rw [HGc.out, HRm.out]; rfl
                            have hNr' : wr.ownsRow W7.heap.size 26 4 (.slice ra m rc) (ts.map (·.1)).length xs := by rw [List.length_map, hpl]; exact hNr.own
                            obtain ⟨pa, pc, hu, hpc, hFo⟩ := fo_of hNr' hGr
                            rw [List.length_map, hpl] at hu hpc
                            simp only [Value.slice.injEq] at hu
                            obtain ⟨rfl, _, rfl⟩ := hu
                            have hfl : (foOf (ts.map (·.1))).len = m := by rw [foOf_len, List.length_map, hpl]
                            have hT : TV (fun i => W7.heap.size ≤ i ∧ i < wr.heap.size ∧ vj.ownBlock ≠ some i) wr (.agg #[.int .i64 4, .slice none 0 0, .slice none 0 0, .slice ra m rc]) (⟨4, [], []⟩, foOf (ts.map (·.1))) := by
                              have := tv_of (S := fun i => W7.heap.size ≤ i ∧ i < wr.heap.size ∧ vj.ownBlock ≠ some i) (w := wr) (v1 := .slice none 0 0) (v2 := .slice none 0 0) (pa := ra) (pc := rc) (t := (⟨4, [], []⟩, foOf (ts.map (·.1)))) ⟨by first | decide | (simp only; omega) | omega, by first | decide | (simp only; omega) | omega⟩ ⟨by simp, none, 0, rfl, fun i q hq => by cases hq⟩ ⟨by simp, none, 0, rfl, fun i q hq => by cases hq⟩ (by simp only [hfl]; exact ⟨by omega, hpc⟩) (hFo.mono (fun i hi => by
                                rcases hi with hi | hi
                                · exact ⟨hi.1, hi.2.1, hi.2.2.2⟩
                                · exact ⟨(hNr.blk hi).1, (hNr.blk hi).2.1, hNr.ne_bo hSr.row (by decide) hi⟩))
                              simp only [hfl] at this
                              exact this
                            have hSr' : RkS w0 wr g a n c D kj 0 plj vj (os ++ (little :: (ts.map (·.2)).flatten)) := by
                              rw [hosj] at hSr
                              simpa using hSr
                            clear hSr
                            have hSr := hSr'
                            clear hSr'
                            obtain ⟨v8, hv8⟩ : ∃ v8, v8 = vj := ⟨_, rfl⟩
                            rw [← hv8] at hSr hT hov8 hown8
                            clear hv8
                            have HT := hidR hT
                            have gz9 := HGZ.out wr hCr
                            have gA9 := hblk
                            have HC8 : Hid (Ch (fun i => Er g (.slice xa L xc) i ∨ i = bA) W7 wr) := hCr
                            have HS8 := hidR hSr
                            have hI1 : In bA (bA + 1) wr wr := In.refl _ _ _
                            go_upto_region 36 with (fail)
                            have a0 := cell_of gA9 0
                            have a1 := cell_of gA9 1
                            have a2 := cell_of gA9 2
                            have a3 := cell_of gA9 3
                            have b0 := cell_of gz9 0
                            have b1 := cell_of gz9 1
                            have b2 := cell_of gz9 2
                            have b3 := cell_of gz9 3
                            simp only [List.getElem?_toArray, List.getElem?_cons_zero, List.getElem?_cons_succ] at a0 a1 a2 a3 b0 b1 b2 b3
                            have f0 : wr.frozen? ⟨B0, 0, none⟩ = false := by simp [World.frozen?, gz9]
                            have f1 : wr.frozen? ⟨B0, 1, none⟩ = false := by simp [World.frozen?, gz9]
                            have f2 : wr.frozen? ⟨B0, 2, none⟩ = false := by simp [World.frozen?, gz9]
                            have f3 : wr.frozen? ⟨B0, 3, none⟩ = false := by simp [World.frozen?, gz9]
                            have HZ9 := hidR gz9
                            clear gA9 gz9
                            go_wp2
                            have hF := set4_block HZ9.out (.int .i64 4) (.slice none 0 0) (.slice none 0 0) (.slice ra m rc)
                            have r0 := cell_of hF 0
                            have r1 := cell_of hF 1
                            have r2 := cell_of hF 2
                            have r3 := cell_of hF 3
                            simp only [List.getElem?_toArray, List.getElem?_cons_zero, List.getElem?_cons_succ] at r0 r1 r2 r3
                            refine bodyPost_ret (v := .agg #[.int .i64 4, .slice none 0 0, .slice none 0 0, .slice ra m rc]) (by simp [results, Tryd.results49, go_sem, r0, r1, r2, r3]) rfl ?_
                            have hI2 : In B0 (B0 + 1) wr ((((wr.setCell ⟨B0, 0, none⟩ (.int .i64 4)).setCell ⟨B0, 1, none⟩ (.slice none 0 0)).setCell ⟨B0, 2, none⟩ (.slice none 0 0)).setCell ⟨B0, 3, none⟩ (.slice ra m rc)) := ((((In.refl _ _ _).set1 0 _).set1 1 _).set1 2 _).set1 3 _
                            have hne := NE.out
                            have hsz8 := HC8.out.size
                            have hsz7 := HC7.out.size
                            have s1 := hI1.size
                            have s2 := hI2.size
                            have hCw : Ch (Er g (.slice va os.length vn)) w wr := HC7.out.trans HC8.out (fun i hi q => by
                              rcases q with q | q
                              · exact er_sub HV6.out i hi q
                              · omega)
                            have hvA : Value.ownBlock v8 ≠ some bA := hov8 bA NE.out.2.2.2.1 eA.2.1
                            have hvB : Value.ownBlock v8 ≠ some B0 := hov8 B0 NE.out.2.2.2.2 (fun e => yB (Or.inr e))
                            have h9 := fin_rg (b := 0) HS8.out hCw hI1 hne.2.1 ⟨eA.1, hvA, eA.2.2⟩
                            have h10 := fin_rg (b := 0) h9.1 h9.2 hI2 hne.2.2.1 ⟨eB1, hvB, eB3⟩
                            unfold Rge
                            rw [HR.out]
                            refine ⟨_, v8, rfl, h10.1, h10.2, hown8, (HT.out.below ⟨by omega, fun i hi => ?_⟩).mono (fun i hi => ?_)⟩
                            · have q1 := hi.1
                              exact (hI2.block i (by have := hi.2.1; omega) (by omega)).trans (hI1.block i (by have := hi.2.1; omega) (by omega))
                            · have q1 := hi.1
                              exact ⟨by omega, by have := hi.2.1; omega, hi.2.2⟩
                        · have HR : Hid (geomS l (f + 1) home k = .bad p cc) := by show _ = _; rw [HGc.out, hM]; rfl
                          have t0 : ((cc : Int) == 0) = false := by simpa using hcc
                          obtain ⟨v8, hv8⟩ : ∃ v8, v8 = vj := ⟨_, rfl⟩
                          rw [← hv8] at hSr hov8 hown8
                          clear hv8 ih
                          by_cases hlt : j < N
                          · have gz9 := HGZ.out wr hCr
                            have gA9 := hblk
                            have HC8 : Hid (Ch (fun i => Er g (.slice xa L xc) i ∨ i = bA) W7 wr) := hCr
                            have HS8 := hidR hSr
                            have hI1 : In bA (bA + 1) wr wr := In.refl _ _ _
                            go_upto_region 36 with (fail)
                            have a0 := cell_of gA9 0
                            have a1 := cell_of gA9 1
                            have a2 := cell_of gA9 2
                            have a3 := cell_of gA9 3
                            have b0 := cell_of gz9 0
                            have b1 := cell_of gz9 1
                            have b2 := cell_of gz9 2
                            have b3 := cell_of gz9 3
                            simp only [List.getElem?_toArray, List.getElem?_cons_zero, List.getElem?_cons_succ] at a0 a1 a2 a3 b0 b1 b2 b3
                            have f0 : wr.frozen? ⟨B0, 0, none⟩ = false := by simp [World.frozen?, gz9]
                            have f1 : wr.frozen? ⟨B0, 1, none⟩ = false := by simp [World.frozen?, gz9]
                            have f2 : wr.frozen? ⟨B0, 2, none⟩ = false := by simp [World.frozen?, gz9]
                            have f3 : wr.frozen? ⟨B0, 3, none⟩ = false := by simp [World.frozen?, gz9]
                            have HZ9 := hidR gz9
                            clear gA9 gz9
                            go_wp2
                            have hF := set4_block HZ9.out (.int .i64 4) (.slice none 0 0) (.slice none 0 0) (.slice ra m rc)
                            have r0 := cell_of hF 0
                            have r1 := cell_of hF 1
                            have r2 := cell_of hF 2
                            have r3 := cell_of hF 3
                            simp only [List.getElem?_toArray, List.getElem?_cons_zero, List.getElem?_cons_succ] at r0 r1 r2 r3
                            refine bodyPost_ret (v := .agg #[.int .i64 4, .slice none 0 0, .slice none 0 0, .slice ra m rc]) (by simp [results, Tryd.results49, go_sem, r0, r1, r2, r3]) rfl ?_
                            have hI2 : In B0 (B0 + 1) wr ((((wr.setCell ⟨B0, 0, none⟩ (.int .i64 4)).setCell ⟨B0, 1, none⟩ (.slice none 0 0)).setCell ⟨B0, 2, none⟩ (.slice none 0 0)).setCell ⟨B0, 3, none⟩ (.slice ra m rc)) := ((((In.refl _ _ _).set1 0 _).set1 1 _).set1 2 _).set1 3 _
                            have hne := NE.out
                            have hsz8 := HC8.out.size
                            have hsz7 := HC7.out.size
                            have s1 := hI1.size
                            have s2 := hI2.size
                            have hCw : Ch (Er g (.slice va os.length vn)) w wr := HC7.out.trans HC8.out (fun i hi q => by
                              rcases q with q | q
                              · exact er_sub HV6.out i hi q
                              · omega)
                            have hvA : Value.ownBlock v8 ≠ some bA := hov8 bA NE.out.2.2.2.1 eA.2.1
                            have hvB : Value.ownBlock v8 ≠ some B0 := hov8 B0 NE.out.2.2.2.2 (fun e => yB (Or.inr e))
                            have h9 := fin_rg (b := 0) HS8.out hCw hI1 hne.2.1 ⟨eA.1, hvA, eA.2.2⟩
                            have h10 := fin_rg (b := 0) h9.1 h9.2 hI2 hne.2.2.1 ⟨eB1, hvB, eB3⟩
                            unfold Rge
                            rw [HR.out]
                            exact ⟨_, _, _, _, _, _, _, _, _, _, _, _, _, rfl, h10.1, hcc, h10.2, hown8⟩
                          · have gz9 := HGZ.out wr hCr
                            have gA9 := hblk
                            have HC8 : Hid (Ch (fun i => Er g (.slice xa L xc) i ∨ i = bA) W7 wr) := hCr
                            have HS8 := hidR hSr
                            have hI1 : In bA (bA + 1) wr wr := In.refl _ _ _
                            go_upto_region 36 with (fail)
                            have a0 := cell_of gA9 0
                            have a1 := cell_of gA9 1
                            have a2 := cell_of gA9 2
                            have a3 := cell_of gA9 3
                            have b0 := cell_of gz9 0
                            have b1 := cell_of gz9 1
                            have b2 := cell_of gz9 2
                            have b3 := cell_of gz9 3
                            simp only [List.getElem?_toArray, List.getElem?_cons_zero, List.getElem?_cons_succ] at a0 a1 a2 a3 b0 b1 b2 b3
                            have f0 : wr.frozen? ⟨B0, 0, none⟩ = false := by simp [World.frozen?, gz9]
                            have f1 : wr.frozen? ⟨B0, 1, none⟩ = false := by simp [World.frozen?, gz9]
                            have f2 : wr.frozen? ⟨B0, 2, none⟩ = false := by simp [World.frozen?, gz9]
                            have f3 : wr.frozen? ⟨B0, 3, none⟩ = false := by simp [World.frozen?, gz9]
                            have HZ9 := hidR gz9
                            clear gA9 gz9
                            go_wp2
                            have hF := set4_block HZ9.out (.int .i64 4) (.slice none 0 0) (.slice none 0 0) (.slice ra m rc)
                            have r0 := cell_of hF 0
                            have r1 := cell_of hF 1
                            have r2 := cell_of hF 2
                            have r3 := cell_of hF 3
                            simp only [List.getElem?_toArray, List.getElem?_cons_zero, List.getElem?_cons_succ] at r0 r1 r2 r3
                            refine bodyPost_ret (v := .agg #[.int .i64 4, .slice none 0 0, .slice none 0 0, .slice ra m rc]) (by simp [results, Tryd.results49, go_sem, r0, r1, r2, r3]) rfl ?_
                            have hI2 : In B0 (B0 + 1) wr ((((wr.setCell ⟨B0, 0, none⟩ (.int .i64 4)).setCell ⟨B0, 1, none⟩ (.slice none 0 0)).setCell ⟨B0, 2, none⟩ (.slice none 0 0)).setCell ⟨B0, 3, none⟩ (.slice ra m rc)) := ((((In.refl _ _ _).set1 0 _).set1 1 _).set1 2 _).set1 3 _
                            have hne := NE.out
                            have hsz8 := HC8.out.size
                            have hsz7 := HC7.out.size
                            have s1 := hI1.size
                            have s2 := hI2.size
                            have hCw : Ch (Er g (.slice va os.length vn)) w wr := HC7.out.trans HC8.out (fun i hi q => by
                              rcases q with q | q
                              · exact er_sub HV6.out i hi q
                              · omega)
                            have hvA : Value.ownBlock v8 ≠ some bA := hov8 bA NE.out.2.2.2.1 eA.2.1
                            have hvB : Value.ownBlock v8 ≠ some B0 := hov8 B0 NE.out.2.2.2.2 (fun e => yB (Or.inr e))
                            have h9 := fin_rg (b := 0) HS8.out hCw hI1 hne.2.1 ⟨eA.1, hvA, eA.2.2⟩
                            have h10 := fin_rg (b := 0) h9.1 h9.2 hI2 hne.2.2.1 ⟨eB1, hvB, eB3⟩
                            unfold Rge
                            rw [HR.out]
                            exact ⟨_, _, _, _, _, _, _, _, _, _, _, _, _, rfl, h10.1, hcc, h10.2, hown8⟩
                  · have t4 : ((kind : Int) == 4) = false := by simp; omega
                    have hls : least kind = 9 := by unfold least; rw [if_neg e4]
                    rw [hls] at HBd
                    have hCt := rcount_all hS7 hr hn (by omega) 9 (by decide) little false
                    rw [rcount_false] at hCt
                    clear hS7 hls e1 e2 e3 e4
                    cases hc : countS l 9 k2 little with
                    | bad p cc =>
                      rw [hc] at hCt
                      have HR : Hid (geomS l (f + 1) home k = .bad p cc) := by show _ = _; rw [HG4.out, HBd.out, hc]; rfl
                      clear hc ih
                      go_wp2_with fail
                      refine hCt.mono ?_
                      rintro e w8 ⟨xn, rfl, hC8, rfl, k8, hS8, hcc⟩
                      clear hCt
                      obtain ⟨c0, c1, c2, c3, c4, c5⟩ := hS8.cells
                      go_wp2
                      refine wp_loop_rounds 1 ?_
                      rw [rounds_succ]
                      have gA9 : w8.heap[bA]? = some (.cells #[.int .i64 (kind : Int), .slice none 0 0, .slice none 0 0, .slice none 0 0] 26 (0, 0)) := (hC8.block _ (lt_of_block GA.out) yA).trans GA.out
                      have gz9 : w8.heap[B0]? = some (.cells #[.int .i64 0, .slice none 0 0, .slice none 0 0, .slice none 0 0] 26 (0, 0)) := (hC8.block _ (lt_of_block GZ.out) yB).trans GZ.out
                      have HS8 := hidR hS8
                      have HC8 := hidR hC8
                      have hI1 : In bA (bA + 1) w8 w8 := In.refl _ _ _
                      clear hS8 hC8
                      go_upto_region 36 with (fail)
                      have a0 := cell_of gA9 0
                      have a1 := cell_of gA9 1
                      have a2 := cell_of gA9 2
                      have a3 := cell_of gA9 3
                      have b0 := cell_of gz9 0
                      have b1 := cell_of gz9 1
                      have b2 := cell_of gz9 2
                      have b3 := cell_of gz9 3
                      simp only [List.getElem?_toArray, List.getElem?_cons_zero, List.getElem?_cons_succ] at a0 a1 a2 a3 b0 b1 b2 b3
                      have f0 : w8.frozen? ⟨B0, 0, none⟩ = false := by simp [World.frozen?, gz9]
                      have f1 : w8.frozen? ⟨B0, 1, none⟩ = false := by simp [World.frozen?, gz9]
                      have f2 : w8.frozen? ⟨B0, 2, none⟩ = false := by simp [World.frozen?, gz9]
                      have f3 : w8.frozen? ⟨B0, 3, none⟩ = false := by simp [World.frozen?, gz9]
                      have HZ9 := hidR gz9
                      clear gA9 gz9
                      go_wp2
                      have hF := set4_block HZ9.out (.int .i64 (kind : Int)) (.slice none 0 0) (.slice none 0 0) (.slice none 0 0)
                      have r0 := cell_of hF 0
                      have r1 := cell_of hF 1
                      have r2 := cell_of hF 2
                      have r3 := cell_of hF 3
                      simp only [List.getElem?_toArray, List.getElem?_cons_zero, List.getElem?_cons_succ] at r0 r1 r2 r3
                      refine bodyPost_ret (v := .agg #[.int .i64 (kind : Int), .slice none 0 0, .slice none 0 0, .slice none 0 0]) (by simp [results, Tryd.results49, go_sem, r0, r1, r2, r3]) rfl ?_
                      have hI2 : In B0 (B0 + 1) w8 ((((w8.setCell ⟨B0, 0, none⟩ (.int .i64 (kind : Int))).setCell ⟨B0, 1, none⟩ (.slice none 0 0)).setCell ⟨B0, 2, none⟩ (.slice none 0 0)).setCell ⟨B0, 3, none⟩ (.slice none 0 0)) := ((((In.refl _ _ _).set1 0 _).set1 1 _).set1 2 _).set1 3 _
                      have hne := NE.out
                      have hsz8 := HC8.out.size
                      have hsz7 := HC7.out.size
                      have s1 := hI1.size
                      have s2 := hI2.size
                      have hCw : Ch (Er g (.slice va os.length vn)) w w8 := HC7.out.trans HC8.out (fun i hi => er_sub HV6.out i hi)
                      have hvA : Value.ownBlock (.slice xa L xc) ≠ some bA := fun e => yA (Or.inr e)
                      have hvB : Value.ownBlock (.slice xa L xc) ≠ some B0 := fun e => yB (Or.inr e)
                      have h9 := fin_rg (b := 0) HS8.out hCw hI1 hne.2.1 ⟨eA.1, hvA, eA.2.2⟩
                      have h10 := fin_rg (b := 0) h9.1 h9.2 hI2 hne.2.2.1 ⟨eB1, hvB, eB3⟩
                      unfold Rge
                      rw [HR.out]
                      exact ⟨_, _, _, _, _, _, _, _, _, _, _, _, _, rfl, h10.1, hcc, h10.2, HV6.out⟩
                    | ok N k3 =>
                      rw [hc] at hCt
                      have hcn := count_ok hc
                      have hN9 : N ≤ 100000 := by omega
                      have hk39 : k3 ≤ n := by have := fwd_count l 9 little k2 N k3 (by omega) hc; omega
                      have hk3o : (os ++ [little]).length ≤ k3 := by omega
                      have HGc : Hid (geomS l (f + 1) home k = ((many (geomS l f kind) N k3).bind fun ts k' => Rs.ok (((⟨(kind : Int), [], []⟩, foOf (ts.map (·.1))) : Tree), (ts.map (·.2)).flatten) k').bind fun r k' => .ok (r.1, little :: r.2) k') := by show _ = _; rw [HG4.out, HBd.out, hc]; rfl
                      clear hc hcn HG4 HBd
                      go_wp2_with fail
                      refine hCt.mono ?_
                      rintro e w8 ⟨xn, rfl, hC8, rfl, hS8⟩
                      clear hCt
                      have HSt : Hid (Rgp w0 W7 g bA a n c D pl (.slice xa L xc) (os ++ [little]) (kind : Int) N (geomS l f kind) (many (geomS l f kind) N k3) 0 0 (.slice none 0 0) 0 w8) := ⟨k3, pl, [], _, _, (hC8.block _ (lt_of_block GA.out) yA).trans GA.out, hS8, hC8.mono (fun i _ q => Or.inl q), Or.inl rfl, Nw.nil _ _ _ _, Nat.le_refl _, Or.inl ⟨rfl, rfl, hk39, rfl, hk3o, [], rfl, by simp, trivial, pre_nil _⟩⟩
                      have HGZ : Hid (∀ w', Ch (fun i => Er g (.slice xa L xc) i ∨ i = bA) W7 w' → w'.heap[B0]? = some (.cells #[.int .i64 0, .slice none 0 0, .slice none 0 0, .slice none 0 0] 26 (0, 0))) := fun w' hC => (hC.block B0 (lt_of_block GZ.out) (fun q => by
                        rcases q with q | q
                        · exact yB q
                        · exact NE.out.1 q.symm)).trans GZ.out
                      clear hS8 hC8
                      go_wp2
                      go_loopw [16] (fun i wr => ∃ (j m : Nat) (ra : Option Addr) (rc : Nat) (cd : Int), i = .int .i64 (j : Int) ∧ j ≤ N ∧ Hid (Rgp w0 W7 g bA a n c D pl (.slice xa L xc) (os ++ [little]) (kind : Int) N (geomS l f kind) (many (geomS l f kind) N k3) j m (.slice ra m rc) cd wr)) (fun i _ => N - (intOf i).toNat)
                      case atStart => exact ⟨0, 0, none, 0, 0, rfl, Nat.zero_le _, HSt⟩
                      case round =>
                        obtain ⟨j, m, ra, rc, cd, rfl, hj, HX⟩ := hrel
                        obtain ⟨kj, plj, xs, vj, osj, hblk, hSr, hCr, hvj, hNr, hmj, hdis⟩ := HX.out
                        obtain ⟨c0, c1, c2, c3, c4, c5⟩ := hSr.cells
                        have hov8 : ∀ b, b < W7.heap.size → (Value.slice xa L xc).ownBlock ≠ some b → vj.ownBlock ≠ some b := fun b hb hv e => by
                          rcases hvj with q | ⟨b', q, hb'⟩
                          · exact hv (q ▸ e)
                          · rw [q] at e; cases e; omega
                        have hown8 : vj.ownBlock = (Value.slice va os.length vn).ownBlock ∨ ∃ b, vj.ownBlock = some b ∧ w.heap.size ≤ b := by
                          have := HC7.out.size
                          rcases hvj with q | ⟨b', q, hb'⟩
                          · rw [q]; exact HV6.out
                          · exact Or.inr ⟨b', q, by omega⟩
                        rcases hdis with ⟨rfl, rfl, hkj, hmj2, hol, ts, hpl, hosj, hGr, hM⟩ | ⟨p, cc, rfl, hcc, rfl, hM⟩
                        · by_cases hlt : j < N
                          · have hl9 : m ≤ 1000000 := by omega
                            have hbs : W7.heap.size ≤ wr.heap.size := hCr.size
                            have HGe : ∀ w', Below wr.heap.size wr w' → Calls Tryd.prog 49 #[.pointer (some ⟨g, 0, none⟩), .int .i64 (kind : Int), .int .i64 (IntKind.i64.wrap ((lev : Int) + 1))] w' fun e w'' => ∃ K a1 n1 c1 a2 n2 c2 a3 n3 c3, e = .returned (.agg #[.int .i64 K, .slice a1 n1 c1, .slice a2 n2 c2, .slice a3 n3 c3]) ∧ Rgq w0 wr g a n c D plj vj osj (geomS l f kind kj) (.agg #[.int .i64 K, .slice a1 n1 c1, .slice a2 n2 c2, .slice a3 n3 c3]) w'' := fun w' hb => by
                              have h1 := ih kind (lev + 1) (by have := HFu.out; omega) (by omega) (hSr.later hb) hkj hol
                              rw [show ((lev + 1 : Nat) : Int) = IntKind.i64.wrap ((lev : Int) + 1) from lev_wrap hlev] at h1
                              refine h1.mono ?_
                              intro e w'' hq
                              obtain ⟨K, a1, n1, c1', a2, n2, c2', a3, n3, c3', he, hC, v2, os2, k2', cd2, pl2, hq1, hq2, hq3⟩ := hq.all
                              refine ⟨K, a1, n1, c1', a2, n2, c2', a3, n3, c3', he, (Ch.of_below (X := Er g vj) hb).trans hC (fun _ _ x => x), v2, os2, k2', cd2, pl2, hq1, ?_, ?_⟩
                              · rcases hq2 with q | ⟨b, q, hbb⟩
                                · exact Or.inl q
                                · exact Or.inr ⟨b, q, Nat.le_trans hb.size hbb⟩
                              · cases hgk : geomS l f kind kj with
                                | bad p cc => rw [hgk] at hq3; exact hq3
                                | ok tb k9 =>
                                  rw [hgk] at hq3
                                  exact ⟨hq3.1, hq3.2.1, hq3.2.2.1, hq3.2.2.2.1, hq3.2.2.2.2.mono (fun i hi => ⟨Nat.le_trans hb.size hi.1, hi.2⟩)⟩
                            have HNext : ∀ {w2 wA w5 : World} {x0 x1 x2 x3 : Value} {va' : Option Addr} {vc : Nat}, Rgq w0 wr g a n c D plj vj osj (geomS l f kind kj) (.agg #[x0, x1, x2, x3]) w2 → Below w2.heap.size w2 wA → Nw w5 W7.heap.size 26 4 (.slice va' (m + 1) vc) (m + 1) (xs ++ [x0, x1, x2, x3]) → wA.grownBy w5 (Value.slice ra m rc).ownBlock → ((Value.slice va' (m + 1) vc).ownBlock = (Value.slice ra m rc).ownBlock ∨ (Value.slice va' (m + 1) vc).ownBlock = some wA.heap.size) → (∃ cd, Rgp w0 W7 g bA a n c D plj (.slice xa L xc) (os ++ [little]) (kind : Int) N (geomS l f kind) (many (geomS l f kind) N k3) (j + 1) (m + 1) (.slice va' (m + 1) vc) cd (w5.setCell ⟨bA, 3, none⟩ (.slice va' (m + 1) vc))) ∧ w5.cell? ⟨bA, 3, none⟩ = some (.slice ra m rc) ∧ w5.frozen? ⟨bA, 3, none⟩ = false := fun h1 h2 h3 h4 h5 => Rgp.next (lh := 0) hold7 eA NE.out.2.2.2.1 hblk hSr hCr hvj hNr hmj2 hol hpl hosj hGr hM hlt (fun k r k' hq => geom_len l f kind k r k' hq) (fun r k' hq => by have := fwd_geom l f kind kj r k' (by omega) hq; omega) h1 h2 h3 h4 h5
                            have HNk : ∀ w', (∀ b, (Value.slice ra m rc).ownBlock = some b → w'.heap[b]? = wr.heap[b]?) → Nw w' W7.heap.size 26 4 (.slice ra m rc) m xs := fun w' hq => hNr.keep hq
                            have HCell : ∀ w', Ch (Er g vj) wr w' → w'.cell? ⟨bA, 3, none⟩ = some (.slice ra m rc) ∧ (∀ b, (Value.slice ra m rc).ownBlock = some b → w'.heap[b]? = wr.heap[b]?) := fun w' hC => ⟨(hC.cell (p := ⟨bA, 3, none⟩) (lt_of_block hblk) (fun q => by
                              rcases q with q | q
                              · exact eA.1 q
                              · exact hov8 bA NE.out.2.2.2.1 eA.2.1 q)).trans (cell_of hblk 3), fun b hb => hC.block b (hNr.blk hb).2.1 (fun q => by
                              rcases q with q | q
                              · exact (hold7 b (hNr.blk hb).1).1 q
                              · exact hNr.ne_bo hSr.row (by decide) hb q)⟩
                            have k2c := cell_of hblk 3
                            simp only [List.getElem?_toArray, List.getElem?_cons_zero, List.getElem?_cons_succ] at k2c
                            have hlb : (lev : Int) ≤ 1000 := by omega
                            clear hGr hM hpl HX HSt ih hosj hmj2
                            go_upto_region 25 with (fail)
                            go_region_law (first
                              | (go_simp; go_at_call 49; refine (HGe _ (by first | exact Below.refl _ _ | exact below_drewN (Below.refl _ _) _ | exact below_drewR _)).mono ?_; rintro e w2 ⟨K, a1, n1, d1, a2, n2, d2, a3, n3, d3, rfl, hq2⟩; have m2 := (HCell w2 hq2.1).1; have m3 : (w2.alloc (.cells #[.int .i64 K, .slice a1 n1 d1, .slice a2 n2 d2, .slice a3 n3 d3] 26)).cell? ⟨bA, 3, none⟩ = some (.slice ra m rc) := ((alloc_below (.cells #[.int .i64 K, .slice a1 n1 d1, .slice a2 n2 d2, .slice a3 n3 d3] 26)).cell (p := ⟨bA, 3, none⟩) (cell_lt m2)).trans m2)
                              | (refine step_appN (by rfl) (.tmp 127) (.tmp 133) 24 26 (by rfl) Tryd.underlying24 info_gm8 rfl (by decide) zero_gm8 (by rfl) (HNk _ (fun b hb => ((alloc_below (.cells #[.int .i64 K, .slice a1 n1 d1, .slice a2 n2 d2, .slice a3 n3 d3] 26)).block b (by have := (hNr.blk hb).2.1; have := hq2.1.size; omega)).trans ((HCell w2 hq2.1).2 b hb))) (by rfl) (news := [.int .i64 K, .slice a1 n1 d1, .slice a2 n2 d2, .slice a3 n3 d3]) rfl (fun jj u hu => by rw [cell_of (heap_alloc_new w2 (.cells #[.int .i64 K, .slice a1 n1 d1, .slice a2 n2 d2, .slice a3 n3 d3] 26)) jj]; simpa using hu) (by simp [Value.oneCell']) (by simp [NB8]) hl9 (by decide) (by have := hq2.1.size; simp; omega) ?_; intro va' vc w5 hN5 hg5 ho5; obtain ⟨⟨cd5, hR5⟩, m5, f5⟩ := HNext hq2 (alloc_below (.cells #[.int .i64 K, .slice a1 n1 d1, .slice a2 n2 d2, .slice a3 n3 d3] 26)) hN5 hg5 ho5))
                            all_goals
                              clear c0 c1 c2 c3 c4 c5 k2c HGe HNext HNk HCell m2 m3 m5 f5 hN5 hg5 ho5 hq2
                              have HR5 := hidR hR5
                              clear hR5
                              go_wp2
                              go_roundw
                              case rel => exact ⟨j + 1, m + 1, va', vc, cd5, by go_num, by omega, HR5⟩
                              case measure => simp [intOf]; omega
                          · have hjn : j = N := by omega
                            subst hjn
                            subst hmj2
                            have HRm : Hid (many (geomS l f kind) m k3 = .ok ts kj) := by
                              show _ = _
                              rw [← hM, Nat.sub_self]
                              show Rs.ok (ts ++ []) kj = _
                              rw [List.append_nil]
                            have HR : Hid (geomS l (f + 1) home k = .ok ((⟨(kind : Int), [], []⟩, foOf (ts.map (·.1))), little :: (ts.map (·.2)).flatten) kj) := by show _ = _; rw [HGc.out, HRm.out]; rfl
                            have hNr' : wr.ownsRow W7.heap.size 26 4 (.slice ra m rc) (ts.map (·.1)).length xs := by rw [List.length_map, hpl]; exact hNr.own
                            obtain ⟨pa, pc, hu, hpc, hFo⟩ := fo_of hNr' hGr
                            rw [List.length_map, hpl] at hu hpc
                            simp only [Value.slice.injEq] at hu
                            obtain ⟨rfl, _, rfl⟩ := hu
                            have hfl : (foOf (ts.map (·.1))).len = m := by rw [foOf_len, List.length_map, hpl]
                            have hT : TV (fun i => W7.heap.size ≤ i ∧ i < wr.heap.size ∧ vj.ownBlock ≠ some i) wr (.agg #[.int .i64 (kind : Int), .slice none 0 0, .slice none 0 0, .slice ra m rc]) (⟨(kind : Int), [], []⟩, foOf (ts.map (·.1))) := by
                              have := tv_of (S := fun i => W7.heap.size ≤ i ∧ i < wr.heap.size ∧ vj.ownBlock ≠ some i) (w := wr) (v1 := .slice none 0 0) (v2 := .slice none 0 0) (pa := ra) (pc := rc) (t := (⟨(kind : Int), [], []⟩, foOf (ts.map (·.1)))) ⟨by first | decide | (simp only; omega) | omega, by first | decide | (simp only; omega) | omega⟩ ⟨by simp, none, 0, rfl, fun i q hq => by cases hq⟩ ⟨by simp, none, 0, rfl, fun i q hq => by cases hq⟩ (by simp only [hfl]; exact ⟨by omega, hpc⟩) (hFo.mono (fun i hi => by
                                rcases hi with hi | hi
                                · exact ⟨hi.1, hi.2.1, hi.2.2.2⟩
                                · exact ⟨(hNr.blk hi).1, (hNr.blk hi).2.1, hNr.ne_bo hSr.row (by decide) hi⟩))
                              simp only [hfl] at this
                              exact this
                            have hSr' : RkS w0 wr g a n c D kj 0 plj vj (os ++ (little :: (ts.map (·.2)).flatten)) := by
                              rw [hosj] at hSr
                              simpa using hSr
                            clear hSr
                            have hSr := hSr'
                            clear hSr'
                            obtain ⟨v8, hv8⟩ : ∃ v8, v8 = vj := ⟨_, rfl⟩
                            rw [← hv8] at hSr hT hov8 hown8
                            clear hv8
                            have HT := hidR hT
                            have gz9 := HGZ.out wr hCr
                            have gA9 := hblk
                            have HC8 : Hid (Ch (fun i => Er g (.slice xa L xc) i ∨ i = bA) W7 wr) := hCr
                            have HS8 := hidR hSr
                            have hI1 : In bA (bA + 1) wr wr := In.refl _ _ _
                            go_upto_region 36 with (fail)
                            have a0 := cell_of gA9 0
                            have a1 := cell_of gA9 1
                            have a2 := cell_of gA9 2
                            have a3 := cell_of gA9 3
                            have b0 := cell_of gz9 0
                            have b1 := cell_of gz9 1
                            have b2 := cell_of gz9 2
                            have b3 := cell_of gz9 3
                            simp only [List.getElem?_toArray, List.getElem?_cons_zero, List.getElem?_cons_succ] at a0 a1 a2 a3 b0 b1 b2 b3
                            have f0 : wr.frozen? ⟨B0, 0, none⟩ = false := by simp [World.frozen?, gz9]
                            have f1 : wr.frozen? ⟨B0, 1, none⟩ = false := by simp [World.frozen?, gz9]
                            have f2 : wr.frozen? ⟨B0, 2, none⟩ = false := by simp [World.frozen?, gz9]
                            have f3 : wr.frozen? ⟨B0, 3, none⟩ = false := by simp [World.frozen?, gz9]
                            have HZ9 := hidR gz9
                            clear gA9 gz9
                            go_wp2
                            have hF := set4_block HZ9.out (.int .i64 (kind : Int)) (.slice none 0 0) (.slice none 0 0) (.slice ra m rc)
                            have r0 := cell_of hF 0
                            have r1 := cell_of hF 1
                            have r2 := cell_of hF 2
                            have r3 := cell_of hF 3
                            simp only [List.getElem?_toArray, List.getElem?_cons_zero, List.getElem?_cons_succ] at r0 r1 r2 r3
                            refine bodyPost_ret (v := .agg #[.int .i64 (kind : Int), .slice none 0 0, .slice none 0 0, .slice ra m rc]) (by simp [results, Tryd.results49, go_sem, r0, r1, r2, r3]) rfl ?_
                            have hI2 : In B0 (B0 + 1) wr ((((wr.setCell ⟨B0, 0, none⟩ (.int .i64 (kind : Int))).setCell ⟨B0, 1, none⟩ (.slice none 0 0)).setCell ⟨B0, 2, none⟩ (.slice none 0 0)).setCell ⟨B0, 3, none⟩ (.slice ra m rc)) := ((((In.refl _ _ _).set1 0 _).set1 1 _).set1 2 _).set1 3 _
                            have hne := NE.out
                            have hsz8 := HC8.out.size
                            have hsz7 := HC7.out.size
                            have s1 := hI1.size
                            have s2 := hI2.size
                            have hCw : Ch (Er g (.slice va os.length vn)) w wr := HC7.out.trans HC8.out (fun i hi q => by
                              rcases q with q | q
                              · exact er_sub HV6.out i hi q
                              · omega)
                            have hvA : Value.ownBlock v8 ≠ some bA := hov8 bA NE.out.2.2.2.1 eA.2.1
                            have hvB : Value.ownBlock v8 ≠ some B0 := hov8 B0 NE.out.2.2.2.2 (fun e => yB (Or.inr e))
                            have h9 := fin_rg (b := 0) HS8.out hCw hI1 hne.2.1 ⟨eA.1, hvA, eA.2.2⟩
                            have h10 := fin_rg (b := 0) h9.1 h9.2 hI2 hne.2.2.1 ⟨eB1, hvB, eB3⟩
                            unfold Rge
                            rw [HR.out]
                            refine ⟨_, v8, rfl, h10.1, h10.2, hown8, (HT.out.below ⟨by omega, fun i hi => ?_⟩).mono (fun i hi => ?_)⟩
                            · have q1 := hi.1
                              exact (hI2.block i (by have := hi.2.1; omega) (by omega)).trans (hI1.block i (by have := hi.2.1; omega) (by omega))
                            · have q1 := hi.1
                              exact ⟨by omega, by have := hi.2.1; omega, hi.2.2⟩
                        · have HR : Hid (geomS l (f + 1) home k = .bad p cc) := by show _ = _; rw [HGc.out, hM]; rfl
                          have t0 : ((cc : Int) == 0) = false := by simpa using hcc
                          obtain ⟨v8, hv8⟩ : ∃ v8, v8 = vj := ⟨_, rfl⟩
                          rw [← hv8] at hSr hov8 hown8
                          clear hv8 ih
                          by_cases hlt : j < N
                          · have gz9 := HGZ.out wr hCr
                            have gA9 := hblk
                            have HC8 : Hid (Ch (fun i => Er g (.slice xa L xc) i ∨ i = bA) W7 wr) := hCr
                            have HS8 := hidR hSr
                            have hI1 : In bA (bA + 1) wr wr := In.refl _ _ _
                            go_upto_region 36 with (fail)
                            have a0 := cell_of gA9 0
                            have a1 := cell_of gA9 1
                            have a2 := cell_of gA9 2
                            have a3 := cell_of gA9 3
                            have b0 := cell_of gz9 0
                            have b1 := cell_of gz9 1
                            have b2 := cell_of gz9 2
                            have b3 := cell_of gz9 3
                            simp only [List.getElem?_toArray, List.getElem?_cons_zero, List.getElem?_cons_succ] at a0 a1 a2 a3 b0 b1 b2 b3
                            have f0 : wr.frozen? ⟨B0, 0, none⟩ = false := by simp [World.frozen?, gz9]
                            have f1 : wr.frozen? ⟨B0, 1, none⟩ = false := by simp [World.frozen?, gz9]
                            have f2 : wr.frozen? ⟨B0, 2, none⟩ = false := by simp [World.frozen?, gz9]
                            have f3 : wr.frozen? ⟨B0, 3, none⟩ = false := by simp [World.frozen?, gz9]
                            have HZ9 := hidR gz9
                            clear gA9 gz9
                            go_wp2
                            have hF := set4_block HZ9.out (.int .i64 (kind : Int)) (.slice none 0 0) (.slice none 0 0) (.slice ra m rc)
                            have r0 := cell_of hF 0
                            have r1 := cell_of hF 1
                            have r2 := cell_of hF 2
                            have r3 := cell_of hF 3
                            simp only [List.getElem?_toArray, List.getElem?_cons_zero, List.getElem?_cons_succ] at r0 r1 r2 r3
                            refine bodyPost_ret (v := .agg #[.int .i64 (kind : Int), .slice none 0 0, .slice none 0 0, .slice ra m rc]) (by simp [results, Tryd.results49, go_sem, r0, r1, r2, r3]) rfl ?_
                            have hI2 : In B0 (B0 + 1) wr ((((wr.setCell ⟨B0, 0, none⟩ (.int .i64 (kind : Int))).setCell ⟨B0, 1, none⟩ (.slice none 0 0)).setCell ⟨B0, 2, none⟩ (.slice none 0 0)).setCell ⟨B0, 3, none⟩ (.slice ra m rc)) := ((((In.refl _ _ _).set1 0 _).set1 1 _).set1 2 _).set1 3 _
                            have hne := NE.out
                            have hsz8 := HC8.out.size
                            have hsz7 := HC7.out.size
                            have s1 := hI1.size
                            have s2 := hI2.size
                            have hCw : Ch (Er g (.slice va os.length vn)) w wr := HC7.out.trans HC8.out (fun i hi q => by
                              rcases q with q | q
                              · exact er_sub HV6.out i hi q
                              · omega)
                            have hvA : Value.ownBlock v8 ≠ some bA := hov8 bA NE.out.2.2.2.1 eA.2.1
                            have hvB : Value.ownBlock v8 ≠ some B0 := hov8 B0 NE.out.2.2.2.2 (fun e => yB (Or.inr e))
                            have h9 := fin_rg (b := 0) HS8.out hCw hI1 hne.2.1 ⟨eA.1, hvA, eA.2.2⟩
                            have h10 := fin_rg (b := 0) h9.1 h9.2 hI2 hne.2.2.1 ⟨eB1, hvB, eB3⟩
                            unfold Rge
                            rw [HR.out]
                            exact ⟨_, _, _, _, _, _, _, _, _, _, _, _, _, rfl, h10.1, hcc, h10.2, hown8⟩
                          · have gz9 := HGZ.out wr hCr
                            have gA9 := hblk
                            have HC8 : Hid (Ch (fun i => Er g (.slice xa L xc) i ∨ i = bA) W7 wr) := hCr
                            have HS8 := hidR hSr
                            have hI1 : In bA (bA + 1) wr wr := In.refl _ _ _
                            go_upto_region 36 with (fail)
                            have a0 := cell_of gA9 0
                            have a1 := cell_of gA9 1
                            have a2 := cell_of gA9 2
                            have a3 := cell_of gA9 3
                            have b0 := cell_of gz9 0
                            have b1 := cell_of gz9 1
                            have b2 := cell_of gz9 2
                            have b3 := cell_of gz9 3
                            simp only [List.getElem?_toArray, List.getElem?_cons_zero, List.getElem?_cons_succ] at a0 a1 a2 a3 b0 b1 b2 b3
                            have f0 : wr.frozen? ⟨B0, 0, none⟩ = false := by simp [World.frozen?, gz9]
                            have f1 : wr.frozen? ⟨B0, 1, none⟩ = false := by simp [World.frozen?, gz9]
                            have f2 : wr.frozen? ⟨B0, 2, none⟩ = false := by simp [World.frozen?, gz9]
                            have f3 : wr.frozen? ⟨B0, 3, none⟩ = false := by simp [World.frozen?, gz9]
                            have HZ9 := hidR gz9
                            clear gA9 gz9
                            go_wp2
                            have hF := set4_block HZ9.out (.int .i64 (kind : Int)) (.slice none 0 0) (.slice none 0 0) (.slice ra m rc)
                            have r0 := cell_of hF 0
                            have r1 := cell_of hF 1
                            have r2 := cell_of hF 2
                            have r3 := cell_of hF 3
                            simp only [List.getElem?_toArray, List.getElem?_cons_zero, List.getElem?_cons_succ] at r0 r1 r2 r3
                            refine bodyPost_ret (v := .agg #[.int .i64 (kind : Int), .slice none 0 0, .slice none 0 0, .slice ra m rc]) (by simp [results, Tryd.results49, go_sem, r0, r1, r2, r3]) rfl ?_
                            have hI2 : In B0 (B0 + 1) wr ((((wr.setCell ⟨B0, 0, none⟩ (.int .i64 (kind : Int))).setCell ⟨B0, 1, none⟩ (.slice none 0 0)).setCell ⟨B0, 2, none⟩ (.slice none 0 0)).setCell ⟨B0, 3, none⟩ (.slice ra m rc)) := ((((In.refl _ _ _).set1 0 _).set1 1 _).set1 2 _).set1 3 _
                            have hne := NE.out
                            have hsz8 := HC8.out.size
                            have hsz7 := HC7.out.size
                            have s1 := hI1.size
                            have s2 := hI2.size
                            have hCw : Ch (Er g (.slice va os.length vn)) w wr := HC7.out.trans HC8.out (fun i hi q => by
                              rcases q with q | q
                              · exact er_sub HV6.out i hi q
                              · omega)
                            have hvA : Value.ownBlock v8 ≠ some bA := hov8 bA NE.out.2.2.2.1 eA.2.1
                            have hvB : Value.ownBlock v8 ≠ some B0 := hov8 B0 NE.out.2.2.2.2 (fun e => yB (Or.inr e))
                            have h9 := fin_rg (b := 0) HS8.out hCw hI1 hne.2.1 ⟨eA.1, hvA, eA.2.2⟩
                            have h10 := fin_rg (b := 0) h9.1 h9.2 hI2 hne.2.2.1 ⟨eB1, hvB, eB3⟩
                            unfold Rge
                            rw [HR.out]
                            exact ⟨_, _, _, _, _, _, _, _, _, _, _, _, _, rfl, h10.1, hcc, h10.2, hown8⟩
end Go.Proofs.YtinagjljebbceaaDoor
