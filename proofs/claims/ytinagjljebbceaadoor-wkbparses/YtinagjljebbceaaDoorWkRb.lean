/- Layer 17: the document's walk: counts, places. -/
import Derived.Test.YtinagjljebbceaaDoorWkRa
namespace Go.Proofs.YtinagjljebbceaaDoor
open Go.ChangeShapes Go.WideShapes Go.ChangeAt Go.RowKit
open Ep Oc Tr Wk
set_option linter.unusedVariables false
/-- what a call of the document's walk that lays nothing comes to -/
def Rst {α : Type} (w0 w : World) (g : Nat) (a : Option Addr) (n c : Nat) (D pl : Int) (v : Value) (os : List Bool) (r : Rs α) (val : α → Value) (junk : Value → Prop) (e : Ending) (w' : World) : Prop :=
  match r with
  | .ok x k' => e = .returned (val x) ∧ RkS w0 w' g a n c D k' 0 pl v os ∧ Ch (Er g v) w w'
  | .bad p cc => ∃ u k', e = .returned u ∧ junk u ∧ RkS w0 w' g a n c D k' (cc : Int) (p : Int) v os ∧ (cc : Int) ≠ 0 ∧ Ch (Er g v) w w'
theorem Hid.mk' {p : Prop} (h : p) : Hid p := h
set_option maxHeartbeats 1600000 in
theorem risNaN_any {x : Nat} (hx : x < 18446744073709551616) (w : World) :
    Calls Tryd.prog 97 #[.int .u64 (x : Int)] w fun e w' => e = .returned (.bool (nanB x)) ∧ w' = w := by
  have hF := rfinite_any hx w
  by_cases hf : finB x = true
  · rw [hf] at hF
    have HN : Hid (nanB x = false) := by
      show _ = _
      unfold finB at hf
      unfold nanB
      simp at hf
      simp [hf]
    go_enter Tryd.func97, Tryd.ntmps97
    go_wp2_with fail
    refine hF.mono ?_
    rintro e w1 ⟨rfl, rfl⟩
    clear hF
    go_wp2
    go_ret
    exact ⟨by rw [HN.out]; rfl, rfl⟩
  · have hf' : finB x = false := by simpa using hf
    rw [hf'] at hF
    have HN : Hid ((bits .and .u64 (x : Int) 4503599627370495 != 0) = nanB x) := by
      show _ = _
      rw [rnan_is hx]
      unfold finB at hf'
      unfold nanB
      simp at hf'
      simp [hf']
    go_enter Tryd.func97, Tryd.ntmps97
    go_wp2_with fail
    refine hF.mono ?_
    rintro e w1 ⟨rfl, rfl⟩
    clear hF
    go_wp2
    go_ret
    exact ⟨by rw [← HN.out]; rfl, rfl⟩
def Wk.rcountS (l : List UInt8) (lst k : Nat) (little ring : Bool) : Rs Nat := (word l k 4 little).bind fun x k' => if ring = true ∧ x = 0 then .bad k 176 else if l.length - k' < x * lst then .bad k 173 else .ok x k'
set_option maxHeartbeats 3200000 in
set_option maxRecDepth 100000 in
theorem rcount_any {w0 w : World} {g : Nat} {a : Option Addr} {n c : Nat} {D : Int} {k : Nat} {pl : Int} {v : Value} {os : List Bool} {l : List UInt8} (h : RkS w0 w g a n c D k 0 pl v os) (hr : Rb w0 a n c l) (hn : n ≤ 65536) (hk : k ≤ n) (lst : Nat) (hls : lst ≤ 100) (little ring : Bool) :
    Calls Tryd.prog 74 #[.pointer (some ⟨g, 0, none⟩), .bool little, .int .i64 (lst : Int), .bool ring] w (Rst w0 w g a n c D pl v os (rcountS l lst k little ring) (fun x => .int .i64 (x : Int)) (fun u => u = .int .i64 0)) := by
  have hl := hr.len
  have hc9 := hr.2
  obtain ⟨c0, c1, c2, c3, c4, c5⟩ := h.cells
  cases hw : word l k 4 little with
  | bad p cc =>
    have hN := rnumber_bad h hr (by omega) hk (by omega) hw
    obtain ⟨rfl, rfl, _⟩ := word_bad hw
    have HR : Hid (rcountS l lst p little ring = .bad p 160) := by show (word l p 4 little).bind _ = _; rw [hw]; rfl
    clear h hw
    go_enter Tryd.func74, Tryd.ntmps74
    go_wp2_with fail
    refine hN.mono ?_
    rintro e w1 ⟨rfl, hS, hC⟩
    clear hN c0 c1 c2 c3 c4 c5
    obtain ⟨c0, c1, c2, c3, c4, c5⟩ := hS.cells
    go_wp2
    go_ret
    unfold Rst
    rw [HR.out]
    exact ⟨_, _, rfl, rfl, hS, by decide, hC⟩
  | ok x k' =>
    have hN := rnumber_ok h hr (by omega) hk (by omega) (by omega) hw
    have hwo := word_ok hw
    rw [show (256 : Nat) ^ 4 = 4294967296 by decide] at hwo
    rw [hl] at hwo
    have HR : Hid (rcountS l lst k little ring = if ring = true ∧ x = 0 then .bad k 176 else if n - k' < x * lst then .bad k 173 else .ok x k') := by show (word l k 4 little).bind _ = _; rw [hw, ← hl]; rfl
    obtain ⟨M, hM⟩ : ∃ M, M = x * lst := ⟨_, rfl⟩
    have hM9 : M < 4294967296000 := by rw [hM]; have := Nat.mul_le_mul_left x hls; omega
    have hm8 : (x : Int) * (lst : Int) = (M : Int) := by rw [hM]; simp
    rw [← hM] at HR
    have hx8 : (x : Int) % 18446744073709551616 = (x : Int) := by omega
    have hk' : k' ≤ n := by omega
    have hkn : (k' : Int) ≤ (n : Int) := by omega
    clear h hw hM
    go_enter Tryd.func74, Tryd.ntmps74
    go_wp2_with fail
    refine hN.mono ?_
    rintro e w1 ⟨rfl, hS, hC⟩
    clear hN c0 c1 c2 c3 c4 c5
    obtain ⟨c0, c1, c2, c3, c4, c5⟩ := hS.cells
    by_cases hz : ring = true ∧ x = 0
    · obtain ⟨rfl, rfl⟩ := hz
      have hF := rfault_any hS (k : Int) 176
      clear hS
      go_wp2_with fail
      refine hF.mono ?_
      rintro e w2 ⟨rfl, hS2, hC2⟩
      clear hF c0 c1 c2 c3 c4 c5
      go_wp2
      go_ret
      unfold Rst
      rw [HR.out, if_pos (by simp)]
      exact ⟨_, _, rfl, rfl, hS2, by decide, hC.trans hC2 (fun _ _ x => x)⟩
    · have t0 : ring = true → ((x : Int) == 0) = false := fun q => by
        have : x ≠ 0 := fun q2 => hz ⟨q, q2⟩
        simp; omega
      cases ring
      · go_wp2
        go_quiet (fail)
        obtain ⟨V, hV⟩ : ∃ V, V = w1.drewN nq := ⟨_, rfl⟩
        have hbV : Below w1.heap.size w1 V := by rw [hV]; exact below_drewN (Below.refl _ _) nq
        rw [← hV]
        clear hV c0 c1 c2 c3 c4 c5
        have hSV := hS.later hbV
        have hCV := hC.trans (Ch.of_below (X := Er g v) hbV) (fun _ _ x => x)
        clear hS hC hbV
        by_cases hbig : n - k' < M
        · have t1 : decide ((M : Int) > (n : Int) - (k' : Int)) = true := by simp; omega
          have t1' : decide ((n : Int) - (k' : Int) < (M : Int)) = true := by simp; omega
          have hF := rfault_any hSV (k : Int) 173
          clear hSV
          go_wp2_with fail
          refine hF.mono ?_
          rintro e w2 ⟨rfl, hS2, hC2⟩
          clear hF
          go_wp2
          go_ret
          unfold Rst
          rw [HR.out, if_neg hz, if_pos hbig]
          exact ⟨_, _, rfl, rfl, hS2, by decide, hCV.trans hC2 (fun _ _ x => x)⟩
        · have t1 : decide ((M : Int) > (n : Int) - (k' : Int)) = false := by simp; omega
          have t1' : decide ((n : Int) - (k' : Int) < (M : Int)) = false := by simp; omega
          go_wp2
          go_ret
          unfold Rst
          rw [HR.out, if_neg hz, if_neg hbig]
          exact ⟨rfl, hSV, hCV⟩
      · have t0' := t0 rfl
        go_wp2
        go_quiet (fail)
        obtain ⟨V, hV⟩ : ∃ V, V = w1.drewN nq := ⟨_, rfl⟩
        have hbV : Below w1.heap.size w1 V := by rw [hV]; exact below_drewN (Below.refl _ _) nq
        rw [← hV]
        clear hV c0 c1 c2 c3 c4 c5
        have hSV := hS.later hbV
        have hCV := hC.trans (Ch.of_below (X := Er g v) hbV) (fun _ _ x => x)
        clear hS hC hbV
        by_cases hbig : n - k' < M
        · have t1 : decide ((M : Int) > (n : Int) - (k' : Int)) = true := by simp; omega
          have t1' : decide ((n : Int) - (k' : Int) < (M : Int)) = true := by simp; omega
          have hF := rfault_any hSV (k : Int) 173
          clear hSV
          go_wp2_with fail
          refine hF.mono ?_
          rintro e w2 ⟨rfl, hS2, hC2⟩
          clear hF
          go_wp2
          go_ret
          unfold Rst
          rw [HR.out, if_neg hz, if_pos hbig]
          exact ⟨_, _, rfl, rfl, hS2, by decide, hCV.trans hC2 (fun _ _ x => x)⟩
        · have t1 : decide ((M : Int) > (n : Int) - (k' : Int)) = false := by simp; omega
          have t1' : decide ((n : Int) - (k' : Int) < (M : Int)) = false := by simp; omega
          go_wp2
          go_ret
          unfold Rst
          rw [HR.out, if_neg hz, if_neg hbig]
          exact ⟨rfl, hSV, hCV⟩
set_option maxHeartbeats 3200000 in
set_option maxRecDepth 100000 in
theorem rpair_any {w0 w : World} {g : Nat} {a : Option Addr} {n c : Nat} {D : Int} {k : Nat} {pl : Int} {v : Value} {os : List Bool} {l : List UInt8} (h : RkS w0 w g a n c D k 0 pl v os) (hr : Rb w0 a n c l) (hn : n ≤ 65536) (hk : k ≤ n) (hroom : 16 ≤ n - k) (little : Bool) :
    Calls Tryd.prog 99 #[.pointer (some ⟨g, 0, none⟩), .bool little] w (Rst w0 w g a n c D pl v os (placeS l k little) ptV (fun u => ∃ x y : Int, u = .agg #[.int .u64 x, .int .u64 y])) := by
  have hl := hr.len
  have hc9 := hr.2
  obtain ⟨B, hB⟩ : ∃ B, B = w.heap.size := ⟨_, rfl⟩
  obtain ⟨hne1, hob, h0B⟩ := h.old (b := B) (by omega)
  have hxB := h.ex (b := B) (by omega)
  obtain ⟨W, hW0⟩ : ∃ W, W = w.alloc (.cells #[.int .u64 0, .int .u64 0] 93) := ⟨_, rfl⟩
  have hbW : Below w.heap.size w W := by rw [hW0]; exact alloc_below _
  have hBW : W.heap[B]? = some (.cells #[.int .u64 0, .int .u64 0] 93 (0, 0)) := by rw [hW0, hB]; exact heap_alloc_new _ _
  have hS := h.later hbW
  have HW : Hid (w.alloc (.cells #[.int .u64 0, .int .u64 0] 93) = W) := hW0.symm
  have HB : Hid (B = w.heap.size) := hB
  clear hW0 hB h
  obtain ⟨c0, c1, c2, c3, c4, c5⟩ := hS.cells
  have hw1 : word l k 8 little = .ok (numO ((l.drop k).take 8) little) (k + 8) := by unfold word; rw [if_neg (by omega)]
  have hw2 : word l (k + 8) 8 little = .ok (numO ((l.drop (k + 8)).take 8) little) (k + 8 + 8) := by unfold word; rw [if_neg (by omega)]
  have hN1 := rnumber_ok hS hr (by omega) hk (by omega) (by omega) hw1
  have hx9 := (word_ok hw1).2.2
  have hy9 := (word_ok hw2).2.2
  have HP : Hid (placeS l k little = (mustS k (numO ((l.drop k).take 8) little, numO ((l.drop (k + 8)).take 8) little)).bind fun _ _ => .ok (pt (numO ((l.drop k).take 8) little, numO ((l.drop (k + 8)).take 8) little)) (k + 8 + 8)) := by
    show (patsS l k little).bind _ = _
    unfold patsS
    rw [hw1, bind_ok, hw2]
    rfl
  have HW2 : Hid (word l (k + 8) 8 little = .ok (numO ((l.drop (k + 8)).take 8) little) (k + 8 + 8)) := hw2
  rw [show (256 : Nat) ^ 8 = 18446744073709551616 by decide] at hx9 hy9
  generalize numO ((l.drop k).take 8) little = x at *
  generalize numO ((l.drop (k + 8)).take 8) little = y at *
  have hFx := fun w => rfinite_any hx9 w
  have hFy := fun w => rfinite_any hy9 w
  clear hw1 hw2 hS
  go_enter Tryd.func99, Tryd.ntmps99
  go_upto_region 1 with (fail)
  rw [HW.out, ← HB.out]
  go_wp2_with fail
  refine hN1.mono ?_
  rintro e w2 ⟨rfl, hS2, hC2⟩
  clear hN1 c0 c1 c2 c3 c4 c5
  obtain ⟨c0, c1, c2, c3, c4, c5⟩ := hS2.cells
  have hB2 := (hC2.block B (lt_of_block hBW) hxB).trans hBW
  have hC2' := (Ch.of_below (X := Er g v) hbW).trans hC2 (fun _ _ x => x)
  clear hBW hC2 hbW HW
  by_cases fx : finB x = true
  · rw [fx] at hFx
    go_wp2_with fail
    refine (hFx _).mono ?_
    rintro e w3 ⟨rfl, rfl⟩
    clear hFx
    have hN2 := rnumber_ok hS2 hr (by omega) (by omega) (by omega) (by omega) HW2.out
    clear hS2
    go_wp2_with fail
    refine hN2.mono ?_
    rintro e w4 ⟨rfl, hS4, hC4⟩
    clear hN2 c0 c1 c2 c3 c4 c5
    obtain ⟨c0, c1, c2, c3, c4, c5⟩ := hS4.cells
    have hB4 := (hC4.block B (lt_of_block hB2) hxB).trans hB2
    have hC4' := hC2'.trans hC4 (fun _ _ x => x)
    clear hB2 hC4 hC2'
    by_cases fy : finB y = true
    · rw [fy] at hFy
      have HR : Hid (placeS l k little = .ok (pt (x, y)) (k + 8 + 8)) := by show _ = _; rw [HP.out]; unfold mustS; rw [if_neg (by simp [fx]), if_neg (by simp [fy])]; rfl
      go_wp2_with fail
      refine (hFy _).mono ?_
      rintro e w5 ⟨rfl, rfl⟩
      clear hFy
      have d0 := cell_of hB4 0
      have d1 := cell_of hB4 1
      have z0 : w5.frozen? ⟨B, 0, none⟩ = false := by simp [World.frozen?, hB4]
      have z1 : w5.frozen? ⟨B, 1, none⟩ = false := by simp [World.frozen?, hB4]
      simp only [List.getElem?_toArray, List.getElem?_cons_zero, List.getElem?_cons_succ] at d0 d1
      have HS9 := Hid.mk' hS4
      have HB9 := Hid.mk' hB4
      have HC9 := Hid.mk' hC4'
      clear hS4 hB4 hC4'
      go_wp2
      have hF := set2_block HB9.out (.int .u64 (x : Int)) (.int .u64 (y : Int))
      have f0 := cell_of hF 0
      have f1 := cell_of hF 1
      simp only [List.getElem?_toArray, List.getElem?_cons_zero, List.getElem?_cons_succ] at f0 f1
      refine bodyPost_ret (v := .agg #[.int .u64 (x : Int), .int .u64 (y : Int)]) (by simp [results, Tryd.results99, go_sem, f0, f1]) rfl ?_
      have hI : In B (B + 1) w5 ((w5.setCell ⟨B, 0, none⟩ (.int .u64 (x : Int))).setCell ⟨B, 1, none⟩ (.int .u64 (y : Int))) := ((In.refl _ _ _).set1 0 _).set1 1 _
      have hCB := Ch.of_in (X := fun i => i = B) hI rfl
      have hS9 := HS9.out.grow hCB (fun q => hne1 q.symm) (fun b hb q => hob (by rw [hb, q])) (fun b _ q => by omega)
      have hC9 := HC9.out.trans hCB (fun i hi q => by have := HB.out; omega)
      unfold Rst
      rw [HR.out]
      exact ⟨rfl, hS9, hC9⟩
    · have fy' : finB y = false := by simpa using fy
      rw [fy'] at hFy
      have HR : Hid (placeS l k little = .bad (k + 8) 175) := by show _ = _; rw [HP.out]; unfold mustS; rw [if_neg (by simp [fx]), if_pos fy']; rfl
      have hF5 := rfault_any hS4 ((k : Int) + 8) 175
      clear hS4
      go_wp2_with fail
      refine (hFy _).mono ?_
      rintro e w5 ⟨rfl, rfl⟩
      clear hFy
      go_wp2_with fail
      refine hF5.mono ?_
      rintro e w6 ⟨rfl, hS6, hC6⟩
      clear hF5 c0 c1 c2 c3 c4 c5
      have hB6 := (hC6.block B (lt_of_block hB4) hxB).trans hB4
      have hC6' := hC4'.trans hC6 (fun _ _ x => x)
      clear hB4 hC6 hC4'
      have d0 := cell_of hB6 0
      have d1 := cell_of hB6 1
      have z0 : w6.frozen? ⟨B, 0, none⟩ = false := by simp [World.frozen?, hB6]
      have z1 : w6.frozen? ⟨B, 1, none⟩ = false := by simp [World.frozen?, hB6]
      simp only [List.getElem?_toArray, List.getElem?_cons_zero, List.getElem?_cons_succ] at d0 d1
      have HS9 := Hid.mk' hS6
      have HB9 := Hid.mk' hB6
      have HC9 := Hid.mk' hC6'
      clear hS6 hB6 hC6'
      go_wp2
      have hF := set2_block HB9.out (.int .u64 (x : Int)) (.int .u64 (y : Int))
      have f0 := cell_of hF 0
      have f1 := cell_of hF 1
      simp only [List.getElem?_toArray, List.getElem?_cons_zero, List.getElem?_cons_succ] at f0 f1
      refine bodyPost_ret (v := .agg #[.int .u64 (x : Int), .int .u64 (y : Int)]) (by simp [results, Tryd.results99, go_sem, f0, f1]) rfl ?_
      have hI : In B (B + 1) w6 ((w6.setCell ⟨B, 0, none⟩ (.int .u64 (x : Int))).setCell ⟨B, 1, none⟩ (.int .u64 (y : Int))) := ((In.refl _ _ _).set1 0 _).set1 1 _
      have hCB := Ch.of_in (X := fun i => i = B) hI rfl
      have hS9 := HS9.out.grow hCB (fun q => hne1 q.symm) (fun b hb q => hob (by rw [hb, q])) (fun b _ q => by omega)
      have hC9 := HC9.out.trans hCB (fun i hi q => by have := HB.out; omega)
      unfold Rst
      rw [HR.out]
      exact ⟨_, _, rfl, ⟨_, _, rfl⟩, hS9, by decide, hC9⟩
  · have fx' : finB x = false := by simpa using fx
    rw [fx'] at hFx
    have HR : Hid (placeS l k little = .bad k 175) := by show _ = _; rw [HP.out]; unfold mustS; rw [if_pos fx']; rfl
    have hF3 := rfault_any hS2 (k : Int) 175
    clear hS2 hFy
    go_wp2_with fail
    refine (hFx _).mono ?_
    rintro e w3 ⟨rfl, rfl⟩
    clear hFx
    go_wp2_with fail
    refine hF3.mono ?_
    rintro e w4 ⟨rfl, hS4, hC4⟩
    clear hF3 c0 c1 c2 c3 c4 c5
    obtain ⟨c0, c1, c2, c3, c4, c5⟩ := hS4.cells
    have hB4 := (hC4.block B (lt_of_block hB2) hxB).trans hB2
    have hC4' := hC2'.trans hC4 (fun _ _ x => x)
    have hN2 := rnumber_err hS4 (by decide) 8 little
    clear hB2 hC4 hC2'
    go_wp2_with fail
    refine hN2.mono ?_
    rintro e w5 ⟨rfl, rfl⟩
    clear hN2
    have d0 := cell_of hB4 0
    have d1 := cell_of hB4 1
    have z0 : w5.frozen? ⟨B, 0, none⟩ = false := by simp [World.frozen?, hB4]
    have z1 : w5.frozen? ⟨B, 1, none⟩ = false := by simp [World.frozen?, hB4]
    simp only [List.getElem?_toArray, List.getElem?_cons_zero, List.getElem?_cons_succ] at d0 d1
    have HS9 := Hid.mk' hS4
    have HB9 := Hid.mk' hB4
    have HC9 := Hid.mk' hC4'
    clear hS4 hB4 hC4'
    go_wp2
    have hF := set2_block HB9.out (.int .u64 (x : Int)) (.int .u64 0)
    have f0 := cell_of hF 0
    have f1 := cell_of hF 1
    simp only [List.getElem?_toArray, List.getElem?_cons_zero, List.getElem?_cons_succ] at f0 f1
    refine bodyPost_ret (v := .agg #[.int .u64 (x : Int), .int .u64 0]) (by simp [results, Tryd.results99, go_sem, f0, f1]) rfl ?_
    have hI : In B (B + 1) w5 ((w5.setCell ⟨B, 0, none⟩ (.int .u64 (x : Int))).setCell ⟨B, 1, none⟩ (.int .u64 0)) := ((In.refl _ _ _).set1 0 _).set1 1 _
    have hCB := Ch.of_in (X := fun i => i = B) hI rfl
    have hS9 := HS9.out.grow hCB (fun q => hne1 q.symm) (fun b hb q => hob (by rw [hb, q])) (fun b _ q => by omega)
    have hC9 := HC9.out.trans hCB (fun i hi q => by have := HB.out; omega)
    unfold Rst
    rw [HR.out]
    exact ⟨_, _, rfl, ⟨_, _, rfl⟩, hS9, by decide, hC9⟩
end Go.Proofs.YtinagjljebbceaaDoor
