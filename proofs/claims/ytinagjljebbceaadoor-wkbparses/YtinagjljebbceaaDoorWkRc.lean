/- Layer 17: the document's walk: lists of points. -/
import Derived.Test.YtinagjljebbceaaDoorWkRb
namespace Go.Proofs.YtinagjljebbceaaDoor
open Go.ChangeShapes Go.WideShapes Go.ChangeAt Go.RowKit
open Ep Oc Tr Wk
set_option linter.unusedVariables false
def Rpl (w0 w : World) (g : Nat) (a : Option Addr) (n c : Nat) (D pl : Int) (v : Value) (os : List Bool) (r : Rs (List Pt)) (e : Ending) (w' : World) : Prop :=
  match r with
  | .ok ps k' => ∃ u, e = .returned u ∧ RkS w0 w' g a n c D k' 0 pl v os ∧ Ch (Er g v) w w' ∧ Pts (fun i => w.heap.size ≤ i ∧ i < w'.heap.size) w' u ps
  | .bad p cc => ∃ ua um uc k', e = .returned (.slice ua um uc) ∧ RkS w0 w' g a n c D k' (cc : Int) (p : Int) v os ∧ (cc : Int) ≠ 0 ∧ Ch (Er g v) w w'
set_option maxHeartbeats 1600000 in
set_option maxRecDepth 100000 in
theorem rpairs_err {w0 w : World} {g : Nat} {a : Option Addr} {n c : Nat} {D : Int} {k : Nat} {cd pl : Int} {v : Value} {os : List Bool} (h : RkS w0 w g a n c D k cd pl v os) (little : Bool) :
    Calls Tryd.prog 73 #[.pointer (some ⟨g, 0, none⟩), .bool little, .int .i64 0] w fun e w' => e = .returned (.slice none 0 0) ∧ w' = w := by
  go_enter Tryd.func73, Tryd.ntmps73
  go_wp2
  refine wp_loop_rounds 1 ?_
  rw [rounds_succ]
  go_wp2
  go_ret
  exact ⟨rfl, rfl⟩
set_option maxHeartbeats 3200000 in
set_option maxRecDepth 100000 in
theorem rpairs_any {w0 w : World} {g : Nat} {a : Option Addr} {n c : Nat} {D : Int} {k : Nat} {pl : Int} {v : Value} {os : List Bool} {l : List UInt8} (h : RkS w0 w g a n c D k 0 pl v os) (hr : Rb w0 a n c l) (hn : n ≤ 65536) (hk : k ≤ n) (N : Nat) (hroom : N * 16 ≤ n - k) (little : Bool) :
    Calls Tryd.prog 73 #[.pointer (some ⟨g, 0, none⟩), .bool little, .int .i64 (N : Int)] w (Rpl w0 w g a n c D pl v os (many (fun j => placeS l j little) N k)) := by
  have hl := hr.len
  have HO : Hid (∀ b, w.heap.size ≤ b → b ≠ g ∧ v.ownBlock ≠ some b ∧ w0.heap.size ≤ b) := fun b hb => h.old hb
  have hN9 : N ≤ 4096 := by omega
  go_enter Tryd.func73, Tryd.ntmps73
  go_wp2
  go_loopw [7, 8] (fun ov i wr => ∃ (j m kj : Nat) (cd plj : Int) (xs : List Value), i = .int .i64 (j : Int) ∧ j ≤ N ∧ m ≤ j ∧ Hid (RkS w0 wr g a n c D kj cd plj v os) ∧ Hid (Ch (Er g v) w wr) ∧ Hid (Nw wr w.heap.size 93 2 ov m xs) ∧ Hid ((cd = 0 ∧ plj = pl ∧ kj ≤ n ∧ (N - j) * 16 ≤ n - kj ∧ ∃ ps : List Pt, ps.length = j ∧ m = j ∧ xs = ptcs ps ∧ (∀ q ∈ ps, U6 q.1 ∧ U6 q.2) ∧ Rs.pre ps (many (fun j => placeS l j little) (N - j) kj) = many (fun j => placeS l j little) N k) ∨ (∃ p cc : Nat, cd = (cc : Int) ∧ (cc : Int) ≠ 0 ∧ plj = (p : Int) ∧ many (fun j => placeS l j little) N k = .bad p cc))) (fun _ i _ => N - (intOf i).toNat)
  case atStart => exact ⟨0, 0, k, 0, pl, [], rfl, Nat.zero_le _, Nat.le_refl _, h, Ch.refl _ _, Nw.nil _ _ _ _, Or.inl ⟨rfl, rfl, hk, by simpa using hroom, [], rfl, rfl, rfl, (fun q hq => by cases hq), pre_nil _⟩⟩
  case round =>
    obtain ⟨j, m, kj, cd, plj, xs, rfl, hj, hmj, HS, HC, HN, HX⟩ := hrel
    obtain ⟨c0, c1, c2, c3, c4, c5⟩ := HS.out.cells
    obtain ⟨oa, oc, hou, hoc⟩ := own_slice HN.out.own
    rcases HX.out with ⟨rfl, rfl, hkj, hrm, ps, hpl, rfl, rfl, hU, hM⟩ | ⟨p, cc, rfl, hcc, rfl, hM⟩
    · have HL : Hid (ps.length = m) := hpl
      have HM : Hid (Rs.pre ps (many (fun j => placeS l j little) (N - m) kj) = many (fun j => placeS l j little) N k) := hM
      have HU : Hid (∀ q ∈ ps, U6 q.1 ∧ U6 q.2) := hU
      clear hpl hM hU HX h
      by_cases hlt : m < N
      · have hP := rpair_any HS.out hr hn hkj (by omega) little
        obtain ⟨r, hr1⟩ : ∃ r, N - m = r + 1 := ⟨N - m - 1, by omega⟩
        have hr2 : N - (m + 1) = r := by omega
        clear hou
        cases hp : placeS l kj little with
        | bad p cc =>
          rw [hp] at hP
          have HB : Hid (many (fun j => placeS l j little) N k = .bad p cc) := by show _ = _; rw [← HM.out, hr1, many_bad ps hp]
          clear hp hr1 HM
          go_wp2_with fail
          refine hP.mono ?_
          rintro e w3 ⟨u, k3, rfl, ⟨x, y, rfl⟩, hS3, hcc, hC3⟩
          clear hP c0 c1 c2 c3 c4 c5
          have hnx : ∀ i, w.heap.size ≤ i → ¬ Er g v i := fun i hi q => by
            have := HO.out i hi
            rcases q with q | q
            · exact this.1 q
            · exact this.2.1 q
          have hN3 : Nw w3 w.heap.size 93 2 u7 m (ptcs ps) := HN.out.keep (fun b hb => hC3.block b (HN.out.blk hb).2.1 (hnx b (HN.out.blk hb).1))
          have hC : Ch (Er g v) w w3 := HC.out.trans hC3 (fun _ _ x => x)
          have hs3 : w.heap.size ≤ w3.heap.size := hC.size
          obtain ⟨W4, hW4⟩ : ∃ W4, W4 = w3.alloc (.cells #[.int .u64 x, .int .u64 y] 93) := ⟨_, rfl⟩
          have hb4 : Below w3.heap.size w3 W4 := by rw [hW4]; exact alloc_below _
          have hB4 : W4.heap[w3.heap.size]? = some (.cells #[.int .u64 x, .int .u64 y] 93 (0, 0)) := by rw [hW4]; exact heap_alloc_new _ _
          have hN4 : Nw W4 w.heap.size 93 2 u7 m (ptcs ps) := hN3.keep (fun b hb => hb4.block b (hN3.blk hb).2.1)
          have HS4 := Hid.mk' (hS3.later hb4)
          have HC4 : Hid (Ch (Er g v) w W4) := hC.trans (Ch.of_below (X := Er g v) hb4) (fun _ _ x => x)
          have hq4 : ∀ j u, [Value.int .u64 x, Value.int .u64 y][j]? = some u → W4.cell? ⟨w3.heap.size, j, none⟩ = some u := fun j u hu => by
            rw [cell_of hB4 j]
            simpa using hu
          have hs4 : w.heap.size ≤ W4.heap.size := Nat.le_trans hs3 hb4.size
          have hl9 : m ≤ 1000000 := by omega
          have HW4 : Hid (w3.alloc (.cells #[.int .u64 x, .int .u64 y] 93) = W4) := hW4.symm
          clear hN3 hC hS3 hC3 HS HC HN hb4 hB4 hW4 hnx
          go_wp2_with (at_builtin; rw [HW4.out]; refine wpList_appN rfl _ _ 22 93 rfl Tryd.underlying22 info_pt7 rfl (by decide) zero_pt7 rfl hN4 rfl rfl hq4 (by simp [Value.oneCell']) (by simp [NB8]) hl9 (by decide) hs4 ?_)
          intro v' w5 hN5 hg5 ho5
          have HN5 := Hid.mk' hN5
          have hC45 := Ch.of_grown (X := fun i => w.heap.size ≤ i ∧ u7.ownBlock = some i) hg5 (fun b hb => ⟨(hN4.blk hb).1, hb⟩)
          have HS5 := Hid.mk' (HS4.out.grow hC45 (fun q => (HO.out g q.1).1 rfl) (fun b hb q => (HO.out b q.1).2.1 hb) (fun b _ q => (HO.out b q.1).2.2))
          have HC5 : Hid (Ch (Er g v) w w5) := HC4.out.trans hC45 (fun i hi q => by omega)
          clear hN5 hg5 ho5 hN4 hq4 HS4 HC4 hC45
          go_wp2
          go_roundw
          case rel => exact ⟨m + 1, m + 1, k3, (cc : Int), (p : Int), ptcs ps ++ [.int .u64 x, .int .u64 y], by go_num, by omega, Nat.le_refl _, HS5, HC5, HN5, Or.inr ⟨p, cc, rfl, hcc, rfl, HB.out⟩⟩
          case measure => simp [intOf]; omega
        | ok q k1 =>
          rw [hp] at hP
          have hq6 := place_u6 hp
          have hfw := fwd_place l little kj q k1 (by omega) hp
          have hk16 : k1 = kj + 16 := by
            obtain ⟨y0, j0, q1, q2⟩ := bind_inv (r := patsS l kj little) hp
            obtain ⟨y1, j1, q3, q4⟩ := bind_inv q2
            injection q4 with q5 q6
            obtain ⟨y2, j2, q7, q8⟩ := bind_inv (r := word l kj 8 little) q1
            obtain ⟨y3, j3, q9, q10⟩ := bind_inv q8
            injection q10 with q11 q12
            have := (word_ok q7).1
            have := (word_ok q9).1
            omega
          have HM2 : Hid (Rs.pre (ps ++ [q]) (many (fun j => placeS l j little) (N - (m + 1)) k1) = many (fun j => placeS l j little) N k) := by show _ = _; rw [← HM.out, hr1, hr2, many_ok ps hp]
          have HU2 : Hid (∀ u ∈ ps ++ [q], U6 u.1 ∧ U6 u.2) := fun u hu => by
            rcases List.mem_append.1 hu with hu | hu
            · exact HU.out u hu
            · rw [List.mem_singleton.1 hu]; exact hq6
          obtain ⟨x, y⟩ := q
          have hrm2 : (N - (m + 1)) * 16 ≤ n - k1 ∧ k1 ≤ n := by omega
          clear hp hr1 hr2 HM HU hq6 hfw hk16
          go_wp2_with fail
          refine hP.mono ?_
          rintro e w3 ⟨rfl, hS3, hC3⟩
          clear hP c0 c1 c2 c3 c4 c5
          simp only [ptV]
          have hnx : ∀ i, w.heap.size ≤ i → ¬ Er g v i := fun i hi q => by
            have := HO.out i hi
            rcases q with q | q
            · exact this.1 q
            · exact this.2.1 q
          have hN3 : Nw w3 w.heap.size 93 2 u7 m (ptcs ps) := HN.out.keep (fun b hb => hC3.block b (HN.out.blk hb).2.1 (hnx b (HN.out.blk hb).1))
          have hC : Ch (Er g v) w w3 := HC.out.trans hC3 (fun _ _ x => x)
          have hs3 : w.heap.size ≤ w3.heap.size := hC.size
          obtain ⟨W4, hW4⟩ : ∃ W4, W4 = w3.alloc (.cells #[.int .u64 x, .int .u64 y] 93) := ⟨_, rfl⟩
          have hb4 : Below w3.heap.size w3 W4 := by rw [hW4]; exact alloc_below _
          have hB4 : W4.heap[w3.heap.size]? = some (.cells #[.int .u64 x, .int .u64 y] 93 (0, 0)) := by rw [hW4]; exact heap_alloc_new _ _
          have hN4 : Nw W4 w.heap.size 93 2 u7 m (ptcs ps) := hN3.keep (fun b hb => hb4.block b (hN3.blk hb).2.1)
          have HS4 := Hid.mk' (hS3.later hb4)
          have HC4 : Hid (Ch (Er g v) w W4) := hC.trans (Ch.of_below (X := Er g v) hb4) (fun _ _ x => x)
          have hq4 : ∀ j u, [Value.int .u64 x, Value.int .u64 y][j]? = some u → W4.cell? ⟨w3.heap.size, j, none⟩ = some u := fun j u hu => by
            rw [cell_of hB4 j]
            simpa using hu
          have hs4 : w.heap.size ≤ W4.heap.size := Nat.le_trans hs3 hb4.size
          have hl9 : m ≤ 1000000 := by omega
          have HW4 : Hid (w3.alloc (.cells #[.int .u64 x, .int .u64 y] 93) = W4) := hW4.symm
          clear hN3 hC hS3 hC3 HS HC HN hb4 hB4 hW4 hnx
          go_wp2_with (at_builtin; rw [HW4.out]; refine wpList_appN rfl _ _ 22 93 rfl Tryd.underlying22 info_pt7 rfl (by decide) zero_pt7 rfl hN4 rfl rfl hq4 (by simp [Value.oneCell']) (by simp [NB8]) hl9 (by decide) hs4 ?_)
          intro v' w5 hN5 hg5 ho5
          have HN5 := Hid.mk' hN5
          have hC45 := Ch.of_grown (X := fun i => w.heap.size ≤ i ∧ u7.ownBlock = some i) hg5 (fun b hb => ⟨(hN4.blk hb).1, hb⟩)
          have HS5 := Hid.mk' (HS4.out.grow hC45 (fun q => (HO.out g q.1).1 rfl) (fun b hb q => (HO.out b q.1).2.1 hb) (fun b _ q => (HO.out b q.1).2.2))
          have HC5 : Hid (Ch (Er g v) w w5) := HC4.out.trans hC45 (fun i hi q => by omega)
          clear hN5 hg5 ho5 hN4 hq4 HS4 HC4 hC45
          go_wp2
          go_roundw
          case rel => exact ⟨m + 1, m + 1, k1, 0, plj, ptcs ps ++ [.int .u64 x, .int .u64 y], by go_num, by omega, Nat.le_refl _, HS5, HC5, HN5, Or.inl ⟨rfl, rfl, hrm2.2, hrm2.1, ps ++ [(x, y)], by rw [List.length_append, HL.out]; rfl, rfl, by rw [ptcs_snoc], HU2.out, HM2.out⟩⟩
          case measure => simp [intOf]; omega
      · have hjn : m = N := by omega
        subst hjn
        have HR : Hid (many (fun j => placeS l j little) m k = .ok ps kj) := by
          show _ = _
          rw [← HM.out, Nat.sub_self]
          show Rs.ok (ps ++ []) kj = _
          rw [List.append_nil]
        subst hou
        go_wp2
        go_ret
        unfold Rpl
        rw [HR.out]
        have hN2 := HN.out.own
        rw [← HL.out] at hN2
        refine ⟨_, rfl, HS.out, HC.out, ?_⟩
        rw [← HL.out]
        exact (pts_of hN2 HU.out (by have := HL.out; omega)).mono (fun i hi => ⟨(HN.out.blk (by rw [← HL.out]; exact hi)).1, (HN.out.blk (by rw [← HL.out]; exact hi)).2.1⟩)
    · have HR : Hid (many (fun j => placeS l j little) N k = .bad p cc) := hM
      have t0 : ((cc : Int) == 0) = false := by simpa using hcc
      clear HX hM h
      subst hou
      have hfin : Rpl w0 w g a n c D pl v os (many (fun j => placeS l j little) N k) (.returned (.slice oa m oc)) wr := by
        unfold Rpl
        rw [HR.out]
        exact ⟨_, _, _, _, rfl, HS.out, hcc, HC.out⟩
      by_cases hlt : j < N
      · go_wp2
        go_ret
        exact hfin
      · go_wp2
        go_ret
        exact hfin
set_option maxHeartbeats 3200000 in
set_option maxRecDepth 100000 in
theorem rspot_any {w0 w : World} {g : Nat} {a : Option Addr} {n c : Nat} {D : Int} {k : Nat} {pl : Int} {v : Value} {os : List Bool} {l : List UInt8} (h : RkS w0 w g a n c D k 0 pl v os) (hr : Rb w0 a n c l) (hn : n ≤ 65536) (hk : k ≤ n) (little : Bool) :
    Calls Tryd.prog 72 #[.pointer (some ⟨g, 0, none⟩), .bool little] w (Rpl w0 w g a n c D pl v os (spotS l k little)) := by
  have hl := hr.len
  obtain ⟨c0, c1, c2, c3, c4, c5⟩ := h.cells
  cases hw1 : word l k 8 little with
  | bad p cc =>
    have hN := rnumber_bad h hr (by omega) hk (by omega) hw1
    obtain ⟨rfl, rfl, _⟩ := word_bad hw1
    have HR : Hid (spotS l p little = .bad p 160) := by show (patsS l p little).bind _ = _; unfold patsS; rw [hw1]; rfl
    clear h hw1
    go_enter Tryd.func72, Tryd.ntmps72
    go_wp2_with fail
    refine hN.mono ?_
    rintro e w1 ⟨rfl, hS, hC⟩
    clear hN c0 c1 c2 c3 c4 c5
    obtain ⟨c0, c1, c2, c3, c4, c5⟩ := hS.cells
    have hN2 := rnumber_err hS (by decide) 8 little
    go_wp2_with fail
    refine hN2.mono ?_
    rintro e w2 ⟨rfl, rfl⟩
    clear hN2
    go_wp2
    go_ret
    unfold Rpl
    rw [HR.out]
    exact ⟨_, _, _, _, rfl, hS, by decide, hC⟩
  | ok x k1 =>
    have hN := rnumber_ok h hr (by omega) hk (by omega) (by omega) hw1
    have hx9 := (word_ok hw1).2.2
    have hk1 := fwd_word l 8 little k x k1 (by omega) hw1
    rw [show (256 : Nat) ^ 8 = 18446744073709551616 by decide] at hx9
    clear h
    go_enter Tryd.func72, Tryd.ntmps72
    go_wp2_with fail
    refine hN.mono ?_
    rintro e w1 ⟨rfl, hS, hC⟩
    clear hN c0 c1 c2 c3 c4 c5
    obtain ⟨c0, c1, c2, c3, c4, c5⟩ := hS.cells
    cases hw2 : word l k1 8 little with
    | bad p cc =>
      have hN := rnumber_bad hS hr (by omega) (by omega) (by omega) hw2
      obtain ⟨rfl, rfl, _⟩ := word_bad hw2
      have HR : Hid (spotS l k little = .bad p 160) := by show (patsS l k little).bind _ = _; unfold patsS; rw [hw1, bind_ok, hw2]; rfl
      clear hS hw1 hw2
      go_wp2_with fail
      refine hN.mono ?_
      rintro e w2 ⟨rfl, hS2, hC2⟩
      clear hN c0 c1 c2 c3 c4 c5
      obtain ⟨c0, c1, c2, c3, c4, c5⟩ := hS2.cells
      go_wp2
      go_ret
      unfold Rpl
      rw [HR.out]
      exact ⟨_, _, _, _, rfl, hS2, by decide, hC.trans hC2 (fun _ _ x => x)⟩
    | ok y k2 =>
      have hN := rnumber_ok hS hr (by omega) (by omega) (by omega) (by omega) hw2
      have hy9 := (word_ok hw2).2.2
      rw [show (256 : Nat) ^ 8 = 18446744073709551616 by decide] at hy9
      have HK : Hid (spotS l k little = if nanB x = true ∧ nanB y = true then .ok [] k2 else (mustS k (x, y)).bind fun _ _ => .ok [pt (x, y)] k2) := by show (patsS l k little).bind _ = _; unfold patsS; rw [hw1, bind_ok, hw2]; rfl
      have hFx := fun w => rfinite_any hx9 w
      have hFy := fun w => rfinite_any hy9 w
      have hNx := fun w => risNaN_any hx9 w
      have hNy := fun w => risNaN_any hy9 w
      have HXY : Hid (x < 18446744073709551616 ∧ y < 18446744073709551616) := ⟨hx9, hy9⟩
      clear hS hw1 hw2
      go_wp2_with fail
      refine hN.mono ?_
      rintro e w2 ⟨rfl, hS2, hC2⟩
      clear hN c0 c1 c2 c3 c4 c5
      obtain ⟨c0, c1, c2, c3, c4, c5⟩ := hS2.cells
      have hC' := hC.trans hC2 (fun _ _ x => x)
      clear hC hC2
      by_cases hx : nanB x = true
      · rw [hx] at hNx
        go_wp2_with fail
        refine (hNx _).mono ?_
        rintro e w3 ⟨rfl, rfl⟩
        clear hNx
        by_cases hy : nanB y = true
        · rw [hy] at hNy
          go_wp2_with fail
          refine (hNy _).mono ?_
          rintro e w3 ⟨rfl, rfl⟩
          clear hNy
          go_wp2
          go_ret
          unfold Rpl
          rw [HK.out, if_pos ⟨hx, hy⟩]
          exact ⟨_, rfl, hS2, hC', ⟨by simp, none, 0, rfl, fun i q hq => by cases hq⟩⟩
        · have hyf : nanB y = false := by simpa using hy
          rw [hyf] at hNy
          have HN : Hid (¬ (nanB x = true ∧ nanB y = true)) := fun q => hy q.2
          go_wp2_with fail
          refine (hNy _).mono ?_
          rintro e w3 ⟨rfl, rfl⟩
          clear hNy
          by_cases fx : finB x = true
          · rw [fx] at hFx
            go_wp2_with fail
            refine (hFx _).mono ?_
            rintro e w4 ⟨rfl, rfl⟩
            clear hFx
            by_cases fy : finB y = true
            · rw [fy] at hFy
              have HR : Hid (spotS l k little = .ok [pt (x, y)] k2) := by show _ = _; rw [HK.out, if_neg HN.out]; unfold mustS; rw [if_neg (by simp [fx]), if_neg (by simp [fy])]; rfl
              go_wp2_with fail
              refine (hFy _).mono ?_
              rintro e w5 ⟨rfl, rfl⟩
              clear hFy
              go_wp2
              go_ret
              have hb7 : Below w5.heap.size w5 (w5.alloc (.cells #[.int .u64 (x : Int), .int .u64 (y : Int)] 93)) := alloc_below _
              have hB7 : (w5.alloc (.cells #[.int .u64 (x : Int), .int .u64 (y : Int)] 93)).heap[w5.heap.size]? = some (.cells #[.int .u64 (x : Int), .int .u64 (y : Int)] 93 (0, 0)) := heap_alloc_new _ _
              unfold Rpl
              rw [HR.out]
              refine ⟨_, rfl, hS2.later hb7, hC'.trans (Ch.of_below (X := Er g v) hb7) (fun _ _ x => x), ⟨by simp, _, 1, rfl, fun i q hq => ?_⟩⟩
              match i, hq with
              | 0, hq =>
                cases hq
                have := HXY.out
                have hsz := hC'.size
                exact ⟨_, 0, rfl, ⟨hsz, by simp⟩, ⟨by simp [pt], by simp only [pt]; omega⟩, ⟨by simp [pt], by simp only [pt]; omega⟩, cell_of hB7 0, cell_of hB7 1⟩
            · have fy' : finB y = false := by simpa using fy
              rw [fy'] at hFy
              have HR : Hid (spotS l k little = .bad (k + 8) 175) := by show _ = _; rw [HK.out, if_neg HN.out]; unfold mustS; rw [if_neg (by simp [fx]), if_pos fy']; rfl
              have hF5 := rfault_any hS2 ((k : Int) + 8) 175
              go_wp2_with fail
              refine (hFy _).mono ?_
              rintro e w5 ⟨rfl, rfl⟩
              clear hFy
              go_wp2_with fail
              refine hF5.mono ?_
              rintro e w6 ⟨rfl, hS6, hC6⟩
              clear hF5 c0 c1 c2 c3 c4 c5
              go_wp2
              go_ret
              unfold Rpl
              rw [HR.out]
              have hb7 : Below w6.heap.size w6 (w6.alloc (.cells #[.int .u64 (x : Int), .int .u64 (y : Int)] 93)) := alloc_below _
              exact ⟨_, _, _, _, rfl, hS6.later hb7, by decide, (hC'.trans hC6 (fun _ _ x => x)).trans (Ch.of_below (X := Er g v) hb7) (fun _ _ x => x)⟩
          · have fx' : finB x = false := by simpa using fx
            rw [fx'] at hFx
            have HR : Hid (spotS l k little = .bad k 175) := by show _ = _; rw [HK.out, if_neg HN.out]; unfold mustS; rw [if_pos fx']; rfl
            have hF5 := rfault_any hS2 (k : Int) 175
            go_wp2_with fail
            refine (hFx _).mono ?_
            rintro e w5 ⟨rfl, rfl⟩
            clear hFx hFy
            go_wp2_with fail
            refine hF5.mono ?_
            rintro e w6 ⟨rfl, hS6, hC6⟩
            clear hF5 c0 c1 c2 c3 c4 c5
            go_wp2
            go_ret
            unfold Rpl
            rw [HR.out]
            have hb7 : Below w6.heap.size w6 (w6.alloc (.cells #[.int .u64 (x : Int), .int .u64 (y : Int)] 93)) := alloc_below _
            exact ⟨_, _, _, _, rfl, hS6.later hb7, by decide, (hC'.trans hC6 (fun _ _ x => x)).trans (Ch.of_below (X := Er g v) hb7) (fun _ _ x => x)⟩
      · have hxf : nanB x = false := by simpa using hx
        rw [hxf] at hNx
        have HN : Hid (¬ (nanB x = true ∧ nanB y = true)) := fun q => hx q.1
        go_wp2_with fail
        refine (hNx _).mono ?_
        rintro e w3 ⟨rfl, rfl⟩
        clear hNx hNy
        by_cases fx : finB x = true
        · rw [fx] at hFx
          go_wp2_with fail
          refine (hFx _).mono ?_
          rintro e w4 ⟨rfl, rfl⟩
          clear hFx
          by_cases fy : finB y = true
          · rw [fy] at hFy
            have HR : Hid (spotS l k little = .ok [pt (x, y)] k2) := by show _ = _; rw [HK.out, if_neg HN.out]; unfold mustS; rw [if_neg (by simp [fx]), if_neg (by simp [fy])]; rfl
            go_wp2_with fail
            refine (hFy _).mono ?_
            rintro e w5 ⟨rfl, rfl⟩
            clear hFy
            go_wp2
            go_ret
            have hb7 : Below w5.heap.size w5 (w5.alloc (.cells #[.int .u64 (x : Int), .int .u64 (y : Int)] 93)) := alloc_below _
            have hB7 : (w5.alloc (.cells #[.int .u64 (x : Int), .int .u64 (y : Int)] 93)).heap[w5.heap.size]? = some (.cells #[.int .u64 (x : Int), .int .u64 (y : Int)] 93 (0, 0)) := heap_alloc_new _ _
            unfold Rpl
            rw [HR.out]
            refine ⟨_, rfl, hS2.later hb7, hC'.trans (Ch.of_below (X := Er g v) hb7) (fun _ _ x => x), ⟨by simp, _, 1, rfl, fun i q hq => ?_⟩⟩
            match i, hq with
            | 0, hq =>
              cases hq
              have := HXY.out
              have hsz := hC'.size
              exact ⟨_, 0, rfl, ⟨hsz, by simp⟩, ⟨by simp [pt], by simp only [pt]; omega⟩, ⟨by simp [pt], by simp only [pt]; omega⟩, cell_of hB7 0, cell_of hB7 1⟩
          · have fy' : finB y = false := by simpa using fy
            rw [fy'] at hFy
            have HR : Hid (spotS l k little = .bad (k + 8) 175) := by show _ = _; rw [HK.out, if_neg HN.out]; unfold mustS; rw [if_neg (by simp [fx]), if_pos fy']; rfl
            have hF5 := rfault_any hS2 ((k : Int) + 8) 175
            go_wp2_with fail
            refine (hFy _).mono ?_
            rintro e w5 ⟨rfl, rfl⟩
            clear hFy
            go_wp2_with fail
            refine hF5.mono ?_
            rintro e w6 ⟨rfl, hS6, hC6⟩
            clear hF5 c0 c1 c2 c3 c4 c5
            go_wp2
            go_ret
            unfold Rpl
            rw [HR.out]
            have hb7 : Below w6.heap.size w6 (w6.alloc (.cells #[.int .u64 (x : Int), .int .u64 (y : Int)] 93)) := alloc_below _
            exact ⟨_, _, _, _, rfl, hS6.later hb7, by decide, (hC'.trans hC6 (fun _ _ x => x)).trans (Ch.of_below (X := Er g v) hb7) (fun _ _ x => x)⟩
        · have fx' : finB x = false := by simpa using fx
          rw [fx'] at hFx
          have HR : Hid (spotS l k little = .bad k 175) := by show _ = _; rw [HK.out, if_neg HN.out]; unfold mustS; rw [if_pos fx']; rfl
          have hF5 := rfault_any hS2 (k : Int) 175
          go_wp2_with fail
          refine (hFx _).mono ?_
          rintro e w5 ⟨rfl, rfl⟩
          clear hFx hFy
          go_wp2_with fail
          refine hF5.mono ?_
          rintro e w6 ⟨rfl, hS6, hC6⟩
          clear hF5 c0 c1 c2 c3 c4 c5
          go_wp2
          go_ret
          unfold Rpl
          rw [HR.out]
          have hb7 : Below w6.heap.size w6 (w6.alloc (.cells #[.int .u64 (x : Int), .int .u64 (y : Int)] 93)) := alloc_below _
          exact ⟨_, _, _, _, rfl, hS6.later hb7, by decide, (hC'.trans hC6 (fun _ _ x => x)).trans (Ch.of_below (X := Er g v) hb7) (fun _ _ x => x)⟩
end Go.Proofs.YtinagjljebbceaaDoor
