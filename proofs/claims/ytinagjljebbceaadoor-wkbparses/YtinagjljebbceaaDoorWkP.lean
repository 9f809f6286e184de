/- Layer 17: WkbParses. -/
import Derived.Test.YtinagjljebbceaaDoorWkK
import Derived.Test.YtinagjljebbceaaDoorWkM
import Derived.Test.YtinagjljebbceaaDoorWkRi
namespace Go.Proofs.YtinagjljebbceaaDoor
open Go.ChangeShapes Go.WideShapes Go.ChangeAt Go.RowKit
open Ep Oc Tr Wk
set_option linter.unusedVariables false
namespace Wk
theorem head_kind {l : List UInt8} {home k k' : Nat} {r : Bool × Nat} (h : headS l home k = .ok r k') : 1 ≤ r.2 ∧ r.2 ≤ 7 := by
  obtain ⟨u, j, h1, h2⟩ := bind_inv (r := ordS l k) h
  obtain ⟨u2, j2, h3, h4⟩ := bind_inv h2
  injection h4 with h5 h6
  obtain ⟨y, jy, q3, q4⟩ := bind_inv (r := word l j 4 u) h3
  split at q4
  · cases q4
  · split at q4
    · cases q4
    · injection q4 with q7 q8
      subst h5
      subst q7
      simp only
      omega
theorem geom_kind {l : List UInt8} : ∀ {n home k k' : Nat} {r : Tree × List Bool}, geomS l n home k = .ok r k' → r.1.1.kind ≠ 0
  | 0, home, k, k', r, h => by
    obtain ⟨u, j, h1, h2⟩ := bind_inv (r := headS l home k) h
    cases h2
  | n + 1, home, k, k', r, h => by
    obtain ⟨u, j, h1, h2⟩ := bind_inv (r := headS l home k) h
    have hk := head_kind h1
    obtain ⟨u2, j2, h3, h4⟩ := bind_inv h2
    injection h4 with h5 h6
    subst h5
    simp only [bodyS] at h3
    split at h3
    · obtain ⟨x, jx, q1, q2⟩ := bind_inv h3
      injection q2 with q3 q4
      subst q3
      simp
    · split at h3
      · obtain ⟨x, jx, q1, q2⟩ := bind_inv h3
        injection q2 with q3 q4
        subst q3
        simp
      · split at h3
        · obtain ⟨x, jx, q1, q2⟩ := bind_inv h3
          obtain ⟨x2, jx2, q5, q6⟩ := bind_inv q2
          injection q6 with q3 q4
          subst q3
          simp
        · obtain ⟨x, jx, q1, q2⟩ := bind_inv h3
          obtain ⟨x2, jx2, q5, q6⟩ := bind_inv q2
          injection q6 with q3 q4
          subst q3
          simp only
          omega
theorem parse_kind {l : List UInt8} {d lim k : Nat} {r : Tree × List Bool} (h : parseS l d lim = .ok r k) : r.1.1.kind ≠ 0 := by
  unfold parseS at h
  split at h
  · cases h
  · obtain ⟨u, j, h1, h2⟩ := bind_inv h
    split at h2
    · cases h2
    · injection h2 with h3 h4
      subst h3
      exact geom_kind h1
theorem hidW {p : Prop} (h : p) : Hid p := h
end Wk
set_option maxHeartbeats 6400000 in
set_option maxRecDepth 100000 in
theorem parses_walk0 (hRG : ∀ {w0 w1 : World} {g : Nat} {a : Option Addr} {n c : Nat} {D : Int} {l : List UInt8}, Rb w0 a n c l → n ≤ 65536 → D ≤ 256 → RkS w0 w1 g a n c D 0 0 0 (.slice none 0 0) [] → Calls Tryd.prog 49 #[.pointer (some ⟨g, 0, none⟩), .int .i64 0, .int .i64 1] w1 (Rge w0 w1 g a n c D 0 (.slice none 0 0) [] (geomS l D.toNat 0 0)))
    {w : World} {a : Option Addr} {n c : Nat} {l : List UInt8} {md mb : Int} (h : Rb w a n c l) (hE : ErrVar w) :
    Calls Tryd.prog 4 #[.slice a n c, .int .i64 md, .int .i64 mb] w fun e w' => e = .returned (.bool true) ∧ Below w.heap.size w w' := by
  obtain ⟨lim, hlim⟩ : ∃ lim : Nat, max 0 (min 65536 mb) = (lim : Int) := ⟨(max 0 (min 65536 mb)).toNat, by omega⟩
  obtain ⟨D, hD⟩ : ∃ D, D = min 256 md := ⟨_, rfl⟩
  have hCut := cut17_any h
  clear h
  go_enter Tryd.func4, Tryd.ntmps4
  go_wp2_with fail
  refine hCut.mono ?_
  rintro e w1 ⟨v, rfl, hO, hb1⟩
  clear hCut
  obtain ⟨a1, c1, rfl, hr1⟩ := hO.row
  have hl15 : (l.take 1500).length ≤ 1500 := by rw [List.length_take]; omega
  generalize l.take 1500 = q at *
  obtain ⟨N, hN⟩ : ∃ N, N = q.length := ⟨_, rfl⟩
  rw [← hN] at hr1 hl15 ⊢
  have hE1 := hE.later hb1
  have hPr : ∀ w', Below w1.heap.size w1 w' → Calls Tryd.prog 14 #[.slice a1 N c1, .int .i64 md, .int .i64 mb] w' (Rpa w' (parseS q D.toNat lim)) := fun w' hb => rparse17_any (D := D) (fun w2 hb2 => rwhole_any (hr1.later (hb.trans (hb2.mono hb.size))) (by omega) hD hlim (fun hq1 hq2 => hRG hq1 (by omega) (by omega) hq2))
  have hPk : ∀ w', Below w1.heap.size w1 w' → Calls Tryd.prog 15 #[.slice a1 N c1, .int .i64 md, .int .i64 mb] w' (Ppa w' (parseS q D.toNat lim)) := fun w' hb => parse17_any (hr1.later hb) (by omega) (hE1.later hb) hD hlim
  have hOr : ∀ w', Below w1.heap.size w1 w' → Calls Tryd.prog 17 #[.slice a1 N c1] w' (Ror w' (parseS q 256 65536)) := fun w' hb => rorders17_any (rwhole_any (D := 256) (hr1.later hb) (by omega) (by decide) (by decide) (fun hq1 hq2 => hRG hq1 (by omega) (by omega) hq2))
  have hOk : ∀ w', Below w1.heap.size w1 w' → Calls Tryd.prog 18 #[.slice a1 N c1] w' (Por w' (parseS q 256 65536)) := fun w' hb => orders17_any (hr1.later hb) (by omega) (hE1.later hb)
  have HEr : Hid (∀ w', Below w1.heap.size w1 w' → ErrVar w') := fun w' hb => hE1.later hb
  have HB1 := hidW hb1
  have hP1 := hPr w1 (Below.refl _ _)
  have HOr := hidW hOr
  have HOk := hidW hOk
  have HPk := hidW hPk
  clear hD hlim hr1 hE hE1 hO hN hb1 hOr hOk hPk hPr hRG
  cases hp : parseS q D.toNat lim with
  | bad pp cc =>
    rw [hp] at hP1
    go_wp2_with fail
    refine hP1.mono ?_
    rintro e w2 ⟨hb2, rfl, hcc⟩
    clear hP1
    go_upto_region 3 with (fail)
    obtain ⟨w3, hw3⟩ : ∃ w3, w3 = w2.alloc (.cells #[.int .i64 0, .slice none 0 0, .slice none 0 0, .slice none 0 0] 26) := ⟨_, rfl⟩
    have hb3 : Below w2.heap.size w2 w3 := by rw [hw3]; exact alloc_below _
    have g3 : w3.heap[w2.heap.size]? = some (.cells #[.int .i64 0, .slice none 0 0, .slice none 0 0, .slice none 0 0] 26 (0, 0)) := by rw [hw3]; exact heap_alloc_new _ _
    rw [← hw3]
    obtain ⟨B3, hB3⟩ : ∃ B, B = w2.heap.size := ⟨_, rfl⟩
    rw [← hB3] at g3 ⊢
    have HB3 : Hid (B3 = w2.heap.size) := hB3
    clear hw3 hB3
    have hB3 := hb2.trans (hb3.mono hb2.size)
    have hK3 := HPk.out w3 hB3
    rw [hp] at hK3
    clear HPk hb2 hb3
    go_wp2_with fail
    refine hK3.mono ?_
    rintro e w4 ⟨gf, rfl, hF4, hb4⟩
    clear hK3
    simp only [zg]
    go_upto_region 4 with (fail)
    obtain ⟨w5, hw5⟩ : ∃ w5, w5 = w4.alloc (.cells #[.int .i64 0, .slice none 0 0, .slice none 0 0, .slice none 0 0] 26) := ⟨_, rfl⟩
    have hb5 : Below w4.heap.size w4 w5 := by rw [hw5]; exact alloc_below _
    have g5 : w5.heap[w4.heap.size]? = some (.cells #[.int .i64 0, .slice none 0 0, .slice none 0 0, .slice none 0 0] 26 (0, 0)) := by rw [hw5]; exact heap_alloc_new _ _
    rw [← hw5]
    obtain ⟨B5, hB5⟩ : ∃ B, B = w4.heap.size := ⟨_, rfl⟩
    rw [← hB5] at g5 ⊢
    have HB5 : Hid (B5 = w4.heap.size) := hB5
    clear hw5 hB5
    have hB5 := (hB3.trans (hb4.mono hB3.size)).trans (hb5.mono (hB3.trans (hb4.mono hB3.size)).size)
    have g35 := (hb5.block _ (by have := lt_of_block g3; have := hb4.size; omega)).trans ((hb4.block _ (lt_of_block g3)).trans g3)
    have hTd := told_yes (hF4.later hb5) (HEr.out w5 hB5) hcc
    have hcl : ∀ w', Below w5.heap.size w5 w' → (w'.cell? ⟨B3, 0, none⟩ = some (.int .i64 0) ∧ w'.cell? ⟨B3, 1, none⟩ = some (.slice none 0 0) ∧ w'.cell? ⟨B3, 2, none⟩ = some (.slice none 0 0) ∧ w'.cell? ⟨B3, 3, none⟩ = some (.slice none 0 0)) ∧ (w'.cell? ⟨B5, 0, none⟩ = some (.int .i64 0) ∧ w'.cell? ⟨B5, 1, none⟩ = some (.slice none 0 0) ∧ w'.cell? ⟨B5, 2, none⟩ = some (.slice none 0 0) ∧ w'.cell? ⟨B5, 3, none⟩ = some (.slice none 0 0)) := fun w' hb => by
      have q1 := (hb.block _ (lt_of_block g35)).trans g35
      have q2 := (hb.block _ (lt_of_block g5)).trans g5
      exact ⟨⟨cell_of q1 0, cell_of q1 1, cell_of q1 2, cell_of q1 3⟩, cell_of q2 0, cell_of q2 1, cell_of q2 2, cell_of q2 3⟩
    clear hF4 hb4 hb5 g3
    go_wp2_with fail
    refine hTd.mono ?_
    rintro e w6 ⟨rfl, hb6⟩
    clear hTd
    obtain ⟨⟨c00, c01, c02, c03⟩, c10, c11, c12, c13⟩ := hcl w6 hb6
    have hB6 := hB5.trans (hb6.mono hB5.size)
    have hAl := alike_zero w6
    go_wp2_with fail
    refine hAl.mono ?_
    rintro e w7 ⟨rfl, hb7⟩
    have hB7 := hB6.trans (hb7.mono hB6.size)
    clear hAl c00 c01 c02 c03 c10 c11 c12 c13 hcl g35 g5 hb6 hb7 hB6 hB5 hB3
    have hO7 := HOr.out w7 hB7
    cases ho : parseS q 256 65536 with
    | bad pp2 cc2 =>
      rw [ho] at hO7
      go_wp2_with fail
      refine hO7.mono ?_
      rintro e w8 ⟨hb8, rfl, hcc2⟩
      clear hO7
      have hB8 := hB7.trans (hb8.mono hB7.size)
      have hK8 := HOk.out w8 hB8
      rw [ho] at hK8
      go_wp2_with fail
      refine hK8.mono ?_
      rintro e w9 ⟨gf9, rfl, hF9, hb9⟩
      clear hK8
      have hB9 := hB8.trans (hb9.mono hB8.size)
      have hTd := told_yes hF9 (HEr.out w9 hB9) hcc2
      go_wp2_with fail
      refine hTd.mono ?_
      rintro e wX ⟨rfl, hbX⟩
      clear hTd
      have hBX := hB9.trans (hbX.mono hB9.size)
      have hSm := sames_same (w := wX) (b1 := 0) (b2 := 0) (os := []) (Or.inl ⟨rfl, rfl⟩) (Or.inl ⟨rfl, rfl⟩)
      go_wp2_with fail
      refine hSm.mono ?_
      rintro e wY ⟨rfl, dY, rfl⟩
      have hBY := HB1.out.trans ((below_drewN hBX dY).mono HB1.out.size)
      clear hSm
      go_wp2
      go_ret
      exact ⟨rfl, hBY⟩
    | ok tb2 kk2 =>
      rw [ho] at hO7
      go_wp2_with fail
      refine hO7.mono ?_
      rintro e w8 ⟨hb8, ov, b8, rfl, hBo8⟩
      clear hO7
      have hB8 := hB7.trans (hb8.mono hB7.size)
      have hK8 := HOk.out w8 hB8
      rw [ho] at hK8
      go_wp2_with fail
      refine hK8.mono ?_
      rintro e w9 ⟨ov9, rfl, hb9, hBo9⟩
      clear hK8
      have hB9 := hB8.trans (hb9.mono hB8.size)
      have hBo8' := hBo8.keep (w' := w9) (fun b hb => hb9.block b (hBo8.blk hb).2.1)
      have hTd := told_nil (-1) w9
      go_wp2_with fail
      refine hTd.mono ?_
      rintro e wX ⟨rfl, rfl⟩
      clear hTd
      have hSm := sames_same hBo9 hBo8'
      clear hBo9 hBo8 hBo8'
      go_wp2_with fail
      refine hSm.mono ?_
      rintro e wY ⟨rfl, dY, rfl⟩
      have hBY := HB1.out.trans ((below_drewN hB9 dY).mono HB1.out.size)
      clear hSm
      go_wp2
      go_ret
      exact ⟨rfl, hBY⟩
  | ok tb kk =>
    rw [hp] at hP1
    have HKd : Hid (tb.1.1.kind ≠ 0) := parse_kind hp
    go_wp2_with fail
    refine hP1.mono ?_
    rintro e w2 ⟨hb2, u, rfl, hT2⟩
    clear hP1
    have HT2 := hidW hT2
    obtain ⟨K, x1, n1, y1, x2, n2, y2, x3, n3, y3, rfl⟩ := agg_of hT2
    clear hT2
    go_upto_region 3 with (fail)
    obtain ⟨w3, hw3⟩ : ∃ w3, w3 = w2.alloc (.cells #[.int .i64 K, .slice x1 n1 y1, .slice x2 n2 y2, .slice x3 n3 y3] 26) := ⟨_, rfl⟩
    have hb3 : Below w2.heap.size w2 w3 := by rw [hw3]; exact alloc_below _
    have g3 : w3.heap[w2.heap.size]? = some (.cells #[.int .i64 K, .slice x1 n1 y1, .slice x2 n2 y2, .slice x3 n3 y3] 26 (0, 0)) := by rw [hw3]; exact heap_alloc_new _ _
    rw [← hw3]
    obtain ⟨B3, hB3⟩ : ∃ B, B = w2.heap.size := ⟨_, rfl⟩
    rw [← hB3] at g3 ⊢
    have HB3 : Hid (B3 = w2.heap.size) := hB3
    clear hw3 hB3
    have hB3 := hb2.trans (hb3.mono hb2.size)
    have HT3 : Hid (TV (fun i => w1.heap.size ≤ i ∧ i < w2.heap.size) w3 _ tb.1) := HT2.out.below (Kp.of_below hb3 (fun i hi => hi.2))
    have HS3 := hidW hb3.size
    have hK3 := HPk.out w3 hB3
    rw [hp] at hK3
    clear HPk hb2 hb3 HT2
    go_wp2_with fail
    refine hK3.mono ?_
    rintro e w4 ⟨u4, rfl, hb4, hT4⟩
    clear hK3
    have HT4 := hidW hT4
    obtain ⟨K4, x4, n4, y4, x5, n5, y5, x6, n6, y6, rfl⟩ := agg_of hT4
    clear hT4
    go_upto_region 4 with (fail)
    obtain ⟨w5, hw5⟩ : ∃ w5, w5 = w4.alloc (.cells #[.int .i64 K4, .slice x4 n4 y4, .slice x5 n5 y5, .slice x6 n6 y6] 26) := ⟨_, rfl⟩
    have hb5 : Below w4.heap.size w4 w5 := by rw [hw5]; exact alloc_below _
    have g5 : w5.heap[w4.heap.size]? = some (.cells #[.int .i64 K4, .slice x4 n4 y4, .slice x5 n5 y5, .slice x6 n6 y6] 26 (0, 0)) := by rw [hw5]; exact heap_alloc_new _ _
    rw [← hw5]
    obtain ⟨B5, hB5⟩ : ∃ B, B = w4.heap.size := ⟨_, rfl⟩
    rw [← hB5] at g5 ⊢
    have HB5 : Hid (B5 = w4.heap.size) := hB5
    clear hw5 hB5
    have hB5 := (hB3.trans (hb4.mono hB3.size)).trans (hb5.mono (hB3.trans (hb4.mono hB3.size)).size)
    have g35 := (hb5.block _ (by have := lt_of_block g3; have := hb4.size; omega)).trans ((hb4.block _ (lt_of_block g3)).trans g3)
    have s3 := HS3.out
    have s4 := hb4.size
    have s5 := hb5.size
    have HA5 := (HT3.out.below (Kp.of_below hb4 (fun i hi => by have := hi.2; omega))).below (Kp.of_below hb5 (fun i hi => by have := hi.2; omega))
    have HC5 := HT4.out.below (Kp.of_below hb5 (fun i hi => hi.2))
    have hcl : ∀ w', Below w5.heap.size w5 w' → (w'.cell? ⟨B3, 0, none⟩ = some (.int .i64 K) ∧ w'.cell? ⟨B3, 1, none⟩ = some (.slice x1 n1 y1) ∧ w'.cell? ⟨B3, 2, none⟩ = some (.slice x2 n2 y2) ∧ w'.cell? ⟨B3, 3, none⟩ = some (.slice x3 n3 y3)) ∧ (w'.cell? ⟨B5, 0, none⟩ = some (.int .i64 K4) ∧ w'.cell? ⟨B5, 1, none⟩ = some (.slice x4 n4 y4) ∧ w'.cell? ⟨B5, 2, none⟩ = some (.slice x5 n5 y5) ∧ w'.cell? ⟨B5, 3, none⟩ = some (.slice x6 n6 y6)) := fun w' hb => by
      have q1 := (hb.block _ (lt_of_block g35)).trans g35
      have q2 := (hb.block _ (lt_of_block g5)).trans g5
      exact ⟨⟨cell_of q1 0, cell_of q1 1, cell_of q1 2, cell_of q1 3⟩, cell_of q2 0, cell_of q2 1, cell_of q2 2, cell_of q2 3⟩
    have hTd := told_nil (-1) w5
    have hAl := alike_same (S1 := fun i => w3.heap.size ≤ i ∧ i < w4.heap.size) (S2 := fun i => w1.heap.size ≤ i ∧ i < w2.heap.size) (fun k hk => by have := hk.2; omega) (fun k hk => by have := hk.2; omega) HC5 HA5 HKd.out
    clear HA5 HC5 HT3 HT4 hb4 hb5 g3
    go_wp2_with fail
    refine hTd.mono ?_
    rintro e w6 ⟨rfl, rfl⟩
    clear hTd
    obtain ⟨⟨c00, c01, c02, c03⟩, c10, c11, c12, c13⟩ := hcl w6 (Below.refl _ _)
    go_wp2_with fail
    refine hAl.mono ?_
    rintro e w7 ⟨rfl, hb7⟩
    have hB7 := hB5.trans (hb7.mono hB5.size)
    clear hAl c00 c01 c02 c03 c10 c11 c12 c13 hcl g35 g5 hb7 hB5 hB3
    have hO7 := HOr.out w7 hB7
    cases ho : parseS q 256 65536 with
    | bad pp2 cc2 =>
      rw [ho] at hO7
      go_wp2_with fail
      refine hO7.mono ?_
      rintro e w8 ⟨hb8, rfl, hcc2⟩
      clear hO7
      have hB8 := hB7.trans (hb8.mono hB7.size)
      have hK8 := HOk.out w8 hB8
      rw [ho] at hK8
      go_wp2_with fail
      refine hK8.mono ?_
      rintro e w9 ⟨gf9, rfl, hF9, hb9⟩
      clear hK8
      have hB9 := hB8.trans (hb9.mono hB8.size)
      have hTd := told_yes hF9 (HEr.out w9 hB9) hcc2
      go_wp2_with fail
      refine hTd.mono ?_
      rintro e wX ⟨rfl, hbX⟩
      clear hTd
      have hBX := hB9.trans (hbX.mono hB9.size)
      have hSm := sames_same (w := wX) (b1 := 0) (b2 := 0) (os := []) (Or.inl ⟨rfl, rfl⟩) (Or.inl ⟨rfl, rfl⟩)
      go_wp2_with fail
      refine hSm.mono ?_
      rintro e wY ⟨rfl, dY, rfl⟩
      have hBY := HB1.out.trans ((below_drewN hBX dY).mono HB1.out.size)
      clear hSm
      go_wp2
      go_ret
      exact ⟨rfl, hBY⟩
    | ok tb2 kk2 =>
      rw [ho] at hO7
      go_wp2_with fail
      refine hO7.mono ?_
      rintro e w8 ⟨hb8, ov, b8, rfl, hBo8⟩
      clear hO7
      have hB8 := hB7.trans (hb8.mono hB7.size)
      have hK8 := HOk.out w8 hB8
      rw [ho] at hK8
      go_wp2_with fail
      refine hK8.mono ?_
      rintro e w9 ⟨ov9, rfl, hb9, hBo9⟩
      clear hK8
      have hB9 := hB8.trans (hb9.mono hB8.size)
      have hBo8' := hBo8.keep (w' := w9) (fun b hb => hb9.block b (hBo8.blk hb).2.1)
      have hTd := told_nil (-1) w9
      go_wp2_with fail
      refine hTd.mono ?_
      rintro e wX ⟨rfl, rfl⟩
      clear hTd
      have hSm := sames_same hBo9 hBo8'
      clear hBo9 hBo8 hBo8'
      go_wp2_with fail
      refine hSm.mono ?_
      rintro e wY ⟨rfl, dY, rfl⟩
      have hBY := HB1.out.trans ((below_drewN hB9 dY).mono HB1.out.size)
      clear hSm
      go_wp2
      go_ret
      exact ⟨rfl, hBY⟩
end Go.Proofs.YtinagjljebbceaaDoor
