/- Layer 17: the document's Equal of two that are one tree; alike. -/
import Derived.Test.YtinagjljebbceaaDoorWkL
namespace Go.Proofs.YtinagjljebbceaaDoor
open Go.ChangeShapes Go.WideShapes Go.ChangeAt Go.RowKit
open Ep Oc Tr Wk
set_option linter.unusedVariables false
namespace Wk
theorem hidS {p : Prop} (h : p) : Hid p := h
theorem below_dr {B : Nat} {w w' : World} (h : Below B w w') : Below B w w'.drew := ⟨h.os, h.tape, h.output, h.size, h.block⟩
def nthT : Fo → Nat → Tree
  | .nil, _ => (⟨0, [], []⟩, .nil)
  | .cons g c _, 0 => (g, c)
  | .cons _ _ r, i + 1 => nthT r i
theorem nth_cnt : ∀ (f : Fo) (i : Nat), i < f.len → (nthT f i).2.cnt < f.cnt
  | .nil, i, h => by simp [Fo.len] at h
  | .cons g c r, 0, h => by simp [nthT, Fo.cnt]; omega
  | .cons g c r, i + 1, h => by
    have := nth_cnt r i (by simp [Fo.len] at h; omega)
    simp only [nthT, Fo.cnt]
    omega
/-- the i-th part: its four cells, as a value -/
theorem nth_tv {S : Nat → Prop} {w : World} : ∀ (f : Fo) (a : Option Addr) (i : Nat), FoAt S w f a → i < f.len → ∃ b o v1 v2 pa pc, a = some ⟨b, o, none⟩ ∧ w.cell? ⟨b, o + 4 * i, none⟩ = some (.int .i64 (nthT f i).1.kind) ∧ w.cell? ⟨b, o + 4 * i + 1, none⟩ = some v1 ∧ w.cell? ⟨b, o + 4 * i + 2, none⟩ = some v2 ∧ w.cell? ⟨b, o + 4 * i + 3, none⟩ = some (.slice pa (nthT f i).2.len pc) ∧ TV S w (.agg #[.int .i64 (nthT f i).1.kind, v1, v2, .slice pa (nthT f i).2.len pc]) (nthT f i)
  | .nil, a, i, _, h => by simp [Fo.len] at h
  | .cons g c r, a, 0, ⟨b, o, pa, pc, e, hl, ⟨hb, hk, c0, ⟨v1, c1, p1⟩, ⟨v2, c2, p2⟩, c3⟩, h1, h2⟩, _ => ⟨b, o, v1, v2, pa, pc, e, c0, c1, c2, c3, tv_of (t := (g, c)) hk p1 p2 hl h1⟩
  | .cons g c r, a, i + 1, ⟨b, o, pa, pc, e, hl, hg, h1, h2⟩, h => by
    obtain ⟨b', o', v1, v2, pa', pc', e', c0, c1, c2, c3, ht⟩ := nth_tv r (some ⟨b, o + 4, none⟩) i h2 (by simp [Fo.len] at h; omega)
    simp only [Option.some.injEq, Addr.mk.injEq, and_true] at e'
    obtain ⟨rfl, rfl⟩ := e'
    refine ⟨b, o, v1, v2, pa', pc', e, ?_, ?_, ?_, ?_, ht⟩
    · rw [show o + 4 * (i + 1) = o + 4 + 4 * i by omega]; exact c0
    · rw [show o + 4 * (i + 1) + 1 = o + 4 + 4 * i + 1 by omega]; exact c1
    · rw [show o + 4 * (i + 1) + 2 = o + 4 + 4 * i + 2 by omega]; exact c2
    · rw [show o + 4 * (i + 1) + 3 = o + 4 + 4 * i + 3 by omega]; exact c3
theorem gm_slc {S : Nat → Prop} {w : World} {v : Value} {t : Tree} (h : TV S w v t) : ∃ a1 c1 a2 c2 a3 c3, v = .agg #[.int .i64 t.1.kind, .slice a1 t.1.line.length c1, .slice a2 t.1.rings.length c2, .slice a3 t.2.len c3] ∧ Pts S w (.slice a1 t.1.line.length c1) t.1.line ∧ Rgs S w (.slice a2 t.1.rings.length c2) t.1.rings ∧ t.2.len ≤ c3 ∧ FoAt S w t.2 a3 := by
  obtain ⟨v1, v2, pa, pc, rfl, hk9, hP1, hR1, hl9, hf9⟩ := h.parts
  obtain ⟨a1, d1, rfl⟩ := hP1.slc
  obtain ⟨a2, d2, rfl⟩ := hR1.slc
  exact ⟨a1, d1, a2, d2, pa, pc, rfl, hP1, hR1, hl9.2, hf9⟩
end Wk
set_option maxHeartbeats 6400000 in
set_option maxRecDepth 100000 in
theorem equal_same : ∀ (m : Nat) (t : Tree), t.2.cnt < m → ∀ {w : World} {S1 S2 : Nat → Prop} {u1 u2 : Value}, (∀ k, S1 k → k < w.heap.size) → (∀ k, S2 k → k < w.heap.size) → TV S1 w u1 t → TV S2 w u2 t →
    Calls Tryd.prog 31 #[u1, u2] w fun e w' => e = .returned (.bool true) ∧ Below w.heap.size w w' := by
  intro m
  induction m with
  | zero => intro t hcnt; omega
  | succ m ih =>
  intro t hcnt w S1 S2 u1 u2 hS1 hS2 h1 h2
  obtain ⟨a1, c1, a2, c2, a3, c3, rfl, hP1, hR1, hl1, hF1⟩ := gm_slc h1
  obtain ⟨d1, e1, d2, e2, d3, e3, rfl, hP2, hR2, hl2, hF2⟩ := gm_slc h2
  have hbd := h1.parts
  obtain ⟨_, _, _, _, _, _, hPb, hRb, hFb, _⟩ := hbd
  have hLb : t.1.line.length ≤ 1048576 := hP1.1
  have hNb : t.1.rings.length ≤ 1048576 := hR1.1
  have hQb : t.2.len ≤ 1048576 := hFb.1
  obtain ⟨K, hK⟩ : ∃ K, K = t.1.kind := ⟨_, rfl⟩
  obtain ⟨L, hL⟩ : ∃ L, L = t.1.line.length := ⟨_, rfl⟩
  obtain ⟨NR, hNR⟩ : ∃ L, L = t.1.rings.length := ⟨_, rfl⟩
  obtain ⟨NP, hNP⟩ : ∃ L, L = t.2.len := ⟨_, rfl⟩
  rw [← hK, ← hL, ← hNR, ← hNP]
  rw [← hL] at hP1 hP2 hLb
  rw [← hNR] at hR1 hR2 hNb
  rw [← hNP] at hl1 hl2 hQb
  have HNR : Hid (NR = t.1.rings.length) := hNR
  have HNP : Hid (NP = t.2.len) := hNP
  have HCnt : Hid (t.2.cnt < m + 1) := hcnt
  clear hK hL hNR hNP h1 h2 hcnt hPb hRb hFb
  obtain ⟨W, hW0⟩ : ∃ W, W = (w.alloc (.cells #[.int .i64 K, .slice a1 L c1, .slice a2 NR c2, .slice a3 NP c3] 26)).alloc (.cells #[.int .i64 K, .slice d1 L e1, .slice d2 NR e2, .slice d3 NP e3] 26) := ⟨_, rfl⟩
  have HW : Hid ((w.alloc (.cells #[.int .i64 K, .slice a1 L c1, .slice a2 NR c2, .slice a3 NP c3] 26)).alloc (.cells #[.int .i64 K, .slice d1 L e1, .slice d2 NR e2, .slice d3 NP e3] 26) = W) := hW0.symm
  have hbW : Below w.heap.size w W := by rw [hW0]; exact (alloc_below _).alloc (by simp) _
  obtain ⟨B0, hB0⟩ : ∃ B, B = w.heap.size := ⟨_, rfl⟩
  have HB0 : Hid (B0 = w.heap.size) := hB0
  have g1 : W.heap[B0]? = some (.cells #[.int .i64 K, .slice a1 L c1, .slice a2 NR c2, .slice a3 NP c3] 26 (0, 0)) := by
    rw [hW0, hB0]
    exact ((alloc_below _).block _ (by simp)).trans (heap_alloc_new _ _)
  have g2 : W.heap[B0 + 1]? = some (.cells #[.int .i64 K, .slice d1 L e1, .slice d2 NR e2, .slice d3 NP e3] 26 (0, 0)) := by
    rw [hW0, hB0]
    have := heap_alloc_new (w.alloc (.cells #[.int .i64 K, .slice a1 L c1, .slice a2 NR c2, .slice a3 NP c3] 26)) (.cells #[.int .i64 K, .slice d1 L e1, .slice d2 NR e2, .slice d3 NP e3] 26)
    simpa using this
  have hk1 : Kp S1 w W := Kp.of_below hbW hS1
  have hk2 : Kp S2 w W := Kp.of_below hbW hS2
  have hsW := hbW.size
  have hT1 : ∀ k, S1 k → k < W.heap.size := fun k hk => by have := hS1 k hk; omega
  have hT2 : ∀ k, S2 k → k < W.heap.size := fun k hk => by have := hS2 k hk; omega
  have hcl : ∀ w', Below W.heap.size W w' → (w'.cell? ⟨B0, 0, none⟩ = some (.int .i64 K) ∧ w'.cell? ⟨B0, 1, none⟩ = some (.slice a1 L c1) ∧ w'.cell? ⟨B0, 2, none⟩ = some (.slice a2 NR c2) ∧ w'.cell? ⟨B0, 3, none⟩ = some (.slice a3 NP c3)) ∧ (w'.cell? ⟨B0 + 1, 0, none⟩ = some (.int .i64 K) ∧ w'.cell? ⟨B0 + 1, 1, none⟩ = some (.slice d1 L e1) ∧ w'.cell? ⟨B0 + 1, 2, none⟩ = some (.slice d2 NR e2) ∧ w'.cell? ⟨B0 + 1, 3, none⟩ = some (.slice d3 NP e3)) := fun w' hb => by
    have q1 := (hb.block _ (lt_of_block g1)).trans g1
    have q2 := (hb.block _ (lt_of_block g2)).trans g2
    exact ⟨⟨cell_of q1 0, cell_of q1 1, cell_of q1 2, cell_of q1 3⟩, cell_of q2 0, cell_of q2 1, cell_of q2 2, cell_of q2 3⟩
  have hEq1 := eqLines_same (hP1.below hk1) (hP2.below hk2)
  have HR1 : Hid (Rgs S1 W (.slice a2 NR c2) t.1.rings) := hR1.below hk1
  have HR2 : Hid (Rgs S2 W (.slice d2 NR e2) t.1.rings) := hR2.below hk2
  have HF1 : Hid (FoAt S1 W t.2 a3) := hF1.below hk1
  have HF2 : Hid (FoAt S2 W t.2 d3) := hF2.below hk2
  have tK : (K != K) = false := by simp
  obtain ⟨⟨c00, c01, c02, c03⟩, c10, c11, c12, c13⟩ := hcl W (Below.refl _ _)
  have HCL := Wk.hidS hcl
  have HBW := Wk.hidS hbW
  clear hW0 hB0 g1 g2 hP1 hP2 hR1 hR2 hF1 hF2 hk1 hk2 hcl hbW hS1 hS2
  go_enter Tryd.func31, Tryd.ntmps31
  go_upto_region 1 with (fail)
  rw [HW.out, ← HB0.out]
  go_wp2_with fail
  refine hEq1.mono ?_
  rintro e w2 ⟨rfl, dq, rfl⟩
  clear hEq1
  go_wp2
  go_loopw [5] (fun i wr => ∃ j : Nat, i = .int .i64 (j : Int) ∧ j ≤ NR ∧ Hid (Below W.heap.size W wr)) (fun i _ => NR - (intOf i).toNat)
  case atStart => exact ⟨0, rfl, Nat.zero_le _, below_drewN (Below.refl _ _) dq⟩
  case round =>
    obtain ⟨j, rfl, hj, HB⟩ := hrel
    clear c00 c01 c02 c03 c10 c11 c12 c13
    obtain ⟨⟨c00, c01, c02, c03⟩, c10, c11, c12, c13⟩ := HCL.out wr HB.out
    by_cases hlt : j < NR
    · obtain ⟨p, hp⟩ : ∃ p, t.1.rings[j]? = some p := ⟨_, List.getElem?_eq_getElem (by rw [← HNR.out]; exact hlt)⟩
      obtain ⟨_, x1, y1, ex1, hc1⟩ := HR1.out
      obtain ⟨_, x2, y2, ex2, hc2⟩ := HR2.out
      simp only [Value.slice.injEq] at ex1 ex2
      obtain ⟨b1, o1, v1, q1, _, k1, hpt1⟩ := hc1 j p hp
      obtain ⟨b2, o2, v2, q2, _, k2, hpt2⟩ := hc2 j p hp
      obtain ⟨s1, r1, rfl⟩ := hpt1.slc
      obtain ⟨s2, r2, rfl⟩ := hpt2.slc
      have e1 : a2 = some ⟨b1, o1, none⟩ := ex1.1.trans q1
      have e2' : d2 = some ⟨b2, o2, none⟩ := ex2.1.trans q2
      obtain ⟨Q, hQ⟩ : ∃ Q, Q = p.length := ⟨_, rfl⟩
      have hEq : ∀ w', Below W.heap.size W w' → Calls Tryd.prog 58 #[.slice s1 Q r1, .slice s2 Q r2] w' fun e w'' => e = .returned (.bool true) ∧ ∃ d, w'' = w'.drewN d := fun w' hb => by
        rw [hQ]
        exact eqLines_same (hpt1.below (Kp.of_below hb hT1)) (hpt2.below (Kp.of_below hb hT2))
      rw [← hQ] at k1 k2
      have k1' := (HB.out.cell (p := ⟨b1, o1 + j, none⟩) (cell_lt k1)).trans k1
      have k2' := (HB.out.cell (p := ⟨b2, o2 + j, none⟩) (cell_lt k2)).trans k2
      subst e1
      subst e2'
      clear hc1 hc2 ex1 ex2 q1 q2 hpt1 hpt2 hQ hp k1 k2
      go_upto_region 6 with (fail)
      go_region_held3 (fun w' => w'.cell? ⟨B0, 2, none⟩ = some (.slice (some ⟨b1, o1, none⟩) NR c2) ∧ w'.cell? ⟨B0 + 1, 2, none⟩ = some (.slice (some ⟨b2, o2, none⟩) NR e2) ∧ w'.cell? ⟨b1, o1 + j, none⟩ = some (.slice s1 Q r1) ∧ w'.cell? ⟨b2, o2 + j, none⟩ = some (.slice s2 Q r2)) (go_keep) (first | (go_at_call 58; refine (hEq _ (by first | exact HB.out | exact below_drewN HB.out _ | exact Wk.below_dr HB.out)).mono ?_; rintro e wA ⟨rfl, dd, rfl⟩))
      go_wp2
      go_roundw
      case rel => exact ⟨j + 1, by go_num, by omega, by first | exact below_drewN (below_drewN HB.out _) _ | exact below_drewN (Wk.below_dr HB.out) _ | exact below_drewN HB.out _⟩
      case measure => simp [intOf]; omega
    · go_wp2
      go_loopw [6] (fun i wz => ∃ j : Nat, i = .int .i64 (j : Int) ∧ j ≤ NP ∧ Hid (Below W.heap.size W wz)) (fun i _ => NP - (intOf i).toNat)
      case atStart => exact ⟨0, rfl, Nat.zero_le _, HB⟩
      case round =>
        obtain ⟨j2, rfl, hj2, HZ⟩ := hrel
        clear c00 c01 c02 c03 c10 c11 c12 c13
        obtain ⟨⟨c00, c01, c02, c03⟩, c10, c11, c12, c13⟩ := HCL.out wr HZ.out
        by_cases hlt2 : j2 < NP
        · have hlt3 : j2 < t.2.len := by rw [← HNP.out]; exact hlt2
          obtain ⟨b1, o1, v1, v2, p1, q1, ea, k0, k1, k2, k3, hTV1⟩ := nth_tv t.2 a3 j2 HF1.out hlt3
          obtain ⟨b2, o2, v3, v4, p2, q2, eb, l0, l1, l2, l3, hTV2⟩ := nth_tv t.2 d3 j2 HF2.out hlt3
          have hcn := nth_cnt t.2 j2 hlt3
          have hRec : ∀ w', Below W.heap.size W w' → Calls Tryd.prog 31 #[.agg #[.int .i64 (nthT t.2 j2).1.kind, v1, v2, .slice p1 (nthT t.2 j2).2.len q1], .agg #[.int .i64 (nthT t.2 j2).1.kind, v3, v4, .slice p2 (nthT t.2 j2).2.len q2]] w' fun e w'' => e = .returned (.bool true) ∧ Below w'.heap.size w' w'' := fun w' hb => ih (nthT t.2 j2) (by have := HCnt.out; omega) (fun k hk => by have := hT1 k hk; have := hb.size; omega) (fun k hk => by have := hT2 k hk; have := hb.size; omega) (hTV1.below (Kp.of_below hb hT1)) (hTV2.below (Kp.of_below hb hT2))
          obtain ⟨x1, y1, x2, y2, p1', q1', f1, _⟩ := gm_slc hTV1
          obtain ⟨x3, y3, x4, y4, p2', q2', f2, _⟩ := gm_slc hTV2
          injection f1 with f1
          injection f2 with f2
          simp at f1 f2
          obtain ⟨rfl, rfl, rfl, rfl⟩ := f1
          obtain ⟨rfl, rfl, rfl, rfl⟩ := f2
          rw [Nat.mul_comm 4 j2] at k0 k1 k2 k3 l0 l1 l2 l3
          subst ea
          subst eb
          clear hTV1 hTV2 hcn hlt3 ih
          generalize (nthT t.2 j2).1.kind = K2 at *
          generalize (nthT t.2 j2).2.len = Q2 at *
          generalize (nthT t.2 j2).1.line.length = Q3 at *
          generalize (nthT t.2 j2).1.rings.length = Q4 at *
          have hcl2 : ∀ w', Below W.heap.size W w' → (w'.cell? ⟨B0, 3, none⟩ = some (.slice (some ⟨b1, o1, none⟩) NP c3) ∧ w'.cell? ⟨B0 + 1, 3, none⟩ = some (.slice (some ⟨b2, o2, none⟩) NP e3)) ∧ (w'.cell? ⟨b1, o1 + j2 * 4, none⟩ = some (.int .i64 K2) ∧ w'.cell? ⟨b1, o1 + j2 * 4 + 1, none⟩ = some (.slice x1 Q3 y1) ∧ w'.cell? ⟨b1, o1 + j2 * 4 + 2, none⟩ = some (.slice x2 Q4 y2) ∧ w'.cell? ⟨b1, o1 + j2 * 4 + 3, none⟩ = some (.slice p1 Q2 q1)) ∧ (w'.cell? ⟨b2, o2 + j2 * 4, none⟩ = some (.int .i64 K2) ∧ w'.cell? ⟨b2, o2 + j2 * 4 + 1, none⟩ = some (.slice x3 Q3 y3) ∧ w'.cell? ⟨b2, o2 + j2 * 4 + 2, none⟩ = some (.slice x4 Q4 y4) ∧ w'.cell? ⟨b2, o2 + j2 * 4 + 3, none⟩ = some (.slice p2 Q2 q2)) := fun w' hb => ⟨⟨(HCL.out w' hb).1.2.2.2, (HCL.out w' hb).2.2.2.2⟩, ⟨(hb.cell (p := ⟨b1, o1 + j2 * 4, none⟩) (cell_lt k0)).trans k0, (hb.cell (p := ⟨b1, o1 + j2 * 4 + 1, none⟩) (cell_lt k1)).trans k1, (hb.cell (p := ⟨b1, o1 + j2 * 4 + 2, none⟩) (cell_lt k2)).trans k2, (hb.cell (p := ⟨b1, o1 + j2 * 4 + 3, none⟩) (cell_lt k3)).trans k3⟩, (hb.cell (p := ⟨b2, o2 + j2 * 4, none⟩) (cell_lt l0)).trans l0, (hb.cell (p := ⟨b2, o2 + j2 * 4 + 1, none⟩) (cell_lt l1)).trans l1, (hb.cell (p := ⟨b2, o2 + j2 * 4 + 2, none⟩) (cell_lt l2)).trans l2, (hb.cell (p := ⟨b2, o2 + j2 * 4 + 3, none⟩) (cell_lt l3)).trans l3⟩
          obtain ⟨⟨y00, y01⟩, ⟨y10, y11, y12, y13⟩, y20, y21, y22, y23⟩ := hcl2 wr HZ.out
          have HCL2 := Wk.hidS hcl2
          clear k0 k1 k2 k3 l0 l1 l2 l3 hcl2 c03 c13
          go_upto_region 11 with (fail)
          go_region_held3 (fun w' => (w'.cell? ⟨B0, 3, none⟩ = some (.slice (some ⟨b1, o1, none⟩) NP c3) ∧ w'.cell? ⟨B0 + 1, 3, none⟩ = some (.slice (some ⟨b2, o2, none⟩) NP e3)) ∧ (w'.cell? ⟨b1, o1 + j2 * 4, none⟩ = some (.int .i64 K2) ∧ w'.cell? ⟨b1, o1 + j2 * 4 + 1, none⟩ = some (.slice x1 Q3 y1) ∧ w'.cell? ⟨b1, o1 + j2 * 4 + 2, none⟩ = some (.slice x2 Q4 y2) ∧ w'.cell? ⟨b1, o1 + j2 * 4 + 3, none⟩ = some (.slice p1 Q2 q1)) ∧ (w'.cell? ⟨b2, o2 + j2 * 4, none⟩ = some (.int .i64 K2) ∧ w'.cell? ⟨b2, o2 + j2 * 4 + 1, none⟩ = some (.slice x3 Q3 y3) ∧ w'.cell? ⟨b2, o2 + j2 * 4 + 2, none⟩ = some (.slice x4 Q4 y4) ∧ w'.cell? ⟨b2, o2 + j2 * 4 + 3, none⟩ = some (.slice p2 Q2 q2))) (first | go_keep | (exact HCL2.out _ HBA.out)) (first | (go_at_call 31; refine (hRec _ (by first | exact HZ.out | exact below_drewN HZ.out _ | exact Wk.below_dr HZ.out)).mono ?_; rintro e wA ⟨rfl, hbA⟩; have HBA : Hid (Below W.heap.size W wA) := (by first | exact HZ.out.trans (hbA.mono HZ.out.size) | exact (Wk.below_dr HZ.out).trans (hbA.mono HZ.out.size) | exact (below_drewN HZ.out _).trans (hbA.mono HZ.out.size)); obtain ⟨⟨i00, i01⟩, ⟨i10, i11, i12, i13⟩, i20, i21, i22, i23⟩ := HCL2.out wA HBA.out))
          go_wp2
          go_roundw
          case rel => exact ⟨j2 + 1, by go_num, by omega, by first | exact HBA.out | exact below_drewN HBA.out _ | exact Wk.below_dr HBA.out⟩
          case measure => simp [intOf]; omega
        · go_wp2
          go_ret
          have hbW := HBW.out
          exact ⟨rfl, hbW.trans (HZ.out.mono hbW.size)⟩
set_option maxHeartbeats 1600000 in
set_option maxRecDepth 100000 in
theorem zero_yes (w : World) :
    Calls Tryd.prog 30 #[.agg #[.int .i64 0, .slice none 0 0, .slice none 0 0, .slice none 0 0]] w fun e w' => e = .returned (.bool true) ∧ Below w.heap.size w w' := by
  go_enter Tryd.func30, Tryd.ntmps30
  go_wp2
  go_ret
  exact ⟨rfl, alloc_below _⟩
set_option maxHeartbeats 1600000 in
set_option maxRecDepth 100000 in
theorem zero_no (w : World) {K : Int} (hK : K ≠ 0) (a1 a2 a3 : Option Addr) (n1 n2 n3 c1 c2 c3 : Nat) :
    Calls Tryd.prog 30 #[.agg #[.int .i64 K, .slice a1 n1 c1, .slice a2 n2 c2, .slice a3 n3 c3]] w fun e w' => e = .returned (.bool false) ∧ Below w.heap.size w w' := by
  have t0 : (K == 0) = false := by simpa using hK
  go_enter Tryd.func30, Tryd.ntmps30
  go_wp2
  go_ret
  exact ⟨rfl, alloc_below _⟩
set_option maxHeartbeats 3200000 in
set_option maxRecDepth 100000 in
theorem alike_zero (w : World) :
    Calls Tryd.prog 16 #[.agg #[.int .i64 0, .slice none 0 0, .slice none 0 0, .slice none 0 0], .agg #[.int .i64 0, .slice none 0 0, .slice none 0 0, .slice none 0 0]] w fun e w' => e = .returned (.bool true) ∧ Below w.heap.size w w' := by
  obtain ⟨W, hW0⟩ : ∃ W, W = (w.alloc (.cells #[.int .i64 0, .slice none 0 0, .slice none 0 0, .slice none 0 0] 26)).alloc (.cells #[.int .i64 0, .slice none 0 0, .slice none 0 0, .slice none 0 0] 26) := ⟨_, rfl⟩
  have HW : Hid ((w.alloc (.cells #[.int .i64 0, .slice none 0 0, .slice none 0 0, .slice none 0 0] 26)).alloc (.cells #[.int .i64 0, .slice none 0 0, .slice none 0 0, .slice none 0 0] 26) = W) := hW0.symm
  have hbW : Below w.heap.size w W := by rw [hW0]; exact (alloc_below _).alloc (by simp) _
  obtain ⟨B0, hB0⟩ : ∃ B, B = w.heap.size := ⟨_, rfl⟩
  have HB0 : Hid (B0 = w.heap.size) := hB0
  have g1 : W.heap[B0]? = some (.cells #[.int .i64 0, .slice none 0 0, .slice none 0 0, .slice none 0 0] 26 (0, 0)) := by
    rw [hW0, hB0]
    exact ((alloc_below _).block _ (by simp)).trans (heap_alloc_new _ _)
  have g2 : W.heap[B0 + 1]? = some (.cells #[.int .i64 0, .slice none 0 0, .slice none 0 0, .slice none 0 0] 26 (0, 0)) := by
    rw [hW0, hB0]
    have := heap_alloc_new (w.alloc (.cells #[.int .i64 0, .slice none 0 0, .slice none 0 0, .slice none 0 0] 26)) (.cells #[.int .i64 0, .slice none 0 0, .slice none 0 0, .slice none 0 0] 26)
    simpa using this
  clear hW0 hB0
  have hcl : ∀ w', Below W.heap.size W w' → (w'.cell? ⟨B0, 0, none⟩ = some (.int .i64 0) ∧ w'.cell? ⟨B0, 1, none⟩ = some (.slice none 0 0) ∧ w'.cell? ⟨B0, 2, none⟩ = some (.slice none 0 0) ∧ w'.cell? ⟨B0, 3, none⟩ = some (.slice none 0 0)) ∧ (w'.cell? ⟨B0 + 1, 0, none⟩ = some (.int .i64 0) ∧ w'.cell? ⟨B0 + 1, 1, none⟩ = some (.slice none 0 0) ∧ w'.cell? ⟨B0 + 1, 2, none⟩ = some (.slice none 0 0) ∧ w'.cell? ⟨B0 + 1, 3, none⟩ = some (.slice none 0 0)) := fun w' hb => by
    have q1 := (hb.block _ (lt_of_block g1)).trans g1
    have q2 := (hb.block _ (lt_of_block g2)).trans g2
    exact ⟨⟨cell_of q1 0, cell_of q1 1, cell_of q1 2, cell_of q1 3⟩, cell_of q2 0, cell_of q2 1, cell_of q2 2, cell_of q2 3⟩
  obtain ⟨⟨c00, c01, c02, c03⟩, c10, c11, c12, c13⟩ := hcl W (Below.refl _ _)
  have hZ := fun w => zero_yes w
  go_enter Tryd.func16, Tryd.ntmps16
  go_upto_region 1 with (fail)
  rw [HW.out, ← HB0.out]
  go_wp2_with fail
  refine (hZ _).mono ?_
  rintro e w2 ⟨rfl, hb2⟩
  clear c00 c01 c02 c03 c10 c11 c12 c13
  obtain ⟨⟨c00, c01, c02, c03⟩, c10, c11, c12, c13⟩ := hcl w2 hb2
  go_wp2_with fail
  refine (hZ _).mono ?_
  rintro e w3 ⟨rfl, hb3⟩
  have hB3 := hb2.trans (hb3.mono hb2.size)
  clear c00 c01 c02 c03 c10 c11 c12 c13
  obtain ⟨⟨c00, c01, c02, c03⟩, c10, c11, c12, c13⟩ := hcl w3 hB3
  go_wp2_with fail
  refine (hZ _).mono ?_
  rintro e w4 ⟨rfl, hb4⟩
  have hB4 := hB3.trans (hb4.mono hB3.size)
  go_wp2
  go_ret
  exact ⟨rfl, hbW.trans (hB4.mono hbW.size)⟩
set_option maxHeartbeats 3200000 in
set_option maxRecDepth 100000 in
theorem alike_same {w : World} {S1 S2 : Nat → Prop} {u1 u2 : Value} {t : Tree} (hS1 : ∀ k, S1 k → k < w.heap.size) (hS2 : ∀ k, S2 k → k < w.heap.size) (h1 : TV S1 w u1 t) (h2 : TV S2 w u2 t) (hK : t.1.kind ≠ 0) :
    Calls Tryd.prog 16 #[u1, u2] w fun e w' => e = .returned (.bool true) ∧ Below w.heap.size w w' := by
  have hEq : ∀ w', Below w.heap.size w w' → Calls Tryd.prog 31 #[u1, u2] w' fun e w'' => e = .returned (.bool true) ∧ Below w'.heap.size w' w'' := fun w' hb => equal_same (t.2.cnt + 1) t (by omega) (fun k hk => by have := hS1 k hk; have := hb.size; omega) (fun k hk => by have := hS2 k hk; have := hb.size; omega) (h1.below (Kp.of_below hb hS1)) (h2.below (Kp.of_below hb hS2))
  obtain ⟨a1, c1, a2, c2, a3, c3, rfl, _⟩ := gm_slc h1
  obtain ⟨d1, e1, d2, e2, d3, e3, rfl, _⟩ := gm_slc h2
  have hZ1 := fun w => zero_no w hK a1 a2 a3 t.1.line.length t.1.rings.length t.2.len c1 c2 c3
  have hZ2 := fun w => zero_no w hK d1 d2 d3 t.1.line.length t.1.rings.length t.2.len e1 e2 e3
  clear h1 h2 hK hS1 hS2
  generalize t.1.kind = K at *
  generalize t.1.line.length = L at *
  generalize t.1.rings.length = NR at *
  generalize t.2.len = NP at *
  obtain ⟨W, hW0⟩ : ∃ W, W = (w.alloc (.cells #[.int .i64 K, .slice a1 L c1, .slice a2 NR c2, .slice a3 NP c3] 26)).alloc (.cells #[.int .i64 K, .slice d1 L e1, .slice d2 NR e2, .slice d3 NP e3] 26) := ⟨_, rfl⟩
  have HW : Hid ((w.alloc (.cells #[.int .i64 K, .slice a1 L c1, .slice a2 NR c2, .slice a3 NP c3] 26)).alloc (.cells #[.int .i64 K, .slice d1 L e1, .slice d2 NR e2, .slice d3 NP e3] 26) = W) := hW0.symm
  have hbW : Below w.heap.size w W := by rw [hW0]; exact (alloc_below _).alloc (by simp) _
  obtain ⟨B0, hB0⟩ : ∃ B, B = w.heap.size := ⟨_, rfl⟩
  have HB0 : Hid (B0 = w.heap.size) := hB0
  have g1 : W.heap[B0]? = some (.cells #[.int .i64 K, .slice a1 L c1, .slice a2 NR c2, .slice a3 NP c3] 26 (0, 0)) := by
    rw [hW0, hB0]
    exact ((alloc_below _).block _ (by simp)).trans (heap_alloc_new _ _)
  have g2 : W.heap[B0 + 1]? = some (.cells #[.int .i64 K, .slice d1 L e1, .slice d2 NR e2, .slice d3 NP e3] 26 (0, 0)) := by
    rw [hW0, hB0]
    have := heap_alloc_new (w.alloc (.cells #[.int .i64 K, .slice a1 L c1, .slice a2 NR c2, .slice a3 NP c3] 26)) (.cells #[.int .i64 K, .slice d1 L e1, .slice d2 NR e2, .slice d3 NP e3] 26)
    simpa using this
  clear hW0 hB0
  have hcl : ∀ w', Below W.heap.size W w' → (w'.cell? ⟨B0, 0, none⟩ = some (.int .i64 K) ∧ w'.cell? ⟨B0, 1, none⟩ = some (.slice a1 L c1) ∧ w'.cell? ⟨B0, 2, none⟩ = some (.slice a2 NR c2) ∧ w'.cell? ⟨B0, 3, none⟩ = some (.slice a3 NP c3)) ∧ (w'.cell? ⟨B0 + 1, 0, none⟩ = some (.int .i64 K) ∧ w'.cell? ⟨B0 + 1, 1, none⟩ = some (.slice d1 L e1) ∧ w'.cell? ⟨B0 + 1, 2, none⟩ = some (.slice d2 NR e2) ∧ w'.cell? ⟨B0 + 1, 3, none⟩ = some (.slice d3 NP e3)) := fun w' hb => by
    have q1 := (hb.block _ (lt_of_block g1)).trans g1
    have q2 := (hb.block _ (lt_of_block g2)).trans g2
    exact ⟨⟨cell_of q1 0, cell_of q1 1, cell_of q1 2, cell_of q1 3⟩, cell_of q2 0, cell_of q2 1, cell_of q2 2, cell_of q2 3⟩
  obtain ⟨⟨c00, c01, c02, c03⟩, c10, c11, c12, c13⟩ := hcl W (Below.refl _ _)
  go_enter Tryd.func16, Tryd.ntmps16
  go_upto_region 1 with (fail)
  rw [HW.out, ← HB0.out]
  go_wp2_with fail
  refine (hZ1 _).mono ?_
  rintro e w2 ⟨rfl, hb2⟩
  clear c00 c01 c02 c03 c10 c11 c12 c13
  obtain ⟨⟨c00, c01, c02, c03⟩, c10, c11, c12, c13⟩ := hcl w2 hb2
  go_wp2_with fail
  refine (hZ2 _).mono ?_
  rintro e w3 ⟨rfl, hb3⟩
  have hB3 := hb2.trans (hb3.mono hb2.size)
  clear c00 c01 c02 c03 c10 c11 c12 c13
  obtain ⟨⟨c00, c01, c02, c03⟩, c10, c11, c12, c13⟩ := hcl w3 hB3
  have hE3 := hEq w3 (hbW.trans (hB3.mono hbW.size))
  clear hEq
  go_wp2_with fail
  refine hE3.mono ?_
  rintro e w4 ⟨rfl, hb4⟩
  have hB4 := hB3.trans (hb4.mono hB3.size)
  go_wp2
  go_ret
  exact ⟨rfl, hbW.trans (hB4.mono hbW.size)⟩
end Go.Proofs.YtinagjljebbceaaDoor
