/- plumbref05 on Rats: Floor. -/
import Derived.Test.YtopcdpeepchgfacGreatRatKg
namespace Go.Proofs.YtopcdpeepchgfacGreat
open Go.ChangeShapes Go.WideShapes Go.ChangeAt Go.RowKit
open Na Ar
set_option linter.unusedVariables false
theorem mkR_one (s : Bool) (A : Int) : mkR s A 1 = ((sg s A : Int) : Rat) := by
  unfold mkR
  exact Rat.mkRat_one (sg s A)
section
variable {w : World} {s s1 : Bool} {a1 b1 : Option Addr} {n1 c1 m1 d1 : Nat} {p : Rat} {k l : Nat}
set_option maxHeartbeats 6400000 in
set_option maxRecDepth 100000 in
theorem ref5Floor_ok (h1 : Rt w s1 a1 n1 c1 b1 m1 d1 p) (z1 : Sz p k) (hk : k ≤ 4000) :
    Calls Tryz.prog 15 #[.agg #[.bool s1, .slice a1 n1 c1, .slice b1 m1 d1]] w fun e w' => ∃ s v1 v2, e = .returned (.tuple #[.agg #[.bool s, v1, v2], .int .i64 0]) ∧ RtO w' w.heap.size s v1 v2 ((p.floor : Int) : Rat) ∧ Below w.heap.size w w' := by
  obtain ⟨t1, t2, hb0, e0⟩ := st_two' w (.bool s1) (.slice a1 n1 c1) (.slice b1 m1 d1)
  obtain ⟨w0, hw0⟩ : ∃ w0, w0 = (w.alloc (.cells #[.bool s1, .slice a1 n1 c1, .slice b1 m1 d1] 24)).alloc (.cells #[.bool false, .slice none 0 0, .slice none 0 0] 24) := ⟨_, rfl⟩
  rw [← hw0] at t1 t2 hb0 e0
  have r1 := h1.later hb0
  have l1 := h1.le z1
  have l2 := h1.leD z1
  have hS : Hid (s1 = decide (p.num < 0)) := h1.sgn
  obtain ⟨g, hg⟩ : ∃ g, g = w.heap.size := ⟨_, rfl⟩
  have HG : Hid (w.heap.size = g) := hg.symm
  rw [← hg] at t1 t2 hb0 e0
  have HS : g ≤ w0.heap.size := by rw [hg]; exact hb0.size
  have dp := den_pos p
  go_enter Tryz.func15, Tryz.ntmps15
  go_wp2_with fail
  rw [← hw0, ← hg]
  refine (ref5Check_ok r1 z1 (by omega)).mono ?_
  rintro e wA ⟨rfl, hbA⟩
  have r1A := r1.later hbA
  have t1A := t1.later hbA
  have t2A := t2.later hbA
  have HA := hb0.trans (hbA.mono HS)
  have HAs : w0.heap.size ≤ wA.heap.size := hbA.size
  have sA := t2A.lt
  clear hw0 hg t1 t2 r1 hbA hb0 h1
  obtain ⟨x0, x1, x2⟩ := t1A.cells
  have dv := ref3Div_any (c1 := c1) (c2 := d1) r1A.nu.1 r1A.de.1 (Dg_words _) (Dg_words _) (by omega) (by omega) (by rw [num_words (by omega)]; exact dp)
  rw [num_words (by omega), num_words (by omega)] at dv
  clear r1A
  go_wp2_with fail
  refine dv.mono ?_
  rintro e wB ⟨qa, qn, qc, ra, rn, rc, rfl, hq, hr, hbB⟩
  clear dv
  have r0 := Int.emod_nonneg (p.num.natAbs : Int) (show (p.den : Int) ≠ 0 by omega)
  have q0 : 0 ≤ (p.num.natAbs : Int) / (p.den : Int) := Int.ediv_nonneg (by omega) (by omega)
  have qle : (p.num.natAbs : Int) / (p.den : Int) ≤ (p.num.natAbs : Int) := Int.ediv_le_self _ (by omega)
  have lQ : Lt ((p.num.natAbs : Int) / (p.den : Int)) k := z1.1.le q0 qle
  have lR : Lt ((p.num.natAbs : Int) % (p.den : Int)) k := z1.2.le r0 (Int.le_of_lt (Int.emod_lt_of_pos _ dp))
  have mQ := lQ.nm (by omega)
  have nm1 : Nm [1] 1 := ⟨Dg.one (by omega), by simp [num, val], by simp⟩
  have kq : qn ≤ 100000 := by have := hq.1.1; have := lQ.len; omega
  have kr : rn ≤ 100000 := by have := hr.1.1; have := lR.len; omega
  obtain ⟨x0, x1, x2⟩ := (t1A.later hbB).cells
  have zr := words_nil r0
  cases s1
  · have hp : ¬ p.num < 0 := of_decide_eq_false hS.out.symm
    have HQ : Hid (mkR false ((p.num.natAbs : Int) / (p.den : Int)) 1 = ((p.floor : Int) : Rat)) := by
      show _ = _
      rw [mkR_one, fl_pos hp, sg_false]
    clear hS hp zr r0 q0 qle hr
    generalize (p.num.natAbs : Int) / (p.den : Int) = Q at *
    have hone := rowC_one wB 1 53
    have hb9 : Below wB.heap.size wB (wB.alloc (.cells #[.int .u64 1] 53)) := (Below.refl _ _).alloc (Nat.le_refl _) _
    have low := fun neg => ref5Low_any (neg := neg) (hq.later hb9) hone mQ nm1 (by omega) (by omega) (by omega)
    have HB9 := hbB.trans (hb9.mono hbB.size)
    have x9 := (t1A.later HB9).cells.1
    clear hone
    go_wp2_with fail
    refine (low _).mono ?_
    rintro e wE ⟨s9, v1, v2, rfl, hR, hbE⟩
    rw [HQ.out] at hR
    obtain ⟨a9, n9, c9, b9, m9, d9, rfl, rfl, _⟩ := hR.opens
    have HE := HB9.trans (hbE.mono HB9.size)
    have sD := HB9.size
    have t2E := t2A.later HE
    obtain ⟨u0, u1, u2⟩ := t2E.cells
    obtain ⟨v0, v1, v2⟩ := t2E.frozen
    clear low
    go_wp2
    have st9 := (t2E.set (.bool s9) (.slice a9 n9 c9) (.slice b9 m9 d9)).cells
    refine bodyPost_ret (v := .tuple #[.agg #[.bool s9, .slice a9 n9 c9, .slice b9 m9 d9], .int .i64 0]) (by simp [results, Tryz.results15, go_sem, st9]) rfl ?_
    rw [HG.out]
    exact ⟨_, _, _, rfl, (hR.inn (in3 _ (g + 1) _ _ _) (by omega)).lower (by omega), below_in (HA.trans (HE.mono (by omega))) (in3 _ (g + 1) _ _ _) (by omega) (by rw [HG.out]; exact Nat.le_refl _)⟩
  · have hp : p.num < 0 := of_decide_eq_true hS.out.symm
    have nr := refNorm_any (cap := rc) hr.1 (Dg_words _) (by omega)
    have ev : val 18446744073709551616 (words ((p.num.natAbs : Int) % (p.den : Int))) = (p.num.natAbs : Int) % (p.den : Int) := num_words r0
    rw [ev] at nr
    by_cases hr0 : (p.num.natAbs : Int) % (p.den : Int) = 0
    · have HQ : Hid (mkR true ((p.num.natAbs : Int) / (p.den : Int)) 1 = ((p.floor : Int) : Rat)) := by
        show _ = _
        rw [mkR_one, fl_neg0 hp hr0, sg_true]
      rw [hr0, show words 0 = [] from dig_zero _] at nr
      clear hS hp zr r0 q0 qle ev
      generalize (p.num.natAbs : Int) / (p.den : Int) = Q at *
      clear hr hr0 lR
      go_wp2_with fail
      refine nr.mono ?_
      rintro e wC ⟨v, rfl, ho, hbC⟩
      obtain ⟨a', c', rfl, _⟩ := ho.readsC
      clear nr ho
      have hBC := hbB.trans (hbC.mono hbB.size)
      have hqC := hq.later hbC
      obtain ⟨x0, x1, x2⟩ := (t1A.later hBC).cells
      have hone := rowC_one wC 1 53
      have hb9 : Below wC.heap.size wC (wC.alloc (.cells #[.int .u64 1] 53)) := (Below.refl _ _).alloc (Nat.le_refl _) _
      have low := fun neg => ref5Low_any (neg := neg) (hqC.later hb9) hone mQ nm1 (by omega) (by omega) (by omega)
      have HB9 := hBC.trans (hb9.mono hBC.size)
      have x9 := (t1A.later HB9).cells.1
      clear hone
      go_wp2_with fail
      refine (low _).mono ?_
      rintro e wE ⟨s9, v1, v2, rfl, hR, hbE⟩
      rw [HQ.out] at hR
      obtain ⟨a9, n9, c9, b9, m9, d9, rfl, rfl, _⟩ := hR.opens
      have HE := HB9.trans (hbE.mono HB9.size)
      have sD := HB9.size
      have t2E := t2A.later HE
      obtain ⟨u0, u1, u2⟩ := t2E.cells
      obtain ⟨v0, v1, v2⟩ := t2E.frozen
      clear low
      go_wp2
      have st9 := (t2E.set (.bool s9) (.slice a9 n9 c9) (.slice b9 m9 d9)).cells
      refine bodyPost_ret (v := .tuple #[.agg #[.bool s9, .slice a9 n9 c9, .slice b9 m9 d9], .int .i64 0]) (by simp [results, Tryz.results15, go_sem, st9]) rfl ?_
      rw [HG.out]
      exact ⟨_, _, _, rfl, (hR.inn (in3 _ (g + 1) _ _ _) (by omega)).lower (by omega), below_in (HA.trans (HE.mono (by omega))) (in3 _ (g + 1) _ _ _) (by omega) (by rw [HG.out]; exact Nat.le_refl _)⟩
    · have HQ : Hid (mkR true ((p.num.natAbs : Int) / (p.den : Int) + 1) 1 = ((p.floor : Int) : Rat)) := by
        show _ = _
        rw [mkR_one, fl_neg1 hp hr0, sg_true]
      obtain ⟨j, hj⟩ : ∃ j, (words ((p.num.natAbs : Int) % (p.den : Int))).length = j + 1 := ⟨(words ((p.num.natAbs : Int) % (p.den : Int))).length - 1, by
        have : (words ((p.num.natAbs : Int) % (p.den : Int))).length ≠ 0 := fun e => hr0 (zr.mp e)
        omega⟩
      have lS : Lt ((p.num.natAbs : Int) / (p.den : Int) + 1) (k + 1 + 1) := (lt_add1 (k := k + 1) (lQ.mono (by omega)) ⟨by omega, by
        have := wpow_mono (show 1 ≤ k + 1 by omega)
        omega⟩)
      have mS := lS.nm (by omega)
      clear hS hp zr r0 q0 qle ev hr0
      generalize (p.num.natAbs : Int) / (p.den : Int) = Q at *
      generalize (p.num.natAbs : Int) % (p.den : Int) = R at *
      clear hr lR
      go_wp2_with fail
      refine nr.mono ?_
      rintro e wC ⟨v, rfl, ho, hbC⟩
      obtain ⟨a', c', rfl, _⟩ := ho.readsC
      rw [hj]
      clear nr ho hj
      have hBC := hbB.trans (hbC.mono hbB.size)
      have hqC := hq.later hbC
      obtain ⟨x0, x1, x2⟩ := (t1A.later hBC).cells
      have hone := rowC_one wC 1 53
      have hb8 : Below wC.heap.size wC (wC.alloc (.cells #[.int .u64 1] 53)) := (Below.refl _ _).alloc (Nat.le_refl _) _
      have ad := ref2Add_ok (hqC.later hb8) hone mQ nm1 (by omega) (by omega) lS (by omega)
      clear hone
      go_wp2_with fail
      refine ad.mono ?_
      rintro e wD ⟨ua, un, uc, ul, rfl, ru, mu, _, lu, hbD⟩
      have hB8 := hBC.trans (hb8.mono hBC.size)
      have hBD := hB8.trans (hbD.mono hB8.size)
      clear ad
      obtain ⟨x0, x1, x2⟩ := (t1A.later hBD).cells
      have hone := rowC_one wD 1 53
      have hb9 : Below wD.heap.size wD (wD.alloc (.cells #[.int .u64 1] 53)) := (Below.refl _ _).alloc (Nat.le_refl _) _
      have low := fun neg => ref5Low_any (neg := neg) (ru.later hb9) hone mu nm1 (by omega) (by omega) (by omega)
      have HB9 := hBD.trans (hb9.mono hBD.size)
      have x9 := (t1A.later HB9).cells.1
      clear hone
      go_wp2_with fail
      refine (low _).mono ?_
      rintro e wE ⟨s9, v1, v2, rfl, hR, hbE⟩
      rw [HQ.out] at hR
      obtain ⟨a9, n9, c9, b9, m9, d9, rfl, rfl, _⟩ := hR.opens
      have HE := HB9.trans (hbE.mono HB9.size)
      have sD := HB9.size
      have t2E := t2A.later HE
      obtain ⟨u0, u1, u2⟩ := t2E.cells
      obtain ⟨v0, v1, v2⟩ := t2E.frozen
      clear low
      go_wp2
      have st9 := (t2E.set (.bool s9) (.slice a9 n9 c9) (.slice b9 m9 d9)).cells
      refine bodyPost_ret (v := .tuple #[.agg #[.bool s9, .slice a9 n9 c9, .slice b9 m9 d9], .int .i64 0]) (by simp [results, Tryz.results15, go_sem, st9]) rfl ?_
      rw [HG.out]
      exact ⟨_, _, _, rfl, (hR.inn (in3 _ (g + 1) _ _ _) (by omega)).lower (by omega), below_in (HA.trans (HE.mono (by omega))) (in3 _ (g + 1) _ _ _) (by omega) (by rw [HG.out]; exact Nat.le_refl _)⟩
end
end Go.Proofs.YtopcdpeepchgfacGreat
