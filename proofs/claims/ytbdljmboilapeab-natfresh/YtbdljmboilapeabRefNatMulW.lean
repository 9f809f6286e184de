/- plumbref02.Mul: the walk. -/
import Derived.Test.YtbdljmboilapeabRefNatMul
namespace Go.Proofs.Ytbdljmboilapeab
open Go.ChangeShapes Go.WideShapes Go.ChangeAt Go.RowKit
open Na
set_option linter.unusedVariables false

namespace Na
theorem digs_nil {A : Int} (h : 0 ≤ A) : (digs A).length = 0 ↔ A = 0 := by
  rw [List.length_eq_zero_iff]
  unfold digs
  rw [dig_nil (by omega)]
  omega
theorem res_zero {N : Int} (h : N = 0) : resL N = [] ∧ resE N = 0 := by
  subst h
  have : words 0 = [] := dig_zero _
  unfold resL resE
  rw [this]
  exact ⟨rfl, rfl⟩
theorem res_huge {N : Int} (h : 4096 < (words N).length) : resL N = [] ∧ resE N = 21 := by
  unfold resL resE
  rw [if_neg (by omega), if_neg (by omega)]
  exact ⟨rfl, rfl⟩
end Na

set_option maxHeartbeats 3200000 in
set_option maxRecDepth 100000 in
theorem refMul_any {a b : Option Addr} {n m c1 c2 : Nat} {xs ys : List Int} {w : World} (hr1 : RowAt .u64 w a n xs) (hr2 : RowAt .u64 w b m ys) (hx : Ws xs) (hy : Ws ys) (hn : n ≤ 100000) (hm : m ≤ 100000) :
    Calls Try.prog 46 #[.slice a n c1, .slice b m c2] w fun e w' => ∃ v, e = .returned (.tuple #[v, .int .i64 (resE (num xs * num ys))]) ∧ Own .u64 w' w.heap.size 47 v (resL (num xs * num ys)) ∧ Below w.heap.size w w' := by
  obtain ⟨i_i64, hi_i64, hz0_i64, hz1_i64, hz2_i64⟩ := info_parts info_int
  have e1 := hr1.1
  have e2 := hr2.1
  have l1 := digs_len hx
  have l2 := digs_len hy
  have p1 := num_nonneg hx
  have p2 := num_nonneg hy
  have b1 : (digs (num xs)).length ≤ 400000 := by omega
  have b2 : (digs (num ys)).length ≤ 400000 := by omega
  have v1 : Hid (val 65536 (digs (num xs)) = num xs) := val_digs p1
  have v2 : Hid (val 65536 (digs (num ys)) = num ys) := val_digs p2
  have dx := Dg_digs (num xs)
  have dy := Dg_digs (num ys)
  have z1 := digs_nil p1
  have z2 := digs_nil p2
  have hh := fun h1 h2 h3 => mul_huge (A := num xs) (B := num ys) h1 h2 h3
  clear l1 l2 e1 e2
  go_enter Try.func46, Try.ntmps46
  go_wp2_with fail
  refine (digits_get hr1 hx (by omega)).mono ?_
  rintro e w1 ⟨a1, d1, rfl, _, _, r1, hb1⟩
  have hr2' := hr2.later hb1
  go_wp2_with fail
  refine (digits_get hr2' hy (by omega)).mono ?_
  rintro e w2 ⟨a2, d2, rfl, _, _, r2, hb2⟩
  have rx := r1.later hb2
  have hbb := hb1.trans (hb2.mono hb1.size)
  clear hr1 hr2 hr2' r1 hb1 hb2
  obtain ⟨A, hA⟩ : ∃ A, A = num xs := ⟨_, rfl⟩
  obtain ⟨B, hB⟩ : ∃ B, B = num ys := ⟨_, rfl⟩
  have HA : Hid (num xs = A) := hA.symm
  have HB : Hid (num ys = B) := hB.symm
  rw [← hA] at b1 v1 dx z1 hh rx p1 ⊢
  rw [← hB] at b2 v2 dy z2 hh r2 p2 ⊢
  clear hA hB
  generalize digs A = ps at *
  generalize digs B = qs at *
  obtain ⟨n1, hn1⟩ : ∃ n1, n1 = ps.length := ⟨_, rfl⟩
  obtain ⟨m1, hm1⟩ : ∃ m1, m1 = qs.length := ⟨_, rfl⟩
  rw [← hn1] at b1 rx z1 hh ⊢
  rw [← hm1] at b2 r2 z2 hh ⊢
  have HN : Hid (n1 = ps.length) := hn1
  have HM : Hid (m1 = qs.length) := hm1
  clear hn1 hm1
  by_cases hz : n1 = 0 ∨ m1 = 0
  · have hzero : A * B = 0 := by
      rcases hz with h | h
      · rw [z1.mp h]; simp
      · rw [z2.mp h]; simp
    have E := res_zero hzero
    have E1 : Hid (resL (num xs * num ys) = []) := by show _ = _; rw [HA.out, HB.out]; exact E.1
    have E2 : Hid (resE (num xs * num ys) = 0) := by show _ = _; rw [HA.out, HB.out]; exact E.2
    clear E hzero z1 z2 hh rx r2
    by_cases h0 : n1 = 0
    · have t1 : ((n1 : Int) == 0) = true := by simp [h0]
      clear h0 hz
      go_wp2
      go_ret2
      exact ⟨_, by rw [E2.out]; rfl, by rw [E1.out]; exact own_nil _ _ _ _, hbb⟩
    · have t1 : ((n1 : Int) == 0) = false := by simp; omega
      have t2 : ((m1 : Int) == 0) = true := by simp; omega
      clear h0 hz
      go_wp2
      go_ret2
      exact ⟨_, by rw [E2.out]; rfl, by rw [E1.out]; exact own_nil _ _ _ _, hbb⟩
  · have t1 : ((n1 : Int) == 0) = false := by simp; omega
    have t2 : ((m1 : Int) == 0) = false := by simp; omega
    have pA : 0 < A := by
      have : A ≠ 0 := fun h => hz (Or.inl (z1.mpr h))
      omega
    have pB : 0 < B := by
      have : B ≠ 0 := fun h => hz (Or.inr (z2.mpr h))
      omega
    by_cases hbig : 16385 < n1 + m1
    · have E := res_huge (hh pA pB hbig)
      have E1 : Hid (resL (num xs * num ys) = []) := by show _ = _; rw [HA.out, HB.out]; exact E.1
      have E2 : Hid (resE (num xs * num ys) = 21) := by show _ = _; rw [HA.out, HB.out]; exact E.2
      clear E z1 z2 hh rx r2 hz pA pB p1 p2
      go_wp2
      go_ret2
      exact ⟨_, by rw [E2.out]; rfl, by rw [E1.out]; exact own_nil _ _ _ _, hbb⟩
    · have hw2 : w.heap.size ≤ w2.heap.size := hbb.size
      clear z1 z2 hh pA pB p1 p2
      go_wp2_with (at_make; refine wpList_make_full _ rfl _ _ 71 rfl w2.heap.size 3 i_i64 (.int .i64 0) 1 Try.underlying71 hi_i64 hz0_i64 hz1_i64 .i64 .i64 _ _ (n1 + m1) rfl rfl (by omega) (by omega) (by rw [hz2_i64]; omega) (by unfold maxLen; omega) (Nat.le_refl _) ?_)
      intro w3 hmade hgr
      have hown := own_zeros hmade
      have hb3 : Below w2.heap.size w2 w3 := (Below.refl _ _).grown hgr (Nat.le_refl _) (fun k hk => by cases hk)
      have hL : ps.length + qs.length = n1 + m1 := by rw [← HN.out, ← HM.out]
      have hst := mul_start ps qs
      rw [hL] at hst
      obtain ⟨g, hg⟩ : ∃ g, g = w2.heap.size := ⟨_, rfl⟩
      rw [← hg] at hown ⊢
      have hgw : w2.heap.size ≤ g := by omega
      replace hown := hown.wider hgw
      have hnn : 0 < n1 := by omega
      have hmm : 0 < m1 := by omega
      clear hmade hgr hg hz hL
      go_wp2
      go_loopw [9, 10, 11, 12] (fun i _ _ _ wr => ∃ (k : Nat) (ds : List Int), i = .int .i64 k ∧ k ≤ n1 ∧ Own .i64 wr w2.heap.size 3 (.slice (some ⟨g, 0, none⟩) (n1 + m1) (n1 + m1)) ds ∧ MulInv ps qs k ds ∧ Below w2.heap.size w2 wr) (fun i _ _ _ _ => n1 - (intOf i).toNat)
      case atStart => exact ⟨0, _, rfl, by omega, hown, hst, hb3⟩
      case round =>
        obtain ⟨i, ds, rfl, hi, hod, hinv, hnx⟩ := hrel
        clear hown hst hb3
        by_cases hlt : i < n1
        · have hrs := row_start hinv
          clear hinv
          obtain ⟨x1, o1, rfl, hx1, hc1⟩ := rx.at (by omega)
          obtain ⟨x2, o2, rfl, hx2, hc2⟩ := r2.at (by omega)
          go_wp2
          go_loopw [10, 11, 12] (fun c k _ w4 => ∃ (j : Nat) (C : Int) (es : List Int), k = .int .i64 j ∧ c = .int .i64 C ∧ Own .i64 w4 w2.heap.size 3 (.slice (some ⟨g, 0, none⟩) (n1 + m1) (n1 + m1)) es ∧ RowInv ps qs i j C es ∧ Below w2.heap.size w2 w4) (fun _ k _ _ => (m1 + 2) - (intOf k).toNat)
          case atStart => exact ⟨0, 0, ds, rfl, rfl, hod, hrs, hnx⟩
          case round =>
            obtain ⟨j, C, es, rfl, rfl, hoe, hri, hnx4⟩ := hrel
            have hel : n1 + m1 = es.length := by rw [hri.2.1, ← HN.out, ← HM.out]
            have hC0 := hri.2.2.1
            have hC1 := hri.2.2.2.1
            have hjm : j ≤ m1 + 1 := by have := hri.2.2.2.2.1; rw [← HM.out] at this; exact this
            have HL : Hid (n1 + m1 = es.length) := hel
            by_cases hj : j < m1
            · have hce := hoe.cellAt hel (j := i + j) (by omega)
              have hfz := hoe.frozenAt hel (i + j)
              have hxa := (hnx4.cell (p := ⟨x1, o1 + i, none⟩) hx1).trans (hc1 i hlt)
              have hxb := (hnx4.cell (p := ⟨x2, o2 + j, none⟩) hx2).trans (hc2 j hj)
              have gp := dx.getAny i
              have gq := dy.getAny j
              have ge := hri.1.get (i := i + j) (by omega)
              have hstep := fun v hv => row_step (v := v) hri (by omega) (by rw [← HM.out]; exact hj) gp gq hv
              have hset := fun (q : Nat) x => Own.set (w := wr.drewN q) hoe hel (i + j) x
              generalize ps.getD i 0 = P at *
              generalize qs.getD j 0 = Q at *
              generalize es.getD (i + j) 0 = D at *
              have m0 : 0 ≤ P * Q := Int.mul_nonneg gp.1 gq.1
              have m1' : P * Q ≤ 4294836225 := by
                have : P * Q ≤ 65535 * 65535 := Int.mul_le_mul gp.2 gq.2 gq.1 (by omega)
                omega
              have hR := hstep _ rfl
              have hO := fun q => hset q ((D + C + P * Q) % 65536)
              have hgb := hoe.base_le
              obtain ⟨ge0, ge1⟩ := ge
              clear hstep hset hri hoe hc1 hc2 rx r2 hel gp gq hnx hod hrs
              go_wp2
              go_quiet (fail)
              go_wp2
              go_roundw
              case rel => exact ⟨j + 1, _, _, by go_num, rfl, hO _, hR, (below_drewN hnx4 _).setCell hgb _⟩
              case measure => simp [intOf]; omega
            · by_cases hp : 0 < C
              · have hje := row_fits dx dy hri (by rw [← HN.out]; exact hlt) (by rw [← HM.out]; omega) hp
                rw [← HM.out] at hje
                have hce := hoe.cellAt hel (j := i + j) (by omega)
                have hfz := hoe.frozenAt hel (i + j)
                have ge := hri.1.get (i := i + j) (by omega)
                have hstep := fun v hv => row_last (v := v) hri (by omega) (by rw [← HM.out]; exact hje) hv
                have hset := fun x => hoe.set hel (i + j) x
                generalize es.getD (i + j) 0 = D at *
                have hR := hstep _ rfl
                have hO := hset ((D + C) % 65536)
                have hgb := hoe.base_le
                have hjm2 : j ≤ m1 := by omega
                obtain ⟨ge0, ge1⟩ := ge
                clear hstep hset hri hoe hc1 hc2 rx r2 hel hnx hod hrs hje
                go_wp2
                go_roundw
                case rel => exact ⟨j + 1, _, _, by go_num, rfl, hO, hR, hnx4.setCell hgb _⟩
                case measure => simp [intOf]; omega
              · have hC : C = 0 := by omega
                subst hC
                have hm := row_done hri (by rw [← HN.out]; exact hlt) (by rw [← HM.out]; omega)
                clear hri hc1 hc2 rx r2 hel hnx hod hrs
                go_wp2
                go_roundw
                case rel => exact ⟨i + 1, _, by go_num, by omega, hoe, hm, hnx4⟩
                case measure => simp [intOf]; omega
        · have hin : i = ps.length := by rw [← HN.out]; omega
          have hdl : n1 + m1 = ds.length := by rw [hinv.2.1, ← HN.out, ← HM.out]
          rw [hin] at hinv
          have hv := mul_done hinv
          rw [v1.out, v2.out] at hv
          have HV : Hid (val 65536 ds = num xs * num ys) := by show _ = _; rw [HA.out, HB.out]; exact hv
          have hdd := hinv.1
          obtain ⟨a3, d3, hv3, q1, q2, r3⟩ := hod.reads
          rw [hdl] at hv3 ⊢
          simp only [Value.slice.injEq] at hv3
          obtain ⟨e3, _, e4⟩ := hv3
          rw [← e3] at r3
          rw [← e4] at q1 q2
          have hfl : ds.length ≤ 10000000 := by omega
          have hbd := hbb.trans (hnx.mono hw2)
          clear hv hinv hod hin hdl rx r2 hnx hbb e3 e4
          go_wp2_with fail
          refine (told_any r3 hdd hfl q1 q2).mono ?_
          rintro e w5 ⟨v5, rfl, hown5, hb5⟩
          have hbe := hbd.trans (hb5.mono hbd.size)
          have hsz2 := hbd.size
          rw [HV.out] at hown5 ⊢
          clear r3 hbd hb5
          go_wp2
          go_ret2
          exact ⟨_, rfl, hown5.wider hsz2, hbe⟩
end Go.Proofs.Ytbdljmboilapeab
