/- package quot: divide, from the label take on. -/
import Derived.Test.YthjfjpdgjhidfabGreatQuotDiv3
namespace Go.Proofs.YthjfjpdgjhidfabGreat
open Go.ChangeShapes Go.WideShapes Go.ChangeAt Go.RowKit
open Na Ar
set_option linter.unusedVariables false

set_option maxHeartbeats 3200000 in
set_option maxRecDepth 100000 in
theorem dv2 {p : DvP} (ok : DvOk p) {N m : Nat} {a : Act} {w : World} (h : DvJ p 2 m a w) (hm : m ≤ N) :
    (dvTail 2).wp Tryz.prog (jumpsTo (fun l a' w' => ∃ n', n' < N ∧ DvJ p l n' a' w') (bodyPost Tryz.prog Tryz.f65 (DvPost p))) a w := by
  obtain ⟨j, us, qs, q, r, hj, _, rfl, hf, hM, hI, hUq, hg1, hg2⟩ := h
  obtain ⟨t, rfl⟩ := dv_frame hf
  clear hf
  have hbig := ok.big
  have hjk : ((j : Int) + ((p.k : Int) + 2)).toNat = j + (p.k + 2) := by omega
  have hV := num_bd ok.wv
  rw [ok.lv] at hV
  have hwin := win_succ (us := us) (o := j) (m := p.k + 2) (by have := hM.lu; omega)
  -- what TakeTimes leaves, in any world that reads the same
  have htk := fun (n : Nat) => takeTimes_in (o := j) (m := p.k + 2) (M := p.k + 2) (dcap := p.J + p.k + 3 - j) (cap2 := p.k + 2) (x := q) (w := w.drewN n) (hM.hu.later (below_drewN (Below.refl _ _) n)) hM.lu.symm hI.wu ((hM.hv.later (below_drewN (Below.refl _ _) n)).rowC ok.lv.symm).1 (fun _ => off_of ok.vu) ok.wv hUq (Nat.le_refl _) (by omega) (by omega)
  have hc0 := hM.hu.cellAt hM.lu.symm (j := j + (p.k + 2)) (by omega)
  obtain ⟨s, hs⟩ : ∃ s, s = j + (p.k + 2) := ⟨_, rfl⟩
  rw [← hs] at hc0
  rw [← hs] at hwin
  have hUs := hI.wu.getAnyB s
  obtain ⟨uh, huh⟩ : ∃ uh, uh = us.getD s 0 := ⟨_, rfl⟩
  have HUH : Hid (us.getD s 0 = uh) := huh.symm
  rw [← huh] at hc0 hwin hUs
  clear huh
  have hcs : ∀ (d : Int) (ts : List Int) (w3 : World), Own .u64 w3 p.w0.heap.size 53 (.slice (some ⟨p.gu, 0, none⟩) (p.J + p.k + 3) (p.J + p.k + 3)) ts → TakI us p.vs j q (p.k + 2) d ts → w3.cell? ⟨p.gu, s, none⟩ = some (.int .u64 uh) := by
    intro d ts w3 ho ht
    have h := ho.cellAt (hM.lu.symm.trans ht.2.1.symm) (j := s) (by omega)
    have h2 := ht.2.2.2.1
    rw [ok.lv] at h2
    have h3 : ts.getD s 0 = us.getD s 0 := by rw [hs]; exact getD_drop h2
    rw [h, h3, HUH.out]
  have hw : IntKind.i64.wrap ((j : Int) + ((p.k : Int) + 2)) = (s : Int) := by
    have := IntKind.wrap_i64 ((j : Int) + ((p.k : Int) + 2))
    rw [this]; omega
  have k1 : (s : Int) ≤ (p.J : Int) + (p.k : Int) + 3 := by omega
  have k2 : j ≤ s := by omega
  have k3 : ¬ (p.J + p.k + 3 = j) := by omega
  have k4 : s - j = p.k + 2 := by omega
  have k5 : s < p.J + p.k + 3 := by omega
  have k6 : (s : Int) < (p.J : Int) + (p.k : Int) + 3 := by omega
  have HS : Hid (s = j + (p.k + 2)) := hs
  have HLU : Hid (p.J + p.k + 3 = us.length) := hM.lu.symm
  clear hs hjk
  conv => arg 2; whnf
  go_wp2_with fail
  go_region_with (go_at_call 93; refine (htk _).mono ?_; rintro e w3 ⟨d, ts, rfl, hts, hti, hi3⟩; have hc3 := hcs d ts w3 hts hti)
  all_goals
    have hq3 := (hM.hq.later (below_drewN (Below.refl _ _) _)).inn hi3 ok.qu
    have hv3 := (hM.hv.later (below_drewN (Below.refl _ _) _)).inn hi3 ok.vu
    have hb3 := below_inn (below_drewN hM.hb _) hi3 hM.hu.base_le (Nat.le_refl _)
    have hlt3 : ts.length = p.J + p.k + 3 := hti.2.1.trans HLU.out.symm
    have hti' : TakI us p.vs j q p.vs.length d ts := by rw [ok.lv]; exact hti
    have hw1 := hti'.win (by rw [ok.lv, ← HLU.out]; omega)
    have tt1 := hti.2.2.2.2.1
    have tt2 := hti.2.2.2.1
    have wt := hti.1
    rw [ok.lv] at hw1 tt2
    have hn0 := win_nonneg wt j (p.k + 2)
    have hn1 := win_lt wt (o := j) (m := p.k + 2) (by omega)
    have hmz : dvMeas 3 j q < N := by
      refine Nat.lt_of_lt_of_le ?_ hm
      unfold dvMeas; simp only; omega
    clear hti hti' htk hc0 hi3
    by_cases hle : d ≤ uh
    · have hr := take_right (uh := uh) hwin (Int.le_of_lt hV) hg1 ⟨hn0, hn1⟩ hw1 hle
      have hD := hI.next (q := q) (ts := ts) (j := j) (n := p.k + 2) hUq (by rw [← HLU.out]; omega) (by rw [hM.lq]; omega) wt (by rw [hlt3]; exact HLU.out) tt1 tt2 hr.1 hr.2.2 (Int.le_of_lt hV)
      have hlq := hM.lq
      have hdt : decide (d ≤ uh) = true := decide_eq_true hle
      clear hr hwin hw1 hM hI
      go_wp2
      go_step3
      exact ⟨_, hmz, j, ts, qs, q, r, hj, by omega, rfl, ⟨rfl, rfl, rfl, rfl, rfl, rfl, rfl, rfl, rfl, rfl⟩, ⟨hts, hq3, hv3, hb3, hlt3, hlq⟩, hUq, wt, hD⟩
    · have hq1 : 1 ≤ q := by
        by_cases hz : 1 ≤ q
        · exact hz
        · exfalso
          have hq0 : q = 0 := by unfold U at hUq; omega
          rw [hq0, Int.zero_mul, Int.sub_zero] at hw1
          have a1 := win_lt hI.wu (o := j) (m := p.k + 2) (by rw [← HLU.out]; omega)
          have a2 := win_nonneg hI.wu j (p.k + 2)
          have a4 : 18446744073709551616 ^ (p.k + 2) * 1 ≤ 18446744073709551616 ^ (p.k + 2) * d := Int.mul_le_mul_of_nonneg_left (by omega) (Int.le_of_lt (wpow_pos _))
          omega
      have hUq' : U (q - 1) := by unfold U at *; omega
      have hwq : IntKind.u64.wrap (q - 1) = q - 1 := by rw [IntKind.wrap_u64]; unfold U at hUq'; omega
      have hadd := addTo_in (o := j) (m := p.k + 2) (dcap := p.J + p.k + 3 - j) (m2 := p.k + 2) (cap2 := p.k + 2) hts hlt3.symm wt (hv3.rowC ok.lv.symm).1 (fun _ => off_of ok.vu) ok.wv (Nat.le_refl _) (by omega) (by omega)
      have hov := fun W2 c h1 h2 h3 => take_over (uh := uh) (W2 := W2) (c := c) hwin (Int.le_of_lt hV) hg2 ⟨hn0, hn1⟩ hw1 (by omega) h1 h2 h3
      have hD := fun (vs : List Int) a1 a2 a3 a4 a5 a6 => hI.next (q := q - 1) (ts := vs) (j := j) (n := p.k + 2) hUq' (by rw [← HLU.out]; omega) (by rw [hM.lq]; omega) a1 a2 a3 a4 a5 a6 (Int.le_of_lt hV)
      have hlq := hM.lq
      have HTT1 : Hid (ts.take j = us.take j) := tt1
      have HTT2 : Hid (ts.drop (j + (p.k + 2)) = us.drop (j + (p.k + 2))) := tt2
      have hdt : decide (d ≤ uh) = false := decide_eq_false hle
      clear hwin hw1 hM hI tt1 tt2 hg1 hg2 hn0 hn1
      go_wp2_with fail
      refine hadd.mono ?_
      rintro e w4 ⟨c, vs, rfl, hvs, hai, hi4⟩
      have hq4 := hq3.inn hi4 ok.qu
      have hv4 := hv3.inn hi4 ok.vu
      have hb4 := below_inn hb3 hi4 hts.base_le (Nat.le_refl _)
      have hlv4 : vs.length = p.J + p.k + 3 := hai.2.1.trans hlt3
      have hw2 := hai.win (by rw [ok.lv]; exact Nat.le_refl _) (by omega)
      have hr := hov _ c ⟨win_nonneg hai.1 j (p.k + 2), win_lt hai.1 (by omega)⟩ hw2 hai.2.2.1
      have hDD := hD vs hai.1 (by rw [hlv4]; exact HLU.out) (hai.2.2.2.1.trans HTT1.out) (hai.2.2.2.2.1.trans HTT2.out) hr.1 hr.2.2
      have wv := hai.1
      clear hadd hov hD hai hw2 hr hts hq3 hv3 hb3 hi4
      go_wp2
      go_step3
      rename_i hK
      refine hK _ _ (dv3 ok ⟨j, vs, qs, q - 1, r, hj, by omega, rfl, ⟨rfl, rfl, rfl, rfl, rfl, rfl, rfl, rfl, ?_, rfl⟩, ⟨hvs, hq4, hv4, hb4, hlv4, hlq⟩, hUq', wv, hDD⟩ (Nat.le_of_lt hmz))
      first | rfl | exact congrArg (Value.int .u64) hwq
end Go.Proofs.YthjfjpdgjhidfabGreat
