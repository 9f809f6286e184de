/- package quot: divide, from the label test on. -/
import Derived.Test.YthjfjpdgjhidfabGreatQuotDiv2
namespace Go.Proofs.YthjfjpdgjhidfabGreat
open Go.ChangeShapes Go.WideShapes Go.ChangeAt Go.RowKit
open Na Ar
set_option linter.unusedVariables false
namespace Na
theorem cmp2_le {a b c d : Int} (ha : U a) (hb : U b) (hc : U c) (hd : U d) : decide (cmp2 (mulHi a b) (mulLo a b) c d ≤ 0) = decide (a * b ≤ c * 18446744073709551616 + d) := by
  rw [decide_eq_decide]
  have u1 := U_mulLo a b
  have u2 := U_mulHi ha hb
  have e : a * b = mulHi a b * 18446744073709551616 + mulLo a b := by unfold mulHi mulLo; omega
  rw [e]
  generalize mulHi a b = x at *
  generalize mulLo a b = y at *
  unfold U at *
  unfold cmp2 ord
  split
  · split
    · omega
    · split <;> omega
  · split
    · omega
    · split <;> omega
end Na
set_option maxHeartbeats 3200000 in
set_option maxRecDepth 100000 in
theorem dv1 {p : DvP} (ok : DvOk p) {N m : Nat} {a : Act} {w : World} (h : DvJ p 1 m a w) (hm : m ≤ N) :
    (dvTail 1).wp Tryz.prog (jumpsTo (fun l a' w' => ∃ n', n' < N ∧ DvJ p l n' a' w') (bodyPost Tryz.prog Tryz.f65 (DvPost p))) a w := by
  obtain ⟨j, us, qs, q, r, hj, _, rfl, hf, hM, hI, hUq, hUr, hqr, hg1⟩ := h
  obtain ⟨t, rfl⟩ := dv_frame hf
  clear hf
  have hbig := ok.big
  have hkn := kn_lists (j := j) hI.wu ok.wv ok.lv (by rw [hM.lu]; omega) ok.v1
  have gv1 : U (p.vs.getD (p.k + 1) 0) := ok.wv.getAnyB _
  have gv2 : U (p.vs.getD p.k 0) := ok.wv.getAnyB _
  have gu2 : U (us.getD (j + p.k) 0) := hI.wu.getAnyB _
  have c1 := hM.hv.cellAt ok.lv.symm (j := p.k) (by omega)
  have c2 := fun (w1 : World) (h : Below w.heap.size w w1) => (hM.hu.later h).cellAt hM.lu.symm (j := j + p.k) (by omega)
  have c3 := fun (w1 : World) (h : Below w.heap.size w w1) => (hM.hv.later h).cellAt ok.lv.symm (j := p.k + 1) (by omega)
  have hless := fun (h : r * 18446744073709551616 + us.getD (j + p.k) 0 < q * p.vs.getD p.k 0) => hkn.less (q := q) (r := r) hUq.1 hqr h
  have hnear := fun (h : q * p.vs.getD p.k 0 ≤ r * 18446744073709551616 + us.getD (j + p.k) 0) => hkn.near (q := q) (r := r) hUq.1 hUq.2 hqr h
  have hcm := cmp2_le hUq gv2 hUr gu2
  have hnear2 : 1 ≤ q → 18446744073709551616 ≤ r + p.vs.getD (p.k + 1) 0 → (q - 1) * num p.vs < Na.win us j (p.k + 3) + num p.vs := fun hq1 h => by
    have e2 : (q - 1) * p.vs.getD (p.k + 1) 0 + (r + p.vs.getD (p.k + 1) 0) = us.getD (j + (p.k + 2)) 0 * 18446744073709551616 + us.getD (j + (p.k + 1)) 0 := by rw [← hqr, Int.sub_mul, Int.one_mul]; omega
    exact hkn.near (by omega) (by have := hUq.2; omega) e2 (hkn.full (by omega) (by have := hUq.2; omega) h)
  have hqpos : r * 18446744073709551616 + us.getD (j + p.k) 0 < q * p.vs.getD p.k 0 → 1 ≤ q := fun h => by
    by_cases hz : 1 ≤ q
    · exact hz
    · exfalso
      have : q = 0 := by have := hUq.1; omega
      rw [this, Int.zero_mul] at h
      have := hUr.1
      have := gu2.1
      omega
  have HQR : Hid (q * p.vs.getD (p.k + 1) 0 + r = us.getD (j + (p.k + 2)) 0 * 18446744073709551616 + us.getD (j + (p.k + 1)) 0) := hqr
  have HV1 : Hid (∃ x, x = p.vs.getD (p.k + 1) 0) := ⟨_, rfl⟩
  generalize hv1 : p.vs.getD (p.k + 1) 0 = v1 at *
  generalize hv2 : p.vs.getD p.k 0 = v2 at *
  generalize hu2 : us.getD (j + p.k) 0 = u2 at *
  have hi1 : ((j : Int) + ((p.k : Int) + 2) - 2).toNat = j + p.k := by omega
  have hi2 : ((j : Int) + (p.k : Int)).toNat = j + p.k := by omega
  clear hqr hkn
  conv => arg 2; whnf
  go_wp2_with fail
  refine (mul_any hUq gv2 _).mono ?_
  rintro e w1 ⟨_, _, rfl, hg, rfl, rfl⟩
  have c2' := c2 w1 hg.2
  have c3' := c3 w1 hg.2
  go_wp2_with fail
  refine (cmp_any _ _ _ _ _).mono ?_
  rintro e w2 ⟨_, rfl, rfl, rfl⟩
  have hM1 : DvM p us qs w1 := ⟨hM.hu.later hg.2, hM.hq.later hg.2, hM.hv.later hg.2, hM.hb.trans (hg.2.mono hM.hb.size), hM.lu, hM.lq⟩
  have hmz : dvMeas 2 j q < N := by
    refine Nat.lt_of_lt_of_le ?_ hm
    unfold dvMeas; simp only; omega
  clear hM c1 c2 c3 hg
  generalize cmp2 (mulHi q v2) (mulLo q v2) r u2 = cc at *
  by_cases hle : q * v2 ≤ r * 18446744073709551616 + u2
  · rw [decide_eq_true hle] at hcm
    have hcc : cc ≤ 0 := of_decide_eq_true hcm
    have hg2 := hnear hle
    clear hnear hless hnear2 hqpos hle
    go_wp2
    go_step3
    exact ⟨_, hmz, j, us, qs, q, r, hj, by omega, rfl, ⟨rfl, rfl, rfl, rfl, rfl, rfl, rfl, rfl, rfl, rfl⟩, hM1, hI, hUq, hg1, hg2⟩
  · rw [decide_eq_false hle] at hcm
    have hcc : ¬ cc ≤ 0 := of_decide_eq_false hcm
    have hq1 := hqpos (by omega)
    have hgl := hless (by omega)
    have hUq' : U (q - 1) := by unfold U at *; omega
    have hwq : IntKind.u64.wrap (q - 1) = q - 1 := by rw [IntKind.wrap_u64]; unfold U at hUq'; omega
    have hg1' : Na.win us j (p.k + 3) < (q - 1 + 1) * num p.vs := by rw [Int.sub_add_cancel]; exact hgl
    have hqr' : Hid ((q - 1) * v1 + (r + v1) = us.getD (j + (p.k + 2)) 0 * 18446744073709551616 + us.getD (j + (p.k + 1)) 0) := by
      show _ = _
      rw [← HQR.out, Int.sub_mul, Int.one_mul]; omega
    have hm2 : dvMeas 2 j (q - 1) < N := by
      refine Nat.lt_of_lt_of_le ?_ hm
      unfold dvMeas; simp only; omega
    have hm1 : dvMeas 1 j (q - 1) < N := by
      refine Nat.lt_of_lt_of_le ?_ hm
      unfold dvMeas; simp only; unfold U at hUq; omega
    have hn2 := hnear2 hq1
    clear hnear hless hnear2 hqpos hle hg1 hgl hcm hmz
    go_wp2_with fail
    refine (add_any hUr gv1 U_zero _).mono ?_
    rintro e w3 ⟨_, _, rfl, rfl, rfl, rfl⟩
    by_cases hov : r + v1 < 18446744073709551616
    · have e1 : addLo r v1 0 = r + v1 := by unfold addLo; unfold U at *; omega
      have e2 : addHi r v1 0 = 0 := by unfold addHi; unfold U at *; omega
      rw [e1, e2]
      have hUr' : U (r + v1) := by unfold U at *; omega
      clear hn2
      go_wp2
      go_step3
      exact ⟨_, hm1, j, us, qs, q - 1, r + v1, hj, by omega, rfl, ⟨rfl, rfl, rfl, rfl, rfl, rfl, rfl, rfl, by first | rfl | exact congrArg (Value.int .u64) hwq, rfl⟩, hM1, hI, hUq', hUr', by rw [hv1]; exact hqr'.out, hg1'⟩
    · have e2 : addHi r v1 0 = 1 := by unfold addHi; unfold U at *; omega
      rw [e2]
      have hg2 := hn2 (by omega)
      clear hn2
      generalize addLo r v1 0 = r2 at *
      go_wp2
      go_step3
      rename_i hK
      exact hK _ _ (dv2 ok ⟨j, us, qs, q - 1, r2, hj, by omega, rfl, ⟨rfl, rfl, rfl, rfl, rfl, rfl, rfl, rfl, by first | rfl | exact congrArg (Value.int .u64) hwq, rfl⟩, hM1, hI, hUq', hg1', hg2⟩ (Nat.le_of_lt hm2))
end Go.Proofs.YthjfjpdgjhidfabGreat
