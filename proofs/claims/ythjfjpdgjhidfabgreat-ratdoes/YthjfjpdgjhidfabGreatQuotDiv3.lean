/- package quot: divide, from the label next on. -/
import Derived.Test.YthjfjpdgjhidfabGreatQuotDivJ
namespace Go.Proofs.YthjfjpdgjhidfabGreat
open Go.ChangeShapes Go.WideShapes Go.ChangeAt Go.RowKit
open Na Ar
set_option linter.unusedVariables false

/-- what divide answers -/
def DvPost (p : DvP) (e : Ending) (w' : World) : Prop := ∃ v1 v2, e = .returned (.tuple #[v1, v2]) ∧ ∃ c1 c2 A R, v1 = .slice (some ⟨p.gq, 0, none⟩) (words A).length c1 ∧ v2 = .slice (some ⟨p.gu, 0, none⟩) (words R).length c2 ∧
  Own .u64 w' p.w0.heap.size 53 v1 (words A) ∧ Own .u64 w' p.w0.heap.size 53 v2 (words R) ∧ Below p.w0.heap.size p.w0 w' ∧ ∃ S, S + num p.vs * A = p.U0 ∧ 0 ≤ S ∧ 0 ≤ A ∧ S < num p.vs ∧ R = S / 2 ^ p.s
set_option maxHeartbeats 3200000 in
set_option maxRecDepth 100000 in
theorem dv3 {p : DvP} (ok : DvOk p) {N m : Nat} {a : Act} {w : World} (h : DvJ p 3 m a w) (hm : m ≤ N) :
    (dvTail 3).wp Tryz.prog (jumpsTo (fun l a' w' => ∃ n', n' < N ∧ DvJ p l n' a' w') (bodyPost Tryz.prog Tryz.f65 (DvPost p))) a w := by
  obtain ⟨j, us, qs, q, r, hj, _, rfl, hf, hM, hW⟩ := h
  obtain ⟨t, rfl⟩ := dv_frame hf
  clear hf
  have hce := hM.hu.cellAt hM.lu.symm (j := j + (p.k + 2)) (by omega)
  have hfz := hM.hu.frozenAt hM.lu.symm (j + (p.k + 2))
  have hu1 := hM.hu.set hM.lu.symm (j + (p.k + 2)) 0
  have hi1 := (In.refl p.gu (p.gu + 1) w).set1 (j + (p.k + 2)) (.int .u64 0)
  have hq1 := hM.hq.inn hi1 ok.qu
  have hcq := hq1.cellAt hM.lq.symm (j := j) (by omega)
  have hfq := hq1.frozenAt hM.lq.symm j
  conv => arg 2; whnf
  have hjk : ((j : Int) + ((p.k : Int) + 2)).toNat = j + (p.k + 2) := by omega
  have hbig := ok.big
  have hq2 := hq1.set hM.lq.symm j q
  have hi2 := (In.refl p.gq (p.gq + 1) (w.setCell ⟨p.gu, j + (p.k + 2), none⟩ (.int .u64 0))).set1 j (.int .u64 q)
  have hu2 := hu1.inn hi2 ok.qu.symm
  have hv2 := (hM.hv.inn hi1 ok.vu).inn hi2 ok.qv.symm
  have hb2 := below_inn (below_inn hM.hb hi1 hM.hu.base_le (Nat.le_refl _)) hi2 hM.hq.base_le (Nat.le_refl _)
  have lu2 : (us.set (j + (p.k + 2)) 0).length = p.J + p.k + 3 := by rw [List.length_set]; exact hM.lu
  have lq2 : (qs.set j q).length = p.J + 1 := by rw [List.length_set]; exact hM.lq
  obtain ⟨hUq, hwus, hI⟩ := hW
  clear hu1 hq1 hi1 hi2 hM
  by_cases hj0 : j = 0
  · have hsum := hI.sum
    have hlow := hI.low
    have hz : Hid (j = 0) := hj0
    rw [hz.out, Int.pow_zero, Int.mul_one, ← hz.out] at hlow
    have hneg : (j : Int) - 1 < 0 := by omega
    clear hj0
    have hwq := hI.wq
    have hwu := hI.wu
    clear hI
    generalize us.set (j + (p.k + 2)) 0 = us2 at *
    generalize qs.set j q = qs2 at *
    have hsd := shiftDown_in hu2 lu2.symm hwu (by omega) ok.s63
    go_wp2_with fail
    refine hsd.mono ?_
    rintro e w3 ⟨rfl, ts, hts, ltn, wts, hnt, hi3⟩
    have hq3 := hq2.inn hi3 ok.qu
    have hb3 := below_inn hb2 hi3 hu2.base_le (Nat.le_refl _)
    have rq := hq3.rowC lq2.symm
    have rt := hts.rowC ltn.symm
    have tq := trimW_any rq hwq (by omega)
    have tt := trimW_any rt wts (by omega)
    have hq4 := hq3
    rw [← lq2] at hq4
    have cq := hq4.cut (words_le hwq)
    rw [words_take hwq, lq2] at cq
    have ht4 := hts
    rw [← ltn] at ht4
    have ct := ht4.cut (words_le wts)
    rw [words_take wts, ltn] at ct
    have n0 := num_nonneg hwu
    have n1 := num_nonneg hwq
    have HF : Hid (∃ S, S + num p.vs * num qs2 = p.U0 ∧ 0 ≤ S ∧ 0 ≤ num qs2 ∧ S < num p.vs ∧ num ts = S / 2 ^ p.s) := ⟨num us2, hsum, n0, n1, hlow, hnt⟩
    clear hsd hq3 hq4 ht4 rq rt hts hsum hlow hnt hi3 hu2 hv2 hb2 hq2 hcq hfq hce hfz
    go_wp2_with fail
    refine tq.mono ?_
    rintro e w4 ⟨rfl, _, _, _, rfl⟩
    go_wp2_with fail
    refine tt.mono ?_
    rintro e w4 ⟨rfl, _, _, _, rfl⟩
    clear tq tt
    go_wp2
    rw [jumpsTo_ret]
    go_ret2
    exact ⟨_, _, rfl, _, _, _, _, rfl, rfl, cq, ct, hb3, HF.out⟩
  · obtain ⟨i, rfl⟩ : ∃ i, j = i + 1 := ⟨j - 1, by omega⟩
    clear hj0
    go_wp2
    go_step3
    refine ⟨dvMeas 0 i q, ?_, i, _, _, q, r, by omega, by omega, rfl, ⟨rfl, rfl, rfl, ?_, rfl, rfl, rfl, rfl, rfl, rfl⟩, ⟨hu2, hq2, hv2, hb2, lu2, lq2⟩, hI⟩
    · refine Nat.lt_of_lt_of_le ?_ hm
      unfold dvMeas
      simp only
      omega
    · exact congrArg (Value.int .i64) (by omega)
end Go.Proofs.YthjfjpdgjhidfabGreat
