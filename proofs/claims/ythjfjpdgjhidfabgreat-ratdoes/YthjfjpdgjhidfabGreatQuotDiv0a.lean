/- package quot: divide, from the label guess on. -/
import Derived.Test.YthjfjpdgjhidfabGreatQuotDiv1
namespace Go.Proofs.YthjfjpdgjhidfabGreat
open Go.ChangeShapes Go.WideShapes Go.ChangeAt Go.RowKit
open Na Ar
set_option linter.unusedVariables false
namespace Na
theorem Kn.le {P V R v1 v2 uh ul u2 : Int} (h : Kn P V R v1 v2 uh ul u2) (ht : R < V * 18446744073709551616) (hul : 0 ≤ ul) : uh ≤ v1 := by
  have a := h.vhi
  have b := h.rlo
  have p := h.p
  have v2q := h.v2p
  have u2q := h.u2p
  by_cases g : uh ≤ v1
  · exact g
  · exfalso
    have c : (v1 + 1) * 18446744073709551616 * (18446744073709551616 * P) ≤ (uh * 18446744073709551616 + ul) * (18446744073709551616 * P) := Int.mul_le_mul_of_nonneg_right (by omega) (by omega)
    have d : v2 * P + P ≤ 18446744073709551616 * P := by
      have : (v2 + 1) * P ≤ 18446744073709551616 * P := Int.mul_le_mul_of_nonneg_right (by omega) (by omega)
      rw [Int.add_mul, Int.one_mul] at this; exact this
    have e : (v1 + 1) * 18446744073709551616 * (18446744073709551616 * P) = (v1 * (18446744073709551616 * P) + 18446744073709551616 * P) * 18446744073709551616 := by grind
    have f : V * 18446744073709551616 ≤ (v1 * (18446744073709551616 * P) + 18446744073709551616 * P) * 18446744073709551616 := Int.mul_le_mul_of_nonneg_right (by omega) (by omega)
    have g2 : 0 ≤ u2 * P := Int.mul_nonneg u2q (by omega)
    omega
end Na
theorem divGreat_same {h l b : Int} (hb : b ≠ 0) (hh : b ≤ h) (w : World) :
    Calls Tryz.prog 87 #[.int .u64 h, .int .u64 l, .int .u64 b] w fun e w' => e = .returned (.tuple #[.int .u64 0, .int .u64 0, .int .i64 11]) ∧ w' = w := by
  have t : (b == 0) = false := beq_no hb
  go_enter Tryz.func87, Tryz.ntmps87
  go_wp2
  go_ret3
  exact ⟨rfl, rfl⟩
theorem addSameW {a b c : Int} (ha : U a) (hb : U b) (hc : U c) (w : World) :
    Calls Tryz.prog 90 #[.int .u64 a, .int .u64 b, .int .u64 c] w fun e w' => e = .returned (.tuple #[.int .u64 (addLo a b c), .int .u64 (addHi a b c)]) ∧ w' = w := by
  refine (add_any ha hb hc w).mono ?_
  rintro e w' ⟨x, y, rfl, rfl, rfl, rfl⟩
  exact ⟨rfl, rfl⟩
set_option maxHeartbeats 8000000 in
set_option maxRecDepth 100000 in
theorem dv0a {p : DvP} (ok : DvOk p) {N : Nat} {a : Act} {w : World} {j : Nat} {us qs : List Int} {q r : Int} (hj : j ≤ p.J) (hm : dvMeas 0 j q ≤ N) (hf : DvF p j q r a) (hM : DvM p us qs w) (hI : DvI p.U0 p.vs us qs (j + 1)) (hlt : us.getD (j + (p.k + 2)) 0 < p.vs.getD (p.k + 1) 0) :
    (dvTail 0).wp Tryz.prog (jumpsTo (fun l a' w' => ∃ n', n' < N ∧ DvJ p l n' a' w') (bodyPost Tryz.prog Tryz.f65 (DvPost p))) a w := by
  obtain ⟨t, rfl⟩ := dv_frame hf
  clear hf
  have hbig := ok.big
  have hkn := kn_lists (j := j) hI.wu ok.wv ok.lv (by rw [hM.lu]; omega) ok.v1
  have htop := hI.top (n := p.k + 2) (by rw [hM.lu]; omega)
  have gv1 : U (p.vs.getD (p.k + 1) 0) := ok.wv.getAnyB _
  have hv0 := ok.v1
  have guh : U (us.getD (j + (p.k + 2)) 0) := hI.wu.getAnyB _
  have gul : U (us.getD (j + (p.k + 1)) 0) := hI.wu.getAnyB _
  have hle1 := hkn.le htop gul.1
  have c1 := hM.hu.cellAt hM.lu.symm (j := j + (p.k + 2)) (by omega)
  have c2 := hM.hu.cellAt hM.lu.symm (j := j + (p.k + 1)) (by omega)
  have c3 := hM.hv.cellAt ok.lv.symm (j := p.k + 1) (by omega)
  have hmm : ∀ q' : Int, U q' → dvMeas 1 j q' < N := fun q' hq' => by
    refine Nat.lt_of_lt_of_le ?_ hm
    unfold dvMeas; simp only; unfold U at hq'; omega
  have hm2 : ∀ q' : Int, dvMeas 2 j q' < N := fun q' => by
    refine Nat.lt_of_lt_of_le ?_ hm
    unfold dvMeas; simp only; omega
  have hM1 : ∀ w1, Below w.heap.size w w1 → DvM p us qs w1 := fun w1 hg => ⟨hM.hu.later hg, hM.hq.later hg, hM.hv.later hg, hM.hb.trans (hg.mono hM.hb.size), hM.lu, hM.lq⟩
  generalize hv1 : p.vs.getD (p.k + 1) 0 = v1 at *
  generalize huh : us.getD (j + (p.k + 2)) 0 = uh at *
  generalize hul : us.getD (j + (p.k + 1)) 0 = ul at *
  obtain ⟨s, hs⟩ : ∃ s, s = j + (p.k + 2) := ⟨_, rfl⟩
  obtain ⟨s1, hs1⟩ : ∃ s1, s1 = j + (p.k + 1) := ⟨_, rfl⟩
  rw [← hs] at c1
  rw [← hs1] at c2
  have hw : IntKind.i64.wrap ((j : Int) + ((p.k : Int) + 2)) = (s : Int) := by
    rw [IntKind.wrap_i64]; omega
  have hw1 : IntKind.i64.wrap ((s : Int) - 1) = (s1 : Int) := by
    rw [IntKind.wrap_i64]; omega
  have k5 : s < p.J + p.k + 3 := by omega
  have k6 : (s : Int) < (p.J : Int) + (p.k : Int) + 3 := by omega
  have k7 : s1 < p.J + p.k + 3 := by omega
  have k8 : (s1 : Int) < (p.J : Int) + (p.k : Int) + 3 := by omega
  have k9 : IntKind.i64.wrap ((p.k : Int) + 2 - 1) = ((p.k + 1 : Nat) : Int) := by
    rw [IntKind.wrap_i64]; omega
  clear hs hs1
  conv => arg 2; whnf
  have hdv := fun (n : Nat) => div_any guh gul gv1 hv0 hlt (w.drewN n)
  have eqr : divQ uh ul v1 * v1 + divR uh ul v1 = uh * 18446744073709551616 + ul := by
    have := Int.mul_ediv_add_emod (uh * 18446744073709551616 + ul) v1
    unfold divQ divR; rw [Int.mul_comm]; exact this
  have vp : 0 < v1 := by unfold U at gv1; omega
  have hr0 : 0 ≤ divR uh ul v1 ∧ divR uh ul v1 < v1 := ⟨Int.emod_nonneg _ hv0, Int.emod_lt_of_pos _ vp⟩
  have hUr : U (divR uh ul v1) := by unfold U at *; omega
  have hUq : U (divQ uh ul v1) := by
    unfold U at *
    refine ⟨Int.ediv_nonneg (by omega) (by omega), Int.ediv_lt_of_lt_mul vp ?_⟩
    have : (uh + 1) * 18446744073709551616 ≤ v1 * 18446744073709551616 := Int.mul_le_mul_of_nonneg_right (by omega) (by omega)
    rw [Int.mul_comm 18446744073709551616 v1]
    omega
  have hfi := hkn.first hUq.1 eqr hr0.2
  have hmz := hmm _ hUq
  have HEQ : Hid (divQ uh ul v1 * v1 + divR uh ul v1 = uh * 18446744073709551616 + ul) := eqr
  clear eqr hkn
  generalize divQ uh ul v1 = q1 at *
  generalize divR uh ul v1 = r1 at *
  go_wp2_with fail
  go_region_with (go_at_call 87; refine (hdv _).mono ?_; rintro e w3 ⟨rfl, hg3⟩)
  all_goals
    have hM3 := hM1 w3 ((below_drewN (Below.refl _ _) _).trans hg3.2)
    go_wp2
    go_step3
    exact ⟨_, hmz, j, us, qs, q1, r1, hj, by omega, rfl, ⟨rfl, rfl, rfl, rfl, rfl, rfl, rfl, rfl, rfl, rfl⟩, hM3, hI, hUq, hUr, by rw [hv1, huh, hul]; exact HEQ.out, hfi⟩
end Go.Proofs.YthjfjpdgjhidfabGreat
