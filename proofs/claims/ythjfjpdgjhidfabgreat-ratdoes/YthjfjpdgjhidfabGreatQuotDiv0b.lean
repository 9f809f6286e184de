/- package quot: divide, from the label guess on: the guess is held. -/
import Derived.Test.YthjfjpdgjhidfabGreatQuotDiv0a
namespace Go.Proofs.YthjfjpdgjhidfabGreat
open Go.ChangeShapes Go.WideShapes Go.ChangeAt Go.RowKit
open Na Ar
set_option linter.unusedVariables false
set_option maxHeartbeats 8000000 in
set_option maxRecDepth 100000 in
theorem dv0b {p : DvP} (ok : DvOk p) {N : Nat} {a : Act} {w : World} {j : Nat} {us qs : List Int} {q r : Int} (hj : j ≤ p.J) (hm : dvMeas 0 j q ≤ N) (hf : DvF p j q r a) (hM : DvM p us qs w) (hI : DvI p.U0 p.vs us qs (j + 1)) (hlt : ¬ us.getD (j + (p.k + 2)) 0 < p.vs.getD (p.k + 1) 0) :
    (dvTail 0).wp Tryz.prog (jumpsTo (fun l a' w' => ∃ n', n' < N ∧ DvJ p l n' a' w') (bodyPost Tryz.prog Tryz.f65 (DvPost p))) a w := by
  obtain ⟨t, rfl⟩ := dv_frame hf
  clear hf
  have hbig := ok.big
  have hkn := kn_lists (j := j) hI.wu ok.wv ok.lv (by rw [hM.lu]; omega) ok.v1
  have htop := hI.top (n := p.k + 2) (by rw [hM.lu]; omega)
  have gv1 : U (p.vs.getD (p.k + 1) 0) := ok.wv.getAnyB _
  have hv0 := ok.v1
  have guh : U (us.getD (j + (p.k + 2)) 0) := hI.wu.getAnyB _
  have gul : U (us.getD (j + (p.k + 1)) 0) := hI.wu.getAnyB _
  have hle1 := hkn.le htop gul.1
  have c1 := hM.hu.cellAt hM.lu.symm (j := j + (p.k + 2)) (by omega)
  have c2 := hM.hu.cellAt hM.lu.symm (j := j + (p.k + 1)) (by omega)
  have c3 := hM.hv.cellAt ok.lv.symm (j := p.k + 1) (by omega)
  have hmm : ∀ q' : Int, U q' → dvMeas 1 j q' < N := fun q' hq' => by
    refine Nat.lt_of_lt_of_le ?_ hm
    unfold dvMeas; simp only; unfold U at hq'; omega
  have hm2 : ∀ q' : Int, dvMeas 2 j q' < N := fun q' => by
    refine Nat.lt_of_lt_of_le ?_ hm
    unfold dvMeas; simp only; omega
  have hM1 : ∀ w1, Below w.heap.size w w1 → DvM p us qs w1 := fun w1 hg => ⟨hM.hu.later hg, hM.hq.later hg, hM.hv.later hg, hM.hb.trans (hg.mono hM.hb.size), hM.lu, hM.lq⟩
  generalize hv1 : p.vs.getD (p.k + 1) 0 = v1 at *
  generalize huh : us.getD (j + (p.k + 2)) 0 = uh at *
  generalize hul : us.getD (j + (p.k + 1)) 0 = ul at *
  obtain ⟨s, hs⟩ : ∃ s, s = j + (p.k + 2) := ⟨_, rfl⟩
  obtain ⟨s1, hs1⟩ : ∃ s1, s1 = j + (p.k + 1) := ⟨_, rfl⟩
  rw [← hs] at c1
  rw [← hs1] at c2
  have hw : IntKind.i64.wrap ((j : Int) + ((p.k : Int) + 2)) = (s : Int) := by
    rw [IntKind.wrap_i64]; omega
  have hw1 : IntKind.i64.wrap ((s : Int) - 1) = (s1 : Int) := by
    rw [IntKind.wrap_i64]; omega
  have k5 : s < p.J + p.k + 3 := by omega
  have k6 : (s : Int) < (p.J : Int) + (p.k : Int) + 3 := by omega
  have k7 : s1 < p.J + p.k + 3 := by omega
  have k8 : (s1 : Int) < (p.J : Int) + (p.k : Int) + 3 := by omega
  have k9 : IntKind.i64.wrap ((p.k : Int) + 2 - 1) = ((p.k + 1 : Nat) : Int) := by
    rw [IntKind.wrap_i64]; omega
  clear hs hs1
  conv => arg 2; whnf
  have hdv := fun (w : World) => divGreat_same (l := ul) hv0 (show v1 ≤ uh by omega) w
  have hwe : Hid (uh = v1) := (by omega : uh = v1)
  have hge : v1 ≤ uh := by omega
  clear hle1 hlt
  go_wp2_with fail
  go_quiet ((go_at_call 87; exact Calls.quiet_of_same (hdv _)))
  have hUm : U 18446744073709551615 := by unfold U; omega
  have hfull := fun h => hkn.full (q := 18446744073709551615) (r := ul + v1) (by omega) (by omega) h
  have heq : (18446744073709551615 : Int) * v1 + (ul + v1) = uh * 18446744073709551616 + ul := by rw [hwe.out]; omega
  have hnear := fun h => hkn.near (q := 18446744073709551615) (r := ul + v1) (by omega) (by omega) heq h
  have hg1 : Na.win us j (p.k + 3) < (18446744073709551615 + 1) * num p.vs := by
    have e : (18446744073709551615 + 1 : Int) * num p.vs = num p.vs * 18446744073709551616 := by omega
    rw [e]; exact htop
  have HEQ : Hid ((18446744073709551615 : Int) * v1 + (ul + v1) = uh * 18446744073709551616 + ul) := heq
  have hadd := fun (w : World) => addSameW gul gv1 U_zero w
  have hm1 := hmm _ hUm
  have hm22 := hm2 18446744073709551615
  clear hkn htop heq hmm hm2 hdv
  go_wp2_with fail
  generalize hW : World.drewN w _ = w1
  have c2' : w1.cell? ⟨p.gu, s1, none⟩ = some (.int .u64 ul) := by rw [← hW]; exact c2
  have c3' : w1.cell? ⟨p.gv, p.k + 1, none⟩ = some (.int .u64 v1) := by rw [← hW]; exact c3
  have hM2 : ∀ w2, Below w1.heap.size w1 w2 → DvM p us qs w2 := fun w2 h => hM1 w2 (by rw [← hW] at h; exact (below_drewN (Below.refl _ _) _).trans h)
  clear c1 c2 c3 hM1 hW hM
  by_cases hov : ul + v1 < 18446744073709551616
  · have e1 : addLo ul v1 0 = ul + v1 := by unfold addLo; unfold U at *; omega
    have e2 : addHi ul v1 0 = 0 := by unfold addHi; unfold U at *; omega
    rw [e1, e2] at hadd
    have hUr' : U (ul + v1) := by unfold U at *; omega
    clear hfull hnear e1 e2
    go_quiet ((go_at_call 90; exact Calls.quiet_of_same (hadd _)))
    go_wp2_with fail
    go_step3
    rename_i hK
    exact hK _ _ (dv1 ok ⟨j, us, qs, 18446744073709551615, ul + v1, hj, by omega, rfl, ⟨rfl, rfl, rfl, rfl, rfl, rfl, rfl, rfl, rfl, rfl⟩, hM2 _ (below_drewN (Below.refl _ _) _), hI, hUm, hUr', by rw [hv1, huh, hul]; exact HEQ.out, hg1⟩ (Nat.le_of_lt hm1))
  · have e2 : addHi ul v1 0 = 1 := by unfold addHi; unfold U at *; omega
    have hg2 := hnear (hfull (by omega))
    rw [e2] at hadd
    clear hfull hnear e2
    generalize addLo ul v1 0 = r2 at *
    go_quiet ((go_at_call 90; exact Calls.quiet_of_same (hadd _)))
    go_wp2_with fail
    go_step3
    exact ⟨_, hm22, j, us, qs, 18446744073709551615, r2, hj, by omega, rfl, ⟨rfl, rfl, rfl, rfl, rfl, rfl, rfl, rfl, rfl, rfl⟩, hM2 _ (below_drewN (Below.refl _ _) _), hI, hUm, hg1, hg2⟩
end Go.Proofs.YthjfjpdgjhidfabGreat
