import Derived.Eval
import Derived.Deep.Cut
import Derived.WalkKit
import Derived.ProofKit
import Derived.OpenShut
import Derived.ShutString
import Derived.ChangeOld
import Derived.Below
import Derived.BigQuiet
import Derived.Deep.DeepCutAuto
import Derived.Deep.DeepFit
import Derived.Deep.LoopGhost
import Derived.Deep.QuietTactic
import Derived.Deep.RegionHeld3
import Derived.Deep.RegionWith
import Derived.Defers
import Derived.KernelRfl
import Derived.Laws.BitsAllLaws
import Derived.Laws.CopyRow
import Derived.Laws.EntriesVeiled
import Derived.Laws.IdiomCopy
import Derived.Laws.IdiomRangeMap
import Derived.Orders
import Derived.OwnWalk
import Derived.Recover
import Derived.Scope
import Derived.WalkLawsBesides
import Derived.WalkMore
import Derived.WalkSpells
import Derived.Test.YtienpliknhkbjaaGreatDoorRc14
/- The crossing's numbers with f.D, f.C ahead; Meet's one answer. -/
namespace Go.Proofs.YtienpliknhkbjaaGreatDoor
open Go.ChangeShapes Go.WideShapes Go.ChangeAt Go.RowKit
open Na Ar
set_option linter.unusedVariables false
theorem meet_there {w : World} {a b c d : Int × Int} (ua : U2 a) (ub : U2 b) (uc : U2 c) (ud : U2 d) (fa : fin2 a) (fb : fin2 b) (fc : fin2 c) (fd : fin2 d) (hG : GrVar w) : ∃ M, MtIs a b c d M := by
  have h : Calls Tryz.prog 10 #[.agg #[.int .u64 a.1, .int .u64 a.2], .agg #[.int .u64 b.1, .int .u64 b.2], .agg #[.int .u64 c.1, .int .u64 c.2], .agg #[.int .u64 d.1, .int .u64 d.2]] w (fun | .returned v, _ => ∃ M, MtIs a b c d M | _, _ => False) := by
    refine (Meet23_is ua ub uc ud fa fb fc fd hG).mono ?_
    rintro e w' ⟨M, hM, rfl, _⟩
    exact ⟨M, hM⟩
  obtain ⟨_, _, _, _, _, _, q⟩ := h.done_lone (by kernel_rfl)
  exact q
theorem Meet23_one {w : World} {a b c d : Int × Int} {M : (Int × Bool) × (Int × Int) × (Int × Int)} (ua : U2 a) (ub : U2 b) (uc : U2 c) (ud : U2 d) (fa : fin2 a) (fb : fin2 b) (fc : fin2 c) (fd : fin2 d) (hG : GrVar w) (h : MtIs a b c d M) :
    Calls Tryz.prog 10 #[.agg #[.int .u64 a.1, .int .u64 a.2], .agg #[.int .u64 b.1, .int .u64 b.2], .agg #[.int .u64 c.1, .int .u64 c.2], .agg #[.int .u64 d.1, .int .u64 d.2]] w fun e w' => e = .returned (.tuple #[mtV M, .int .i64 0]) ∧ Below w.heap.size w w' := by
  refine (Meet23_is ua ub uc ud fa fb fc fd hG).mono ?_
  rintro e w' ⟨N, hN, rfl, hb⟩
  have e := h.eq hN rfl (fun _ => ⟨rfl, rfl⟩)
  subst e
  exact ⟨rfl, hb⟩
end Go.Proofs.YtienpliknhkbjaaGreatDoor

/- package seg: a meeting where the lines have one place is that place (pure; for SegCross, TopMeets). -/
namespace Go.Proofs.YtienpliknhkbjaaGreatDoor
open Na Ar
set_option linter.unusedVariables false
/-- where two lines that cross have a place it is the crossing -/
theorem cross_only (v0 v1 v2 v3 v4 v5 v6 v7 px py : Rat) (h : fallR v0 v1 v2 v3 v4 v5 v6 v7 ≠ 0) (h1 : crR v0 v1 v2 v3 px py = 0) (h2 : crR v4 v5 v6 v7 px py = 0) :
    px = xcR v0 v1 v2 v3 v4 v5 v6 v7 ∧ py = ycR v0 v1 v2 v3 v4 v5 v6 v7 := by
  have hs := share_mul v0 v1 v2 v3 v4 v5 v6 v7 h
  constructor
  · refine cancel_to h ?_
    unfold xcR
    generalize shareR v0 v1 v2 v3 v4 v5 v6 v7 = s at *
    have e : fallR v0 v1 v2 v3 v4 v5 v6 v7 * (v0 + (v2 - v0) * s) = fallR v0 v1 v2 v3 v4 v5 v6 v7 * v0 + (v2 - v0) * (s * fallR v0 v1 v2 v3 v4 v5 v6 v7) := by grind
    rw [e, hs]
    unfold fallR crR at *
    grind
  · refine cancel_to h ?_
    unfold ycR
    generalize shareR v0 v1 v2 v3 v4 v5 v6 v7 = s at *
    have e : fallR v0 v1 v2 v3 v4 v5 v6 v7 * (v1 + (v3 - v1) * s) = fallR v0 v1 v2 v3 v4 v5 v6 v7 * v1 + (v3 - v1) * (s * fallR v0 v1 v2 v3 v4 v5 v6 v7) := by grind
    rw [e, hs]
    unfold fallR crR at *
    grind
/-- the crossing lies on both lines -/
theorem cross_on (v0 v1 v2 v3 v4 v5 v6 v7 : Rat) (h : fallR v0 v1 v2 v3 v4 v5 v6 v7 ≠ 0) :
    crR v0 v1 v2 v3 (xcR v0 v1 v2 v3 v4 v5 v6 v7) (ycR v0 v1 v2 v3 v4 v5 v6 v7) = 0 ∧ crR v4 v5 v6 v7 (xcR v0 v1 v2 v3 v4 v5 v6 v7) (ycR v0 v1 v2 v3 v4 v5 v6 v7) = 0 := by
  have hs := share_mul v0 v1 v2 v3 v4 v5 v6 v7 h
  unfold xcR ycR
  generalize shareR v0 v1 v2 v3 v4 v5 v6 v7 = s at *
  unfold fallR at hs
  constructor
  · unfold crR; grind
  · have e : crR v4 v5 v6 v7 (v0 + (v2 - v0) * s) (v1 + (v3 - v1) * s) = crR v4 v5 v6 v7 v0 v1 - s * (crR v4 v5 v6 v7 v0 v1 - crR v4 v5 v6 v7 v2 v3) := by
      unfold crR; grind
    rw [e, hs]
    grind
theorem ends_line {a b c d x : Int × Int} (h : x ∈ endsP a b c d) : crR (vR a.1) (vR a.2) (vR b.1) (vR b.2) (vR x.1) (vR x.2) = 0 ∧ crR (vR c.1) (vR c.2) (vR d.1) (vR d.2) (vR x.1) (vR x.2) = 0 := by
  rw [ends_mem] at h
  rcases h with ⟨h, rfl⟩ | ⟨h, rfl⟩ | ⟨h, rfl⟩ | ⟨h, rfl⟩
  · exact ⟨sgnR_eq0.mp (onP_iff.mp h).1, crR_self _ _ _ _⟩
  · exact ⟨crR_self _ _ _ _, sgnR_eq0.mp (onP_iff.mp h).1⟩
  · exact ⟨sgnR_eq0.mp (onP_iff.mp h).1, crR_end _ _ _ _⟩
  · exact ⟨crR_end _ _ _ _, sgnR_eq0.mp (onP_iff.mp h).1⟩
theorem lohi_line {a b x : Int × Int} (h : crR (vR (loP a b).1) (vR (loP a b).2) (vR (hiP a b).1) (vR (hiP a b).2) (vR x.1) (vR x.2) = 0) : crR (vR a.1) (vR a.2) (vR b.1) (vR b.2) (vR x.1) (vR x.2) = 0 := by
  unfold loP hiP at h
  by_cases s : 0 < orP a b
  · simp only [if_pos s] at h
    rw [crR_turn] at h
    grind
  · simp only [if_neg s] at h
    exact h
theorem lohi_ok {a b : Int × Int} (ha : pOk a) (hb : pOk b) : pOk (loP a b) ∧ pOk (hiP a b) := by
  unfold loP hiP
  by_cases s : 0 < orP a b
  · simp only [if_pos s]; exact ⟨hb, ha⟩
  · simp only [if_neg s]; exact ⟨ha, hb⟩
theorem ends_pOk {a b c d x : Int × Int} (ha : pOk a) (hb : pOk b) (hc : pOk c) (hd : pOk d) (h : x ∈ endsP a b c d) : pOk x := by
  rw [ends_mem] at h
  rcases h with ⟨_, rfl⟩ | ⟨_, rfl⟩ | ⟨_, rfl⟩ | ⟨_, rfl⟩ <;> assumption
theorem vR_inj {r s : Int} (h : rOk r) (h' : rOk s) (e : vR r = vR s) : r = s := by
  rcases Int.lt_trichotomy r s with k | k | k
  · have := vR_lt h h' k; rw [e] at this; exact absurd this (by grind)
  · exact k
  · have := vR_lt h' h k; rw [e] at this; exact absurd this (by grind)
/-- a place's pattern is its number rounded -/
theorem at_round {r v : Int} (h : rOk r) (hv : RnIs (vR r) v) : v = atW r := by
  obtain ⟨E, hv⟩ := hv
  have f := at_fin h
  have e := (round_val f.1 f.2 rfl hv).1
  rw [e]
  unfold wantB
  rw [if_neg ?_]
  by_cases hr : r < 0
  · rw [at_neg h hr]; omega
  · rw [at_pos h (by omega)]; unfold rOk at h; omega
/-- an end that lies on the other stretch is the crossing -/
theorem ends_cross {a b c d : Int × Int} (ua : U2 a) (ub : U2 b) (uc : U2 c) (ud : U2 d) (fa : fin2 a) (fb : fin2 b) (fc : fin2 c) (fd : fin2 d) (hF : fallR (valR a.1) (valR a.2) (valR b.1) (valR b.2) (valR c.1) (valR c.2) (valR d.1) (valR d.2) ≠ 0) : ∀ x, x ∈ endsP (loP (rkP a) (rkP b)) (hiP (rkP a) (rkP b)) (loP (rkP c) (rkP d)) (hiP (rkP c) (rkP d)) → pOk x ∧ vR x.1 = xcR (valR a.1) (valR a.2) (valR b.1) (valR b.2) (valR c.1) (valR c.2) (valR d.1) (valR d.2) ∧ vR x.2 = ycR (valR a.1) (valR a.2) (valR b.1) (valR b.2) (valR c.1) (valR c.2) (valR d.1) (valR d.2) := by
  have ka := rkP_ok ua fa
  have kb := rkP_ok ub fb
  have kc := rkP_ok uc fc
  have kd := rkP_ok ud fd
  have l1 := lohi_ok ka kb
  have l2 := lohi_ok kc kd
  intro x hx
  have e := ends_line hx
  have e1 := lohi_line e.1
  have e2 := lohi_line e.2
  unfold rkP at e1 e2
  simp only at e1 e2
  rw [vR_rk ua.1 fa.1, vR_rk ua.2 fa.2, vR_rk ub.1 fb.1, vR_rk ub.2 fb.2] at e1
  rw [vR_rk uc.1 fc.1, vR_rk uc.2 fc.2, vR_rk ud.1 fd.1, vR_rk ud.2 fd.2] at e2
  exact ⟨ends_pOk l1.1 l1.2 l2.1 l2.2 hx, cross_only _ _ _ _ _ _ _ _ _ _ hF e1 e2⟩
/-- where the lines have one place, and it is no proper meeting -/
theorem mtQ_cross {a b c d : Int × Int} (ua : U2 a) (ub : U2 b) (uc : U2 c) (ud : U2 d) (fa : fin2 a) (fb : fin2 b) (fc : fin2 c) (fd : fin2 d)
    (hF : fallR (valR a.1) (valR a.2) (valR b.1) (valR b.2) (valR c.1) (valR c.2) (valR d.1) (valR d.2) ≠ 0) (hp : (mtQ a b c d).1.2 = false) :
    mtQ a b c d = ((0, false), (0, 0), (0, 0)) ∨ ((mtQ a b c d).1.1 = 1 ∧ (mtQ a b c d).2.2 = (0, 0) ∧ (∀ v, RnIs (xcR (valR a.1) (valR a.2) (valR b.1) (valR b.2) (valR c.1) (valR c.2) (valR d.1) (valR d.2)) v → v = (mtQ a b c d).2.1.1) ∧ (∀ v, RnIs (ycR (valR a.1) (valR a.2) (valR b.1) (valR b.2) (valR c.1) (valR c.2) (valR d.1) (valR d.2)) v → v = (mtQ a b c d).2.1.2)) := by
  have key := ends_cross ua ub uc ud fa fb fc fd hF
  generalize xcR (valR a.1) (valR a.2) (valR b.1) (valR b.2) (valR c.1) (valR c.2) (valR d.1) (valR d.2) = X at *
  generalize ycR (valR a.1) (valR a.2) (valR b.1) (valR b.2) (valR c.1) (valR c.2) (valR d.1) (valR d.2) = Y at *
  unfold mtQ at hp ⊢
  have hpr : ¬ prP (loP (rkP a) (rkP b)) (hiP (rkP a) (rkP b)) (loP (rkP c) (rkP d)) (hiP (rkP c) (rkP d)) := fun k => by
    rw [mtP_proper k] at hp
    cases hp
  cases he : endsP (loP (rkP a) (rkP b)) (hiP (rkP a) (rkP b)) (loP (rkP c) (rkP d)) (hiP (rkP c) (rkP d)) with
  | nil => exact Or.inl (mtP_none ⟨he, hpr⟩)
  | cons m l =>
    rw [he] at key
    have kl := key _ (least_in m l)
    have kg := key _ (great_in m l)
    have eq : leastP m l = greatP m l := by
      have e1 := vR_inj kl.1.1 kg.1.1 (kl.2.1.trans kg.2.1.symm)
      have e2 := vR_inj kl.1.2 kg.1.2 (kl.2.2.trans kg.2.2.symm)
      exact Prod.ext e1 e2
    rw [mtP_one hpr he eq]
    refine Or.inr ⟨rfl, rfl, fun v hv => ?_, fun v hv => ?_⟩
    · rw [← kl.2.1] at hv
      exact at_round kl.1.1 hv
    · rw [← kl.2.2] at hv
      exact at_round kl.1.2 hv
theorem mt_cross {a b c d : Int × Int} {M : (Int × Bool) × (Int × Int) × (Int × Int)} (ua : U2 a) (ub : U2 b) (uc : U2 c) (ud : U2 d) (fa : fin2 a) (fb : fin2 b) (fc : fin2 c) (fd : fin2 d)
    (hF : fallR (valR a.1) (valR a.2) (valR b.1) (valR b.2) (valR c.1) (valR c.2) (valR d.1) (valR d.2) ≠ 0) (h : MtIs a b c d M) :
    M = ((0, false), (0, 0), (0, 0)) ∨ (M.1.1 = 1 ∧ M.2.2 = (0, 0) ∧ (∀ v, RnIs (xcR (valR a.1) (valR a.2) (valR b.1) (valR b.2) (valR c.1) (valR c.2) (valR d.1) (valR d.2)) v → v = M.2.1.1) ∧ (∀ v, RnIs (ycR (valR a.1) (valR a.2) (valR b.1) (valR b.2) (valR c.1) (valR c.2) (valR d.1) (valR d.2)) v → v = M.2.1.2)) := by
  rcases h with ⟨hp, rfl⟩ | ⟨hp, v, u, hv, hu, rfl⟩
  · exact mtQ_cross ua ub uc ud fa fb fc fd hF hp
  · exact Or.inr ⟨rfl, rfl, fun v' h' => rn_one h' hv, fun u' h' => rn_one h' hu⟩
theorem mt_par {a b c d : Int × Int} {M : (Int × Bool) × (Int × Int) × (Int × Int)} (ua : U2 a) (ub : U2 b) (uc : U2 c) (ud : U2 d) (fa : fin2 a) (fb : fin2 b) (fc : fin2 c) (fd : fin2 d)
    (hF : fallR (valR a.1) (valR a.2) (valR b.1) (valR b.2) (valR c.1) (valR c.2) (valR d.1) (valR d.2) = 0) (h : MtIs a b c d M) : M.1.2 = false := by
  rcases h with ⟨hp, rfl⟩ | ⟨hp, _⟩
  · exact hp
  · exact absurd hF (pr_fall ua ub uc ud fa fb fc fd hp)
end Go.Proofs.YtienpliknhkbjaaGreatDoor

/- package seg: a crossing is never too great (pure; for SegCross, TopMeets). -/
namespace Go.Proofs.YtienpliknhkbjaaGreatDoor
open Na Ar
set_option linter.unusedVariables false
theorem fin_le {b : Int} (hu : U b) (hf : ef b ≠ 2047) : - valR mostP ≤ valR b ∧ valR b ≤ valR mostP := by
  have k := rk_ok hu hf
  have hm : mostP = 9218868437227405311 := rfl
  have okM : rOk mostP := by unfold rOk; omega
  have e : vR mostP = valR mostP := by unfold vR; rw [at_pos okM (by omega)]
  have l1 := vR_le okM.neg k (by unfold rOk at k; omega)
  have l2 := vR_le k okM (by unfold rOk at k; omega)
  rw [vR_neg okM, vR_rk hu hf, e] at l1
  rw [vR_rk hu hf, e] at l2
  exact ⟨l1, l2⟩
theorem most_cross {q : Rat} (l : - valR mostP ≤ q) (u : q ≤ valR mostP) : (q.num.natAbs : Int) * e2 1074 ≤ numW mostP * (q.den : Int) := by
  have h0 : (0 : Int) ≤ mostP := by have hm : mostP = 9218868437227405311 := rfl; omega
  have nn := num_nonneg' h0 (Int.le_refl _)
  have p1 := e2_pos 1074
  have c := mkR_cross false nn p1
  rw [← valR_low h0 (Int.le_refl _)] at c
  have e : sg false (numW mostP) = numW mostP := rfl
  rw [e] at c
  clear e
  generalize numW mostP = Nw at *
  generalize e2 1074 = E at *
  generalize valR mostP = M at *
  have dM : (0 : Int) < (M.den : Int) := by have := M.den_pos; omega
  have dq : (0 : Int) < (q.den : Int) := by have := q.den_pos; omega
  have a1 : q.num * (M.den : Int) ≤ M.num * (q.den : Int) := (Rat.le_iff q M).mp u
  have a2 : (-M).num * (q.den : Int) ≤ q.num * ((-M).den : Int) := (Rat.le_iff (-M) q).mp l
  rw [Rat.neg_num, Rat.neg_den] at a2
  have key : ∀ z : Int, z * (M.den : Int) ≤ M.num * (q.den : Int) → z * E ≤ Nw * (q.den : Int) := by
    intro z hz
    refine Int.le_of_mul_le_mul_right ?_ dM
    have h := Int.mul_le_mul_of_nonneg_right hz (Int.le_of_lt p1)
    have e1 : z * (M.den : Int) * E = z * E * (M.den : Int) := by rw [Int.mul_right_comm]
    have e2' : M.num * (q.den : Int) * E = Nw * (q.den : Int) * (M.den : Int) := by
      rw [Int.mul_right_comm, c, Int.mul_right_comm]
    rw [e1, e2'] at h
    exact h
  rcases Int.le_total 0 q.num with h | h
  · rw [Int.natAbs_of_nonneg h]
    exact key _ a1
  · have e : (q.num.natAbs : Int) = -q.num := by omega
    rw [e]
    refine key _ ?_
    rw [Int.neg_mul] at a2 ⊢
    omega
theorem rn_E {q : Rat} {v E : Int} (hr : RoundIs (scA (q.num.natAbs : Int) 0) (scB (q.den : Int) 0) false (decide (q.num < 0)) 0 v E) (l : - valR mostP ≤ q) (u : q ≤ valR mostP) : E = 0 := by
  have k := most_cross l u
  have eB : scB (q.den : Int) 0 = (q.den : Int) := by
    unfold scB
    rw [e2_zero (show -(0 + 1074 : Int) ≤ 0 by omega), Int.mul_one]
  have eA : scA (q.num.natAbs : Int) 0 = (q.num.natAbs : Int) * e2 1074 := by
    unfold scA
    rw [Int.zero_add]
  rw [eA, eB] at hr
  obtain ⟨d, ⟨z0, z1, z2, z3⟩, h⟩ := hr
  rcases h with ⟨_, _, e⟩ | ⟨⟨c1, c2⟩, ⟨e, _, _⟩ | ⟨_, _, e⟩⟩
  · exact e
  · exfalso
    subst e
    apply c1
    rcases agn_no ((q.num.natAbs : Int) * e2 1074) (q.den : Int) (numW mostP) with ⟨t, _⟩ | ⟨_, t⟩ | ⟨t, _⟩
    · omega
    · exact t
    · omega
  · exact e
/-- the two signs of a proper meeting -/
theorem pr_signs {a b c d : Int × Int} (ua : U2 a) (ub : U2 b) (uc : U2 c) (ud : U2 d) (fa : fin2 a) (fb : fin2 b) (fc : fin2 c) (fd : fin2 d) (h : (mtQ a b c d).1.2 = true) :
    sgnR (crR (valR c.1) (valR c.2) (valR d.1) (valR d.2) (valR a.1) (valR a.2)) * sgnR (crR (valR c.1) (valR c.2) (valR d.1) (valR d.2) (valR b.1) (valR b.2)) < 0 := by
  have hp := mt_bool.1.mp h
  have h2 := hp.2
  have e1 := vR_rk ua.1 fa.1
  have e2 := vR_rk ua.2 fa.2
  have e3 := vR_rk ub.1 fb.1
  have e4 := vR_rk ub.2 fb.2
  have e5 := vR_rk uc.1 fc.1
  have e6 := vR_rk uc.2 fc.2
  have e7 := vR_rk ud.1 fd.1
  have e8 := vR_rk ud.2 fd.2
  unfold sdP loP hiP rkP at h2
  by_cases s1 : 0 < orP (rk0 a.1, rk0 a.2) (rk0 b.1, rk0 b.2) <;> by_cases s2 : 0 < orP (rk0 c.1, rk0 c.2) (rk0 d.1, rk0 d.2)
  · simp only [if_pos s1, if_pos s2, e1, e2, e3, e4, e5, e6, e7, e8] at h2
    rw [crR_turn (valR c.1) (valR c.2), crR_turn (valR c.1) (valR c.2), sgnR_neg, sgnR_neg, Int.neg_mul_neg, Int.mul_comm] at h2
    exact h2
  · simp only [if_pos s1, if_neg s2, e1, e2, e3, e4, e5, e6, e7, e8] at h2
    rw [Int.mul_comm] at h2
    exact h2
  · simp only [if_neg s1, if_pos s2, e1, e2, e3, e4, e5, e6, e7, e8] at h2
    rw [crR_turn (valR c.1) (valR c.2), crR_turn (valR c.1) (valR c.2), sgnR_neg, sgnR_neg, Int.neg_mul_neg] at h2
    exact h2
  · simp only [if_neg s1, if_neg s2, e1, e2, e3, e4, e5, e6, e7, e8] at h2
    exact h2
/-- a share between 0 and 1 -/
theorem share_01 (v0 v1 v2 v3 v4 v5 v6 v7 : Rat) (h : sgnR (crR v4 v5 v6 v7 v0 v1) * sgnR (crR v4 v5 v6 v7 v2 v3) < 0) : 0 ≤ shareR v0 v1 v2 v3 v4 v5 v6 v7 ∧ shareR v0 v1 v2 v3 v4 v5 v6 v7 ≤ 1 := by
  have k := unlike (sgnR_in _) (sgnR_in _) h
  have hF : fallR v0 v1 v2 v3 v4 v5 v6 v7 ≠ 0 := by
    unfold fallR
    rcases k with ⟨k1, k2⟩ | ⟨k1, k2⟩
    · have := sgnR_of_pos k1; have := sgnR_of_ng k2; grind
    · have := sgnR_of_ng k1; have := sgnR_of_pos k2; grind
  have hs := share_mul v0 v1 v2 v3 v4 v5 v6 v7 hF
  have hf : fallR v0 v1 v2 v3 v4 v5 v6 v7 = crR v4 v5 v6 v7 v0 v1 - crR v4 v5 v6 v7 v2 v3 := rfl
  generalize shareR v0 v1 v2 v3 v4 v5 v6 v7 = s at *
  generalize fallR v0 v1 v2 v3 v4 v5 v6 v7 = F at *
  generalize crR v4 v5 v6 v7 v0 v1 = P at *
  generalize crR v4 v5 v6 v7 v2 v3 = Q at *
  have fin : ∀ t, t * F = P → s = t := fun t ht => cancel_to hF (by rw [Rat.mul_comm F s, hs, Rat.mul_comm F t, ht])
  rcases k with ⟨k1, k2⟩ | ⟨k1, k2⟩
  · have p := sgnR_of_pos k1
    have n := sgnR_of_ng k2
    obtain ⟨t, t0, t1, ht⟩ := share_num (n := P) (d := F) (by grind) (by grind) (by grind)
    rw [fin t ht]
    exact ⟨t0, t1⟩
  · have p := sgnR_of_ng k1
    have n := sgnR_of_pos k2
    obtain ⟨t, t0, t1, ht⟩ := share_num (n := -P) (d := -F) (by grind) (by grind) (by grind)
    rw [fin t (by grind)]
    exact ⟨t0, t1⟩
theorem cross_le {a b c d : Int × Int} (ua : U2 a) (ub : U2 b) (uc : U2 c) (ud : U2 d) (fa : fin2 a) (fb : fin2 b) (fc : fin2 c) (fd : fin2 d) (h : (mtQ a b c d).1.2 = true) :
    (- valR mostP ≤ xcR (valR a.1) (valR a.2) (valR b.1) (valR b.2) (valR c.1) (valR c.2) (valR d.1) (valR d.2) ∧ xcR (valR a.1) (valR a.2) (valR b.1) (valR b.2) (valR c.1) (valR c.2) (valR d.1) (valR d.2) ≤ valR mostP) ∧ (- valR mostP ≤ ycR (valR a.1) (valR a.2) (valR b.1) (valR b.2) (valR c.1) (valR c.2) (valR d.1) (valR d.2) ∧ ycR (valR a.1) (valR a.2) (valR b.1) (valR b.2) (valR c.1) (valR c.2) (valR d.1) (valR d.2) ≤ valR mostP) := by
  have s := share_01 _ _ _ _ _ _ _ _ (pr_signs ua ub uc ud fa fb fc fd h)
  have a1 := fin_le ua.1 fa.1
  have a2 := fin_le ua.2 fa.2
  have b1 := fin_le ub.1 fb.1
  have b2 := fin_le ub.2 fb.2
  unfold xcR ycR
  generalize shareR (valR a.1) (valR a.2) (valR b.1) (valR b.2) (valR c.1) (valR c.2) (valR d.1) (valR d.2) = t at *
  generalize valR mostP = M at *
  refine ⟨⟨share_in' s.1 s.2 (by rw [Rat.mul_comm]) a1.1 b1.1, share_in s.1 s.2 (by rw [Rat.mul_comm]) a1.2 b1.2⟩, ⟨share_in' s.1 s.2 (by rw [Rat.mul_comm]) a2.1 b2.1, share_in s.1 s.2 (by rw [Rat.mul_comm]) a2.2 b2.2⟩⟩
theorem vR_most {r : Int} (k : rOk r) : - valR mostP ≤ vR r ∧ vR r ≤ valR mostP := by
  have hm : mostP = 9218868437227405311 := rfl
  have okM : rOk mostP := by unfold rOk; omega
  have e : vR mostP = valR mostP := by unfold vR; rw [at_pos okM (by omega)]
  have l1 := vR_le okM.neg k (by unfold rOk at k; omega)
  have l2 := vR_le k okM (by unfold rOk at k; omega)
  rw [vR_neg okM, e] at l1
  rw [e] at l2
  exact ⟨l1, l2⟩
theorem mtQ_num {a b c d : Int × Int} (ua : U2 a) (ub : U2 b) (uc : U2 c) (ud : U2 d) (fa : fin2 a) (fb : fin2 b) (fc : fin2 c) (fd : fin2 d) (hF : fallR (valR a.1) (valR a.2) (valR b.1) (valR b.2) (valR c.1) (valR c.2) (valR d.1) (valR d.2) ≠ 0) (hp : (mtQ a b c d).1.2 = false) (hM : (mtQ a b c d).1.1 ≠ 0) :
    (- valR mostP ≤ xcR (valR a.1) (valR a.2) (valR b.1) (valR b.2) (valR c.1) (valR c.2) (valR d.1) (valR d.2) ∧ xcR (valR a.1) (valR a.2) (valR b.1) (valR b.2) (valR c.1) (valR c.2) (valR d.1) (valR d.2) ≤ valR mostP) ∧ (- valR mostP ≤ ycR (valR a.1) (valR a.2) (valR b.1) (valR b.2) (valR c.1) (valR c.2) (valR d.1) (valR d.2) ∧ ycR (valR a.1) (valR a.2) (valR b.1) (valR b.2) (valR c.1) (valR c.2) (valR d.1) (valR d.2) ≤ valR mostP) := by
  have key := ends_cross ua ub uc ud fa fb fc fd hF
  unfold mtQ at hp hM
  have hpr : ¬ prP (loP (rkP a) (rkP b)) (hiP (rkP a) (rkP b)) (loP (rkP c) (rkP d)) (hiP (rkP c) (rkP d)) := fun k => by
    rw [mtP_proper k] at hp
    cases hp
  cases he : endsP (loP (rkP a) (rkP b)) (hiP (rkP a) (rkP b)) (loP (rkP c) (rkP d)) (hiP (rkP c) (rkP d)) with
  | nil => rw [mtP_none ⟨he, hpr⟩] at hM; exact absurd rfl hM
  | cons m l =>
    rw [he] at key
    have k := key m (by simp)
    rw [← k.2.1, ← k.2.2]
    exact ⟨vR_most k.1.1, vR_most k.1.2⟩
/-- where the meeting is one place its point is the crossing rounded, without an error -/
theorem mt_round {a b c d : Int × Int} {M : (Int × Bool) × (Int × Int) × (Int × Int)} {v u E E' : Int} (ua : U2 a) (ub : U2 b) (uc : U2 c) (ud : U2 d) (fa : fin2 a) (fb : fin2 b) (fc : fin2 c) (fd : fin2 d)
    (hF : fallR (valR a.1) (valR a.2) (valR b.1) (valR b.2) (valR c.1) (valR c.2) (valR d.1) (valR d.2) ≠ 0) (h : MtIs a b c d M) (hM : M.1.1 ≠ 0)
    (hv : RoundIs (scA ((xcR (valR a.1) (valR a.2) (valR b.1) (valR b.2) (valR c.1) (valR c.2) (valR d.1) (valR d.2)).num.natAbs : Int) 0) (scB ((xcR (valR a.1) (valR a.2) (valR b.1) (valR b.2) (valR c.1) (valR c.2) (valR d.1) (valR d.2)).den : Int) 0) false (decide ((xcR (valR a.1) (valR a.2) (valR b.1) (valR b.2) (valR c.1) (valR c.2) (valR d.1) (valR d.2)).num < 0)) 0 v E)
    (hu : RoundIs (scA ((ycR (valR a.1) (valR a.2) (valR b.1) (valR b.2) (valR c.1) (valR c.2) (valR d.1) (valR d.2)).num.natAbs : Int) 0) (scB ((ycR (valR a.1) (valR a.2) (valR b.1) (valR b.2) (valR c.1) (valR c.2) (valR d.1) (valR d.2)).den : Int) 0) false (decide ((ycR (valR a.1) (valR a.2) (valR b.1) (valR b.2) (valR c.1) (valR c.2) (valR d.1) (valR d.2)).num < 0)) 0 u E') :
    M.1.1 = 1 ∧ v = M.2.1.1 ∧ u = M.2.1.2 ∧ E = 0 ∧ E' = 0 := by
  rcases mt_cross ua ub uc ud fa fb fc fd hF h with e | ⟨e1, e2', e3, e4⟩
  · rw [e] at hM; exact absurd rfl hM
  · have p1 := e3 v ⟨E, hv⟩
    have p2 := e4 u ⟨E', hu⟩
    rcases h with ⟨hp, rfl⟩ | ⟨hp, _⟩
    · -- an end
      have ka := rkP_ok ua fa
      have kb := rkP_ok ub fb
      have kc := rkP_ok uc fc
      have kd := rkP_ok ud fd
      obtain ⟨g1, g2⟩ := mtQ_num ua ub uc ud fa fb fc fd hF hp hM
      exact ⟨e1, p1, p2, rn_E hv g1.1 g1.2, rn_E hu g2.1 g2.2⟩
    · have l := cross_le ua ub uc ud fa fb fc fd hp
      exact ⟨e1, p1, p2, rn_E hv l.1.1 l.1.2, rn_E hu l.2.1 l.2.2⟩
end Go.Proofs.YtienpliknhkbjaaGreatDoor

/- plumblaw23: side: twice the area of the triangle a, b and a place (written by gensgcc.py). -/
namespace Go.Proofs.YtienpliknhkbjaaGreatDoor
open Go.ChangeShapes Go.WideShapes Go.ChangeAt Go.RowKit
open Na Ar
set_option linter.unusedVariables false
theorem pb_duo {w : World} {g : Nat} {t : TypeId} {x0 x1 : Value} (h : Pb w g t #[x0, x1]) : w.cell? ⟨g, 0, none⟩ = some x0 ∧ w.cell? ⟨g, 1, none⟩ = some x1 := ⟨h.cell 0 rfl, h.cell 1 rfl⟩
set_option maxHeartbeats 12800000 in
set_option maxRecDepth 100000 in
theorem side23_law {w : World} {a b : Int × Int} {s1 s2 : Bool} {a1 b1 a2 b2 : Option Addr} {n1 c1 m1 d1 n2 c2 m2 d2 K : Nat} {X Y : Rat} (ua : U2 a) (ub : U2 b) (fa : fin2 a) (fb : fin2 b) (h1 : Rt w s1 a1 n1 c1 b1 m1 d1 X) (h2 : Rt w s2 a2 n2 c2 b2 m2 d2 Y) (z1 : Sz X K) (z2 : Sz Y K) (hK : K + K + 125 ≤ 4096) :
    Calls Tryz.prog 19 #[.agg #[.int .u64 a.1, .int .u64 a.2], .agg #[.int .u64 b.1, .int .u64 b.2], .agg #[.bool s1, .slice a1 n1 c1, .slice b1 m1 d1], .agg #[.bool s2, .slice a2 n2 c2, .slice b2 m2 d2]] w fun e w' => ∃ s a' n c b' m d, e = .returned (.tuple #[.agg #[.bool s, .slice a' n c, .slice b' m d], .bool true]) ∧ RtO w' w.heap.size s (.slice a' n c) (.slice b' m d) (crR (valR a.1) (valR a.2) (valR b.1) (valR b.2) X Y) ∧ Sz (crR (valR a.1) (valR a.2) (valR b.1) (valR b.2) X Y) (K + K + 125) ∧ Below w.heap.size w w' := by
  obtain ⟨ax, ay⟩ := a
  obtain ⟨bx, by'⟩ := b
  obtain ⟨uax, uay⟩ := ua
  obtain ⟨ubx, uby⟩ := ub
  obtain ⟨fax, fay⟩ := fa
  obtain ⟨fbx, fby⟩ := fb
  simp only at uax uay ubx uby fax fay fbx fby ⊢
  have zax := value_size uax fax
  have zay := value_size uay fay
  have zbx := value_size ubx fbx
  have zby := value_size uby fby
  obtain ⟨w0, hw0⟩ : ∃ w0, w0 = ((((w.alloc (.cells #[.int .u64 ax, .int .u64 ay] 24)).alloc (.cells #[.int .u64 bx, .int .u64 by'] 24)).alloc (.cells #[.bool s1, .slice a1 n1 c1, .slice b1 m1 d1] 45)).alloc (.cells #[.bool s2, .slice a2 n2 c2, .slice b2 m2 d2] 45)).alloc (.cells #[.bool false, .slice none 0 0, .slice none 0 0] 45) := ⟨_, rfl⟩
  obtain ⟨Na, Nb, Nx, Ny, No, hb0, e0⟩ : Pb w0 (w.heap.size) 24 #[.int .u64 ax, .int .u64 ay] ∧ Pb w0 (w.heap.size + 1) 24 #[.int .u64 bx, .int .u64 by'] ∧ Pb w0 (w.heap.size + 1 + 1) 45 #[.bool s1, .slice a1 n1 c1, .slice b1 m1 d1] ∧ Pb w0 (w.heap.size + 1 + 1 + 1) 45 #[.bool s2, .slice a2 n2 c2, .slice b2 m2 d2] ∧ Pb w0 (w.heap.size + 1 + 1 + 1 + 1) 45 #[.bool false, .slice none 0 0, .slice none 0 0] ∧ Below w.heap.size w w0 ∧ w0.heap.size = w.heap.size + 1 + 1 + 1 + 1 + 1 := by
    subst hw0
    exact pb_5 _ _ _ _ _ _ _ _ _ _ _
  obtain ⟨g, hg⟩ : ∃ g, g = w.heap.size := ⟨_, rfl⟩
  have HG : Hid (w.heap.size = g) := hg.symm
  have h1 := h1.later hb0
  have h2 := h2.later hb0
  rw [← hg] at Na Nb Nx Ny No hb0 e0
  have HGG : Hid (Below g w w0) := hb0
  have ho : g + 1 + 1 + 1 + 1 < w0.heap.size := by omega
  have HW : Hid (w0 = ((((w.alloc (.cells #[.int .u64 ax, .int .u64 ay] 24)).alloc (.cells #[.int .u64 bx, .int .u64 by'] 24)).alloc (.cells #[.bool s1, .slice a1 n1 c1, .slice b1 m1 d1] 45)).alloc (.cells #[.bool s2, .slice a2 n2 c2, .slice b2 m2 d2] 45)).alloc (.cells #[.bool false, .slice none 0 0, .slice none 0 0] 45)) := hw0
  clear e0 hb0 hw0
  go_enter Tryz.func19, Tryz.ntmps19
  go_upto_region 1 with fail
  rw [← HW.out, ← hg]
  clear HW hg
  obtain ⟨lda0, lda1⟩ := pb_duo Na
  go_wp2_with fail
  refine (nearValue_fin uax fax w0).mono ?_
  rintro ek wk1 ⟨sp, vp1, vp2, rfl, hRp, hbp⟩
  clear lda0 lda1
  obtain ⟨awp, np, cp, bp, mp, dp, rfl, rfl, _⟩ := hRp.opens
  have qp := hRp.rt22
  have alp := alloc_below (w := wk1) (.cells #[.bool sp, .slice awp np cp, .slice bp mp dp] 45)
  have Np := Pb.new wk1 45 #[.bool sp, .slice awp np cp, .slice bp mp dp]
  replace Na := (Na.later hbp).later alp
  replace Nb := (Nb.later hbp).later alp
  replace Nx := (Nx.later hbp).later alp
  replace Ny := (Ny.later hbp).later alp
  replace No := (No.later hbp).later alp
  replace h1 := (h1.later hbp).later alp
  replace h2 := (h2.later hbp).later alp
  have HB2 := HGG.out.trans ((hbp.trans (alp.mono hbp.size)).mono (by have := HGG.out.size; have := HG.out; omega))
  replace HGG : Hid _ := HB2
  clear HB2
  have Rp := (qp).later alp
  clear alp hbp
  clear hRp qp
  obtain ⟨lda0, lda1⟩ := pb_duo Na
  go_wp2_with fail
  generalize wk1.alloc (.cells #[.bool sp, .slice awp np cp, .slice bp mp dp] 45) = wk1' at *
  refine (nearValue_fin uay fay wk1').mono ?_
  rintro ek wk3 ⟨sq, vq1, vq2, rfl, hRq, hbq⟩
  clear lda0 lda1
  obtain ⟨awq, nq, cq, bq, mq, dq, rfl, rfl, _⟩ := hRq.opens
  have qq := hRq.rt22
  have alq := alloc_below (w := wk3) (.cells #[.bool sq, .slice awq nq cq, .slice bq mq dq] 45)
  have Nq := Pb.new wk3 45 #[.bool sq, .slice awq nq cq, .slice bq mq dq]
  replace Na := (Na.later hbq).later alq
  replace Nb := (Nb.later hbq).later alq
  replace Nx := (Nx.later hbq).later alq
  replace Ny := (Ny.later hbq).later alq
  replace No := (No.later hbq).later alq
  replace Np := (Np.later hbq).later alq
  replace h1 := (h1.later hbq).later alq
  replace h2 := (h2.later hbq).later alq
  replace Rp := (Rp.later hbq).later alq
  have HB4 := HGG.out.trans ((hbq.trans (alq.mono hbq.size)).mono (by have := HGG.out.size; have := HG.out; omega))
  replace HGG : Hid _ := HB4
  clear HB4
  have Rq := (qq).later alq
  clear alq hbq
  clear hRq qq
  obtain ⟨ldb0, ldb1⟩ := pb_duo Nb
  go_wp2_with fail
  generalize wk3.alloc (.cells #[.bool sq, .slice awq nq cq, .slice bq mq dq] 45) = wk3' at *
  refine (nearValue_fin ubx fbx wk3').mono ?_
  rintro ek wk5 ⟨sr, vr1, vr2, rfl, hRr, hbr⟩
  clear ldb0 ldb1
  obtain ⟨awr, nr, cr, br, mr, dr, rfl, rfl, _⟩ := hRr.opens
  have qr := hRr.rt22
  have alr := alloc_below (w := wk5) (.cells #[.bool sr, .slice awr nr cr, .slice br mr dr] 45)
  have Nr := Pb.new wk5 45 #[.bool sr, .slice awr nr cr, .slice br mr dr]
  replace Na := (Na.later hbr).later alr
  replace Nb := (Nb.later hbr).later alr
  replace Nx := (Nx.later hbr).later alr
  replace Ny := (Ny.later hbr).later alr
  replace No := (No.later hbr).later alr
  replace Np := (Np.later hbr).later alr
  replace Nq := (Nq.later hbr).later alr
  replace h1 := (h1.later hbr).later alr
  replace h2 := (h2.later hbr).later alr
  replace Rp := (Rp.later hbr).later alr
  replace Rq := (Rq.later hbr).later alr
  have HB6 := HGG.out.trans ((hbr.trans (alr.mono hbr.size)).mono (by have := HGG.out.size; have := HG.out; omega))
  replace HGG : Hid _ := HB6
  clear HB6
  have Rr := (qr).later alr
  clear alr hbr
  clear hRr qr
  obtain ⟨ldb0, ldb1⟩ := pb_duo Nb
  go_wp2_with fail
  generalize wk5.alloc (.cells #[.bool sr, .slice awr nr cr, .slice br mr dr] 45) = wk5' at *
  refine (nearValue_fin uby fby wk5').mono ?_
  rintro ek wk7 ⟨st, vt1, vt2, rfl, hRt, hbt⟩
  clear ldb0 ldb1
  obtain ⟨awt, nt, ct, bt, mt, dt, rfl, rfl, _⟩ := hRt.opens
  have qt := hRt.rt22
  have alt := alloc_below (w := wk7) (.cells #[.bool st, .slice awt nt ct, .slice bt mt dt] 45)
  have Nt := Pb.new wk7 45 #[.bool st, .slice awt nt ct, .slice bt mt dt]
  replace Na := (Na.later hbt).later alt
  replace Nb := (Nb.later hbt).later alt
  replace Nx := (Nx.later hbt).later alt
  replace Ny := (Ny.later hbt).later alt
  replace No := (No.later hbt).later alt
  replace Np := (Np.later hbt).later alt
  replace Nq := (Nq.later hbt).later alt
  replace Nr := (Nr.later hbt).later alt
  replace h1 := (h1.later hbt).later alt
  replace h2 := (h2.later hbt).later alt
  replace Rp := (Rp.later hbt).later alt
  replace Rq := (Rq.later hbt).later alt
  replace Rr := (Rr.later hbt).later alt
  have HB8 := HGG.out.trans ((hbt.trans (alt.mono hbt.size)).mono (by have := HGG.out.size; have := HG.out; omega))
  replace HGG : Hid _ := HB8
  clear HB8
  have Rt := (qt).later alt
  clear alt hbt
  clear hRt qt
  obtain ⟨ldr0, ldr1, ldr2⟩ := pb_tri Nr
  obtain ⟨ldp0, ldp1, ldp2⟩ := pb_tri Np
  go_wp2_with fail
  generalize wk7.alloc (.cells #[.bool st, .slice awt nt ct, .slice bt mt dt] 45) = wk7' at *
  refine (rSub_ok (w := wk7') Rr Rp zbx zax (by omega)).mono ?_
  rintro ek wk9 ⟨se, ve1, ve2, rfl, hRe, ze, hbe⟩
  clear ldr0 ldr1 ldr2 ldp0 ldp1 ldp2
  obtain ⟨awe, ne, ce, be, me, de, rfl, rfl, _⟩ := hRe.opens
  have qe := hRe.rt22
  have ale := alloc_below (w := wk9) (.cells #[.bool se, .slice awe ne ce, .slice be me de] 45)
  have Ne := Pb.new wk9 45 #[.bool se, .slice awe ne ce, .slice be me de]
  replace Na := (Na.later hbe).later ale
  replace Nb := (Nb.later hbe).later ale
  replace Nx := (Nx.later hbe).later ale
  replace Ny := (Ny.later hbe).later ale
  replace No := (No.later hbe).later ale
  replace Np := (Np.later hbe).later ale
  replace Nq := (Nq.later hbe).later ale
  replace Nr := (Nr.later hbe).later ale
  replace Nt := (Nt.later hbe).later ale
  replace h1 := (h1.later hbe).later ale
  replace h2 := (h2.later hbe).later ale
  replace Rp := (Rp.later hbe).later ale
  replace Rq := (Rq.later hbe).later ale
  replace Rr := (Rr.later hbe).later ale
  replace Rt := (Rt.later hbe).later ale
  have HB10 := HGG.out.trans ((hbe.trans (ale.mono hbe.size)).mono (by have := HGG.out.size; have := HG.out; omega))
  replace HGG : Hid _ := HB10
  clear HB10
  have Re := (qe).later ale
  clear ale hbe
  clear hRe qe
  obtain ⟨ldt0, ldt1, ldt2⟩ := pb_tri Nt
  obtain ⟨ldq0, ldq1, ldq2⟩ := pb_tri Nq
  go_wp2_with fail
  generalize wk9.alloc (.cells #[.bool se, .slice awe ne ce, .slice be me de] 45) = wk9' at *
  refine (rSub_ok (w := wk9') Rt Rq zby zay (by omega)).mono ?_
  rintro ek wk11 ⟨sf, vf1, vf2, rfl, hRf, zf, hbf⟩
  clear ldt0 ldt1 ldt2 ldq0 ldq1 ldq2
  obtain ⟨awf, nf, cf, bf, mf, df, rfl, rfl, _⟩ := hRf.opens
  have qf := hRf.rt22
  have alf := alloc_below (w := wk11) (.cells #[.bool sf, .slice awf nf cf, .slice bf mf df] 45)
  have Nf := Pb.new wk11 45 #[.bool sf, .slice awf nf cf, .slice bf mf df]
  replace Na := (Na.later hbf).later alf
  replace Nb := (Nb.later hbf).later alf
  replace Nx := (Nx.later hbf).later alf
  replace Ny := (Ny.later hbf).later alf
  replace No := (No.later hbf).later alf
  replace Np := (Np.later hbf).later alf
  replace Nq := (Nq.later hbf).later alf
  replace Nr := (Nr.later hbf).later alf
  replace Nt := (Nt.later hbf).later alf
  replace Ne := (Ne.later hbf).later alf
  replace h1 := (h1.later hbf).later alf
  replace h2 := (h2.later hbf).later alf
  replace Rp := (Rp.later hbf).later alf
  replace Rq := (Rq.later hbf).later alf
  replace Rr := (Rr.later hbf).later alf
  replace Rt := (Rt.later hbf).later alf
  replace Re := (Re.later hbf).later alf
  have HB12 := HGG.out.trans ((hbf.trans (alf.mono hbf.size)).mono (by have := HGG.out.size; have := HG.out; omega))
  replace HGG : Hid _ := HB12
  clear HB12
  have Rf := (qf).later alf
  clear alf hbf
  clear hRf qf
  obtain ⟨ldx0, ldx1, ldx2⟩ := pb_tri Nx
  obtain ⟨ldp0, ldp1, ldp2⟩ := pb_tri Np
  go_wp2_with fail
  generalize wk11.alloc (.cells #[.bool sf, .slice awf nf cf, .slice bf mf df] 45) = wk11' at *
  refine (rSub_ok (w := wk11') h1 Rp z1 zax (by omega)).mono ?_
  rintro ek wk13 ⟨sk, vk1, vk2, rfl, hRk, zk, hbk⟩
  clear ldx0 ldx1 ldx2 ldp0 ldp1 ldp2
  obtain ⟨awk, nk, ck, bk, mk, dk, rfl, rfl, _⟩ := hRk.opens
  have qk := hRk.rt22
  have alk := alloc_below (w := wk13) (.cells #[.bool sk, .slice awk nk ck, .slice bk mk dk] 45)
  have Nk := Pb.new wk13 45 #[.bool sk, .slice awk nk ck, .slice bk mk dk]
  replace Na := (Na.later hbk).later alk
  replace Nb := (Nb.later hbk).later alk
  replace Nx := (Nx.later hbk).later alk
  replace Ny := (Ny.later hbk).later alk
  replace No := (No.later hbk).later alk
  replace Np := (Np.later hbk).later alk
  replace Nq := (Nq.later hbk).later alk
  replace Nr := (Nr.later hbk).later alk
  replace Nt := (Nt.later hbk).later alk
  replace Ne := (Ne.later hbk).later alk
  replace Nf := (Nf.later hbk).later alk
  replace h1 := (h1.later hbk).later alk
  replace h2 := (h2.later hbk).later alk
  replace Rp := (Rp.later hbk).later alk
  replace Rq := (Rq.later hbk).later alk
  replace Rr := (Rr.later hbk).later alk
  replace Rt := (Rt.later hbk).later alk
  replace Re := (Re.later hbk).later alk
  replace Rf := (Rf.later hbk).later alk
  have HB14 := HGG.out.trans ((hbk.trans (alk.mono hbk.size)).mono (by have := HGG.out.size; have := HG.out; omega))
  replace HGG : Hid _ := HB14
  clear HB14
  have Rk := (qk).later alk
  clear alk hbk
  clear hRk qk
  obtain ⟨ldy0, ldy1, ldy2⟩ := pb_tri Ny
  obtain ⟨ldq0, ldq1, ldq2⟩ := pb_tri Nq
  go_wp2_with fail
  generalize wk13.alloc (.cells #[.bool sk, .slice awk nk ck, .slice bk mk dk] 45) = wk13' at *
  refine (rSub_ok (w := wk13') h2 Rq z2 zay (by omega)).mono ?_
  rintro ek wk15 ⟨sl, vl1, vl2, rfl, hRl, zl, hbl⟩
  clear ldy0 ldy1 ldy2 ldq0 ldq1 ldq2
  obtain ⟨awl, nl, cl, bl, ml, dl, rfl, rfl, _⟩ := hRl.opens
  have ql := hRl.rt22
  have all := alloc_below (w := wk15) (.cells #[.bool sl, .slice awl nl cl, .slice bl ml dl] 45)
  have Nl := Pb.new wk15 45 #[.bool sl, .slice awl nl cl, .slice bl ml dl]
  replace Na := (Na.later hbl).later all
  replace Nb := (Nb.later hbl).later all
  replace Nx := (Nx.later hbl).later all
  replace Ny := (Ny.later hbl).later all
  replace No := (No.later hbl).later all
  replace Np := (Np.later hbl).later all
  replace Nq := (Nq.later hbl).later all
  replace Nr := (Nr.later hbl).later all
  replace Nt := (Nt.later hbl).later all
  replace Ne := (Ne.later hbl).later all
  replace Nf := (Nf.later hbl).later all
  replace Nk := (Nk.later hbl).later all
  replace h1 := (h1.later hbl).later all
  replace h2 := (h2.later hbl).later all
  replace Rp := (Rp.later hbl).later all
  replace Rq := (Rq.later hbl).later all
  replace Rr := (Rr.later hbl).later all
  replace Rt := (Rt.later hbl).later all
  replace Re := (Re.later hbl).later all
  replace Rf := (Rf.later hbl).later all
  replace Rk := (Rk.later hbl).later all
  have HB16 := HGG.out.trans ((hbl.trans (all.mono hbl.size)).mono (by have := HGG.out.size; have := HG.out; omega))
  replace HGG : Hid _ := HB16
  clear HB16
  have Rl := (ql).later all
  clear all hbl
  clear hRl ql
  clear Na Nb Nx Ny Np Nq Nr Nt Rp Rq Rr Rt h1 h2
  obtain ⟨lde0, lde1, lde2⟩ := pb_tri Ne
  obtain ⟨ldl0, ldl1, ldl2⟩ := pb_tri Nl
  go_wp2_with fail
  generalize wk15.alloc (.cells #[.bool sl, .slice awl nl cl, .slice bl ml dl] 45) = wk15' at *
  refine (rMul_ok (w := wk15') Re Rl ze zl (by omega)).mono ?_
  rintro ek wk17 ⟨su, vu1, vu2, rfl, hRu, zu, hbu⟩
  clear lde0 lde1 lde2 ldl0 ldl1 ldl2
  obtain ⟨awu, nu, cu, bu, mu, du, rfl, rfl, _⟩ := hRu.opens
  have qu := hRu.rt22
  have alu := alloc_below (w := wk17) (.cells #[.bool su, .slice awu nu cu, .slice bu mu du] 45)
  have Nu := Pb.new wk17 45 #[.bool su, .slice awu nu cu, .slice bu mu du]
  replace No := (No.later hbu).later alu
  replace Ne := (Ne.later hbu).later alu
  replace Nf := (Nf.later hbu).later alu
  replace Nk := (Nk.later hbu).later alu
  replace Nl := (Nl.later hbu).later alu
  replace Re := (Re.later hbu).later alu
  replace Rf := (Rf.later hbu).later alu
  replace Rk := (Rk.later hbu).later alu
  replace Rl := (Rl.later hbu).later alu
  have HB18 := HGG.out.trans ((hbu.trans (alu.mono hbu.size)).mono (by have := HGG.out.size; have := HG.out; omega))
  replace HGG : Hid _ := HB18
  clear HB18
  have Ru := (qu).later alu
  clear alu hbu
  clear hRu qu
  obtain ⟨ldf0, ldf1, ldf2⟩ := pb_tri Nf
  obtain ⟨ldk0, ldk1, ldk2⟩ := pb_tri Nk
  go_wp2_with fail
  generalize wk17.alloc (.cells #[.bool su, .slice awu nu cu, .slice bu mu du] 45) = wk17' at *
  refine (rMul_ok (w := wk17') Rf Rk zf zk (by omega)).mono ?_
  rintro ek wk19 ⟨sv, vv1, vv2, rfl, hRv, zv, hbv⟩
  clear ldf0 ldf1 ldf2 ldk0 ldk1 ldk2
  obtain ⟨awv, nv, cv, bv, mv, dv, rfl, rfl, _⟩ := hRv.opens
  have qv := hRv.rt22
  have alv := alloc_below (w := wk19) (.cells #[.bool sv, .slice awv nv cv, .slice bv mv dv] 45)
  have Nv := Pb.new wk19 45 #[.bool sv, .slice awv nv cv, .slice bv mv dv]
  replace No := (No.later hbv).later alv
  replace Ne := (Ne.later hbv).later alv
  replace Nf := (Nf.later hbv).later alv
  replace Nk := (Nk.later hbv).later alv
  replace Nl := (Nl.later hbv).later alv
  replace Nu := (Nu.later hbv).later alv
  replace Re := (Re.later hbv).later alv
  replace Rf := (Rf.later hbv).later alv
  replace Rk := (Rk.later hbv).later alv
  replace Rl := (Rl.later hbv).later alv
  replace Ru := (Ru.later hbv).later alv
  have HB20 := HGG.out.trans ((hbv.trans (alv.mono hbv.size)).mono (by have := HGG.out.size; have := HG.out; omega))
  replace HGG : Hid _ := HB20
  clear HB20
  have Rv := (qv).later alv
  clear alv hbv
  clear hRv qv
  clear Ne Nf Nk Nl Re Rf Rk Rl
  obtain ⟨ldu0, ldu1, ldu2⟩ := pb_tri Nu
  obtain ⟨ldv0, ldv1, ldv2⟩ := pb_tri Nv
  go_wp2_with fail
  generalize wk19.alloc (.cells #[.bool sv, .slice awv nv cv, .slice bv mv dv] 45) = wk19' at *
  refine (rSub_ok (w := wk19') Ru Rv zu zv (by omega)).mono ?_
  rintro ek wk21 ⟨sz, vz1, vz2, rfl, hRz, zz, hbz⟩
  clear ldu0 ldu1 ldu2 ldv0 ldv1 ldv2
  obtain ⟨az, nz, cz, bz, mz, dz, rfl, rfl, _⟩ := hRz.opens
  have nlt := No.lt
  have No' := No.later hbz
  have alz := alloc_below (w := wk21) (.cells #[.bool sz, .slice az nz cz, .slice bz mz dz] 45)
  have Nz := Pb.new wk21 45 #[.bool sz, .slice az nz cz, .slice bz mz dz]
  have No := No'.later alz
  have gl : g ≤ wk19'.heap.size := by have := HGG.out.size; have := HG.out; omega
  have szz := hbz.size
  have HBz : Hid _ := HGG.out.trans ((hbz.trans (alz.mono hbz.size)).mono gl)
  have hRz := hRz.later alz
  obtain ⟨y0, y1, y2⟩ := pb_tri Nz
  obtain ⟨x0, x1, x2⟩ := pb_tri No
  obtain ⟨f0, f1, f2⟩ := three_free No 0
  have ne : g + 1 + 1 + 1 + 1 < wk21.heap.size := No'.lt
  clear Nu Nv Ru Rv No' alz hbz HGG Nz
  go_upto_region 18 with fail
  generalize (wk21.alloc (.cells #[.bool sz, .slice az nz cz, .slice bz mz dz] 45)) = wy at *
  go_wp2
  have i9 := in3 wy (g + 1 + 1 + 1 + 1) (.bool sz) (.slice az nz cz) (.slice bz mz dz)
  have T9 := pb_tri (((No.set 0 (.bool sz)).set 1 (.slice az nz cz)).set 2 (.slice bz mz dz))
  have R9 := (hRz.inn i9 nlt).lower (base' := g) gl
  have B9 := below_in HBz.out i9 (by omega) (by rw [HG.out]; exact Nat.le_refl _)
  refine bodyPost_ret (v := .tuple #[.agg #[.bool sz, .slice az nz cz, .slice bz mz dz], .bool true]) (by simp [results, Tryz.results19, go_sem, T9]) rfl ?_
  rw [HG.out]
  have hc : (valR bx - valR ax) * (Y - valR ay) - (valR by' - valR ay) * (X - valR ax) = crR (valR ax) (valR ay) (valR bx) (valR by') X Y := by unfold crR; grind
  rw [hc] at R9 zz
  exact ⟨_, _, _, _, _, _, _, rfl, R9, zz.mono (by omega), B9⟩
end Go.Proofs.YtienpliknhkbjaaGreatDoor

/- plumblaw23: SegCross' walk (written by gensgcd.py). -/
namespace Go.Proofs.YtienpliknhkbjaaGreatDoor
open Go.ChangeShapes Go.WideShapes Go.ChangeAt Go.RowKit
open Na Ar
set_option linter.unusedVariables false
theorem side_fall (v0 v1 v2 v3 v4 v5 v6 v7 : Rat) : crR v0 v1 v2 v3 v6 v7 - crR v0 v1 v2 v3 v4 v5 = fallR v0 v1 v2 v3 v4 v5 v6 v7 := by unfold fallR crR; grind
theorem ordR_eq0 {p q : Rat} : ordR p q = 0 ↔ p - q = 0 := by
  constructor
  · intro h
    have e := sgnR_sub p q
    rw [h] at e
    exact sgnR_eq0.mp e
  · intro h
    rw [← sgnR_sub, h]
    rfl
set_option maxHeartbeats 25600000 in
set_option maxRecDepth 100000 in
theorem cross_walk {x0 x1 x2 x3 x4 x5 x6 x7 : Int} (u0 : U x0) (u1 : U x1) (u2 : U x2) (u3 : U x3) (u4 : U x4) (u5 : U x5) (u6 : U x6) (u7 : U x7) {w : World} (hG : GrVar w) :
    Calls Tryz.prog 4 #[.agg #[.int .u64 x0, .int .u64 x1, .int .u64 x2, .int .u64 x3, .int .u64 x4, .int .u64 x5, .int .u64 x6, .int .u64 x7]] w fun e w' => e = .returned (.bool true) ∧ Below w.heap.size w w' := by
  obtain ⟨w0, hw0⟩ : ∃ w0, w0 = w.alloc (.cells #[.int .u64 x0, .int .u64 x1, .int .u64 x2, .int .u64 x3, .int .u64 x4, .int .u64 x5, .int .u64 x6, .int .u64 x7] 26) := ⟨_, rfl⟩
  obtain ⟨v1, hb0⟩ : Pb w0 w.heap.size 26 #[.int .u64 x0, .int .u64 x1, .int .u64 x2, .int .u64 x3, .int .u64 x4, .int .u64 x5, .int .u64 x6, .int .u64 x7] ∧ Below w.heap.size w w0 := by
    subst hw0
    exact ⟨Pb.new _ _ _, alloc_below _⟩
  have c1 := fun w => spots823_any u0 u1 u2 u3 u4 u5 u6 u7 w
  have h0 := finF_ok u0
  have h1 := finF_ok u1
  have h2 := finF_ok u2
  have h3 := finF_ok u3
  have h4 := finF_ok u4
  have h5 := finF_ok u5
  have h6 := finF_ok u6
  have h7 := finF_ok u7
  generalize finF x0 = y0 at *
  generalize finF x1 = y1 at *
  generalize finF x2 = y2 at *
  generalize finF x3 = y3 at *
  generalize finF x4 = y4 at *
  generalize finF x5 = y5 at *
  generalize finF x6 = y6 at *
  generalize finF x7 = y7 at *
  clear u0 u1 u2 u3 u4 u5 u6 u7
  have HGR : Hid (GrVar w) := hG
  obtain ⟨i0, i1, i2, i3, i4, i5, i6, i7⟩ := v1.cells8
  rw [hw0] at i0 i1 i2 i3 i4 i5 i6 i7
  have HW0 : Hid (w.alloc (.cells #[.int .u64 x0, .int .u64 x1, .int .u64 x2, .int .u64 x3, .int .u64 x4, .int .u64 x5, .int .u64 x6, .int .u64 x7] 26) = w0) := hw0.symm
  clear hw0 hG
  go_enter Tryz.func4, Tryz.ntmps4
  go_wp2_with fail
  rw [HW0.out]
  clear HW0 i0 i1 i2 i3 i4 i5 i6 i7
  obtain ⟨g, hg⟩ : ∃ g, g = w.heap.size := ⟨_, rfl⟩
  have HG : Hid (w.heap.size = g) := hg.symm
  rw [← hg] at v1 hb0 ⊢
  clear hg
  have hz : g + 1 ≤ w0.heap.size := by have := v1.lt; omega
  refine (c1 w0).mono ?_
  rintro e wA ⟨rfl, hbA⟩
  have q1 := v1.later hbA
  have BA := hb0.trans (hbA.mono (by omega))
  have sA : g + 1 ≤ wA.heap.size := by have := hbA.size; omega
  clear v1 hb0 c1 hbA hz
  obtain ⟨i0, i1, i2, i3, i4, i5, i6, i7⟩ := q1.cells8
  obtain ⟨f0, f1, f2, f3, f4, f5, f6, f7⟩ := (show wA.frozen? ⟨g, 0, none⟩ = false ∧ wA.frozen? ⟨g, 1, none⟩ = false ∧ wA.frozen? ⟨g, 2, none⟩ = false ∧ wA.frozen? ⟨g, 3, none⟩ = false ∧ wA.frozen? ⟨g, 4, none⟩ = false ∧ wA.frozen? ⟨g, 5, none⟩ = false ∧ wA.frozen? ⟨g, 6, none⟩ = false ∧ wA.frozen? ⟨g, 7, none⟩ = false from ⟨q1.frozen _, q1.frozen _, q1.frozen _, q1.frozen _, q1.frozen _, q1.frozen _, q1.frozen _, q1.frozen _⟩)
  have P1 := q1.put8 (.int .u64 y0) (.int .u64 y1) (.int .u64 y2) (.int .u64 y3) (.int .u64 y4) (.int .u64 y5) (.int .u64 y6) (.int .u64 y7)
  have I1 := in8p wA g (.int .u64 y0) (.int .u64 y1) (.int .u64 y2) (.int .u64 y3) (.int .u64 y4) (.int .u64 y5) (.int .u64 y6) (.int .u64 y7)
  have B1 := below_in BA I1 (Nat.le_refl _) (Nat.le_of_eq HG.out.symm)
  have s1 := I1.size
  go_upto_region 2 with fail
  generalize ((((((((wA.setCell ⟨g, 0, none⟩ (.int .u64 y0)).setCell ⟨g, 1, none⟩ (.int .u64 y1)).setCell ⟨g, 2, none⟩ (.int .u64 y2)).setCell ⟨g, 3, none⟩ (.int .u64 y3)).setCell ⟨g, 4, none⟩ (.int .u64 y4)).setCell ⟨g, 5, none⟩ (.int .u64 y5)).setCell ⟨g, 6, none⟩ (.int .u64 y6)).setCell ⟨g, 7, none⟩ (.int .u64 y7)) = w1 at *
  clear i0 f0 i1 f1 i2 f2 i3 f3 i4 f4 i5 f5 i6 f6 i7 f7 q1 BA I1
  have s2 : g + 1 ≤ w1.heap.size := by omega
  clear s1 sA
  obtain ⟨i0, i1, i2, i3, i4, i5, i6, i7⟩ := P1.cells8
  obtain ⟨hu0, hf0⟩ := h0
  obtain ⟨hu1, hf1⟩ := h1
  obtain ⟨hu2, hf2⟩ := h2
  obtain ⟨hu3, hf3⟩ := h3
  obtain ⟨hu4, hf4⟩ := h4
  obtain ⟨hu5, hf5⟩ := h5
  obtain ⟨hu6, hf6⟩ := h6
  obtain ⟨hu7, hf7⟩ := h7
  obtain ⟨⟨⟨k, pr⟩, ⟨p1, p2⟩, ⟨q1, q2⟩⟩, hM⟩ := meet_there (w := w) (a := (y0, y1)) (b := (y2, y3)) (c := (y4, y5)) (d := (y6, y7)) ⟨hu0, hu1⟩ ⟨hu2, hu3⟩ ⟨hu4, hu5⟩ ⟨hu6, hu7⟩ ⟨hf0, hf1⟩ ⟨hf2, hf3⟩ ⟨hf4, hf5⟩ ⟨hf6, hf7⟩ HGR.out
  have m0 : ∀ w', Below g w w' → Calls Tryz.prog 10 #[.agg #[.int .u64 y0, .int .u64 y1], .agg #[.int .u64 y2, .int .u64 y3], .agg #[.int .u64 y4, .int .u64 y5], .agg #[.int .u64 y6, .int .u64 y7]] w' fun e w'' => e = .returned (.tuple #[.agg #[.int .i64 k, .bool pr, .int .u64 p1, .int .u64 p2, .int .u64 q1, .int .u64 q2], .int .i64 0]) ∧ Below w'.heap.size w' w'' := fun w' hb => by
    have hg : GrVar w' := HGR.out.later (by rw [HG.out]; exact hb)
    exact Meet23_one (w := w') (a := (y0, y1)) (b := (y2, y3)) (c := (y4, y5)) (d := (y6, y7)) ⟨hu0, hu1⟩ ⟨hu2, hu3⟩ ⟨hu4, hu5⟩ ⟨hu6, hu7⟩ ⟨hf0, hf1⟩ ⟨hf2, hf3⟩ ⟨hf4, hf5⟩ ⟨hf6, hf7⟩ hg hM
  have X1 := fun w => Cross23_fin (w := w) (a := (y0, y1)) (b := (y2, y3)) (c := (y4, y5)) (d := (y6, y7)) ⟨hu0, hu1⟩ ⟨hu2, hu3⟩ ⟨hu4, hu5⟩ ⟨hu6, hu7⟩ ⟨hf0, hf1⟩ ⟨hf2, hf3⟩ ⟨hf4, hf5⟩ ⟨hf6, hf7⟩
  simp only at X1
  have al0 : ∀ w', Below g w w' → Calls Tryz.prog 12 #[] w' fun e w'' => e = .returned (.bool true) ∧ Below w'.heap.size w' w'' := fun w' hb => alive23_any (HGR.out.later (by rw [HG.out]; exact hb))
  have zv4 := value_size hu4 hf4
  have zv5 := value_size hu5 hf5
  have zv6 := value_size hu6 hf6
  have zv7 := value_size hu7 hf7
  have Nf := P1
  have HGG : Hid (Below g w w1) := B1
  clear P1 B1 i0 i1 i2 i3 i4 i5 i6 i7
  by_cases hF : fallR (valR y0) (valR y1) (valR y2) (valR y3) (valR y4) (valR y5) (valR y6) (valR y7) = 0
  · obtain ⟨ldf0, ldf1, ldf2, ldf3, ldf4, ldf5, ldf6, ldf7⟩ := Nf.cells8
    go_wp2_with fail
    refine (X1 w1).mono ?_
    rintro ek wX (⟨_, rfl, hbX⟩ | ⟨hne, _⟩)
    case inr => exact absurd hF hne
    clear ldf0 ldf1 ldf2 ldf3 ldf4 ldf5 ldf6 ldf7
    have t2 := pb_2 wX #[.bool false, .slice none 0 0, .slice none 0 0] #[.bool false, .slice none 0 0, .slice none 0 0] 45 45
    obtain ⟨Nx, Ny, alx, _⟩ := t2
    replace Nf := (Nf.later hbX).later alx
    have HB1 := HGG.out.trans ((hbX.trans (alx.mono hbX.size)).mono (by have := HGG.out.size; have := HG.out; omega))
    replace HGG : Hid _ := HB1
    clear HB1
    clear alx hbX X1
    obtain ⟨ldf0, ldf1, ldf2, ldf3, ldf4, ldf5, ldf6, ldf7⟩ := Nf.cells8
    go_wp2_with fail
    generalize (wX.alloc (.cells #[.bool false, .slice none 0 0, .slice none 0 0] 45)).alloc (.cells #[.bool false, .slice none 0 0, .slice none 0 0] 45) = wX' at *
    refine (m0 wX' HGG.out).mono ?_
    rintro ek wk2 ⟨rfl, hbm⟩
    clear ldf0 ldf1 ldf2 ldf3 ldf4 ldf5 ldf6 ldf7
    have alm := alloc_below (w := wk2) (.cells #[.int .i64 k, .bool pr, .int .u64 p1, .int .u64 p2, .int .u64 q1, .int .u64 q2] 29)
    have Nm := Pb.new wk2 29 #[.int .i64 k, .bool pr, .int .u64 p1, .int .u64 p2, .int .u64 q1, .int .u64 q2]
    replace Nf := (Nf.later hbm).later alm
    replace Nx := (Nx.later hbm).later alm
    replace Ny := (Ny.later hbm).later alm
    have HB3 := HGG.out.trans ((hbm.trans (alm.mono hbm.size)).mono (by have := HGG.out.size; have := HG.out; omega))
    replace HGG : Hid _ := HB3
    clear HB3
    clear alm hbm
    clear m0
    obtain ⟨ldf0, ldf1, ldf2, ldf3, ldf4, ldf5, ldf6, ldf7⟩ := Nf.cells8
    go_wp2_with fail
    generalize wk2.alloc (.cells #[.int .i64 k, .bool pr, .int .u64 p1, .int .u64 p2, .int .u64 q1, .int .u64 q2] 29) = wk2' at *
    refine (nearValue_fin hu6 hf6 wk2').mono ?_
    rintro ek wk4 ⟨sd, vd1, vd2, rfl, hRd, hbd⟩
    clear ldf0 ldf1 ldf2 ldf3 ldf4 ldf5 ldf6 ldf7
    obtain ⟨awd, nd, cd, bd, md, dd, rfl, rfl, _⟩ := hRd.opens
    have qd := hRd.rt22
    have ald := alloc_below (w := wk4) (.cells #[.bool sd, .slice awd nd cd, .slice bd md dd] 45)
    have Nd := Pb.new wk4 45 #[.bool sd, .slice awd nd cd, .slice bd md dd]
    replace Nf := (Nf.later hbd).later ald
    replace Nx := (Nx.later hbd).later ald
    replace Ny := (Ny.later hbd).later ald
    replace Nm := (Nm.later hbd).later ald
    have HB5 := HGG.out.trans ((hbd.trans (ald.mono hbd.size)).mono (by have := HGG.out.size; have := HG.out; omega))
    replace HGG : Hid _ := HB5
    clear HB5
    have Rd := (qd).later ald
    clear ald hbd
    clear hRd qd
    obtain ⟨ldf0, ldf1, ldf2, ldf3, ldf4, ldf5, ldf6, ldf7⟩ := Nf.cells8
    go_wp2_with fail
    generalize wk4.alloc (.cells #[.bool sd, .slice awd nd cd, .slice bd md dd] 45) = wk4' at *
    refine (nearValue_fin hu7 hf7 wk4').mono ?_
    rintro ek wk6 ⟨se, ve1, ve2, rfl, hRe, hbe⟩
    clear ldf0 ldf1 ldf2 ldf3 ldf4 ldf5 ldf6 ldf7
    obtain ⟨awe, ne, ce, be, me, de, rfl, rfl, _⟩ := hRe.opens
    have qe := hRe.rt22
    have ale := alloc_below (w := wk6) (.cells #[.bool se, .slice awe ne ce, .slice be me de] 45)
    have Ne := Pb.new wk6 45 #[.bool se, .slice awe ne ce, .slice be me de]
    replace Nf := (Nf.later hbe).later ale
    replace Nx := (Nx.later hbe).later ale
    replace Ny := (Ny.later hbe).later ale
    replace Nm := (Nm.later hbe).later ale
    replace Nd := (Nd.later hbe).later ale
    replace Rd := (Rd.later hbe).later ale
    have HB7 := HGG.out.trans ((hbe.trans (ale.mono hbe.size)).mono (by have := HGG.out.size; have := HG.out; omega))
    replace HGG : Hid _ := HB7
    clear HB7
    have Re := (qe).later ale
    clear ale hbe
    clear hRe qe
    obtain ⟨ldf0, ldf1, ldf2, ldf3, ldf4, ldf5, ldf6, ldf7⟩ := Nf.cells8
    go_wp2_with fail
    generalize wk6.alloc (.cells #[.bool se, .slice awe ne ce, .slice be me de] 45) = wk6' at *
    refine (nearValue_fin hu4 hf4 wk6').mono ?_
    rintro ek wk8 ⟨sh, vh1, vh2, rfl, hRh, hbh⟩
    clear ldf0 ldf1 ldf2 ldf3 ldf4 ldf5 ldf6 ldf7
    obtain ⟨awh, nh, ch, bh, mh, dh, rfl, rfl, _⟩ := hRh.opens
    have qh := hRh.rt22
    have alh := alloc_below (w := wk8) (.cells #[.bool sh, .slice awh nh ch, .slice bh mh dh] 45)
    have Nh := Pb.new wk8 45 #[.bool sh, .slice awh nh ch, .slice bh mh dh]
    replace Nf := (Nf.later hbh).later alh
    replace Nx := (Nx.later hbh).later alh
    replace Ny := (Ny.later hbh).later alh
    replace Nm := (Nm.later hbh).later alh
    replace Nd := (Nd.later hbh).later alh
    replace Ne := (Ne.later hbh).later alh
    replace Rd := (Rd.later hbh).later alh
    replace Re := (Re.later hbh).later alh
    have HB9 := HGG.out.trans ((hbh.trans (alh.mono hbh.size)).mono (by have := HGG.out.size; have := HG.out; omega))
    replace HGG : Hid _ := HB9
    clear HB9
    have Rh := (qh).later alh
    clear alh hbh
    clear hRh qh
    obtain ⟨ldf0, ldf1, ldf2, ldf3, ldf4, ldf5, ldf6, ldf7⟩ := Nf.cells8
    go_wp2_with fail
    generalize wk8.alloc (.cells #[.bool sh, .slice awh nh ch, .slice bh mh dh] 45) = wk8' at *
    refine (nearValue_fin hu5 hf5 wk8').mono ?_
    rintro ek wk10 ⟨si, vi1, vi2, rfl, hRi, hbi⟩
    clear ldf0 ldf1 ldf2 ldf3 ldf4 ldf5 ldf6 ldf7
    obtain ⟨awi, ni, ci, bi, mi, di, rfl, rfl, _⟩ := hRi.opens
    have qi := hRi.rt22
    have ali := alloc_below (w := wk10) (.cells #[.bool si, .slice awi ni ci, .slice bi mi di] 45)
    have Ni := Pb.new wk10 45 #[.bool si, .slice awi ni ci, .slice bi mi di]
    replace Nf := (Nf.later hbi).later ali
    replace Nx := (Nx.later hbi).later ali
    replace Ny := (Ny.later hbi).later ali
    replace Nm := (Nm.later hbi).later ali
    replace Nd := (Nd.later hbi).later ali
    replace Ne := (Ne.later hbi).later ali
    replace Nh := (Nh.later hbi).later ali
    replace Rd := (Rd.later hbi).later ali
    replace Re := (Re.later hbi).later ali
    replace Rh := (Rh.later hbi).later ali
    have HB11 := HGG.out.trans ((hbi.trans (ali.mono hbi.size)).mono (by have := HGG.out.size; have := HG.out; omega))
    replace HGG : Hid _ := HB11
    clear HB11
    have Ri := (qi).later ali
    clear ali hbi
    clear hRi qi
    go_wp2_with fail
    generalize wk10.alloc (.cells #[.bool si, .slice awi ni ci, .slice bi mi di] 45) = wk10' at *
    refine (al0 wk10' HGG.out).mono ?_
    rintro ek wk12 ⟨rfl, hba⟩
    replace Nf := Nf.later hba
    replace Nx := Nx.later hba
    replace Ny := Ny.later hba
    replace Nm := Nm.later hba
    replace Nd := Nd.later hba
    replace Ne := Ne.later hba
    replace Nh := Nh.later hba
    replace Ni := Ni.later hba
    replace Rd := Rd.later hba
    replace Re := Re.later hba
    replace Rh := Rh.later hba
    replace Ri := Ri.later hba
    have HB13 := HGG.out.trans (hba.mono (by have := HGG.out.size; have := HG.out; omega))
    replace HGG : Hid _ := HB13
    clear HB13
    clear hba
    clear al0
    obtain ⟨ldf0, ldf1, ldf2, ldf3, ldf4, ldf5, ldf6, ldf7⟩ := Nf.cells8
    obtain ⟨ldd0, ldd1, ldd2⟩ := pb_tri Nd
    obtain ⟨lde0, lde1, lde2⟩ := pb_tri Ne
    go_wp2_with fail
    refine (side23_law (w := wk12) (a := (y0, y1)) (b := (y2, y3)) ⟨hu0, hu1⟩ ⟨hu2, hu3⟩ ⟨hf0, hf1⟩ ⟨hf2, hf3⟩ Rd Re zv6 zv7 (by omega)).mono ?_
    rintro ek wk14 ⟨ss, aws, ns, cs, bs, ms, ds, rfl, hRs, zs, hbs⟩
    clear ldf0 ldf1 ldf2 ldf3 ldf4 ldf5 ldf6 ldf7 ldd0 ldd1 ldd2 lde0 lde1 lde2
    have qs := hRs.rt22
    have als := alloc_below (w := wk14) (.cells #[.bool ss, .slice aws ns cs, .slice bs ms ds] 45)
    have Ns := Pb.new wk14 45 #[.bool ss, .slice aws ns cs, .slice bs ms ds]
    replace Nf := (Nf.later hbs).later als
    replace Nx := (Nx.later hbs).later als
    replace Ny := (Ny.later hbs).later als
    replace Nm := (Nm.later hbs).later als
    replace Nd := (Nd.later hbs).later als
    replace Ne := (Ne.later hbs).later als
    replace Nh := (Nh.later hbs).later als
    replace Ni := (Ni.later hbs).later als
    replace Rd := (Rd.later hbs).later als
    replace Re := (Re.later hbs).later als
    replace Rh := (Rh.later hbs).later als
    replace Ri := (Ri.later hbs).later als
    have HB15 := HGG.out.trans ((hbs.trans (als.mono hbs.size)).mono (by have := HGG.out.size; have := HG.out; omega))
    replace HGG : Hid _ := HB15
    clear HB15
    have Rs := (qs).later als
    clear als hbs
    clear hRs qs
    obtain ⟨ldf0, ldf1, ldf2, ldf3, ldf4, ldf5, ldf6, ldf7⟩ := Nf.cells8
    obtain ⟨ldh0, ldh1, ldh2⟩ := pb_tri Nh
    obtain ⟨ldi0, ldi1, ldi2⟩ := pb_tri Ni
    go_wp2_with fail
    generalize wk14.alloc (.cells #[.bool ss, .slice aws ns cs, .slice bs ms ds] 45) = wk14' at *
    refine (side23_law (w := wk14') (a := (y0, y1)) (b := (y2, y3)) ⟨hu0, hu1⟩ ⟨hu2, hu3⟩ ⟨hf0, hf1⟩ ⟨hf2, hf3⟩ Rh Ri zv4 zv5 (by omega)).mono ?_
    rintro ek wk16 ⟨st, awt, nt, ct, bt, mt, dt, rfl, hRt, zt, hbt⟩
    clear ldf0 ldf1 ldf2 ldf3 ldf4 ldf5 ldf6 ldf7 ldh0 ldh1 ldh2 ldi0 ldi1 ldi2
    have qt := hRt.rt22
    have alt := alloc_below (w := wk16) (.cells #[.bool st, .slice awt nt ct, .slice bt mt dt] 45)
    have Nt := Pb.new wk16 45 #[.bool st, .slice awt nt ct, .slice bt mt dt]
    replace Nf := (Nf.later hbt).later alt
    replace Nx := (Nx.later hbt).later alt
    replace Ny := (Ny.later hbt).later alt
    replace Nm := (Nm.later hbt).later alt
    replace Nd := (Nd.later hbt).later alt
    replace Ne := (Ne.later hbt).later alt
    replace Nh := (Nh.later hbt).later alt
    replace Ni := (Ni.later hbt).later alt
    replace Ns := (Ns.later hbt).later alt
    replace Rd := (Rd.later hbt).later alt
    replace Re := (Re.later hbt).later alt
    replace Rh := (Rh.later hbt).later alt
    replace Ri := (Ri.later hbt).later alt
    replace Rs := (Rs.later hbt).later alt
    have HB17 := HGG.out.trans ((hbt.trans (alt.mono hbt.size)).mono (by have := HGG.out.size; have := HG.out; omega))
    replace HGG : Hid _ := HB17
    clear HB17
    have Rt := (qt).later alt
    clear alt hbt
    clear hRt qt
    clear Nd Ne Nh Ni Rd Re Rh Ri
    have hsf := side_fall (valR y0) (valR y1) (valR y2) (valR y3) (valR y4) (valR y5) (valR y6) (valR y7)
    have hK : ordR (crR (valR y0) (valR y1) (valR y2) (valR y3) (valR y6) (valR y7)) (crR (valR y0) (valR y1) (valR y2) (valR y3) (valR y4) (valR y5)) = 0 := ordR_eq0.mpr (hsf.trans hF)
    simp only at zs zt
    obtain ⟨lds0, lds1, lds2⟩ := pb_tri Ns
    obtain ⟨ldt0, ldt1, ldt2⟩ := pb_tri Nt
    go_wp2_with fail
    generalize wk16.alloc (.cells #[.bool st, .slice awt nt ct, .slice bt mt dt] 45) = wk16' at *
    refine (rCmp_ok (w := wk16') Rs Rt zs zt (by omega) hK).mono ?_
    rintro ek wk18 ⟨rfl, hbc⟩
    clear lds0 lds1 lds2 ldt0 ldt1 ldt2
    clear Ns Nt Rs Rt
    replace Nf := Nf.later hbc
    replace Nx := Nx.later hbc
    replace Ny := Ny.later hbc
    replace Nm := Nm.later hbc
    have HB19 := HGG.out.trans (hbc.mono (by have := HGG.out.size; have := HG.out; omega))
    replace HGG : Hid _ := HB19
    clear HB19
    clear hbc
    have hpr := mt_par (a := (y0, y1)) (b := (y2, y3)) (c := (y4, y5)) (d := (y6, y7)) ⟨hu0, hu1⟩ ⟨hu2, hu3⟩ ⟨hu4, hu5⟩ ⟨hu6, hu7⟩ ⟨hf0, hf1⟩ ⟨hf2, hf3⟩ ⟨hf4, hf5⟩ ⟨hf6, hf7⟩ hF hM
    have hp0 : pr = false := hpr
    subst hp0
    obtain ⟨ldx0, ldx1, ldx2⟩ := pb_tri Nx
    obtain ⟨ldy0, ldy1, ldy2⟩ := pb_tri Ny
    obtain ⟨ldm0, ldm1, ldm2, ldm3, ldm4, ldm5⟩ := Nm.cells6
    clear Nf Nx Ny Nm hM hpr hF hsf hK
    go_wp2
    go_ret
    have q := HGG.out
    have hw := HG.out
    rw [hw]
    exact ⟨rfl, q⟩
  · obtain ⟨ldf0, ldf1, ldf2, ldf3, ldf4, ldf5, ldf6, ldf7⟩ := Nf.cells8
    go_wp2_with fail
    refine (X1 w1).mono ?_
    rintro ek wX (⟨hne, _⟩ | ⟨_, sx, ax, nx, cx, bx, mx, dx, sy, ay, ny, cy, by', my, dy, rfl, hRx, hRy, zx, zy, hbX⟩)
    case inl => exact absurd hne hF
    have qx := hRx.rt22
    have qy := hRy.rt22
    clear ldf0 ldf1 ldf2 ldf3 ldf4 ldf5 ldf6 ldf7
    have t2 := pb_2 wX #[.bool sx, .slice ax nx cx, .slice bx mx dx] #[.bool sy, .slice ay ny cy, .slice by' my dy] 45 45
    obtain ⟨Nx, Ny, alx, _⟩ := t2
    replace Nf := (Nf.later hbX).later alx
    have HB1 := HGG.out.trans ((hbX.trans (alx.mono hbX.size)).mono (by have := HGG.out.size; have := HG.out; omega))
    replace HGG : Hid _ := HB1
    clear HB1
    have Rx := qx.later alx
    have Ry := qy.later alx
    clear hRx hRy qx qy
    clear alx hbX X1
    obtain ⟨ldf0, ldf1, ldf2, ldf3, ldf4, ldf5, ldf6, ldf7⟩ := Nf.cells8
    go_wp2_with fail
    generalize (wX.alloc (.cells #[.bool sx, .slice ax nx cx, .slice bx mx dx] 45)).alloc (.cells #[.bool sy, .slice ay ny cy, .slice by' my dy] 45) = wX' at *
    refine (m0 wX' HGG.out).mono ?_
    rintro ek wk2 ⟨rfl, hbm⟩
    clear ldf0 ldf1 ldf2 ldf3 ldf4 ldf5 ldf6 ldf7
    have alm := alloc_below (w := wk2) (.cells #[.int .i64 k, .bool pr, .int .u64 p1, .int .u64 p2, .int .u64 q1, .int .u64 q2] 29)
    have Nm := Pb.new wk2 29 #[.int .i64 k, .bool pr, .int .u64 p1, .int .u64 p2, .int .u64 q1, .int .u64 q2]
    replace Nf := (Nf.later hbm).later alm
    replace Nx := (Nx.later hbm).later alm
    replace Ny := (Ny.later hbm).later alm
    replace Rx := (Rx.later hbm).later alm
    replace Ry := (Ry.later hbm).later alm
    have HB3 := HGG.out.trans ((hbm.trans (alm.mono hbm.size)).mono (by have := HGG.out.size; have := HG.out; omega))
    replace HGG : Hid _ := HB3
    clear HB3
    clear alm hbm
    clear m0
    obtain ⟨ldf0, ldf1, ldf2, ldf3, ldf4, ldf5, ldf6, ldf7⟩ := Nf.cells8
    go_wp2_with fail
    generalize wk2.alloc (.cells #[.int .i64 k, .bool pr, .int .u64 p1, .int .u64 p2, .int .u64 q1, .int .u64 q2] 29) = wk2' at *
    refine (nearValue_fin hu6 hf6 wk2').mono ?_
    rintro ek wk4 ⟨sd, vd1, vd2, rfl, hRd, hbd⟩
    clear ldf0 ldf1 ldf2 ldf3 ldf4 ldf5 ldf6 ldf7
    obtain ⟨awd, nd, cd, bd, md, dd, rfl, rfl, _⟩ := hRd.opens
    have qd := hRd.rt22
    have ald := alloc_below (w := wk4) (.cells #[.bool sd, .slice awd nd cd, .slice bd md dd] 45)
    have Nd := Pb.new wk4 45 #[.bool sd, .slice awd nd cd, .slice bd md dd]
    replace Nf := (Nf.later hbd).later ald
    replace Nx := (Nx.later hbd).later ald
    replace Ny := (Ny.later hbd).later ald
    replace Nm := (Nm.later hbd).later ald
    replace Rx := (Rx.later hbd).later ald
    replace Ry := (Ry.later hbd).later ald
    have HB5 := HGG.out.trans ((hbd.trans (ald.mono hbd.size)).mono (by have := HGG.out.size; have := HG.out; omega))
    replace HGG : Hid _ := HB5
    clear HB5
    have Rd := (qd).later ald
    clear ald hbd
    clear hRd qd
    obtain ⟨ldf0, ldf1, ldf2, ldf3, ldf4, ldf5, ldf6, ldf7⟩ := Nf.cells8
    go_wp2_with fail
    generalize wk4.alloc (.cells #[.bool sd, .slice awd nd cd, .slice bd md dd] 45) = wk4' at *
    refine (nearValue_fin hu7 hf7 wk4').mono ?_
    rintro ek wk6 ⟨se, ve1, ve2, rfl, hRe, hbe⟩
    clear ldf0 ldf1 ldf2 ldf3 ldf4 ldf5 ldf6 ldf7
    obtain ⟨awe, ne, ce, be, me, de, rfl, rfl, _⟩ := hRe.opens
    have qe := hRe.rt22
    have ale := alloc_below (w := wk6) (.cells #[.bool se, .slice awe ne ce, .slice be me de] 45)
    have Ne := Pb.new wk6 45 #[.bool se, .slice awe ne ce, .slice be me de]
    replace Nf := (Nf.later hbe).later ale
    replace Nx := (Nx.later hbe).later ale
    replace Ny := (Ny.later hbe).later ale
    replace Nm := (Nm.later hbe).later ale
    replace Nd := (Nd.later hbe).later ale
    replace Rx := (Rx.later hbe).later ale
    replace Ry := (Ry.later hbe).later ale
    replace Rd := (Rd.later hbe).later ale
    have HB7 := HGG.out.trans ((hbe.trans (ale.mono hbe.size)).mono (by have := HGG.out.size; have := HG.out; omega))
    replace HGG : Hid _ := HB7
    clear HB7
    have Re := (qe).later ale
    clear ale hbe
    clear hRe qe
    obtain ⟨ldf0, ldf1, ldf2, ldf3, ldf4, ldf5, ldf6, ldf7⟩ := Nf.cells8
    go_wp2_with fail
    generalize wk6.alloc (.cells #[.bool se, .slice awe ne ce, .slice be me de] 45) = wk6' at *
    refine (nearValue_fin hu4 hf4 wk6').mono ?_
    rintro ek wk8 ⟨sh, vh1, vh2, rfl, hRh, hbh⟩
    clear ldf0 ldf1 ldf2 ldf3 ldf4 ldf5 ldf6 ldf7
    obtain ⟨awh, nh, ch, bh, mh, dh, rfl, rfl, _⟩ := hRh.opens
    have qh := hRh.rt22
    have alh := alloc_below (w := wk8) (.cells #[.bool sh, .slice awh nh ch, .slice bh mh dh] 45)
    have Nh := Pb.new wk8 45 #[.bool sh, .slice awh nh ch, .slice bh mh dh]
    replace Nf := (Nf.later hbh).later alh
    replace Nx := (Nx.later hbh).later alh
    replace Ny := (Ny.later hbh).later alh
    replace Nm := (Nm.later hbh).later alh
    replace Nd := (Nd.later hbh).later alh
    replace Ne := (Ne.later hbh).later alh
    replace Rx := (Rx.later hbh).later alh
    replace Ry := (Ry.later hbh).later alh
    replace Rd := (Rd.later hbh).later alh
    replace Re := (Re.later hbh).later alh
    have HB9 := HGG.out.trans ((hbh.trans (alh.mono hbh.size)).mono (by have := HGG.out.size; have := HG.out; omega))
    replace HGG : Hid _ := HB9
    clear HB9
    have Rh := (qh).later alh
    clear alh hbh
    clear hRh qh
    obtain ⟨ldf0, ldf1, ldf2, ldf3, ldf4, ldf5, ldf6, ldf7⟩ := Nf.cells8
    go_wp2_with fail
    generalize wk8.alloc (.cells #[.bool sh, .slice awh nh ch, .slice bh mh dh] 45) = wk8' at *
    refine (nearValue_fin hu5 hf5 wk8').mono ?_
    rintro ek wk10 ⟨si, vi1, vi2, rfl, hRi, hbi⟩
    clear ldf0 ldf1 ldf2 ldf3 ldf4 ldf5 ldf6 ldf7
    obtain ⟨awi, ni, ci, bi, mi, di, rfl, rfl, _⟩ := hRi.opens
    have qi := hRi.rt22
    have ali := alloc_below (w := wk10) (.cells #[.bool si, .slice awi ni ci, .slice bi mi di] 45)
    have Ni := Pb.new wk10 45 #[.bool si, .slice awi ni ci, .slice bi mi di]
    replace Nf := (Nf.later hbi).later ali
    replace Nx := (Nx.later hbi).later ali
    replace Ny := (Ny.later hbi).later ali
    replace Nm := (Nm.later hbi).later ali
    replace Nd := (Nd.later hbi).later ali
    replace Ne := (Ne.later hbi).later ali
    replace Nh := (Nh.later hbi).later ali
    replace Rx := (Rx.later hbi).later ali
    replace Ry := (Ry.later hbi).later ali
    replace Rd := (Rd.later hbi).later ali
    replace Re := (Re.later hbi).later ali
    replace Rh := (Rh.later hbi).later ali
    have HB11 := HGG.out.trans ((hbi.trans (ali.mono hbi.size)).mono (by have := HGG.out.size; have := HG.out; omega))
    replace HGG : Hid _ := HB11
    clear HB11
    have Ri := (qi).later ali
    clear ali hbi
    clear hRi qi
    go_wp2_with fail
    generalize wk10.alloc (.cells #[.bool si, .slice awi ni ci, .slice bi mi di] 45) = wk10' at *
    refine (al0 wk10' HGG.out).mono ?_
    rintro ek wk12 ⟨rfl, hba⟩
    replace Nf := Nf.later hba
    replace Nx := Nx.later hba
    replace Ny := Ny.later hba
    replace Nm := Nm.later hba
    replace Nd := Nd.later hba
    replace Ne := Ne.later hba
    replace Nh := Nh.later hba
    replace Ni := Ni.later hba
    replace Rx := Rx.later hba
    replace Ry := Ry.later hba
    replace Rd := Rd.later hba
    replace Re := Re.later hba
    replace Rh := Rh.later hba
    replace Ri := Ri.later hba
    have HB13 := HGG.out.trans (hba.mono (by have := HGG.out.size; have := HG.out; omega))
    replace HGG : Hid _ := HB13
    clear HB13
    clear hba
    clear al0
    obtain ⟨ldf0, ldf1, ldf2, ldf3, ldf4, ldf5, ldf6, ldf7⟩ := Nf.cells8
    obtain ⟨ldd0, ldd1, ldd2⟩ := pb_tri Nd
    obtain ⟨lde0, lde1, lde2⟩ := pb_tri Ne
    go_wp2_with fail
    refine (side23_law (w := wk12) (a := (y0, y1)) (b := (y2, y3)) ⟨hu0, hu1⟩ ⟨hu2, hu3⟩ ⟨hf0, hf1⟩ ⟨hf2, hf3⟩ Rd Re zv6 zv7 (by omega)).mono ?_
    rintro ek wk14 ⟨ss, aws, ns, cs, bs, ms, ds, rfl, hRs, zs, hbs⟩
    clear ldf0 ldf1 ldf2 ldf3 ldf4 ldf5 ldf6 ldf7 ldd0 ldd1 ldd2 lde0 lde1 lde2
    have qs := hRs.rt22
    have als := alloc_below (w := wk14) (.cells #[.bool ss, .slice aws ns cs, .slice bs ms ds] 45)
    have Ns := Pb.new wk14 45 #[.bool ss, .slice aws ns cs, .slice bs ms ds]
    replace Nf := (Nf.later hbs).later als
    replace Nx := (Nx.later hbs).later als
    replace Ny := (Ny.later hbs).later als
    replace Nm := (Nm.later hbs).later als
    replace Nd := (Nd.later hbs).later als
    replace Ne := (Ne.later hbs).later als
    replace Nh := (Nh.later hbs).later als
    replace Ni := (Ni.later hbs).later als
    replace Rx := (Rx.later hbs).later als
    replace Ry := (Ry.later hbs).later als
    replace Rd := (Rd.later hbs).later als
    replace Re := (Re.later hbs).later als
    replace Rh := (Rh.later hbs).later als
    replace Ri := (Ri.later hbs).later als
    have HB15 := HGG.out.trans ((hbs.trans (als.mono hbs.size)).mono (by have := HGG.out.size; have := HG.out; omega))
    replace HGG : Hid _ := HB15
    clear HB15
    have Rs := (qs).later als
    clear als hbs
    clear hRs qs
    obtain ⟨ldf0, ldf1, ldf2, ldf3, ldf4, ldf5, ldf6, ldf7⟩ := Nf.cells8
    obtain ⟨ldh0, ldh1, ldh2⟩ := pb_tri Nh
    obtain ⟨ldi0, ldi1, ldi2⟩ := pb_tri Ni
    go_wp2_with fail
    generalize wk14.alloc (.cells #[.bool ss, .slice aws ns cs, .slice bs ms ds] 45) = wk14' at *
    refine (side23_law (w := wk14') (a := (y0, y1)) (b := (y2, y3)) ⟨hu0, hu1⟩ ⟨hu2, hu3⟩ ⟨hf0, hf1⟩ ⟨hf2, hf3⟩ Rh Ri zv4 zv5 (by omega)).mono ?_
    rintro ek wk16 ⟨st, awt, nt, ct, bt, mt, dt, rfl, hRt, zt, hbt⟩
    clear ldf0 ldf1 ldf2 ldf3 ldf4 ldf5 ldf6 ldf7 ldh0 ldh1 ldh2 ldi0 ldi1 ldi2
    have qt := hRt.rt22
    have alt := alloc_below (w := wk16) (.cells #[.bool st, .slice awt nt ct, .slice bt mt dt] 45)
    have Nt := Pb.new wk16 45 #[.bool st, .slice awt nt ct, .slice bt mt dt]
    replace Nf := (Nf.later hbt).later alt
    replace Nx := (Nx.later hbt).later alt
    replace Ny := (Ny.later hbt).later alt
    replace Nm := (Nm.later hbt).later alt
    replace Nd := (Nd.later hbt).later alt
    replace Ne := (Ne.later hbt).later alt
    replace Nh := (Nh.later hbt).later alt
    replace Ni := (Ni.later hbt).later alt
    replace Ns := (Ns.later hbt).later alt
    replace Rx := (Rx.later hbt).later alt
    replace Ry := (Ry.later hbt).later alt
    replace Rd := (Rd.later hbt).later alt
    replace Re := (Re.later hbt).later alt
    replace Rh := (Rh.later hbt).later alt
    replace Ri := (Ri.later hbt).later alt
    replace Rs := (Rs.later hbt).later alt
    have HB17 := HGG.out.trans ((hbt.trans (alt.mono hbt.size)).mono (by have := HGG.out.size; have := HG.out; omega))
    replace HGG : Hid _ := HB17
    clear HB17
    have Rt := (qt).later alt
    clear alt hbt
    clear hRt qt
    clear Nd Ne Nh Ni Rd Re Rh Ri
    have hsf := side_fall (valR y0) (valR y1) (valR y2) (valR y3) (valR y4) (valR y5) (valR y6) (valR y7)
    obtain ⟨K, hK, hK0⟩ : ∃ K, ordR (crR (valR y0) (valR y1) (valR y2) (valR y3) (valR y6) (valR y7)) (crR (valR y0) (valR y1) (valR y2) (valR y3) (valR y4) (valR y5)) = K ∧ K ≠ 0 := ⟨_, rfl, fun h => hF (hsf ▸ ordR_eq0.mp h)⟩
    have hKb : (K == 0) = false := by simpa using hK0
    simp only at zs zt
    obtain ⟨lds0, lds1, lds2⟩ := pb_tri Ns
    obtain ⟨ldt0, ldt1, ldt2⟩ := pb_tri Nt
    go_wp2_with fail
    generalize wk16.alloc (.cells #[.bool st, .slice awt nt ct, .slice bt mt dt] 45) = wk16' at *
    refine (rCmp_ok (w := wk16') Rs Rt zs zt (by omega) hK).mono ?_
    rintro ek wk18 ⟨rfl, hbc⟩
    clear lds0 lds1 lds2 ldt0 ldt1 ldt2
    clear Ns Nt Rs Rt
    replace Nf := Nf.later hbc
    replace Nx := Nx.later hbc
    replace Ny := Ny.later hbc
    replace Nm := Nm.later hbc
    replace Rx := Rx.later hbc
    replace Ry := Ry.later hbc
    have HB19 := HGG.out.trans (hbc.mono (by have := HGG.out.size; have := HG.out; omega))
    replace HGG : Hid _ := HB19
    clear HB19
    clear hbc
    clear hK
    have hon := cross_on (valR y0) (valR y1) (valR y2) (valR y3) (valR y4) (valR y5) (valR y6) (valR y7) hF
    have h11 : 558 + 558 + 125 ≤ 4096 := by omega
    obtain ⟨ldf0, ldf1, ldf2, ldf3, ldf4, ldf5, ldf6, ldf7⟩ := Nf.cells8
    obtain ⟨ldx0, ldx1, ldx2⟩ := pb_tri Nx
    obtain ⟨ldy0, ldy1, ldy2⟩ := pb_tri Ny
    go_wp2_with fail
    refine (side23_law (w := wk18) (a := (y0, y1)) (b := (y2, y3)) ⟨hu0, hu1⟩ ⟨hu2, hu3⟩ ⟨hf0, hf1⟩ ⟨hf2, hf3⟩ Rx Ry zx zy h11).mono ?_
    rintro ek wk20 ⟨su, awu, nu, cu, bu, mu, du, rfl, hRu, zu, hbu⟩
    clear ldf0 ldf1 ldf2 ldf3 ldf4 ldf5 ldf6 ldf7 ldx0 ldx1 ldx2 ldy0 ldy1 ldy2
    have qu := hRu.rt22
    have alu := alloc_below (w := wk20) (.cells #[.bool su, .slice awu nu cu, .slice bu mu du] 45)
    have Nu := Pb.new wk20 45 #[.bool su, .slice awu nu cu, .slice bu mu du]
    replace Nf := (Nf.later hbu).later alu
    replace Nx := (Nx.later hbu).later alu
    replace Ny := (Ny.later hbu).later alu
    replace Nm := (Nm.later hbu).later alu
    replace Rx := (Rx.later hbu).later alu
    replace Ry := (Ry.later hbu).later alu
    have HB21 := HGG.out.trans ((hbu.trans (alu.mono hbu.size)).mono (by have := HGG.out.size; have := HG.out; omega))
    replace HGG : Hid _ := HB21
    clear HB21
    have Ru := (qu).later alu
    clear alu hbu
    clear hRu qu
    obtain ⟨ldf0, ldf1, ldf2, ldf3, ldf4, ldf5, ldf6, ldf7⟩ := Nf.cells8
    obtain ⟨ldx0, ldx1, ldx2⟩ := pb_tri Nx
    obtain ⟨ldy0, ldy1, ldy2⟩ := pb_tri Ny
    go_wp2_with fail
    generalize wk20.alloc (.cells #[.bool su, .slice awu nu cu, .slice bu mu du] 45) = wk20' at *
    refine (side23_law (w := wk20') (a := (y4, y5)) (b := (y6, y7)) ⟨hu4, hu5⟩ ⟨hu6, hu7⟩ ⟨hf4, hf5⟩ ⟨hf6, hf7⟩ Rx Ry zx zy h11).mono ?_
    rintro ek wk22 ⟨sv, awv, nv, cv, bv, mv, dv, rfl, hRv, zv, hbv⟩
    clear ldf0 ldf1 ldf2 ldf3 ldf4 ldf5 ldf6 ldf7 ldx0 ldx1 ldx2 ldy0 ldy1 ldy2
    have qv := hRv.rt22
    have alv := alloc_below (w := wk22) (.cells #[.bool sv, .slice awv nv cv, .slice bv mv dv] 45)
    have Nv := Pb.new wk22 45 #[.bool sv, .slice awv nv cv, .slice bv mv dv]
    replace Nf := (Nf.later hbv).later alv
    replace Nx := (Nx.later hbv).later alv
    replace Ny := (Ny.later hbv).later alv
    replace Nm := (Nm.later hbv).later alv
    replace Nu := (Nu.later hbv).later alv
    replace Rx := (Rx.later hbv).later alv
    replace Ry := (Ry.later hbv).later alv
    replace Ru := (Ru.later hbv).later alv
    have HB23 := HGG.out.trans ((hbv.trans (alv.mono hbv.size)).mono (by have := HGG.out.size; have := HG.out; omega))
    replace HGG : Hid _ := HB23
    clear HB23
    have Rv := (qv).later alv
    clear alv hbv
    clear hRv qv
    simp only at zu zv Ru Rv
    rw [hon.1] at zu Ru
    rw [hon.2] at zv Rv
    clear Nf hon hKb
    obtain ⟨ldu0, ldu1, ldu2⟩ := pb_tri Nu
    go_wp2_with fail
    generalize wk22.alloc (.cells #[.bool sv, .slice awv nv cv, .slice bv mv dv] 45) = wk22' at *
    refine (rSign_any (w := wk22') (K := 0) Ru (by have := Ru.le zu; omega) rfl).mono ?_
    rintro ek wk24 ⟨rfl, hb1⟩
    clear ldu0 ldu1 ldu2
    replace Nx := Nx.later hb1
    replace Ny := Ny.later hb1
    replace Nm := Nm.later hb1
    replace Nu := Nu.later hb1
    replace Nv := Nv.later hb1
    replace Rx := Rx.later hb1
    replace Ry := Ry.later hb1
    replace Ru := Ru.later hb1
    replace Rv := Rv.later hb1
    have HB25 := HGG.out.trans (hb1.mono (by have := HGG.out.size; have := HG.out; omega))
    replace HGG : Hid _ := HB25
    clear HB25
    clear hb1
    obtain ⟨ldv0, ldv1, ldv2⟩ := pb_tri Nv
    go_wp2_with fail
    refine (rSign_any (w := wk24) (K := 0) Rv (by have := Rv.le zv; omega) rfl).mono ?_
    rintro ek wk26 ⟨rfl, hb2⟩
    clear ldv0 ldv1 ldv2
    replace Nx := Nx.later hb2
    replace Ny := Ny.later hb2
    replace Nm := Nm.later hb2
    replace Nu := Nu.later hb2
    replace Nv := Nv.later hb2
    replace Rx := Rx.later hb2
    replace Ry := Ry.later hb2
    replace Ru := Ru.later hb2
    replace Rv := Rv.later hb2
    have HB27 := HGG.out.trans (hb2.mono (by have := HGG.out.size; have := HG.out; omega))
    replace HGG : Hid _ := HB27
    clear HB27
    clear hb2
    clear Nu Nv Ru Rv
    by_cases hk0 : k = 0
    · subst hk0
      obtain ⟨ldm0, ldm1, ldm2, ldm3, ldm4, ldm5⟩ := Nm.cells6
      clear Nx Ny Nm hM hF hsf Rx Ry
      go_wp2
      go_ret
      have q := HGG.out
      have hw := HG.out
      rw [hw]
      exact ⟨rfl, q⟩
    · have hkb : (k == 0) = false := by simpa using hk0
      obtain ⟨ldm0, ldm1, ldm2, ldm3, ldm4, ldm5⟩ := Nm.cells6
      obtain ⟨ldx0, ldx1, ldx2⟩ := pb_tri Nx
      go_wp2_with fail
      refine (nearRat_ok (w := wk26) (mode := 0) Rx zx (by omega) (by omega) (by omega) (HGR.out.later (by rw [HG.out]; exact HGG.out))).mono ?_
      rintro ek wk28 ⟨v, E, rfl, hv, _, hb3⟩
      clear ldm0 ldm1 ldm2 ldm3 ldm4 ldm5 ldx0 ldx1 ldx2
      replace Nx := Nx.later hb3
      replace Ny := Ny.later hb3
      replace Nm := Nm.later hb3
      replace Rx := Rx.later hb3
      replace Ry := Ry.later hb3
      have HB29 := HGG.out.trans (hb3.mono (by have := HGG.out.size; have := HG.out; omega))
      replace HGG : Hid _ := HB29
      clear HB29
      clear hb3
      clear hkb
      obtain ⟨ldy0, ldy1, ldy2⟩ := pb_tri Ny
      go_wp2_with fail
      refine (nearRat_ok (w := wk28) (mode := 0) Ry zy (by omega) (by omega) (by omega) (HGR.out.later (by rw [HG.out]; exact HGG.out))).mono ?_
      rintro ek wk30 ⟨u, E', rfl, hu, _, hb4⟩
      clear ldy0 ldy1 ldy2
      replace Nx := Nx.later hb4
      replace Ny := Ny.later hb4
      replace Nm := Nm.later hb4
      replace Rx := Rx.later hb4
      replace Ry := Ry.later hb4
      have HB31 := HGG.out.trans (hb4.mono (by have := HGG.out.size; have := HG.out; omega))
      replace HGG : Hid _ := HB31
      clear HB31
      clear hb4
      rw [Rx.sgn] at hv
      rw [Ry.sgn] at hu
      have hr := mt_round (a := (y0, y1)) (b := (y2, y3)) (c := (y4, y5)) (d := (y6, y7)) ⟨hu0, hu1⟩ ⟨hu2, hu3⟩ ⟨hu4, hu5⟩ ⟨hu6, hu7⟩ ⟨hf0, hf1⟩ ⟨hf2, hf3⟩ ⟨hf4, hf5⟩ ⟨hf6, hf7⟩ hF hM hk0 hv hu
      obtain ⟨e1, e2, e3, e4, e5⟩ := hr
      simp only at e1 e2 e3
      subst e1 e2 e3 e4 e5
      obtain ⟨ldm0, ldm1, ldm2, ldm3, ldm4, ldm5⟩ := Nm.cells6
      clear Nx Ny Nm hM hF hsf Rx Ry hv hu hk0
      go_wp2
      go_ret
      have q := HGG.out
      have hw := HG.out
      rw [hw]
      exact ⟨rfl, q⟩
end Go.Proofs.YtienpliknhkbjaaGreatDoor

/- plumblaw23.Four (four points), plumblaw23.Odd among the inputs, opened. -/
namespace Go.Proofs.YtienpliknhkbjaaGreatDoor
open Go.ChangeShapes Go.WideShapes Go.ChangeAt Go.RowKit
open Na Ar
set_option linter.unusedVariables false
theorem cells_u64f : Tryz.prog.cellsOf 22 = 1 := by kernel_rfl
theorem cells_pointf : Tryz.prog.cellsOf 24 = 2 := by kernel_rfl
theorem cells_four : Tryz.prog.cellsOf 26 = 8 := by kernel_rfl
set_option maxRecDepth 100000 in
theorem trod_u64f {H : Type} {enc : TypeId × Value → H} {w : World} {base m : Nat} {spare : Nat → Bool} {held : Bool} {cs : Value} {x : DataW H × List MemPlace}
    (hf : DataW.trod enc Tryz.prog w base spare held m 22 [cs] = some x) : ∃ s, cs = .int .u64 s ∧ U s := by
  obtain ⟨s, e0, _, hw⟩ := DataW.trod_int Tryz.underlying22 hf
  simp at e0
  simp only [Lit.wf, Bool.and_eq_true, decide_eq_true_eq] at hw
  have h1 : IntKind.u64.min = 0 := rfl
  have h2 : IntKind.u64.max = 18446744073709551615 := rfl
  exact ⟨s, e0, by unfold U; omega⟩
set_option maxRecDepth 100000 in
theorem trod_pointf {H : Type} {enc : TypeId × Value → H} {w : World} {base m : Nat} {spare : Nat → Bool} {held : Bool} {c0 c1 : Value} {x : DataW H × List MemPlace}
    (hf : DataW.trod enc Tryz.prog w base spare held m 24 [c0, c1] = some x) : ∃ s t, c0 = .int .u64 s ∧ c1 = .int .u64 t ∧ U s ∧ U t := by
  obtain ⟨xs, m, _, _, hl, hx, hi⟩ := DataW.trod_struct Tryz.underlying24 hf
  have i0 := hi 0 _ rfl
  have i1 := hi 1 _ rfl
  match xs, hx with
  | [x0, x1], _ =>
    simp [cells_u64f] at i0 i1
    obtain ⟨s, rfl, k0⟩ := trod_u64f i0
    obtain ⟨t, rfl, k1⟩ := trod_u64f i1
    exact ⟨s, t, rfl, rfl, k0, k1⟩
set_option maxRecDepth 100000 in
theorem open_four {H : Type} {enc : TypeId × Value → H} {w : World} {r : Reach} {base b0 : Nat} {spare : Nat → Bool} {held : Bool} {v : Value} {d : DataW H} {p : List MemPlace}
    (hv : Value.okWide Tryz.prog w r b0 26 v) (h : DataW.Trod enc Tryz.prog w base spare held 26 v d p) :
    ∃ x0 x1 x2 x3 x4 x5 x6 x7, v = .agg #[.int .u64 x0, .int .u64 x1, .int .u64 x2, .int .u64 x3, .int .u64 x4, .int .u64 x5, .int .u64 x6, .int .u64 x7] ∧ U x0 ∧ U x1 ∧ U x2 ∧ U x3 ∧ U x4 ∧ U x5 ∧ U x6 ∧ U x7 := by
  obtain ⟨cs, rfl, hsz⟩ := okWide_struct Tryz.underlying26 hv
  obtain ⟨fuel, hf⟩ := h
  obtain ⟨xs, m, _, _, hl, hx, hi⟩ := DataW.trod_struct Tryz.underlying26 hf
  rw [cells_four] at hsz
  obtain ⟨c0, c1, c2, c3, c4, c5, c6, c7, rfl⟩ : ∃ c0 c1 c2 c3 c4 c5 c6 c7, cs = #[c0, c1, c2, c3, c4, c5, c6, c7] := by
    match cs, hsz with
    | ⟨[c0, c1, c2, c3, c4, c5, c6, c7]⟩, _ => exact ⟨c0, c1, c2, c3, c4, c5, c6, c7, rfl⟩
  have i0 := hi 0 _ rfl
  have i1 := hi 1 _ rfl
  have i2 := hi 2 _ rfl
  have i3 := hi 3 _ rfl
  match xs, hx with
  | [x0, x1, x2, x3], _ =>
    simp [Value.cells, cells_pointf] at i0 i1 i2 i3
    obtain ⟨y0, y1, rfl, rfl, k0, k1⟩ := trod_pointf i0
    obtain ⟨y2, y3, rfl, rfl, k2, k3⟩ := trod_pointf i1
    obtain ⟨y4, y5, rfl, rfl, k4, k5⟩ := trod_pointf i2
    obtain ⟨y6, y7, rfl, rfl, k6, k7⟩ := trod_pointf i3
    exact ⟨y0, y1, y2, y3, y4, y5, y6, y7, rfl, k0, k1, k2, k3, k4, k5, k6, k7⟩
end Go.Proofs.YtienpliknhkbjaaGreatDoor

