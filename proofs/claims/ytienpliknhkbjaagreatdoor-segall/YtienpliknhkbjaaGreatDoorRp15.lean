import Derived.Eval
import Derived.Deep.Cut
import Derived.Deep.DeepCutAuto
import Derived.WalkKit
import Derived.ProofKit
import Derived.OpenShut
import Derived.ShutString
import Derived.ChangeOld
import Derived.Below
import Derived.BigQuiet
import Derived.Deep.DeepFit
import Derived.Deep.LoopGhost
import Derived.Deep.QuietTactic
import Derived.Deep.RegionHeld3
import Derived.Deep.RegionWith
import Derived.Defers
import Derived.KernelRfl
import Derived.Laws.BitsAllLaws
import Derived.Laws.CopyRow
import Derived.Laws.EntriesVeiled
import Derived.Laws.IdiomCopy
import Derived.Laws.IdiomRangeMap
import Derived.Orders
import Derived.OwnWalk
import Derived.Recover
import Derived.Scope
import Derived.WalkLawsBesides
import Derived.WalkMore
import Derived.WalkSpells
import Derived.Test.YtienpliknhkbjaaGreatDoorRp14
/- The crossing's numbers with f.D, f.C ahead; Meet's one answer. -/
namespace Go.Proofs.YtienpliknhkbjaaGreatDoor
open Go.ChangeShapes Go.WideShapes Go.ChangeAt Go.RowKit
open Na Ar
set_option linter.unusedVariables false
theorem meet_there {w : World} {a b c d : Int × Int} (ua : U2 a) (ub : U2 b) (uc : U2 c) (ud : U2 d) (fa : fin2 a) (fb : fin2 b) (fc : fin2 c) (fd : fin2 d) (hG : GrVar w) : ∃ M, MtIs a b c d M := by
  have h : Calls Tryz.prog 10 #[.agg #[.int .u64 a.1, .int .u64 a.2], .agg #[.int .u64 b.1, .int .u64 b.2], .agg #[.int .u64 c.1, .int .u64 c.2], .agg #[.int .u64 d.1, .int .u64 d.2]] w (fun | .returned v, _ => ∃ M, MtIs a b c d M | _, _ => False) := by
    refine (Meet23_is ua ub uc ud fa fb fc fd hG).mono ?_
    rintro e w' ⟨M, hM, rfl, _⟩
    exact ⟨M, hM⟩
  obtain ⟨_, _, _, _, _, _, q⟩ := h.done_lone (by kernel_rfl)
  exact q
theorem Meet23_one {w : World} {a b c d : Int × Int} {M : (Int × Bool) × (Int × Int) × (Int × Int)} (ua : U2 a) (ub : U2 b) (uc : U2 c) (ud : U2 d) (fa : fin2 a) (fb : fin2 b) (fc : fin2 c) (fd : fin2 d) (hG : GrVar w) (h : MtIs a b c d M) :
    Calls Tryz.prog 10 #[.agg #[.int .u64 a.1, .int .u64 a.2], .agg #[.int .u64 b.1, .int .u64 b.2], .agg #[.int .u64 c.1, .int .u64 c.2], .agg #[.int .u64 d.1, .int .u64 d.2]] w fun e w' => e = .returned (.tuple #[mtV M, .int .i64 0]) ∧ Below w.heap.size w w' := by
  refine (Meet23_is ua ub uc ud fa fb fc fd hG).mono ?_
  rintro e w' ⟨N, hN, rfl, hb⟩
  have e := h.eq hN rfl (fun _ => ⟨rfl, rfl⟩)
  subst e
  exact ⟨rfl, hb⟩
end Go.Proofs.YtienpliknhkbjaaGreatDoor

/- package seg: a meeting where the lines have one place is that place (pure; for SegCross, TopMeets). -/
namespace Go.Proofs.YtienpliknhkbjaaGreatDoor
open Na Ar
set_option linter.unusedVariables false
theorem lohi_line {a b x : Int × Int} (h : crR (vR (loP a b).1) (vR (loP a b).2) (vR (hiP a b).1) (vR (hiP a b).2) (vR x.1) (vR x.2) = 0) : crR (vR a.1) (vR a.2) (vR b.1) (vR b.2) (vR x.1) (vR x.2) = 0 := by
  unfold loP hiP at h
  by_cases s : 0 < orP a b
  · simp only [if_pos s] at h
    rw [crR_turn] at h
    grind
  · simp only [if_neg s] at h
    exact h
theorem lohi_ok {a b : Int × Int} (ha : pOk a) (hb : pOk b) : pOk (loP a b) ∧ pOk (hiP a b) := by
  unfold loP hiP
  by_cases s : 0 < orP a b
  · simp only [if_pos s]; exact ⟨hb, ha⟩
  · simp only [if_neg s]; exact ⟨ha, hb⟩
theorem ends_pOk {a b c d x : Int × Int} (ha : pOk a) (hb : pOk b) (hc : pOk c) (hd : pOk d) (h : x ∈ endsP a b c d) : pOk x := by
  rw [ends_mem] at h
  rcases h with ⟨_, rfl⟩ | ⟨_, rfl⟩ | ⟨_, rfl⟩ | ⟨_, rfl⟩ <;> assumption
theorem vR_inj {r s : Int} (h : rOk r) (h' : rOk s) (e : vR r = vR s) : r = s := by
  rcases Int.lt_trichotomy r s with k | k | k
  · have := vR_lt h h' k; rw [e] at this; exact absurd this (by grind)
  · exact k
  · have := vR_lt h' h k; rw [e] at this; exact absurd this (by grind)
end Go.Proofs.YtienpliknhkbjaaGreatDoor

/- package seg: meetings as pred tells them (pure; for SegPred, TopMeets). -/
namespace Go.Proofs.YtienpliknhkbjaaGreatDoor
open Na Ar
set_option linter.unusedVariables false
/-- Orient's answer -/
def sdQ (a b c : Int × Int) : Int := sgnR (crR (valR a.1) (valR a.2) (valR b.1) (valR b.2) (valR c.1) (valR c.2))
/-- Between's answer -/
def btQ (a b c : Int × Int) : Bool := decide (0 ≤ ordS (valR a.1) (valR a.2) (valR c.1) (valR c.2) * ordS (valR c.1) (valR c.2) (valR b.1) (valR b.2)) && decide (sgnR (crR (valR a.1) (valR a.2) (valR b.1) (valR b.2) (valR c.1) (valR c.2)) = 0)
theorem sdQ_in (a b c : Int × Int) : -1 ≤ sdQ a b c ∧ sdQ a b c ≤ 1 := sgnR_in _
theorem sdQ_rk {a b c : Int × Int} (ua : U2 a) (ub : U2 b) (uc : U2 c) (fa : fin2 a) (fb : fin2 b) (fc : fin2 c) : sdP (rkP a) (rkP b) (rkP c) = sdQ a b c := by
  unfold sdP sdQ rkP
  simp only
  rw [vR_rk ua.1 fa.1, vR_rk ua.2 fa.2, vR_rk ub.1 fb.1, vR_rk ub.2 fb.2, vR_rk uc.1 fc.1, vR_rk uc.2 fc.2]
theorem orP_rk {a b : Int × Int} (ua : U2 a) (ub : U2 b) (fa : fin2 a) (fb : fin2 b) : orP (rkP a) (rkP b) = ordS (valR a.1) (valR a.2) (valR b.1) (valR b.2) := by
  rw [orP_S (rkP_ok ua fa) (rkP_ok ub fb)]
  unfold rkP
  simp only
  rw [vR_rk ua.1 fa.1, vR_rk ua.2 fa.2, vR_rk ub.1 fb.1, vR_rk ub.2 fb.2]
theorem btQ_on {a b c : Int × Int} (ua : U2 a) (ub : U2 b) (uc : U2 c) (fa : fin2 a) (fb : fin2 b) (fc : fin2 c) : onP (loP (rkP a) (rkP b)) (hiP (rkP a) (rkP b)) (rkP c) = btQ a b c := by
  have e : onP (loP (rkP a) (rkP b)) (hiP (rkP a) (rkP b)) (rkP c) = true ↔ btQ a b c = true := by
    rw [onP_iff]
    unfold btQ
    simp only [Bool.and_eq_true, decide_eq_true_eq]
    have k1 := orP_rk ua ub fa fb
    have k2 := orP_rk ua uc fa fc
    have k3 := orP_rk ub uc fb fc
    have k4 := orP_rk uc ub fc fb
    have k5 := orP_rk uc ua fc fa
    have k6 := sdQ_rk ua ub uc fa fb fc
    have hs : sgnR (crR (valR a.1) (valR a.2) (valR b.1) (valR b.2) (valR c.1) (valR c.2)) = sdQ a b c := rfl
    rw [hs]
    unfold loP hiP
    by_cases s : 0 < orP (rkP a) (rkP b)
    · simp only [if_pos s]
      rw [sdP_turn, k6, k3, k5]
      have o : ordS (valR b.1) (valR b.2) (valR a.1) (valR a.2) ≤ 0 := by rw [ordS_swap, ← k1]; omega
      rw [spans_prod o, between_swap]
      constructor
      · rintro ⟨h1, h2⟩; exact ⟨h2, by omega⟩
      · rintro ⟨h1, h2⟩; exact ⟨by omega, h1⟩
    · simp only [if_neg s]
      rw [k6, k2, k4]
      have o : ordS (valR a.1) (valR a.2) (valR b.1) (valR b.2) ≤ 0 := by rw [← k1]; omega
      rw [spans_prod o]
      constructor
      · rintro ⟨h1, h2⟩; exact ⟨h2, h1⟩
      · rintro ⟨h1, h2⟩; exact ⟨h2, h1⟩
  cases h1 : onP (loP (rkP a) (rkP b)) (hiP (rkP a) (rkP b)) (rkP c) <;> cases h2 : btQ a b c <;> simp_all
theorem sd_lohi (a b x y : Int × Int) : sdP (loP a b) (hiP a b) x * sdP (loP a b) (hiP a b) y = sdP a b x * sdP a b y := by
  unfold loP hiP
  by_cases s : 0 < orP a b
  · simp only [if_pos s]
    rw [sdP_turn (a := a), sdP_turn (a := a), Int.neg_mul_neg]
  · simp only [if_neg s]
theorem lohi_two (a b : Int × Int) : (loP a b = a ∧ hiP a b = b) ∨ (loP a b = b ∧ hiP a b = a) := by
  unfold loP hiP
  by_cases s : 0 < orP a b
  · simp only [if_pos s]; exact Or.inr ⟨trivial, trivial⟩
  · simp only [if_neg s]; exact Or.inl ⟨trivial, trivial⟩
theorem lt_is {p q : Int} (hp : -1 ≤ p ∧ p ≤ 1) (hq : -1 ≤ q ∧ q ≤ 1) : p * q < 0 ↔ p * q = -1 := by
  rcases (show p = -1 ∨ p = 0 ∨ p = 1 by omega) with rfl | rfl | rfl <;> omega
section
variable {a b c d : Int × Int} {M : (Int × Bool) × (Int × Int) × (Int × Int)}
theorem pr_is (ua : U2 a) (ub : U2 b) (uc : U2 c) (ud : U2 d) (fa : fin2 a) (fb : fin2 b) (fc : fin2 c) (fd : fin2 d) :
    prP (loP (rkP a) (rkP b)) (hiP (rkP a) (rkP b)) (loP (rkP c) (rkP d)) (hiP (rkP c) (rkP d)) ↔ sdQ a b c * sdQ a b d = -1 ∧ sdQ c d a * sdQ c d b = -1 := by
  unfold prP
  have e1 : sdP (loP (rkP a) (rkP b)) (hiP (rkP a) (rkP b)) (loP (rkP c) (rkP d)) * sdP (loP (rkP a) (rkP b)) (hiP (rkP a) (rkP b)) (hiP (rkP c) (rkP d)) = sdQ a b c * sdQ a b d := by
    rw [sd_lohi]
    rcases lohi_two (rkP c) (rkP d) with ⟨h1, h2⟩ | ⟨h1, h2⟩ <;> rw [h1, h2, sdQ_rk ua ub uc fa fb fc, sdQ_rk ua ub ud fa fb fd]
    exact Int.mul_comm _ _
  have e2 : sdP (loP (rkP c) (rkP d)) (hiP (rkP c) (rkP d)) (loP (rkP a) (rkP b)) * sdP (loP (rkP c) (rkP d)) (hiP (rkP c) (rkP d)) (hiP (rkP a) (rkP b)) = sdQ c d a * sdQ c d b := by
    rw [sd_lohi]
    rcases lohi_two (rkP a) (rkP b) with ⟨h1, h2⟩ | ⟨h1, h2⟩ <;> rw [h1, h2, sdQ_rk uc ud ua fc fd fa, sdQ_rk uc ud ub fc fd fb]
    exact Int.mul_comm _ _
  rw [e1, e2, lt_is (sdQ_in _ _ _) (sdQ_in _ _ _), lt_is (sdQ_in _ _ _) (sdQ_in _ _ _)]
theorem ends_is (ua : U2 a) (ub : U2 b) (uc : U2 c) (ud : U2 d) (fa : fin2 a) (fb : fin2 b) (fc : fin2 c) (fd : fin2 d) (x : Int × Int) :
    x ∈ endsP (loP (rkP a) (rkP b)) (hiP (rkP a) (rkP b)) (loP (rkP c) (rkP d)) (hiP (rkP c) (rkP d)) ↔ (btQ a b c = true ∧ x = rkP c) ∨ (btQ a b d = true ∧ x = rkP d) ∨ (btQ c d a = true ∧ x = rkP a) ∨ (btQ c d b = true ∧ x = rkP b) := by
  rw [ends_mem]
  have t1 := btQ_on ua ub uc fa fb fc
  have t2 := btQ_on ua ub ud fa fb fd
  have t3 := btQ_on uc ud ua fc fd fa
  have t4 := btQ_on uc ud ub fc fd fb
  generalize hA : loP (rkP a) (rkP b) = A at *
  generalize hB : hiP (rkP a) (rkP b) = B at *
  generalize hC : loP (rkP c) (rkP d) = C at *
  generalize hD : hiP (rkP c) (rkP d) = D at *
  have h1 := lohi_two (rkP a) (rkP b)
  have h2 := lohi_two (rkP c) (rkP d)
  rw [hA, hB] at h1
  rw [hC, hD] at h2
  rw [← t1, ← t2, ← t3, ← t4]
  clear t1 t2 t3 t4 hA hB hC hD
  rcases h1 with ⟨e1, e2⟩ | ⟨e1, e2⟩ <;> rcases h2 with ⟨e3, e4⟩ | ⟨e3, e4⟩ <;> rw [← e1, ← e2, ← e3, ← e4] <;> constructor <;> (rintro (h | h | h | h) <;> simp [h])
end
/-- a place's point has the place -/
theorem sm_pt {a : Int × Int} (ua : U2 a) (fa : fin2 a) : SmP (ptP (rkP a)) a := by
  have k := rkP_ok ua fa
  have e1 : valR (ptP (rkP a)).1 = valR a.1 := by
    show vR (rkP a).1 = _
    exact vR_rk ua.1 fa.1
  have e2 : valR (ptP (rkP a)).2 = valR a.2 := by
    show vR (rkP a).2 = _
    exact vR_rk ua.2 fa.2
  unfold SmP
  rw [e1, e2, ordS_zero]
  exact ⟨rfl, rfl⟩
theorem pt_ok {p : Int × Int} (h : pOk p) : U2 (ptP p) ∧ fin2 (ptP p) := by
  have f1 := at_fin h.1
  have f2 := at_fin h.2
  exact ⟨⟨f1.1, f2.1⟩, ⟨f1.2, f2.2⟩⟩
theorem rk_at {r : Int} (h : rOk r) : rk0 (atW r) = r := by
  unfold rk0
  by_cases hr : r < 0
  · rw [at_neg h hr, if_neg (by omega)]; omega
  · rw [at_pos h (by omega), if_pos (by unfold rOk at h; omega)]
theorem rk_pt {p : Int × Int} (h : pOk p) : rkP (ptP p) = p := by
  unfold rkP ptP
  simp only
  rw [rk_at h.1, rk_at h.2]
end Go.Proofs.YtienpliknhkbjaaGreatDoor

/- package seg: what Meet answers, as pred tells it (pure; for SegPred, TopMeets). -/
namespace Go.Proofs.YtienpliknhkbjaaGreatDoor
open Na Ar
set_option linter.unusedVariables false
theorem lohi_le (a b : Int × Int) : orP (loP a b) (hiP a b) ≤ 0 := by
  unfold loP hiP
  have k := orP_swap a b
  by_cases s : 0 < orP a b
  · simp only [if_pos s]; omega
  · simp only [if_neg s]; omega
theorem orP_self (a : Int × Int) : orP a a = 0 := orP_zero.mpr rfl
theorem on_first {a b : Int × Int} (h : orP a b ≤ 0) : onP a b a = true := by
  rw [onP_iff]
  refine ⟨?_, by rw [orP_self]; omega, h⟩
  unfold sdP
  rw [crR_self]
  rfl
theorem on_last {a b : Int × Int} (h : orP a b ≤ 0) : onP a b b = true := by
  rw [onP_iff]
  refine ⟨?_, h, by rw [orP_self]; omega⟩
  unfold sdP
  rw [crR_end]
  rfl
theorem ends_both {a b c d x : Int × Int} (h1 : orP a b ≤ 0) (h2 : orP c d ≤ 0) (h : x ∈ endsP a b c d) : onP a b x = true ∧ onP c d x = true := by
  rw [ends_mem] at h
  rcases h with ⟨h, rfl⟩ | ⟨h, rfl⟩ | ⟨h, rfl⟩ | ⟨h, rfl⟩
  · exact ⟨h, on_first h2⟩
  · exact ⟨on_first h1, h⟩
  · exact ⟨h, on_last h2⟩
  · exact ⟨on_last h1, h⟩
section
variable {a b c d p : Int × Int} {M N : (Int × Bool) × (Int × Int) × (Int × Int)}
/-- two places of both stretches: all lies on one line -/
theorem two_zero (ua : U2 a) (ub : U2 b) (uc : U2 c) (ud : U2 d) (fa : fin2 a) (fb : fin2 b) (fc : fin2 c) (fd : fin2 d) {x y : Int × Int}
    (hx : x ∈ endsP (loP (rkP a) (rkP b)) (hiP (rkP a) (rkP b)) (loP (rkP c) (rkP d)) (hiP (rkP c) (rkP d)))
    (hy : y ∈ endsP (loP (rkP a) (rkP b)) (hiP (rkP a) (rkP b)) (loP (rkP c) (rkP d)) (hiP (rkP c) (rkP d))) (hne : x ≠ y) :
    sdQ a b c = 0 ∧ sdQ a b d = 0 ∧ sdQ c d a = 0 ∧ sdQ c d b = 0 := by
  have ka := rkP_ok ua fa
  have kb := rkP_ok ub fb
  have kc := rkP_ok uc fc
  have kd := rkP_ok ud fd
  have l1 := lohi_ok ka kb
  have l2 := lohi_ok kc kd
  have ox := ends_pOk l1.1 l1.2 l2.1 l2.2 hx
  have oy := ends_pOk l1.1 l1.2 l2.1 l2.2 hy
  have bx := ends_both (lohi_le _ _) (lohi_le _ _) hx
  have by' := ends_both (lohi_le _ _) (lohi_le _ _) hy
  obtain ⟨t1, _, _, e1, e2⟩ := on_share l1.1 l1.2 ox bx.1
  obtain ⟨u1, _, _, e3, e4⟩ := on_share l2.1 l2.2 ox bx.2
  obtain ⟨t2, _, _, e5, e6⟩ := on_share l1.1 l1.2 oy by'.1
  obtain ⟨u2, _, _, e7, e8⟩ := on_share l2.1 l2.2 oy by'.2
  have z := two_places e1 e2 e3 e4 e5 e6 e7 e8 (fun q => hne (Prod.ext (vR_inj ox.1 oy.1 q.1) (vR_inj ox.2 oy.2 q.2)))
  obtain ⟨z1, z2, z3, z4⟩ := z
  replace z1 := lohi_line z1
  replace z2 := lohi_line z2
  replace z3 := lohi_line z3
  replace z4 := lohi_line z4
  rw [← sdQ_rk ua ub uc fa fb fc, ← sdQ_rk ua ub ud fa fb fd, ← sdQ_rk uc ud ua fc fd fa, ← sdQ_rk uc ud ub fc fd fb]
  unfold sdP
  simp only [sgnR_eq0]
  rcases lohi_two (rkP a) (rkP b) with ⟨h1, h2⟩ | ⟨h1, h2⟩ <;> rcases lohi_two (rkP c) (rkP d) with ⟨h3, h4⟩ | ⟨h3, h4⟩ <;> rw [h3] at z1 <;> rw [h4] at z2 <;> rw [h1] at z3 <;> rw [h2] at z4
  · exact ⟨z1, z2, z3, z4⟩
  · exact ⟨z2, z1, z3, z4⟩
  · exact ⟨z1, z2, z4, z3⟩
  · exact ⟨z2, z1, z4, z3⟩
/-- the ends that lie on the other stretch, by Between -/
def onQ (a b c d x : Int × Int) : Prop := (btQ a b c = true ∧ x = rkP c) ∨ (btQ a b d = true ∧ x = rkP d) ∨ (btQ c d a = true ∧ x = rkP a) ∨ (btQ c d b = true ∧ x = rkP b)
theorem bt_side (h : btQ a b c = true) : sdQ a b c = 0 := by
  unfold btQ at h
  simp only [Bool.and_eq_true, decide_eq_true_eq] at h
  exact h.2
/-- what Meet answers -/
theorem mt_pred (ua : U2 a) (ub : U2 b) (uc : U2 c) (ud : U2 d) (fa : fin2 a) (fb : fin2 b) (fc : fin2 c) (fd : fin2 d) (h : MtIs a b c d M) :
    (M.1.2 = true ∧ M.1.1 = 1 ∧ (sdQ a b c * sdQ a b d = -1 ∧ sdQ c d a * sdQ c d b = -1) ∧ (∀ x, ¬ onQ a b c d x)) ∨
    (M.1.2 = false ∧ M.1.1 = 0 ∧ M.2.1 = (0, 0) ∧ M.2.2 = (0, 0) ∧ ¬ (sdQ a b c * sdQ a b d = -1 ∧ sdQ c d a * sdQ c d b = -1) ∧ (∀ x, ¬ onQ a b c d x)) ∨
    (M.1.2 = false ∧ M.1.1 = 1 ∧ M.2.2 = (0, 0) ∧ ¬ (sdQ a b c * sdQ a b d = -1 ∧ sdQ c d a * sdQ c d b = -1) ∧ ∃ x, onQ a b c d x ∧ M.2.1 = ptP x) ∨
    (M.1.2 = false ∧ M.1.1 = 2 ∧ ¬ (sdQ a b c * sdQ a b d = -1 ∧ sdQ c d a * sdQ c d b = -1) ∧ ∃ x y, onQ a b c d x ∧ onQ a b c d y ∧ M.2.1 = ptP x ∧ M.2.2 = ptP y ∧ orP x y < 0 ∧
      (sdQ a b c = 0 ∧ sdQ a b d = 0 ∧ sdQ c d a = 0 ∧ sdQ c d b = 0) ∧ pOk y ∧ onP (loP (rkP a) (rkP b)) (hiP (rkP a) (rkP b)) y = true ∧ onP (loP (rkP c) (rkP d)) (hiP (rkP c) (rkP d)) y = true) := by
  have hpr := pr_is ua ub uc ud fa fb fc fd
  have hen := ends_is ua ub uc ud fa fb fc fd
  have hno : ∀ x, onQ a b c d x → ¬ (sdQ a b c * sdQ a b d = -1 ∧ sdQ c d a * sdQ c d b = -1) := by
    rintro x (⟨h, _⟩ | ⟨h, _⟩ | ⟨h, _⟩ | ⟨h, _⟩) ⟨q1, q2⟩ <;> have z := bt_side h
    · rw [z, Int.zero_mul] at q1; omega
    · rw [z, Int.mul_zero] at q1; omega
    · rw [z, Int.zero_mul] at q2; omega
    · rw [z, Int.mul_zero] at q2; omega
  have l1 := lohi_ok (rkP_ok ua fa) (rkP_ok ub fb)
  have l2 := lohi_ok (rkP_ok uc fc) (rkP_ok ud fd)
  rcases h with ⟨hp, rfl⟩ | ⟨hp, v, u, _, _, rfl⟩
  · right
    unfold mtQ at hp ⊢
    have hn : ¬ prP (loP (rkP a) (rkP b)) (hiP (rkP a) (rkP b)) (loP (rkP c) (rkP d)) (hiP (rkP c) (rkP d)) := fun k => by
      rw [mtP_proper k] at hp
      cases hp
    have hns : ¬ (sdQ a b c * sdQ a b d = -1 ∧ sdQ c d a * sdQ c d b = -1) := fun k => hn (hpr.mpr k)
    cases he : endsP (loP (rkP a) (rkP b)) (hiP (rkP a) (rkP b)) (loP (rkP c) (rkP d)) (hiP (rkP c) (rkP d)) with
    | nil =>
      left
      rw [mtP_none ⟨he, hn⟩]
      refine ⟨rfl, rfl, rfl, rfl, hns, fun x hx => ?_⟩
      have := (hen x).mpr hx
      rw [he] at this
      cases this
    | cons m l =>
      right
      have hL : leastP m l ∈ endsP (loP (rkP a) (rkP b)) (hiP (rkP a) (rkP b)) (loP (rkP c) (rkP d)) (hiP (rkP c) (rkP d)) := by rw [he]; exact least_in m l
      have hG : greatP m l ∈ endsP (loP (rkP a) (rkP b)) (hiP (rkP a) (rkP b)) (loP (rkP c) (rkP d)) (hiP (rkP c) (rkP d)) := by rw [he]; exact great_in m l
      by_cases hq : leastP m l = greatP m l
      · left
        rw [mtP_one hn he hq]
        exact ⟨rfl, rfl, rfl, hns, _, (hen _).mp hL, rfl⟩
      · right
        rw [mtP_many hn he hq]
        have o1 := least_le (m := m) (l := l) (great_in m l)
        have o2 : orP (leastP m l) (greatP m l) ≠ 0 := fun k => hq (orP_zero.mp k)
        have bo := ends_both (lohi_le _ _) (lohi_le _ _) hG
        exact ⟨rfl, rfl, hns, _, _, (hen _).mp hL, (hen _).mp hG, rfl, rfl, by omega, two_zero ua ub uc ud fa fb fc fd hL hG hq, ends_pOk l1.1 l1.2 l2.1 l2.2 hG, bo.1, bo.2⟩
  · left
    have k := mt_bool.1.mp hp
    have hs := hpr.mp k
    exact ⟨rfl, rfl, hs, fun x hx => hno x hx hs⟩
/-- how a point meets a stretch -/
theorem mt_point (ua : U2 a) (ub : U2 b) (up : U2 p) (fa : fin2 a) (fb : fin2 b) (fp : fin2 p) (h : MtIs a b p p N) :
    N.1.2 = false ∧ (btQ a b p = true → N.1.1 = 1 ∧ N.2.1 = ptP (rkP p)) ∧ (btQ a b p = false → N.1.1 = 0) := by
  have hpp : ∀ x : Int × Int, U2 x → fin2 x → btQ p p x = true → rkP x = rkP p := by
    intro x ux fx hx
    rw [← btQ_on up up ux fp fp fx, onP_iff] at hx
    have e : loP (rkP p) (rkP p) = rkP p ∧ hiP (rkP p) (rkP p) = rkP p := by
      rcases lohi_two (rkP p) (rkP p) with ⟨h1, h2⟩ | ⟨h1, h2⟩ <;> exact ⟨h1, h2⟩
    rw [e.1, e.2] at hx
    exact (orP_anti hx.2.1 hx.2.2).symm
  have hself : ∀ x : Int × Int, U2 x → fin2 x → rkP x = rkP p → (x = a ∨ x = b) → btQ a b p = true := by
    intro x ux fx hx hab
    rw [← btQ_on ua ub up fa fb fp, ← hx]
    have l := lohi_le (rkP a) (rkP b)
    rcases lohi_two (rkP a) (rkP b) with ⟨h1, h2⟩ | ⟨h1, h2⟩ <;> rcases hab with rfl | rfl
    · have := on_first l; rw [h1] at this ⊢; exact this
    · have := on_last l; rw [h2] at this ⊢; exact this
    · have := on_last l; rw [h2] at this ⊢; exact this
    · have := on_first l; rw [h1] at this ⊢; exact this
  have hon : ∀ x, onQ a b p p x → x = rkP p ∧ btQ a b p = true := by
    rintro x (⟨h, rfl⟩ | ⟨h, rfl⟩ | ⟨h, rfl⟩ | ⟨h, rfl⟩)
    · exact ⟨rfl, h⟩
    · exact ⟨rfl, h⟩
    · have e := hpp a ua fa h
      exact ⟨e, hself a ua fa e (Or.inl rfl)⟩
    · have e := hpp b ub fb h
      exact ⟨e, hself b ub fb e (Or.inr rfl)⟩
  have sq : ¬ (sdQ a b p * sdQ a b p = -1 ∧ sdQ p p a * sdQ p p b = -1) := by
    rintro ⟨q, _⟩
    have i := sdQ_in a b p
    rcases (show sdQ a b p = -1 ∨ sdQ a b p = 0 ∨ sdQ a b p = 1 by omega) with e | e | e <;> rw [e] at q <;> omega
  rcases mt_pred ua ub up up fa fb fp fp h with ⟨_, _, q, _⟩ | ⟨h1, h2, _, _, _, h3⟩ | ⟨h1, h2, _, _, x, hx, e⟩ | ⟨_, _, _, x, y, hx, hy, _, _, ho, _⟩
  · exact absurd q sq
  · refine ⟨h1, fun hb => absurd (Or.inl ⟨hb, rfl⟩) (h3 (rkP p)), fun _ => h2⟩
  · obtain ⟨e1, e2⟩ := hon x hx
    subst e1
    exact ⟨h1, fun _ => ⟨h2, e⟩, fun hb => by rw [e2] at hb; cases hb⟩
  · rw [(hon x hx).1, (hon y hy).1, orP_self] at ho
    omega
end
/-- how many of the first are true -/
def cnB (T : Nat → Bool) : Nat → Nat
  | 0 => 0
  | j + 1 => cnB T j + (if T j then 1 else 0)
/-- is one of the first true of both? -/
def lsB (T P : Nat → Bool) : Nat → Bool
  | 0 => false
  | j + 1 => lsB T P j || (T j && P j)
theorem cnB_le (T : Nat → Bool) : ∀ n, cnB T n ≤ n
  | 0 => Nat.le_refl _
  | n + 1 => by
    have := cnB_le T n
    unfold cnB
    split <;> omega
theorem cnB_zero {T : Nat → Bool} : ∀ n, cnB T n = 0 → ∀ j, j < n → T j = false
  | 0, _, j, hj => absurd hj (by omega)
  | n + 1, h, j, hj => by
    unfold cnB at h
    have h2 : ¬ (T n = true) := fun e => by rw [if_pos e] at h; omega
    by_cases e : j = n
    · subst e; simpa using h2
    · exact cnB_zero n (by omega) j (by omega)
theorem cnB_pos {T : Nat → Bool} : ∀ n, cnB T n ≠ 0 → ∃ j, j < n ∧ T j = true
  | 0, h => absurd rfl h
  | n + 1, h => by
    by_cases e : T n = true
    · exact ⟨n, by omega, e⟩
    · unfold cnB at h
      rw [if_neg e] at h
      obtain ⟨j, hj, hT⟩ := cnB_pos n h
      exact ⟨j, by omega, hT⟩
theorem lsB_true {T P : Nat → Bool} : ∀ n j, j < n → T j = true → P j = true → lsB T P n = true
  | 0, j, hj, _, _ => absurd hj (by omega)
  | n + 1, j, hj, hT, hP => by
    unfold lsB
    by_cases e : j = n
    · subst e; rw [hT, hP]; simp
    · rw [lsB_true n j (by omega) hT hP]; simp
end Go.Proofs.YtienpliknhkbjaaGreatDoor

/- plumblaw23: opposite. -/
namespace Go.Proofs.YtienpliknhkbjaaGreatDoor
open Go.ChangeShapes Go.WideShapes Go.ChangeAt Go.RowKit
open Na Ar
set_option linter.unusedVariables false
set_option maxHeartbeats 3200000 in
set_option maxRecDepth 100000 in
theorem opposite23_any {x y : Int} (hx : -1 ≤ x ∧ x ≤ 1) (hy : -1 ≤ y ∧ y ≤ 1) (w : World) :
    Calls Tryz.prog 13 #[.int .i64 x, .int .i64 y] w fun e w' => e = .returned (.bool (decide (x * y = -1))) ∧ w = w' := by
  rcases (show x = -1 ∨ x = 0 ∨ x = 1 by omega) with rfl | rfl | rfl <;> rcases (show y = -1 ∨ y = 0 ∨ y = 1 by omega) with rfl | rfl | rfl
  all_goals go_enter Tryz.func13, Tryz.ntmps13
  all_goals go_wp2
  all_goals go_ret
  all_goals exact ⟨rfl, rfl⟩
end Go.Proofs.YtienpliknhkbjaaGreatDoor

/- plumblaw23: SegPred's walk (written by gensgdc.py). -/
namespace Go.Proofs.YtienpliknhkbjaaGreatDoor
open Go.ChangeShapes Go.WideShapes Go.ChangeAt Go.RowKit
open Na Ar
set_option linter.unusedVariables false
theorem pb_drew {w : World} {g : Nat} {t : TypeId} {vs : Array Value} (h : Pb w g t vs) : Pb w.drew g t vs := h
/-- hidden from the walk -/
structure HS (p : Prop) : Prop where
  mk ::
  out : p
theorem row8_at {a0 a1 a2 a3 a4 a5 a6 a7 v : Int} {i : Nat} (h : [a0, a1, a2, a3, a4, a5, a6, a7][i]? = some v) : (#[.int .u64 a0, .int .u64 a1, .int .u64 a2, .int .u64 a3, .int .u64 a4, .int .u64 a5, .int .u64 a6, .int .u64 a7] : Array Value)[i]? = some (.int .u64 v) := by
  have e : (#[.int .u64 a0, .int .u64 a1, .int .u64 a2, .int .u64 a3, .int .u64 a4, .int .u64 a5, .int .u64 a6, .int .u64 a7] : Array Value) = ([a0, a1, a2, a3, a4, a5, a6, a7].map (fun x => Value.int .u64 x)).toArray := rfl
  rw [e, List.getElem?_toArray, List.getElem?_map, h]
  rfl
set_option maxHeartbeats 25600000 in
set_option maxRecDepth 100000 in
theorem pred_walk {x0 x1 x2 x3 x4 x5 x6 x7 : Int} (u0 : U x0) (u1 : U x1) (u2 : U x2) (u3 : U x3) (u4 : U x4) (u5 : U x5) (u6 : U x6) (u7 : U x7) {w : World} (hG : GrVar w) :
    Calls Tryz.prog 3 #[.agg #[.int .u64 x0, .int .u64 x1, .int .u64 x2, .int .u64 x3, .int .u64 x4, .int .u64 x5, .int .u64 x6, .int .u64 x7]] w fun e w' => e = .returned (.bool true) ∧ Below w.heap.size w w' := by
  obtain ⟨w0, hw0⟩ : ∃ w0, w0 = w.alloc (.cells #[.int .u64 x0, .int .u64 x1, .int .u64 x2, .int .u64 x3, .int .u64 x4, .int .u64 x5, .int .u64 x6, .int .u64 x7] 26) := ⟨_, rfl⟩
  obtain ⟨v1, hb0⟩ : Pb w0 w.heap.size 26 #[.int .u64 x0, .int .u64 x1, .int .u64 x2, .int .u64 x3, .int .u64 x4, .int .u64 x5, .int .u64 x6, .int .u64 x7] ∧ Below w.heap.size w w0 := by
    subst hw0
    exact ⟨Pb.new _ _ _, alloc_below _⟩
  have c1 := fun w => spots823_any u0 u1 u2 u3 u4 u5 u6 u7 w
  have h0 := finF_ok u0
  have h1 := finF_ok u1
  have h2 := finF_ok u2
  have h3 := finF_ok u3
  have h4 := finF_ok u4
  have h5 := finF_ok u5
  have h6 := finF_ok u6
  have h7 := finF_ok u7
  generalize finF x0 = y0 at *
  generalize finF x1 = y1 at *
  generalize finF x2 = y2 at *
  generalize finF x3 = y3 at *
  generalize finF x4 = y4 at *
  generalize finF x5 = y5 at *
  generalize finF x6 = y6 at *
  generalize finF x7 = y7 at *
  clear u0 u1 u2 u3 u4 u5 u6 u7
  have HGR : Hid (GrVar w) := hG
  obtain ⟨i0, i1, i2, i3, i4, i5, i6, i7⟩ := v1.cells8
  rw [hw0] at i0 i1 i2 i3 i4 i5 i6 i7
  have HW0 : Hid (w.alloc (.cells #[.int .u64 x0, .int .u64 x1, .int .u64 x2, .int .u64 x3, .int .u64 x4, .int .u64 x5, .int .u64 x6, .int .u64 x7] 26) = w0) := hw0.symm
  clear hw0 hG
  go_enter Tryz.func3, Tryz.ntmps3
  go_wp2_with fail
  rw [HW0.out]
  clear HW0 i0 i1 i2 i3 i4 i5 i6 i7
  obtain ⟨g, hg⟩ : ∃ g, g = w.heap.size := ⟨_, rfl⟩
  have HG : Hid (w.heap.size = g) := hg.symm
  rw [← hg] at v1 hb0 ⊢
  clear hg
  have hz : g + 1 ≤ w0.heap.size := by have := v1.lt; omega
  refine (c1 w0).mono ?_
  rintro e wA ⟨rfl, hbA⟩
  have q1 := v1.later hbA
  have BA := hb0.trans (hbA.mono (by omega))
  have sA : g + 1 ≤ wA.heap.size := by have := hbA.size; omega
  clear v1 hb0 c1 hbA hz
  obtain ⟨i0, i1, i2, i3, i4, i5, i6, i7⟩ := q1.cells8
  obtain ⟨f0, f1, f2, f3, f4, f5, f6, f7⟩ := (show wA.frozen? ⟨g, 0, none⟩ = false ∧ wA.frozen? ⟨g, 1, none⟩ = false ∧ wA.frozen? ⟨g, 2, none⟩ = false ∧ wA.frozen? ⟨g, 3, none⟩ = false ∧ wA.frozen? ⟨g, 4, none⟩ = false ∧ wA.frozen? ⟨g, 5, none⟩ = false ∧ wA.frozen? ⟨g, 6, none⟩ = false ∧ wA.frozen? ⟨g, 7, none⟩ = false from ⟨q1.frozen _, q1.frozen _, q1.frozen _, q1.frozen _, q1.frozen _, q1.frozen _, q1.frozen _, q1.frozen _⟩)
  have P1 := q1.put8 (.int .u64 y0) (.int .u64 y1) (.int .u64 y2) (.int .u64 y3) (.int .u64 y4) (.int .u64 y5) (.int .u64 y6) (.int .u64 y7)
  have I1 := in8p wA g (.int .u64 y0) (.int .u64 y1) (.int .u64 y2) (.int .u64 y3) (.int .u64 y4) (.int .u64 y5) (.int .u64 y6) (.int .u64 y7)
  have B1 := below_in BA I1 (Nat.le_refl _) (Nat.le_of_eq HG.out.symm)
  have s1 := I1.size
  go_upto_region 2 with fail
  generalize ((((((((wA.setCell ⟨g, 0, none⟩ (.int .u64 y0)).setCell ⟨g, 1, none⟩ (.int .u64 y1)).setCell ⟨g, 2, none⟩ (.int .u64 y2)).setCell ⟨g, 3, none⟩ (.int .u64 y3)).setCell ⟨g, 4, none⟩ (.int .u64 y4)).setCell ⟨g, 5, none⟩ (.int .u64 y5)).setCell ⟨g, 6, none⟩ (.int .u64 y6)).setCell ⟨g, 7, none⟩ (.int .u64 y7)) = w1 at *
  clear i0 f0 i1 f1 i2 f2 i3 f3 i4 f4 i5 f5 i6 f6 i7 f7 q1 BA I1
  have s2 : g + 1 ≤ w1.heap.size := by omega
  clear s1 sA
  obtain ⟨i0, i1, i2, i3, i4, i5, i6, i7⟩ := P1.cells8
  obtain ⟨hu0, hf0⟩ := h0
  obtain ⟨hu1, hf1⟩ := h1
  obtain ⟨hu2, hf2⟩ := h2
  obtain ⟨hu3, hf3⟩ := h3
  obtain ⟨hu4, hf4⟩ := h4
  obtain ⟨hu5, hf5⟩ := h5
  obtain ⟨hu6, hf6⟩ := h6
  obtain ⟨hu7, hf7⟩ := h7
  obtain ⟨⟨⟨k, pr⟩, ⟨p1, p2⟩, ⟨q1, q2⟩⟩, hM⟩ := meet_there (w := w) (a := (y0, y1)) (b := (y2, y3)) (c := (y4, y5)) (d := (y6, y7)) ⟨hu0, hu1⟩ ⟨hu2, hu3⟩ ⟨hu4, hu5⟩ ⟨hu6, hu7⟩ ⟨hf0, hf1⟩ ⟨hf2, hf3⟩ ⟨hf4, hf5⟩ ⟨hf6, hf7⟩ HGR.out
  have m0 : ∀ w', Below g w w' → Calls Tryz.prog 10 #[.agg #[.int .u64 y0, .int .u64 y1], .agg #[.int .u64 y2, .int .u64 y3], .agg #[.int .u64 y4, .int .u64 y5], .agg #[.int .u64 y6, .int .u64 y7]] w' fun e w'' => e = .returned (.tuple #[.agg #[.int .i64 k, .bool pr, .int .u64 p1, .int .u64 p2, .int .u64 q1, .int .u64 q2], .int .i64 0]) ∧ Below w'.heap.size w' w'' := fun w' hb => by
    have hg : GrVar w' := HGR.out.later (by rw [HG.out]; exact hb)
    exact Meet23_one (w := w') (a := (y0, y1)) (b := (y2, y3)) (c := (y4, y5)) (d := (y6, y7)) ⟨hu0, hu1⟩ ⟨hu2, hu3⟩ ⟨hu4, hu5⟩ ⟨hu6, hu7⟩ ⟨hf0, hf1⟩ ⟨hf2, hf3⟩ ⟨hf4, hf5⟩ ⟨hf6, hf7⟩ hg hM
  have al0 : ∀ w', Below g w w' → Calls Tryz.prog 12 #[] w' fun e w'' => e = .returned (.bool true) ∧ Below w'.heap.size w' w'' := fun w' hb => alive23_any (HGR.out.later (by rw [HG.out]; exact hb))
  obtain ⟨sc, hsc⟩ : ∃ s, s = sdQ (y0, y1) (y2, y3) (y4, y5) := ⟨_, rfl⟩
  have o0 : ∀ w, Calls Tryz.prog 11 #[.agg #[.int .u64 y0, .int .u64 y1], .agg #[.int .u64 y2, .int .u64 y3], .agg #[.int .u64 y4, .int .u64 y5]] w fun e w' => e = .returned (.tuple #[.int .i64 sc, .int .i64 0]) ∧ Below w.heap.size w w' := fun w => by
    rw [hsc]
    exact Orient22_fin (w := w) (a := (y0, y1)) (b := (y2, y3)) (c := (y4, y5)) ⟨hu0, hu1⟩ ⟨hu2, hu3⟩ ⟨hu4, hu5⟩ ⟨hf0, hf1⟩ ⟨hf2, hf3⟩ ⟨hf4, hf5⟩
  have bsc : -1 ≤ sc ∧ sc ≤ 1 := by rw [hsc]; exact sdQ_in _ _ _
  obtain ⟨sd, hsd⟩ : ∃ s, s = sdQ (y0, y1) (y2, y3) (y6, y7) := ⟨_, rfl⟩
  have o1 : ∀ w, Calls Tryz.prog 11 #[.agg #[.int .u64 y0, .int .u64 y1], .agg #[.int .u64 y2, .int .u64 y3], .agg #[.int .u64 y6, .int .u64 y7]] w fun e w' => e = .returned (.tuple #[.int .i64 sd, .int .i64 0]) ∧ Below w.heap.size w w' := fun w => by
    rw [hsd]
    exact Orient22_fin (w := w) (a := (y0, y1)) (b := (y2, y3)) (c := (y6, y7)) ⟨hu0, hu1⟩ ⟨hu2, hu3⟩ ⟨hu6, hu7⟩ ⟨hf0, hf1⟩ ⟨hf2, hf3⟩ ⟨hf6, hf7⟩
  have bsd : -1 ≤ sd ∧ sd ≤ 1 := by rw [hsd]; exact sdQ_in _ _ _
  obtain ⟨sa, hsa⟩ : ∃ s, s = sdQ (y4, y5) (y6, y7) (y0, y1) := ⟨_, rfl⟩
  have o2 : ∀ w, Calls Tryz.prog 11 #[.agg #[.int .u64 y4, .int .u64 y5], .agg #[.int .u64 y6, .int .u64 y7], .agg #[.int .u64 y0, .int .u64 y1]] w fun e w' => e = .returned (.tuple #[.int .i64 sa, .int .i64 0]) ∧ Below w.heap.size w w' := fun w => by
    rw [hsa]
    exact Orient22_fin (w := w) (a := (y4, y5)) (b := (y6, y7)) (c := (y0, y1)) ⟨hu4, hu5⟩ ⟨hu6, hu7⟩ ⟨hu0, hu1⟩ ⟨hf4, hf5⟩ ⟨hf6, hf7⟩ ⟨hf0, hf1⟩
  have bsa : -1 ≤ sa ∧ sa ≤ 1 := by rw [hsa]; exact sdQ_in _ _ _
  obtain ⟨sb, hsb⟩ : ∃ s, s = sdQ (y4, y5) (y6, y7) (y2, y3) := ⟨_, rfl⟩
  have o3 : ∀ w, Calls Tryz.prog 11 #[.agg #[.int .u64 y4, .int .u64 y5], .agg #[.int .u64 y6, .int .u64 y7], .agg #[.int .u64 y2, .int .u64 y3]] w fun e w' => e = .returned (.tuple #[.int .i64 sb, .int .i64 0]) ∧ Below w.heap.size w w' := fun w => by
    rw [hsb]
    exact Orient22_fin (w := w) (a := (y4, y5)) (b := (y6, y7)) (c := (y2, y3)) ⟨hu4, hu5⟩ ⟨hu6, hu7⟩ ⟨hu2, hu3⟩ ⟨hf4, hf5⟩ ⟨hf6, hf7⟩ ⟨hf2, hf3⟩
  have bsb : -1 ≤ sb ∧ sb ≤ 1 := by rw [hsb]; exact sdQ_in _ _ _
  have hS := mt_pred ⟨hu0, hu1⟩ ⟨hu2, hu3⟩ ⟨hu4, hu5⟩ ⟨hu6, hu7⟩ ⟨hf0, hf1⟩ ⟨hf2, hf3⟩ ⟨hf4, hf5⟩ ⟨hf6, hf7⟩ hM
  rw [← hsc, ← hsd, ← hsa, ← hsb] at hS
  have hfin : U2 (p1, p2) ∧ fin2 (p1, p2) ∧ U2 (q1, q2) ∧ fin2 (q1, q2) := by
    obtain ⟨N0, hN0⟩ := meet_there (w := w) (a := (tnP (y0, y1))) (b := (tnP (y2, y3))) (c := (tnP (y4, y5))) (d := (tnP (y6, y7))) ⟨negU hu0, negU hu1⟩ ⟨negU hu2, negU hu3⟩ ⟨negU hu4, negU hu5⟩ ⟨negU hu6, negU hu7⟩ ⟨fin_ng hu0 hf0, fin_ng hu1 hf1⟩ ⟨fin_ng hu2 hf2, fin_ng hu3 hf3⟩ ⟨fin_ng hu4 hf4, fin_ng hu5 hf5⟩ ⟨fin_ng hu6 hf6, fin_ng hu7 hf7⟩ HGR.out
    exact (hM.ng ⟨hu0, hu1⟩ ⟨hu2, hu3⟩ ⟨hu4, hu5⟩ ⟨hu6, hu7⟩ ⟨hf0, hf1⟩ ⟨hf2, hf3⟩ ⟨hf4, hf5⟩ ⟨hf6, hf7⟩ hN0).fin
  obtain ⟨Fr, hFr⟩ : ∃ F : Nat → Int × Int, F = fun i => [(y0, y1), (y0, y1), (y4, y5), (y4, y5)].getD i (0, 0) := ⟨_, rfl⟩
  obtain ⟨To, hTo⟩ : ∃ F : Nat → Int × Int, F = fun i => [(y2, y3), (y2, y3), (y6, y7), (y6, y7)].getD i (0, 0) := ⟨_, rfl⟩
  obtain ⟨En, hEn⟩ : ∃ F : Nat → Int × Int, F = fun i => [(y4, y5), (y6, y7), (y0, y1), (y2, y3)].getD i (0, 0) := ⟨_, rfl⟩
  have four : ∀ j : Nat, j < 4 → j = 0 ∨ j = 1 ∨ j = 2 ∨ j = 3 := fun j hj => by omega
  have hU : ∀ j, j < 4 → (U2 (Fr j) ∧ U2 (To j) ∧ U2 (En j)) ∧ (fin2 (Fr j) ∧ fin2 (To j) ∧ fin2 (En j)) := by
    intro j hj
    rw [hFr, hTo, hEn]
    rcases four j hj with rfl | rfl | rfl | rfl
    · exact ⟨⟨⟨hu0, hu1⟩, ⟨hu2, hu3⟩, ⟨hu4, hu5⟩⟩, ⟨⟨hf0, hf1⟩, ⟨hf2, hf3⟩, ⟨hf4, hf5⟩⟩⟩
    · exact ⟨⟨⟨hu0, hu1⟩, ⟨hu2, hu3⟩, ⟨hu6, hu7⟩⟩, ⟨⟨hf0, hf1⟩, ⟨hf2, hf3⟩, ⟨hf6, hf7⟩⟩⟩
    · exact ⟨⟨⟨hu4, hu5⟩, ⟨hu6, hu7⟩, ⟨hu0, hu1⟩⟩, ⟨⟨hf4, hf5⟩, ⟨hf6, hf7⟩, ⟨hf0, hf1⟩⟩⟩
    · exact ⟨⟨⟨hu4, hu5⟩, ⟨hu6, hu7⟩, ⟨hu2, hu3⟩⟩, ⟨⟨hf4, hf5⟩, ⟨hf6, hf7⟩, ⟨hf2, hf3⟩⟩⟩
  obtain ⟨TT, hTT⟩ : ∃ T : Nat → Bool, T = fun j => btQ (Fr j) (To j) (En j) := ⟨_, rfl⟩
  obtain ⟨PP, hPP⟩ : ∃ P : Nat → Bool, P = fun j => decide (ordS (valR p1) (valR p2) (valR (En j).1) (valR (En j).2) = 0) := ⟨_, rfl⟩
  have hOn : ∀ x, onQ (y0, y1) (y2, y3) (y4, y5) (y6, y7) x ↔ ∃ j, j < 4 ∧ TT j = true ∧ x = rkP (En j) := by
    intro x
    rw [hTT, hFr, hTo, hEn]
    unfold onQ
    constructor
    · rintro (h | h | h | h)
      · exact ⟨0, by omega, h⟩
      · exact ⟨1, by omega, h⟩
      · exact ⟨2, by omega, h⟩
      · exact ⟨3, by omega, h⟩
    · rintro ⟨j, hj, h⟩
      rcases four j hj with rfl | rfl | rfl | rfl
      · exact Or.inl h
      · exact Or.inr (Or.inl h)
      · exact Or.inr (Or.inr (Or.inl h))
      · exact Or.inr (Or.inr (Or.inr h))
  have bt : ∀ j, j < 4 → ∀ w, Calls Tryz.prog 14 #[.agg #[.int .u64 (Fr j).1, .int .u64 (Fr j).2], .agg #[.int .u64 (To j).1, .int .u64 (To j).2], .agg #[.int .u64 (En j).1, .int .u64 (En j).2]] w fun e w' => e = .returned (.tuple #[.bool (TT j), .int .i64 0]) ∧ Below w.heap.size w w' := fun j hj w => by
    obtain ⟨⟨u1, u2, u3⟩, ⟨g1, g2, g3⟩⟩ := hU j hj
    rw [hTT]
    exact Between22_fin (w := w) u1 u2 u3 g1 g2 g3
  have pl : ∀ j, j < 4 → ∀ w, Calls Tryz.prog 15 #[.agg #[.int .u64 p1, .int .u64 p2], .agg #[.int .u64 (En j).1, .int .u64 (En j).2]] w fun e w' => e = .returned (.bool (PP j)) ∧ Below w.heap.size w w' := fun j hj w => by
    obtain ⟨⟨u1, u2, u3⟩, ⟨g1, g2, g3⟩⟩ := hU j hj
    rw [hPP]
    exact place23_any (a := (p1, p2)) hfin.1 u3 hfin.2.1 g3 w
  have mN : ∀ j, j < 4 → ∃ kn n1 n2 n3 n4, (∀ w', Below g w w' → Calls Tryz.prog 10 #[.agg #[.int .u64 (Fr j).1, .int .u64 (Fr j).2], .agg #[.int .u64 (To j).1, .int .u64 (To j).2], .agg #[.int .u64 (En j).1, .int .u64 (En j).2], .agg #[.int .u64 (En j).1, .int .u64 (En j).2]] w' fun e w'' => e = .returned (.tuple #[.agg #[.int .i64 kn, .bool false, .int .u64 n1, .int .u64 n2, .int .u64 n3, .int .u64 n4], .int .i64 0]) ∧ Below w'.heap.size w' w'') ∧ (TT j = true → kn = 1 ∧ ∀ w, Calls Tryz.prog 15 #[.agg #[.int .u64 n1, .int .u64 n2], .agg #[.int .u64 (En j).1, .int .u64 (En j).2]] w fun e w' => e = .returned (.bool true) ∧ Below w.heap.size w w') ∧ (TT j = false → kn = 0) := fun j hj => by
    obtain ⟨⟨u1, u2, u3⟩, ⟨g1, g2, g3⟩⟩ := hU j hj
    obtain ⟨⟨⟨kn, prn⟩, ⟨n1, n2⟩, ⟨n3, n4⟩⟩, hN⟩ := meet_there (w := w) (a := Fr j) (b := To j) (c := En j) (d := En j) u1 u2 u3 u3 g1 g2 g3 g3 HGR.out
    obtain ⟨e1, e2, e3⟩ := mt_point u1 u2 u3 g1 g2 g3 hN
    have e1' : prn = false := e1
    subst e1'
    refine ⟨kn, n1, n2, n3, n4, fun w' hb => ?_, fun hT => ?_, fun hT => ?_⟩
    · have hg : GrVar w' := HGR.out.later (by rw [HG.out]; exact hb)
      exact Meet23_one (w := w') (a := Fr j) (b := To j) (c := En j) (d := En j) u1 u2 u3 u3 g1 g2 g3 g3 hg hN
    · rw [hTT] at hT
      obtain ⟨z1, z2⟩ := e2 hT
      refine ⟨z1, fun w => ?_⟩
      have s := sm_pt u3 g3
      rw [← z2] at s
      have o := pt_ok (rkP_ok u3 g3)
      rw [← z2] at o
      exact place23_yes (a := (n1, n2)) o.1 u3 o.2 g3 s w
    · rw [hTT] at hT
      exact e3 hT
  have hsum : (cnB TT 4 = 0 ∧ ((pr = true ∧ k = 1) ∨ (pr = false ∧ k = 0))) ∨ (cnB TT 4 ≠ 0 ∧ lsB TT PP 4 = true ∧ pr = false ∧ ((k = 1 ∧ q1 = 0 ∧ q2 = 0) ∨
      (k = 2 ∧ ordS (valR p1) (valR p2) (valR q1) (valR q2) < 0 ∧ btQ (y0, y1) (y2, y3) (q1, q2) = true ∧ btQ (y4, y5) (y6, y7) (q1, q2) = true ∧ sa = 0 ∧ sb = 0 ∧ sc = 0 ∧ sd = 0))) := by
    have hsome : ∀ x, onQ (y0, y1) (y2, y3) (y4, y5) (y6, y7) x → (p1, p2) = ptP x → cnB TT 4 ≠ 0 ∧ lsB TT PP 4 = true := by
      intro x hx e
      obtain ⟨j, hj, hT, rfl⟩ := (hOn x).mp hx
      refine ⟨fun h0 => ?_, lsB_true 4 j hj hT ?_⟩
      · rw [cnB_zero 4 h0 j hj] at hT; cases hT
      · obtain ⟨⟨_, _, u3⟩, ⟨_, _, g3⟩⟩ := hU j hj
        have s := sm_pt u3 g3
        rw [← e] at s
        rw [hPP]
        exact decide_eq_true s
    have hnone : (∀ x, ¬ onQ (y0, y1) (y2, y3) (y4, y5) (y6, y7) x) → cnB TT 4 = 0 := by
      intro h
      apply Decidable.byContradiction
      intro h0
      obtain ⟨j, hj, hT⟩ := cnB_pos 4 h0
      exact h _ ((hOn _).mpr ⟨j, hj, hT, rfl⟩)
    rcases hS with ⟨z1, z2, _, z3⟩ | ⟨z1, z2, _, _, _, z3⟩ | ⟨z1, z2, z3, _, x, hx, e⟩ | ⟨z1, z2, _, x, y, hx, hy, e1, e2, ho, ⟨w1, w2, w3, w4⟩, oy, o1, o2⟩
    · exact Or.inl ⟨hnone z3, Or.inl ⟨z1, z2⟩⟩
    · exact Or.inl ⟨hnone z3, Or.inr ⟨z1, z2⟩⟩
    · have t := hsome x hx e
      have z4 : q1 = 0 ∧ q2 = 0 := Prod.mk.inj z3
      exact Or.inr ⟨t.1, t.2, z1, Or.inl ⟨z2, z4⟩⟩
    · have t := hsome x hx e1
      have fq := hfin.2.2
      have ox : pOk x := by
        obtain ⟨j, hj, hT, rfl⟩ := (hOn x).mp hx
        obtain ⟨⟨_, _, u3⟩, ⟨_, _, g3⟩⟩ := hU j hj
        exact rkP_ok u3 g3
      have ey : rkP (q1, q2) = y := by
        have := rk_pt oy
        rw [← e2] at this
        exact this
      have ex : rkP (p1, p2) = x := by
        have := rk_pt ox
        rw [← e1] at this
        exact this
      refine Or.inr ⟨t.1, t.2, z1, Or.inr ⟨z2, ?_, ?_, ?_, w3, w4, w1, w2⟩⟩
      · have := orP_rk (a := (p1, p2)) (b := (q1, q2)) hfin.1 fq.1 hfin.2.1 fq.2
        rw [ex, ey] at this
        rw [← this]
        exact ho
      · rw [← btQ_on ⟨hu0, hu1⟩ ⟨hu2, hu3⟩ fq.1 ⟨hf0, hf1⟩ ⟨hf2, hf3⟩ fq.2, ey]
        exact o1
      · rw [← btQ_on ⟨hu4, hu5⟩ ⟨hu6, hu7⟩ fq.1 ⟨hf4, hf5⟩ ⟨hf6, hf7⟩ fq.2, ey]
        exact o2
  have hprop : pr = (decide (sa * sb = -1) && decide (sc * sd = -1)) ∧ (pr = true → k = 1) := by
    rcases hS with ⟨z1, z2, z3, _⟩ | ⟨z1, z2, _, _, z3, _⟩ | ⟨z1, z2, _, z3, _⟩ | ⟨z1, z2, z3, _⟩
    · have z1' : pr = true := z1
      rw [z1', decide_eq_true z3.1, decide_eq_true z3.2]
      exact ⟨rfl, fun _ => z2⟩
    all_goals
      have z1' : pr = false := z1
      rw [z1']
      refine ⟨?_, fun h => by cases h⟩
      by_cases q1 : sa * sb = -1
      · rw [decide_eq_true q1, decide_eq_false (fun q2 => z3 ⟨q2, q1⟩)]; rfl
      · rw [decide_eq_false q1]; rfl
  have or1 : ∀ w, Calls Tryz.prog 16 #[.agg #[.int .u64 p1, .int .u64 p2], .agg #[.int .u64 q1, .int .u64 q2]] w fun e w' => e = .returned (.tuple #[.int .i64 (ordS (valR p1) (valR p2) (valR q1) (valR q2)), .int .i64 0]) ∧ Below w.heap.size w w' := fun w => Order22_fin (w := w) (a := (p1, p2)) (b := (q1, q2)) hfin.1 hfin.2.2.1 hfin.2.1 hfin.2.2.2
  have bq1 : ∀ w, Calls Tryz.prog 14 #[.agg #[.int .u64 y0, .int .u64 y1], .agg #[.int .u64 y2, .int .u64 y3], .agg #[.int .u64 q1, .int .u64 q2]] w fun e w' => e = .returned (.tuple #[.bool (btQ (y0, y1) (y2, y3) (q1, q2)), .int .i64 0]) ∧ Below w.heap.size w w' := fun w => Between22_fin (w := w) (a := (y0, y1)) (b := (y2, y3)) (c := (q1, q2)) ⟨hu0, hu1⟩ ⟨hu2, hu3⟩ hfin.2.2.1 ⟨hf0, hf1⟩ ⟨hf2, hf3⟩ hfin.2.2.2
  have bq2 : ∀ w, Calls Tryz.prog 14 #[.agg #[.int .u64 y4, .int .u64 y5], .agg #[.int .u64 y6, .int .u64 y7], .agg #[.int .u64 q1, .int .u64 q2]] w fun e w' => e = .returned (.tuple #[.bool (btQ (y4, y5) (y6, y7) (q1, q2)), .int .i64 0]) ∧ Below w.heap.size w w' := fun w => Between22_fin (w := w) (a := (y4, y5)) (b := (y6, y7)) (c := (q1, q2)) ⟨hu4, hu5⟩ ⟨hu6, hu7⟩ hfin.2.2.1 ⟨hf4, hf5⟩ ⟨hf6, hf7⟩ hfin.2.2.2
  generalize ordS (valR p1) (valR p2) (valR q1) (valR q2) = oPQ at *
  generalize btQ (y0, y1) (y2, y3) (q1, q2) = tQ1 at *
  generalize btQ (y4, y5) (y6, y7) (q1, q2) = tQ2 at *
  have rowE : ∀ j, j < 4 → [y4, y5, y6, y7, y0, y1, y2, y3][j * 2]? = some (En j).1 ∧ [y4, y5, y6, y7, y0, y1, y2, y3][j * 2 + 1]? = some (En j).2 := fun j hj => by
    rw [hEn]; rcases four j hj with rfl | rfl | rfl | rfl <;> exact ⟨rfl, rfl⟩
  have rowF : ∀ j, j < 4 → [y0, y1, y0, y1, y4, y5, y4, y5][j * 2]? = some (Fr j).1 ∧ [y0, y1, y0, y1, y4, y5, y4, y5][j * 2 + 1]? = some (Fr j).2 := fun j hj => by
    rw [hFr]; rcases four j hj with rfl | rfl | rfl | rfl <;> exact ⟨rfl, rfl⟩
  have rowT : ∀ j, j < 4 → [y2, y3, y2, y3, y6, y7, y6, y7][j * 2]? = some (To j).1 ∧ [y2, y3, y2, y3, y6, y7, y6, y7][j * 2 + 1]? = some (To j).2 := fun j hj => by
    rw [hTo]; rcases four j hj with rfl | rfl | rfl | rfl <;> exact ⟨rfl, rfl⟩
  have H1 := HS.mk bt
  have H2 := HS.mk pl
  have H3 := HS.mk mN
  have H4 := HS.mk hsum
  have H5 := HS.mk hprop
  have H6 := HS.mk (And.intro rowE (And.intro rowF rowT))
  clear bt pl mN hsum hprop rowE rowF rowT hOn hU hS hfin hTT hPP hFr hTo hEn hM hsc hsd hsa hsb four
  have Nf := P1
  have HGG : Hid (Below g w w1) := B1
  clear P1 B1 i0 i1 i2 i3 i4 i5 i6 i7 hu0 hf0 hu1 hf1 hu2 hf2 hu3 hf3 hu4 hf4 hu5 hf5 hu6 hf6 hu7 hf7
  obtain ⟨ldf0, ldf1, ldf2, ldf3, ldf4, ldf5, ldf6, ldf7⟩ := Nf.cells8
  go_wp2_with fail
  refine (m0 w1 HGG.out).mono ?_
  rintro ek wk1 ⟨rfl, hbm⟩
  clear ldf0 ldf1 ldf2 ldf3 ldf4 ldf5 ldf6 ldf7
  have alm := alloc_below (w := wk1) (.cells #[.int .i64 k, .bool pr, .int .u64 p1, .int .u64 p2, .int .u64 q1, .int .u64 q2] 29)
  have Nm := Pb.new wk1 29 #[.int .i64 k, .bool pr, .int .u64 p1, .int .u64 p2, .int .u64 q1, .int .u64 q2]
  replace Nf := (Nf.later hbm).later alm
  have HB2 := HGG.out.trans ((hbm.trans (alm.mono hbm.size)).mono (by have := HGG.out.size; have := HG.out; omega))
  replace HGG : Hid _ := HB2
  clear HB2
  clear alm hbm
  clear m0
  obtain ⟨ldf0, ldf1, ldf2, ldf3, ldf4, ldf5, ldf6, ldf7⟩ := Nf.cells8
  go_wp2_with fail
  generalize wk1.alloc (.cells #[.int .i64 k, .bool pr, .int .u64 p1, .int .u64 p2, .int .u64 q1, .int .u64 q2] 29) = wk1' at *
  refine (o0 wk1').mono ?_
  rintro ek wk3 ⟨rfl, hbo⟩
  clear ldf0 ldf1 ldf2 ldf3 ldf4 ldf5 ldf6 ldf7
  replace Nf := Nf.later hbo
  replace Nm := Nm.later hbo
  have HB4 := HGG.out.trans (hbo.mono (by have := HGG.out.size; have := HG.out; omega))
  replace HGG : Hid _ := HB4
  clear HB4
  clear hbo
  clear o0
  obtain ⟨ldf0, ldf1, ldf2, ldf3, ldf4, ldf5, ldf6, ldf7⟩ := Nf.cells8
  go_wp2_with fail
  refine (o1 wk3).mono ?_
  rintro ek wk5 ⟨rfl, hbo⟩
  clear ldf0 ldf1 ldf2 ldf3 ldf4 ldf5 ldf6 ldf7
  replace Nf := Nf.later hbo
  replace Nm := Nm.later hbo
  have HB6 := HGG.out.trans (hbo.mono (by have := HGG.out.size; have := HG.out; omega))
  replace HGG : Hid _ := HB6
  clear HB6
  clear hbo
  clear o1
  obtain ⟨ldf0, ldf1, ldf2, ldf3, ldf4, ldf5, ldf6, ldf7⟩ := Nf.cells8
  go_wp2_with fail
  refine (o2 wk5).mono ?_
  rintro ek wk7 ⟨rfl, hbo⟩
  clear ldf0 ldf1 ldf2 ldf3 ldf4 ldf5 ldf6 ldf7
  replace Nf := Nf.later hbo
  replace Nm := Nm.later hbo
  have HB8 := HGG.out.trans (hbo.mono (by have := HGG.out.size; have := HG.out; omega))
  replace HGG : Hid _ := HB8
  clear HB8
  clear hbo
  clear o2
  obtain ⟨ldf0, ldf1, ldf2, ldf3, ldf4, ldf5, ldf6, ldf7⟩ := Nf.cells8
  go_wp2_with fail
  refine (o3 wk7).mono ?_
  rintro ek wk9 ⟨rfl, hbo⟩
  clear ldf0 ldf1 ldf2 ldf3 ldf4 ldf5 ldf6 ldf7
  replace Nf := Nf.later hbo
  replace Nm := Nm.later hbo
  have HB10 := HGG.out.trans (hbo.mono (by have := HGG.out.size; have := HG.out; omega))
  replace HGG : Hid _ := HB10
  clear HB10
  clear hbo
  clear o3
  go_wp2_with fail
  refine (al0 wk9 HGG.out).mono ?_
  rintro ek wk11 ⟨rfl, hba⟩
  replace Nf := Nf.later hba
  replace Nm := Nm.later hba
  have HB12 := HGG.out.trans (hba.mono (by have := HGG.out.size; have := HG.out; omega))
  replace HGG : Hid _ := HB12
  clear HB12
  clear hba
  clear al0
  have op1 := opposite23_any bsa bsb
  have op2 := opposite23_any bsc bsd
  obtain ⟨hp1, hp2⟩ := H5.out
  generalize decide (sa * sb = -1) = t1 at *
  generalize decide (sc * sd = -1) = t2 at *
  obtain ⟨ldm0, ldm1, ldm2, ldm3, ldm4, ldm5⟩ := Nm.cells6
  go_upto_region 9 with fail
  go_cut [124] from 105 to 124 (fun v wx => v = .bool false ∧ Below wk11.heap.size wk11 wx)
  case first =>
    clear H1 H2 H3 H4 H6
    cases t1 <;> cases t2
    · have e : pr = false := by simpa using hp1
      subst e
      clear hp1 hp2 H5
      go_quiet ((first | (go_at_call_of 13 sa; exact (op1 _).mono (fun _ _ h => ⟨h.1, _, h.2.symm⟩)) | (go_at_call_of 13 sc; exact (op2 _).mono (fun _ _ h => ⟨h.1, _, h.2.symm⟩))))
      go_wp2
      go_meet
      exact ⟨rfl, below_drewN (Below.refl _ _) _⟩
    · have e : pr = false := by simpa using hp1
      subst e
      clear hp1 hp2 H5
      go_quiet ((first | (go_at_call_of 13 sa; exact (op1 _).mono (fun _ _ h => ⟨h.1, _, h.2.symm⟩)) | (go_at_call_of 13 sc; exact (op2 _).mono (fun _ _ h => ⟨h.1, _, h.2.symm⟩))))
      go_wp2
      go_meet
      exact ⟨rfl, below_drewN (Below.refl _ _) _⟩
    · have e : pr = false := by simpa using hp1
      subst e
      clear hp1 hp2 H5
      go_quiet ((first | (go_at_call_of 13 sa; exact (op1 _).mono (fun _ _ h => ⟨h.1, _, h.2.symm⟩)) | (go_at_call_of 13 sc; exact (op2 _).mono (fun _ _ h => ⟨h.1, _, h.2.symm⟩))))
      go_wp2
      go_meet
      exact ⟨rfl, below_drewN (Below.refl _ _) _⟩
    · have e : pr = true := by simpa using hp1
      subst e
      have ek := hp2 rfl
      subst ek
      clear hp1 hp2 H5
      go_quiet ((first | (go_at_call_of 13 sa; exact (op1 _).mono (fun _ _ h => ⟨h.1, _, h.2.symm⟩)) | (go_at_call_of 13 sc; exact (op2 _).mono (fun _ _ h => ⟨h.1, _, h.2.symm⟩))))
      go_wp2
      go_meet
      exact ⟨rfl, below_drewN (Below.refl _ _) _⟩
  clear ldm0 ldm1 ldm2 ldm3 ldm4 ldm5
  obtain ⟨rfl, hb9⟩ := hcut
  clear op1 op2 hp1 hp2 H5 bsa bsb bsc bsd
  obtain ⟨w9, hw9⟩ : ∃ w9, w9 = wc := ⟨_, rfl⟩
  subst hw9
  replace Nf := Nf.later hb9
  replace Nm := Nm.later hb9
  have HB13 := HGG.out.trans (hb9.mono (by have := HGG.out.size; have := HG.out; omega))
  replace HGG : Hid _ := HB13
  clear HB13
  clear hb9
  obtain ⟨ldf0, ldf1, ldf2, ldf3, ldf4, ldf5, ldf6, ldf7⟩ := Nf.cells8
  have alr := alloc_below (w := w9) (.cells #[.int .u64 y4, .int .u64 y5, .int .u64 y6, .int .u64 y7, .int .u64 y0, .int .u64 y1, .int .u64 y2, .int .u64 y3] 24)
  have NE := Pb.new w9 24 #[.int .u64 y4, .int .u64 y5, .int .u64 y6, .int .u64 y7, .int .u64 y0, .int .u64 y1, .int .u64 y2, .int .u64 y3]
  go_upto_region 13 with fail
  obtain ⟨gE, hgE⟩ : ∃ q, q = w9.heap.size := ⟨_, rfl⟩
  rw [← hgE] at NE ⊢
  clear hgE
  clear ldf0 ldf1 ldf2 ldf3 ldf4 ldf5 ldf6 ldf7
  replace Nf := Nf.later alr
  replace Nm := Nm.later alr
  have HBr := HGG.out.trans (alr.mono (by have := HGG.out.size; have := HG.out; omega))
  replace HGG : Hid _ := HBr
  clear HBr alr
  generalize w9.alloc (.cells #[.int .u64 y4, .int .u64 y5, .int .u64 y6, .int .u64 y7, .int .u64 y0, .int .u64 y1, .int .u64 y2, .int .u64 y3] 24) = w9E at *
  obtain ⟨ldf0, ldf1, ldf2, ldf3, ldf4, ldf5, ldf6, ldf7⟩ := Nf.cells8
  have alr := alloc_below (w := w9E) (.cells #[.int .u64 y0, .int .u64 y1, .int .u64 y0, .int .u64 y1, .int .u64 y4, .int .u64 y5, .int .u64 y4, .int .u64 y5] 24)
  have NF := Pb.new w9E 24 #[.int .u64 y0, .int .u64 y1, .int .u64 y0, .int .u64 y1, .int .u64 y4, .int .u64 y5, .int .u64 y4, .int .u64 y5]
  go_upto_region 14 with fail
  obtain ⟨gF, hgF⟩ : ∃ q, q = w9E.heap.size := ⟨_, rfl⟩
  rw [← hgF] at NF ⊢
  clear hgF
  clear ldf0 ldf1 ldf2 ldf3 ldf4 ldf5 ldf6 ldf7
  replace Nf := Nf.later alr
  replace Nm := Nm.later alr
  replace NE := NE.later alr
  have HBr := HGG.out.trans (alr.mono (by have := HGG.out.size; have := HG.out; omega))
  replace HGG : Hid _ := HBr
  clear HBr alr
  generalize w9E.alloc (.cells #[.int .u64 y0, .int .u64 y1, .int .u64 y0, .int .u64 y1, .int .u64 y4, .int .u64 y5, .int .u64 y4, .int .u64 y5] 24) = w9F at *
  obtain ⟨ldf0, ldf1, ldf2, ldf3, ldf4, ldf5, ldf6, ldf7⟩ := Nf.cells8
  have alr := alloc_below (w := w9F) (.cells #[.int .u64 y2, .int .u64 y3, .int .u64 y2, .int .u64 y3, .int .u64 y6, .int .u64 y7, .int .u64 y6, .int .u64 y7] 24)
  have NT := Pb.new w9F 24 #[.int .u64 y2, .int .u64 y3, .int .u64 y2, .int .u64 y3, .int .u64 y6, .int .u64 y7, .int .u64 y6, .int .u64 y7]
  go_upto_region 15 with fail
  obtain ⟨gT, hgT⟩ : ∃ q, q = w9F.heap.size := ⟨_, rfl⟩
  rw [← hgT] at NT ⊢
  clear hgT
  clear ldf0 ldf1 ldf2 ldf3 ldf4 ldf5 ldf6 ldf7
  replace Nf := Nf.later alr
  replace Nm := Nm.later alr
  replace NE := NE.later alr
  replace NF := NF.later alr
  have HBr := HGG.out.trans (alr.mono (by have := HGG.out.size; have := HG.out; omega))
  replace HGG : Hid _ := HBr
  clear HBr alr
  generalize w9F.alloc (.cells #[.int .u64 y2, .int .u64 y3, .int .u64 y2, .int .u64 y3, .int .u64 y6, .int .u64 y7, .int .u64 y6, .int .u64 y7] 24) = w9T at *
  go_wp2
  go_loopw [13, 17, 18] (fun on ls iv wr => ∃ j : Nat, j ≤ 4 ∧ iv = .int .i64 (j : Int) ∧ on = .int .i64 ((cnB TT j : Nat) : Int) ∧ ls = .bool (lsB TT PP j) ∧ Below w9T.heap.size w9T wr) (fun _ _ iv _ => 4 - (intOf iv).toNat)
  case atStart => exact ⟨0, by omega, rfl, rfl, rfl, Below.refl _ _⟩
  case round =>
    obtain ⟨j, hj, rfl, rfl, rfl, hB⟩ := hrel
    have hBz := hB.size
    replace Nf := Nf.later hB
    replace Nm := Nm.later hB
    replace NE := NE.later hB
    replace NF := NF.later hB
    replace NT := NT.later hB
    have HBj := HGG.out.trans (hB.mono (by have := HGG.out.size; have := HG.out; omega))
    have HGJ : Hid (Below g w wr) := HBj
    clear HBj
    by_cases hlt : j < 4
    · have i1 : (j : Int) < 4 := by omega
      have i2 : (0 : Int) ≤ (j : Int) := by omega
      obtain ⟨kn, n1, n2, n3, n4, cM, cT, cF⟩ := H3.out j hlt
      have cB := H1.out j hlt
      have cP := H2.out j hlt
      obtain ⟨rE, rF, rT⟩ := H6.out
      obtain ⟨zE1, zE2⟩ := rE j hlt
      have kE : (∀ w', Below wr.heap.size wr w' → w'.cell? ⟨gE, j * 2, none⟩ = some (.int .u64 (En j).1) ∧ w'.cell? ⟨gE, j * 2 + 1, none⟩ = some (.int .u64 (En j).2)) := fun w' q => ⟨(NE.later q).cell (j * 2) (row8_at zE1), (NE.later q).cell (j * 2 + 1) (row8_at zE2)⟩
      clear zE1 zE2
      obtain ⟨zF1, zF2⟩ := rF j hlt
      have kF : (∀ w', Below wr.heap.size wr w' → w'.cell? ⟨gF, j * 2, none⟩ = some (.int .u64 (Fr j).1) ∧ w'.cell? ⟨gF, j * 2 + 1, none⟩ = some (.int .u64 (Fr j).2)) := fun w' q => ⟨(NF.later q).cell (j * 2) (row8_at zF1), (NF.later q).cell (j * 2 + 1) (row8_at zF2)⟩
      clear zF1 zF2
      obtain ⟨zT1, zT2⟩ := rT j hlt
      have kT : (∀ w', Below wr.heap.size wr w' → w'.cell? ⟨gT, j * 2, none⟩ = some (.int .u64 (To j).1) ∧ w'.cell? ⟨gT, j * 2 + 1, none⟩ = some (.int .u64 (To j).2)) := fun w' q => ⟨(NT.later q).cell (j * 2) (row8_at zT1), (NT.later q).cell (j * 2 + 1) (row8_at zT2)⟩
      clear zT1 zT2
      clear rE rF rT H1 H2 H3 H6
      generalize hTj : TT j = tj at *
      generalize hPj : PP j = pj at *
      generalize (En j).1 = e1 at *
      generalize (En j).2 = e2 at *
      generalize (Fr j).1 = f1 at *
      generalize (Fr j).2 = f2 at *
      generalize (To j).1 = t1 at *
      generalize (To j).2 = t2 at *
      have HTj : Hid (TT j = tj) := hTj
      have HPj : Hid (PP j = pj) := hPj
      clear hTj hPj
      have cnl := cnB_le TT j
      generalize hcn : cnB TT j = cn at *
      generalize hls : lsB TT PP j = ls at *
      have HCN : Hid (cnB TT j = cn) := hcn
      have HLS : Hid (lsB TT PP j = ls) := hls
      clear hcn hls
      have hcl : Hid (∀ w', Below wr.heap.size wr w' → w'.cell? ⟨gE, j * 2, none⟩ = some (.int .u64 e1) ∧ w'.cell? ⟨gE, j * 2 + 1, none⟩ = some (.int .u64 e2) ∧ w'.cell? ⟨gF, j * 2, none⟩ = some (.int .u64 f1) ∧ w'.cell? ⟨gF, j * 2 + 1, none⟩ = some (.int .u64 f2) ∧ w'.cell? ⟨gT, j * 2, none⟩ = some (.int .u64 t1) ∧ w'.cell? ⟨gT, j * 2 + 1, none⟩ = some (.int .u64 t2)) := fun w' q => ⟨(kE w' q).1, (kE w' q).2, (kF w' q).1, (kF w' q).2, (kT w' q).1, (kT w' q).2⟩
      clear kE kF kT
      go_upto_region 19 with fail
      go_cut [19, 20] from 156 to 171 (fun v v' wx => v = .bool tj ∧ v' = .int .i64 0 ∧ Below wr.heap.size wr wx)
      case first =>
        obtain ⟨lE1, lE2, lF1, lF2, lT1, lT2⟩ := hcl.out wr (Below.refl _ _)
        go_region_held3 (fun w' => w'.cell? ⟨gE, j * 2, none⟩ = some (.int .u64 e1) ∧ w'.cell? ⟨gE, j * 2 + 1, none⟩ = some (.int .u64 e2) ∧ w'.cell? ⟨gF, j * 2, none⟩ = some (.int .u64 f1) ∧ w'.cell? ⟨gF, j * 2 + 1, none⟩ = some (.int .u64 f2) ∧ w'.cell? ⟨gT, j * 2, none⟩ = some (.int .u64 t1) ∧ w'.cell? ⟨gT, j * 2 + 1, none⟩ = some (.int .u64 t2)) (go_keep) ((go_at_call 14; refine (cB _).mono ?_; rintro e wX ⟨rfl, hbo⟩; have hbX := bel_step (a := wr) hbo (by first | exact Below.refl _ _ | exact below_drewN (Below.refl _ _) 1); clear lE1 lE2 lF1 lF2 lT1 lT2; obtain ⟨lE1, lE2, lF1, lF2, lT1, lT2⟩ := hcl.out wX hbX))
        all_goals (go_wp2_with fail)
        all_goals go_meet
        exact ⟨rfl, rfl, hbX⟩
      obtain ⟨rfl, rfl, hbv⟩ := hcut
      obtain ⟨wv, hwv⟩ : ∃ wv, wv = wc := ⟨_, rfl⟩
      subst hwv
      go_upto_region 20 with fail
      go_cut [21, 22] from 172 to 191 (fun v v' wx => ∃ r, v = .pointer (some ⟨r, 0, none⟩) ∧ Pb wx r 29 #[.int .i64 kn, .bool false, .int .u64 n1, .int .u64 n2, .int .u64 n3, .int .u64 n4] ∧ v' = .int .i64 0 ∧ Below wv.heap.size wv wx)
      case first =>
        obtain ⟨lE1, lE2, lF1, lF2, lT1, lT2⟩ := hcl.out wv hbv
        have lgE := NE.lt
        have lgF := NF.lt
        have lgT := NT.lt
        have svz := hbv.size
        have naE : ¬ wv.heap.size = gE := by omega
        have nbE : ¬ gE = wv.heap.size := by omega
        have naF : ¬ wv.heap.size = gF := by omega
        have nbF : ¬ gF = wv.heap.size := by omega
        have naT : ¬ wv.heap.size = gT := by omega
        have nbT : ¬ gT = wv.heap.size := by omega
        go_region_held3 (fun w' => w'.cell? ⟨gE, j * 2, none⟩ = some (.int .u64 e1) ∧ w'.cell? ⟨gE, j * 2 + 1, none⟩ = some (.int .u64 e2) ∧ w'.cell? ⟨gF, j * 2, none⟩ = some (.int .u64 f1) ∧ w'.cell? ⟨gF, j * 2 + 1, none⟩ = some (.int .u64 f2) ∧ w'.cell? ⟨gT, j * 2, none⟩ = some (.int .u64 t1) ∧ w'.cell? ⟨gT, j * 2 + 1, none⟩ = some (.int .u64 t2)) (go_keep) ((go_at_call 10; refine (cM _ (HGJ.out.trans (Below.mono (by first | exact hbv | exact below_drewN hbv 1 | exact hbv.trans ((alloc_below _).mono hbv.size) | exact below_drewN (hbv.trans ((alloc_below _).mono hbv.size)) 1) (by have := HGJ.out.size; have := HG.out; omega)))).mono ?_; rintro e wX ⟨rfl, hbo⟩; have hbX := bel_step (a := wv) hbo (by first | exact Below.refl _ _ | exact below_drewN (Below.refl _ _) 1 | exact alloc_below _ | exact below_drewN (alloc_below _) 1); have sX := hbX.size; have ncE : ¬ wX.heap.size = gE := (by omega); have ndE : ¬ gE = wX.heap.size := (by omega); have ncF : ¬ wX.heap.size = gF := (by omega); have ndF : ¬ gF = wX.heap.size := (by omega); have ncT : ¬ wX.heap.size = gT := (by omega); have ndT : ¬ gT = wX.heap.size := (by omega); (first | (have NB : Pb wX wv.heap.size 29 #[.int .i64 0, .bool false, .int .u64 0, .int .u64 0, .int .u64 0, .int .u64 0] := (by refine Pb.later ?_ hbo; first | (with_reducible exact Pb.new wv 29 #[.int .i64 0, .bool false, .int .u64 0, .int .u64 0, .int .u64 0, .int .u64 0]) | (with_reducible exact pb_drew (Pb.new wv 29 #[.int .i64 0, .bool false, .int .u64 0, .int .u64 0, .int .u64 0, .int .u64 0])))) | skip); (first | (have tt := NB.lt; obtain ⟨k0, k1, k2, k3, k4, k5⟩ := NB.cells6; obtain ⟨l0, l1, l2, l3, l4, l5⟩ := NB.free6) | skip); clear lE1 lE2 lF1 lF2 lT1 lT2; obtain ⟨lE1, lE2, lF1, lF2, lT1, lT2⟩ := hcl.out wX (hbv.trans (hbX.mono hbv.size))))
        · go_wp2_with fail
          go_meet
          exact ⟨wX.heap.size, rfl, Pb.new _ _ _, rfl, hbX.trans ((alloc_below _).mono hbX.size)⟩
        · clear lE1 lE2 lF1 lF2 lT1 lT2
          go_wp2_with fail
          go_meet
          exact ⟨_, rfl, NB.put6 _ _ _ _ _ _, rfl, below_in hbX (in6p wX wv.heap.size (.int .i64 kn) (.bool false) (.int .u64 n1) (.int .u64 n2) (.int .u64 n3) (.int .u64 n4)) (Nat.le_refl _) (Nat.le_refl _)⟩
      obtain ⟨rn, rfl, Nn, rfl, hbn⟩ := hcut
      obtain ⟨wn, hwn⟩ : ∃ wn, wn = wc := ⟨_, rfl⟩
      subst hwn
      have hbrn : Hid (Below wr.heap.size wr wn) := hbv.trans (hbn.mono hbv.size)
      replace Nm := Nm.later hbrn.out
      clear cB cM hbv hbn
      obtain ⟨u0, u1, u2, u3, u4, u5⟩ := Nn.cells6
      cases tj with
      | false =>
        have ek := cF rfl
        subst ek
        clear cT cF cP
        go_wp2
        go_roundw
        case rel => exact ⟨j + 1, by omega, rfl, by unfold cnB; rw [HCN.out, HTj.out]; rfl, by unfold lsB; rw [HLS.out, HTj.out]; simp, hB.trans (hbrn.out.mono hBz)⟩
        case measure => simp [intOf]; omega
      | true =>
        obtain ⟨ek, cQ⟩ := cT rfl
        subst ek
        clear cT cF
        go_upto_region 25 with fail
        obtain ⟨v0, v1, v2, v3, v4, v5⟩ := Nm.cells6
        go_cut [17] from 217 to 226 (fun v wx => v = .bool (ls || pj) ∧ Below wn.heap.size wn wx)
        case first =>
          obtain ⟨lE1, lE2, _⟩ := hcl.out wn hbrn.out
          cases ls with
          | true =>
            go_quiet (fail)
            go_wp2
            go_meet
            exact ⟨rfl, below_drewN (Below.refl _ _) _⟩
          | false =>
            go_region_held3 (fun w' => w'.cell? ⟨gE, j * 2, none⟩ = some (.int .u64 e1) ∧ w'.cell? ⟨gE, j * 2 + 1, none⟩ = some (.int .u64 e2) ∧ w'.cell? ⟨wk1.heap.size, 2, none⟩ = some (.int .u64 p1) ∧ w'.cell? ⟨wk1.heap.size, 3, none⟩ = some (.int .u64 p2)) (go_keep) ((go_at_call 15; refine (cP _).mono ?_; rintro e wX ⟨rfl, hbo⟩; have hbX := bel_step (a := wn) hbo (by first | exact Below.refl _ _ | exact below_drewN (Below.refl _ _) 1); clear lE1 lE2; obtain ⟨lE1, lE2, _⟩ := hcl.out wX (hbrn.out.trans (hbX.mono hbrn.out.size)); clear v0 v1 v2 v3 v4 v5; obtain ⟨v0, v1, v2, v3, v4, v5⟩ := (Nm.later hbX).cells6))
            all_goals (go_wp2_with fail)
            all_goals go_meet
            exact ⟨by simp, hbX⟩
        obtain ⟨rfl, hb25⟩ := hcut
        obtain ⟨w25, hw25⟩ : ∃ q, q = wc := ⟨_, rfl⟩
        subst hw25
        replace Nn := Nn.later hb25
        have hbr25 : Hid (Below wr.heap.size wr w25) := hbrn.out.trans (hb25.mono hbrn.out.size)
        clear u0 u1 u2 u3 u4 u5 v0 v1 v2 v3 v4 v5 hb25 cP
        obtain ⟨u0, u1, u2, u3, u4, u5⟩ := Nn.cells6
        go_upto_region 26 with fail
        go_cut [234] from 227 to 234 (fun v wx => v = .bool false ∧ Below w25.heap.size w25 wx)
        case first =>
          obtain ⟨lE1, lE2, _⟩ := hcl.out w25 hbr25.out
          go_region_held3 (fun w' => w'.cell? ⟨gE, j * 2, none⟩ = some (.int .u64 e1) ∧ w'.cell? ⟨gE, j * 2 + 1, none⟩ = some (.int .u64 e2) ∧ w'.cell? ⟨rn, 2, none⟩ = some (.int .u64 n1) ∧ w'.cell? ⟨rn, 3, none⟩ = some (.int .u64 n2)) (go_keep) ((go_at_call 15; refine (cQ _).mono ?_; rintro e wX ⟨rfl, hbo⟩; have hbX := bel_step (a := w25) hbo (by first | exact Below.refl _ _ | exact below_drewN (Below.refl _ _) 1); clear lE1 lE2; obtain ⟨lE1, lE2, _⟩ := hcl.out wX (hbr25.out.trans (hbX.mono hbr25.out.size)); clear u0 u1 u2 u3 u4 u5; obtain ⟨u0, u1, u2, u3, u4, u5⟩ := (Nn.later hbX).cells6))
          all_goals (go_wp2_with fail)
          all_goals go_meet
          exact ⟨rfl, hbX⟩
        obtain ⟨rfl, hb26⟩ := hcut
        obtain ⟨w26, hw26⟩ : ∃ q, q = wc := ⟨_, rfl⟩
        subst hw26
        have hbr26 : Hid (Below wr.heap.size wr w26) := hbr25.out.trans (hb26.mono hbr25.out.size)
        clear u0 u1 u2 u3 u4 u5 hb26 cQ
        go_wp2
        go_roundw
        case rel => exact ⟨j + 1, by omega, rfl, by unfold cnB; rw [HCN.out, HTj.out]; rfl, by unfold lsB; rw [HLS.out, HTj.out, HPj.out]; simp, hB.trans (hbr26.out.mono hBz)⟩
        case measure => simp [intOf]; omega
    · have ej : j = 4 := by omega
      subst ej
      have H4o := H4.out
      clear H1 H2 H3 H4 H6 NE NF NT
      generalize cnB TT 4 = cn at *
      generalize lsB TT PP 4 = ls at *
      replace HGG := HGJ
      clear HGJ
      obtain ⟨v0, v1, v2, v3, v4, v5⟩ := Nm.cells6
      rcases H4o with ⟨rfl, ⟨rfl, rfl⟩ | ⟨rfl, rfl⟩⟩ | ⟨hcn, rfl, rfl, ⟨rfl, rfl, rfl⟩ | ⟨rfl, ho, rfl, rfl, rfl, rfl, rfl, rfl⟩⟩
      · go_wp2
        go_ret
        have q := HGG.out
        have hw := HG.out
        rw [hw]
        exact ⟨rfl, q⟩
      · go_wp2
        go_ret
        have q := HGG.out
        have hw := HG.out
        rw [hw]
        exact ⟨rfl, q⟩
      · have hcb : (((cn : Nat) : Int) == 0) = false := by simp; omega
        go_wp2
        go_ret
        have q := HGG.out
        have hw := HG.out
        rw [hw]
        exact ⟨rfl, q⟩
      · have hcb : (((cn : Nat) : Int) == 0) = false := by simp; omega
        go_wp2_with fail
        clear hcb v0 v1 v2 v3 v4 v5
        refine (or1 wr).mono ?_
        rintro ek wk14 ⟨rfl, hbq⟩
        replace Nf := Nf.later hbq
        replace Nm := Nm.later hbq
        have HB15 := HGG.out.trans (hbq.mono (by have := HGG.out.size; have := HG.out; omega))
        replace HGG : Hid _ := HB15
        clear HB15
        clear hbq
        obtain ⟨ldf0, ldf1, ldf2, ldf3, ldf4, ldf5, ldf6, ldf7⟩ := Nf.cells8
        obtain ⟨ldm0, ldm1, ldm2, ldm3, ldm4, ldm5⟩ := Nm.cells6
        go_wp2_with fail
        refine (bq1 wk14).mono ?_
        rintro ek wk16 ⟨rfl, hbq⟩
        clear ldf0 ldf1 ldf2 ldf3 ldf4 ldf5 ldf6 ldf7 ldm0 ldm1 ldm2 ldm3 ldm4 ldm5
        replace Nf := Nf.later hbq
        replace Nm := Nm.later hbq
        have HB17 := HGG.out.trans (hbq.mono (by have := HGG.out.size; have := HG.out; omega))
        replace HGG : Hid _ := HB17
        clear HB17
        clear hbq
        obtain ⟨ldf0, ldf1, ldf2, ldf3, ldf4, ldf5, ldf6, ldf7⟩ := Nf.cells8
        obtain ⟨ldm0, ldm1, ldm2, ldm3, ldm4, ldm5⟩ := Nm.cells6
        go_wp2_with fail
        refine (bq2 wk16).mono ?_
        rintro ek wk18 ⟨rfl, hbq⟩
        clear ldf0 ldf1 ldf2 ldf3 ldf4 ldf5 ldf6 ldf7 ldm0 ldm1 ldm2 ldm3 ldm4 ldm5
        replace Nf := Nf.later hbq
        replace Nm := Nm.later hbq
        have HB19 := HGG.out.trans (hbq.mono (by have := HGG.out.size; have := HG.out; omega))
        replace HGG : Hid _ := HB19
        clear HB19
        clear hbq
        go_wp2
        go_ret
        have q := HGG.out
        have hw := HG.out
        rw [hw]
        exact ⟨rfl, q⟩
end Go.Proofs.YtienpliknhkbjaaGreatDoor

/- plumblaw23.Four (four points), plumblaw23.Odd among the inputs, opened. -/
namespace Go.Proofs.YtienpliknhkbjaaGreatDoor
open Go.ChangeShapes Go.WideShapes Go.ChangeAt Go.RowKit
open Na Ar
set_option linter.unusedVariables false
theorem cells_u64f : Tryz.prog.cellsOf 22 = 1 := by kernel_rfl
theorem cells_pointf : Tryz.prog.cellsOf 24 = 2 := by kernel_rfl
theorem cells_four : Tryz.prog.cellsOf 26 = 8 := by kernel_rfl
set_option maxRecDepth 100000 in
theorem trod_u64f {H : Type} {enc : TypeId × Value → H} {w : World} {base m : Nat} {spare : Nat → Bool} {held : Bool} {cs : Value} {x : DataW H × List MemPlace}
    (hf : DataW.trod enc Tryz.prog w base spare held m 22 [cs] = some x) : ∃ s, cs = .int .u64 s ∧ U s := by
  obtain ⟨s, e0, _, hw⟩ := DataW.trod_int Tryz.underlying22 hf
  simp at e0
  simp only [Lit.wf, Bool.and_eq_true, decide_eq_true_eq] at hw
  have h1 : IntKind.u64.min = 0 := rfl
  have h2 : IntKind.u64.max = 18446744073709551615 := rfl
  exact ⟨s, e0, by unfold U; omega⟩
set_option maxRecDepth 100000 in
theorem trod_pointf {H : Type} {enc : TypeId × Value → H} {w : World} {base m : Nat} {spare : Nat → Bool} {held : Bool} {c0 c1 : Value} {x : DataW H × List MemPlace}
    (hf : DataW.trod enc Tryz.prog w base spare held m 24 [c0, c1] = some x) : ∃ s t, c0 = .int .u64 s ∧ c1 = .int .u64 t ∧ U s ∧ U t := by
  obtain ⟨xs, m, _, _, hl, hx, hi⟩ := DataW.trod_struct Tryz.underlying24 hf
  have i0 := hi 0 _ rfl
  have i1 := hi 1 _ rfl
  match xs, hx with
  | [x0, x1], _ =>
    simp [cells_u64f] at i0 i1
    obtain ⟨s, rfl, k0⟩ := trod_u64f i0
    obtain ⟨t, rfl, k1⟩ := trod_u64f i1
    exact ⟨s, t, rfl, rfl, k0, k1⟩
set_option maxRecDepth 100000 in
theorem open_four {H : Type} {enc : TypeId × Value → H} {w : World} {r : Reach} {base b0 : Nat} {spare : Nat → Bool} {held : Bool} {v : Value} {d : DataW H} {p : List MemPlace}
    (hv : Value.okWide Tryz.prog w r b0 26 v) (h : DataW.Trod enc Tryz.prog w base spare held 26 v d p) :
    ∃ x0 x1 x2 x3 x4 x5 x6 x7, v = .agg #[.int .u64 x0, .int .u64 x1, .int .u64 x2, .int .u64 x3, .int .u64 x4, .int .u64 x5, .int .u64 x6, .int .u64 x7] ∧ U x0 ∧ U x1 ∧ U x2 ∧ U x3 ∧ U x4 ∧ U x5 ∧ U x6 ∧ U x7 := by
  obtain ⟨cs, rfl, hsz⟩ := okWide_struct Tryz.underlying26 hv
  obtain ⟨fuel, hf⟩ := h
  obtain ⟨xs, m, _, _, hl, hx, hi⟩ := DataW.trod_struct Tryz.underlying26 hf
  rw [cells_four] at hsz
  obtain ⟨c0, c1, c2, c3, c4, c5, c6, c7, rfl⟩ : ∃ c0 c1 c2 c3 c4 c5 c6 c7, cs = #[c0, c1, c2, c3, c4, c5, c6, c7] := by
    match cs, hsz with
    | ⟨[c0, c1, c2, c3, c4, c5, c6, c7]⟩, _ => exact ⟨c0, c1, c2, c3, c4, c5, c6, c7, rfl⟩
  have i0 := hi 0 _ rfl
  have i1 := hi 1 _ rfl
  have i2 := hi 2 _ rfl
  have i3 := hi 3 _ rfl
  match xs, hx with
  | [x0, x1, x2, x3], _ =>
    simp [Value.cells, cells_pointf] at i0 i1 i2 i3
    obtain ⟨y0, y1, rfl, rfl, k0, k1⟩ := trod_pointf i0
    obtain ⟨y2, y3, rfl, rfl, k2, k3⟩ := trod_pointf i1
    obtain ⟨y4, y5, rfl, rfl, k4, k5⟩ := trod_pointf i2
    obtain ⟨y6, y7, rfl, rfl, k6, k7⟩ := trod_pointf i3
    exact ⟨y0, y1, y2, y3, y4, y5, y6, y7, rfl, k0, k1, k2, k3, k4, k5, k6, k7⟩
end Go.Proofs.YtienpliknhkbjaaGreatDoor

