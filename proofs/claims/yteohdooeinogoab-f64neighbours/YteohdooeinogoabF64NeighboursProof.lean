/-
  THE SHELL OF A PROOF OF 'Rows.F64NeighboursSaid' ('plumb/plumblaw06.F64Neighbours'), WRITTEN BY PROGRAM (proof-skeleton.mjs) off the guide's own print for that function. Not trusted: Lean checks it.
  YOURS ARE THE HOLES MARKED 'HOLE' (filled). ALL ELSE IS THE GUIDE's TEMPLATE (howto/template/XProofs.lean) at this function's number and types: leave it.
-/
import Derived.Test.YteohdooeinogoabRows
import Derived.WalkKit
import Derived.ProofKit
import Derived.OpenShut
import Derived.ShutString
import Derived.WalkLawsBesides
import Derived.WalkSpells
import Derived.Deep.RegionWith
import Derived.Deep.DeepCutAuto
import Derived.Deep.DeepFit
import Derived.Test.YteohdooeinogoabF64D
namespace Go.Proofs.Yteohdooeinogoab.f64Neighbours
open Go.ChangeShapes Go.WideShapes Go.ChangeAt Go.RowKit
open Go.ChangeMaps (open_string shut_string)
open Ar
set_option linter.unusedVariables false      -- a walk need not use every 'w<i>' (that an integer argument fits its kind)

theorem own : ownKnob Try.prog.godebug = none := by kernel_rfl

/-! ### STEP 1: THE WALK: the Go text returns true. 'Grown w w'': the world has at most new blocks (Derived/RowKit3.lean). Part the cases AHEAD of 'go_enter' where a test parts the walk; take each callee by a contract of your own. -/
theorem walk (a0 : Int) (a1 : Int) (w0 : (Lit.int .u64 a0).wf = true) (w1 : (Lit.int .u64 a1).wf = true) (w : World) :
    Calls Try.prog 3 #[.int .u64 a0, .int .u64 a1] w fun e w' => e = .returned (.bool true) ∧ Grown w w' := by
  have hb := U_of w0
  have hc := U_of w1
  clear w0 w1
  have hNx := fun w => f6Next_any hb w
  have hCl := fun w => f6Class_any hb w
  by_cases he : nxE a0 = 0
  · obtain ⟨f1, f2⟩ := nx_fin he
    obtain ⟨g1, g2, g3⟩ := nx_next hb he
    obtain ⟨p1, p2, p3, p4⟩ := prev_back hb he
    have hR := fun w => f6Rank_any hb w
    have hS := fun w => f6Rank_any g3 w
    have hL := fun w => f6Cmp_any hb g3 w
    have hP := fun w => f6Prev_any g3 w
    have hB := fun w => f6Cmp_any p4 hb w
    have hX := fun w => f6Cmp_any hb hc w
    have hY := fun w => f6Cmp_any hc g3 w
    have hK := fun w => f6Class_any hc w
    have k1 : fiE a0 = 0 := by unfold fiE; rw [if_neg f1]
    have k2 : fiE (nxW a0) = 0 := by unfold fiE; rw [if_neg g1]
    have k3 : rkW a0 = rk0 a0 := by unfold rkW; rw [if_neg f1]
    have k4 : rkW (nxW a0) = rk0 a0 + 1 := by unfold rkW; rw [if_neg g1, g2]
    have k5 : cmW a0 (nxW a0) = -1 := by unfold cmW; rw [if_neg f1, if_neg g1]; exact ord_lt (by omega)
    have k6 : cmE a0 (nxW a0) = 0 := by unfold cmE; rw [if_neg f1, if_neg g1]
    have k7 : cmW (pvW (nxW a0)) a0 = 0 := by unfold cmW; rw [if_neg p2, if_neg f1]; exact ord_eq p3
    have k8 : cmE (pvW (nxW a0)) a0 = 0 := by unfold cmE; rw [if_neg p2, if_neg f1]
    rw [he] at hNx
    rw [k1, k3] at hR
    rw [k2, k4] at hS
    rw [k5, k6] at hL
    rw [p1] at hP
    rw [k7, k8] at hB
    have hbd : -9223372036854775808 ≤ rk0 a0 ∧ rk0 a0 ≤ 9223372036854775806 := by
      have := rk0_mg hb
      have := mg_bd a0
      have := fin_yes f1
      omega
    clear k1 k2 k3 k4 k5 k6 k7 k8 p1
    by_cases hk : ef a1 = 2047
    · have c1 : cmW a0 a1 = 0 := by unfold cmW; rw [if_neg f1, if_pos hk]
      have c2 : cmE a0 a1 = 60 := by unfold cmE; rw [if_neg f1, if_pos hk]
      have c3 : cmW a1 (nxW a0) = 0 := by unfold cmW; rw [if_pos hk]
      have c4 : cmE a1 (nxW a0) = 60 := by unfold cmE; rw [if_pos hk]
      have c5 := (cls_ge a1).mpr hk
      rw [c1, c2] at hX
      rw [c3, c4] at hY
      clear c1 c2 c3 c4 hk hCl
      generalize clsW a1 = cls at *
      clear hc g1 g2 g3 p2 p3 p4 f1 f2 he
      generalize pvW (nxW a0) = pv at *
      generalize nxW a0 = nx at *
      generalize rk0 a0 = r at *
      go_enter Try.func3, Try.ntmps3
      go_wp2_with fail
      refine (hNx _).mono ?_
      rintro e w' ⟨rfl, rfl⟩
      go_wp2_with fail
      refine (f6alive_any _).mono ?_
      rintro e w' ⟨rfl, hg⟩
      go_wp2_with fail
      refine (hR _).mono ?_
      rintro e w' ⟨rfl, rfl⟩
      go_wp2_with fail
      refine (hS _).mono ?_
      rintro e w' ⟨rfl, rfl⟩
      go_wp2_with fail
      refine (hL _).mono ?_
      rintro e w' ⟨rfl, rfl⟩
      go_wp2_with fail
      refine (hP _).mono ?_
      rintro e w' ⟨rfl, rfl⟩
      go_wp2_with fail
      refine (hB _).mono ?_
      rintro e w' ⟨rfl, rfl⟩
      go_wp2_with fail
      refine (hX _).mono ?_
      rintro e w' ⟨rfl, rfl⟩
      go_wp2_with fail
      refine (hY _).mono ?_
      rintro e w' ⟨rfl, rfl⟩
      go_wp2_with fail
      refine (hK _).mono ?_
      rintro e w' ⟨rfl, rfl⟩
      go_wp2_with fail
      go_ret
      exact ⟨rfl, hg.1⟩
    · have c2 : cmE a0 a1 = 0 := by unfold cmE; rw [if_neg f1, if_neg hk]
      have c4 : cmE a1 (nxW a0) = 0 := by unfold cmE; rw [if_neg hk, if_neg g1]
      have c5 : ¬ (3 ≤ clsW a1) := fun h => hk ((cls_ge a1).mp h)
      have c6 : ¬ (cmW a0 a1 < 0 ∧ cmW a1 (nxW a0) < 0) := by
        unfold cmW; rw [if_neg f1, if_neg hk, if_neg hk, if_neg g1]
        have u := ord_cases (rk0 a0) (rk0 a1)
        have v := ord_cases (rk0 a1) (rk0 (nxW a0))
        omega
      rw [c2] at hX
      rw [c4] at hY
      clear c2 c4 hk hCl
      generalize clsW a1 = cls at *
      generalize cmW a0 a1 = lo at *
      generalize cmW a1 (nxW a0) = hi at *
      clear hc g1 g2 g3 p2 p3 p4 f1 f2 he
      generalize pvW (nxW a0) = pv at *
      generalize nxW a0 = nx at *
      generalize rk0 a0 = r at *
      by_cases l : lo < 0
      · have l2 : ¬ (hi < 0) := fun h => c6 ⟨l, h⟩
        clear c6
        go_enter Try.func3, Try.ntmps3
        go_wp2_with fail
        refine (hNx _).mono ?_
        rintro e w' ⟨rfl, rfl⟩
        go_wp2_with fail
        refine (f6alive_any _).mono ?_
        rintro e w' ⟨rfl, hg⟩
        go_wp2_with fail
        refine (hR _).mono ?_
        rintro e w' ⟨rfl, rfl⟩
        go_wp2_with fail
        refine (hS _).mono ?_
        rintro e w' ⟨rfl, rfl⟩
        go_wp2_with fail
        refine (hL _).mono ?_
        rintro e w' ⟨rfl, rfl⟩
        go_wp2_with fail
        refine (hP _).mono ?_
        rintro e w' ⟨rfl, rfl⟩
        go_wp2_with fail
        refine (hB _).mono ?_
        rintro e w' ⟨rfl, rfl⟩
        go_wp2_with fail
        refine (hX _).mono ?_
        rintro e w' ⟨rfl, rfl⟩
        go_wp2_with fail
        refine (hY _).mono ?_
        rintro e w' ⟨rfl, rfl⟩
        go_wp2_with fail
        refine (hK _).mono ?_
        rintro e w' ⟨rfl, rfl⟩
        go_wp2_with fail
        go_ret
        exact ⟨ret_bool (by simpa using l2), hg.1⟩
      · clear c6
        go_enter Try.func3, Try.ntmps3
        go_wp2_with fail
        refine (hNx _).mono ?_
        rintro e w' ⟨rfl, rfl⟩
        go_wp2_with fail
        refine (f6alive_any _).mono ?_
        rintro e w' ⟨rfl, hg⟩
        go_wp2_with fail
        refine (hR _).mono ?_
        rintro e w' ⟨rfl, rfl⟩
        go_wp2_with fail
        refine (hS _).mono ?_
        rintro e w' ⟨rfl, rfl⟩
        go_wp2_with fail
        refine (hL _).mono ?_
        rintro e w' ⟨rfl, rfl⟩
        go_wp2_with fail
        refine (hP _).mono ?_
        rintro e w' ⟨rfl, rfl⟩
        go_wp2_with fail
        refine (hB _).mono ?_
        rintro e w' ⟨rfl, rfl⟩
        go_wp2_with fail
        refine (hX _).mono ?_
        rintro e w' ⟨rfl, rfl⟩
        go_wp2_with fail
        refine (hY _).mono ?_
        rintro e w' ⟨rfl, rfl⟩
        go_wp2_with fail
        refine (hK _).mono ?_
        rintro e w' ⟨rfl, rfl⟩
        go_wp2_with fail
        go_ret
        exact ⟨rfl, hg.1⟩
  · have e0 : nxW a0 = 0 := by
      unfold nxE at he; unfold nxW
      split at he
      · rw [if_pos (by assumption)]
      · split at he
        · rw [if_neg (by assumption), if_pos (by assumption)]
        · exact absurd rfl he
    have e1 : (nxE a0 = 60 ∧ 3 ≤ clsW a0) ∨ (nxE a0 = 62 ∧ a0 = 9218868437227405311) := by
      unfold nxE at *
      split at he
      · left; rw [if_pos (by assumption)]; exact ⟨rfl, (cls_ge a0).mpr (by assumption)⟩
      · split at he
        · right; rw [if_neg (by assumption), if_pos (by assumption)]; exact ⟨rfl, by assumption⟩
        · exact absurd rfl he
    rcases e1 with ⟨e1, e2⟩ | ⟨e1, e2⟩
    · rw [e0, e1] at hNx
      clear e0 e1 he
      generalize clsW a0 = cls at *
      go_enter Try.func3, Try.ntmps3
      go_wp2_with (first | (go_at_call 9; refine (hNx _).mono ?_; rintro e w' ⟨rfl, rfl⟩) | (go_at_call 10; refine (f6alive_any _).mono ?_; rintro e w' ⟨rfl, hg⟩) | (go_at_call 11; refine (hCl _).mono ?_; rintro e w' ⟨rfl, rfl⟩))
      go_ret
      exact ⟨rfl, hg.1⟩
    · rw [e0, e1] at hNx
      clear e0 e1 he
      have q : (a0 == 9218868437227405311) = true := beq_of e2
      clear e2
      generalize clsW a0 = cls at *
      go_enter Try.func3, Try.ntmps3
      go_wp2_with (first | (go_at_call 9; refine (hNx _).mono ?_; rintro e w' ⟨rfl, rfl⟩) | (go_at_call 10; refine (f6alive_any _).mono ?_; rintro e w' ⟨rfl, hg⟩) | (go_at_call 11; refine (hCl _).mono ?_; rintro e w' ⟨rfl, rfl⟩))
      go_ret
      exact ⟨rfl, hg.1⟩

/-! ### THE ROW's STEP: WRITTEN OUT: LEAVE IT -/
set_option maxRecDepth 100000 in
theorem lifted (os : Os) (started : os.Started) (H : Type) (enc : TypeId × Value → H) :
    ReturnsInHanded {} Try.checked os 3 .any (Rows.f64NeighboursSpec.pre6 enc Try.prog Try.f3 Rows.f64NeighboursRow.domain false) (Rows.f64NeighboursSpec.post enc Try.prog Try.f3 false true false false) := by
  refine returnsInHanded_of_change (C := Try.checked) own started (by kernel_rfl) Try.func3
    (ChangeSpec.witness6 (enc := enc) (C := Try.checked) false ⟨#[], #[.int .u64 0, .int .u64 0], []⟩ 8 (by kernel_rfl) (by kernel_rfl) (by kernel_rfl) (by kernel_rfl)) ?_
  intro W base args ds gs before hval0 hW hcnd _
  have hval : ∀ (j : Nat) t v, Try.f3.params[j]? = some t → args[j]? = some v → Value.okWide Try.prog W .any base t v := hval0
  have hW' := hW
  obtain ⟨p, q, hA0, hV, rfl, hfz, hnd⟩ := hW
  have hA : DataW.TrodAll enc Try.prog W 0 (fun _ => true) true Try.f3.params.toList args.toList ds p := hA0
  rw [Try.params3] at hA hval
  obtain ⟨v0, vs0, d0, ds0, p0, q0, hargs, rfl, rfl, h0, r0⟩ := trodAll_cons hA
  obtain ⟨v1, vs1, d1, ds1, p1, q1, rfl, rfl, rfl, h1, r1⟩ := trodAll_cons r0
  obtain ⟨rfl, rfl, rfl⟩ := trodAll_nil r1
  obtain rfl : args = #[v0, v1] := by cases args; simp_all
  obtain ⟨rfl, rfl⟩ := trodVars_none hV
  obtain ⟨a0, rfl, rfl, rfl, w0⟩ := open_int Try.underlying22 (hval 0 22 v0 rfl rfl) h0
  obtain ⟨a1, rfl, rfl, rfl, w1⟩ := open_int Try.underlying22 (hval 1 22 v1 rfl rfl) h1
  clear hA0 hval0
  simp only [List.append_nil] at hW'
  refine (walk a0 a1 w0 w1 W).mono fun e W' ⟨he, hg⟩ => ?_
  subst he
  exact ⟨_, rfl, post_of_same (pa := []) (pv := []) hW' (fun _ _ _ => (trodAll_cons_mk (shut_bool Try.underlying4 _) trodAll_mk0)) (fun sp _ => (trodAll_cons_mk (shut_int Try.underlying22 w0) (trodAll_cons_mk (shut_int Try.underlying22 w1) trodAll_mk0))) (fun _ _ => rfl) rfl
    (hg.frame _) hg.2.1 (ok_one (by kernel_rfl) rfl (okWide_bool_mk Try.underlying4 _))⟩

theorem over : Rows.f64NeighboursRow.holds Try.pinned (OpenSpec.ofChange Rows.f64NeighboursSpec) :=
  OpenClaim.holds_of_wide 3 Try.f3 rfl rfl rfl rfl rfl rfl rfl ⟨rfl, rfl, rfl, rfl, rfl⟩ rfl rfl rfl rfl rfl (by kernel_rfl) Try.func3 (by kernel_rfl)
    (of_decide_eq_true (by kernel_rfl)) (by unfold Func.isWrapper; first | (rw [if_pos (by decide +kernel)]; kernel_rfl) | (rw [if_neg (by decide +kernel)]; exact ⟨rfl, rfl⟩))
    (fun os started H enc _ => lifted os started H enc)

/-- ████ THE STATEMENT ████ -/
theorem proved : Rows.F64NeighboursSaid :=
  over
#print axioms proved
end Go.Proofs.Yteohdooeinogoab.f64Neighbours
