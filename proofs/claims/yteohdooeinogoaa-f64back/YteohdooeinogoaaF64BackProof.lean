/-
  THE SHELL OF A PROOF OF 'Rows.F64BackSaid' ('plumb/plumblaw06.F64Back'), WRITTEN BY PROGRAM (proof-skeleton.mjs) off the guide's own print for that function. Not trusted: Lean checks it.
  YOURS ARE THE HOLES MARKED 'HOLE' (filled). ALL ELSE IS THE GUIDE's TEMPLATE (howto/template/XProofs.lean) at this function's number and types: leave it.
-/
import Derived.Test.YteohdooeinogoaaRows
import Derived.WalkKit
import Derived.ProofKit
import Derived.OpenShut
import Derived.ShutString
import Derived.WalkLawsBesides
import Derived.WalkSpells
import Derived.Deep.RegionWith
import Derived.Deep.DeepCutAuto
import Derived.Deep.DeepFit
import Derived.Test.YteohdooeinogoaaF64D
namespace Go.Proofs.Yteohdooeinogoaa.f64Back
open Go.ChangeShapes Go.WideShapes Go.ChangeAt Go.RowKit
open Go.ChangeMaps (open_string shut_string)
open Ar
set_option linter.unusedVariables false      -- a walk need not use every 'w<i>' (that an integer argument fits its kind)

theorem own : ownKnob Try.prog.godebug = none := by kernel_rfl

/-! ### STEP 1: THE WALK: the Go text returns true. 'Grown w w'': the world has at most new blocks (Derived/RowKit3.lean). Part the cases AHEAD of 'go_enter' where a test parts the walk; take each callee by a contract of your own. -/
theorem walk (a0 : Int) (a1 : Int) (w0 : (Lit.int .u64 a0).wf = true) (w1 : (Lit.int .i64 a1).wf = true) (w : World) :
    Calls Try.prog 5 #[.int .u64 a0, .int .i64 a1] w fun e w' => e = .returned (.bool true) ∧ Grown w w' := by
  have hb := U_of w0
  clear w0
  have hS := fun w => f6Split_any hb w
  have hR := fun w => f6Rank_any hb w
  have hC := fun w => f6Class_any hb w
  by_cases hf : ef a0 = 2047
  · have k1 : fiE a0 = 60 := by unfold fiE; rw [if_pos hf]
    have k2 : spM a0 = 0 := by unfold spM; rw [if_pos hf]
    have k3 : spX a0 = 0 := by unfold spX; rw [if_pos hf]
    have k4 : rkW a0 = 0 := by unfold rkW; rw [if_pos hf]
    have k5 := (cls_ge a0).mpr hf
    rw [k1, k2, k3] at hS
    rw [k1, k4] at hR
    clear k1 k2 k3 k4 hf
    generalize clsW a0 = cls at *
    generalize spS a0 = s at *
    go_enter Try.func5, Try.ntmps5
    go_wp2_with (first | (go_at_call 23; refine (hS _).mono ?_; rintro e w' ⟨rfl, rfl⟩) | (go_at_call 24; refine (hR _).mono ?_; rintro e w' ⟨rfl, rfl⟩) | (go_at_call 25; refine (hC _).mono ?_; rintro e w' ⟨rfl, rfl⟩) | (go_at_call 22; refine (f6alive_any _).mono ?_; rintro e w' ⟨rfl, hg⟩))
    go_ret
    exact ⟨rfl, hg.1⟩
  · have k1 : fiE a0 = 0 := by unfold fiE; rw [if_neg hf]
    have k5 : ¬ (3 ≤ clsW a0) := fun h => hf ((cls_ge a0).mp h)
    have k6 : rkW a0 = rk0 a0 := by unfold rkW; rw [if_neg hf]
    have k7 := cls_bd a0
    have k8 := rk0_mg hb
    have k9 := mg_bd a0
    have k10 := fin_yes hf
    obtain ⟨k, kk, hk⟩ : ∃ k : Nat, k < 11 ∧ wrap64 ((IntKind.u64.wrap a1).tmod 11) = (k : Int) := by
      have e : (IntKind.u64.wrap a1).tmod 11 = (IntKind.u64.wrap a1) % 11 := Int.tmod_eq_emod_of_nonneg (U_wrap a1).1
      rw [e]
      refine ⟨(wrap64 (IntKind.u64.wrap a1 % 11)).toNat, ?_, ?_⟩ <;> unfold wrap64 <;> omega
    have hJ : ∀ (v u : Int) (w : World), v = spM a0 * 2 ^ k → u = spX a0 - k → Calls Try.prog 20 #[.bool (spS a0), .int .u64 v, .int .i64 u] w fun e w' => e = .returned (.tuple #[.int .u64 a0, .int .i64 0]) ∧ Gr w w' := by
      rintro v u w rfl rfl
      have hv : U (spM a0 * 2 ^ k) := by
        have h1 := fr_bd a0
        have h2 : 0 ≤ spM a0 ∧ spM a0 < 9007199254740992 := by
          unfold spM; rw [if_neg hf]; split <;> omega
        have hp := pow_pos k
        have hq : (2 : Int) ^ k ≤ 1024 := by
          have := Nat.pow_le_pow_right (n := 2) (by omega) (show k ≤ 10 by omega)
          have c := pow_cast k
          omega
        have h3 : spM a0 * 2 ^ k ≤ spM a0 * 1024 := Int.mul_le_mul_of_nonneg_left hq h2.1
        have h4 : 0 ≤ spM a0 * 2 ^ k := Int.mul_nonneg h2.1 (by omega)
        unfold U; omega
      refine (f6Join_any _ _ hv _).mono ?_
      rintro e w' ⟨b, c, rfl, hg, J⟩
      obtain ⟨rfl, rfl⟩ := joinIs_uniq J (join_split hb hf k)
      exact ⟨rfl, hg⟩
    have hv : IntKind.u64.wrap (spM a0 * 2 ^ k) = spM a0 * 2 ^ k := by
      have h1 := fr_bd a0
      have h2 : 0 ≤ spM a0 ∧ spM a0 < 9007199254740992 := by
        unfold spM; rw [if_neg hf]; split <;> omega
      have hp := pow_pos k
      have hq : (2 : Int) ^ k ≤ 1024 := by
        have := Nat.pow_le_pow_right (n := 2) (by omega) (show k ≤ 10 by omega)
        have c := pow_cast k
        omega
      have h3 : spM a0 * 2 ^ k ≤ spM a0 * 1024 := Int.mul_le_mul_of_nonneg_left hq h2.1
      have h4 : 0 ≤ spM a0 * 2 ^ k := Int.mul_nonneg h2.1 (by omega)
      rw [wrapU]; omega
    have hx : -1074 ≤ spX a0 ∧ spX a0 ≤ 972 := by
      have := ef_bd a0
      unfold spX; rw [if_neg hf]; split <;> omega
    have hz : (clsW a0 == 0) = (spM a0 == 0) := by
      have := cls_zero a0
      rw [Bool.eq_iff_iff]; simp only [beq_iff_eq]
      exact ⟨fun h => (this.mp h).2, fun h => this.mpr ⟨hf, h⟩⟩
    have hs : spS a0 = decide (9223372036854775808 ≤ a0) := by unfold spS; rw [if_neg hf]
    have hA := fun w => f6At_any (rk0 a0) w
    rw [k1] at hS hR
    rw [k6] at hR
    have ha := at_of (rk0 a0)
    by_cases hsg : a0 = 9223372036854775808
    · have a1' : atW (rk0 a0) = 0 := by omega
      have a2' : atE (rk0 a0) = 0 := by omega
      have q : (a0 == 9223372036854775808) = true := beq_of hsg
      have c0 : clsW a0 = 0 := by rw [hsg]; decide
      rw [a1', a2'] at hA
      rw [c0] at hC
      clear k1 k5 k6 k7 k8 k9 k10 a1' a2' ha hz hs c0 hsg
      generalize rk0 a0 = rk at *
      go_enter Try.func5, Try.ntmps5
      go_wp2_with (first | (go_at_call 23; refine (hS _).mono ?_; rintro e w' ⟨rfl, rfl⟩) | (go_at_call 24; refine (hR _).mono ?_; rintro e w' ⟨rfl, rfl⟩) | (go_at_call 25; refine (hC _).mono ?_; rintro e w' ⟨rfl, rfl⟩) | (go_at_call 22; refine (f6alive_any _).mono ?_; rintro e w' ⟨rfl, hg⟩) | (go_at_call 20; refine (hJ _ _ _ (by first | rfl | omega | (rw [wrapU]; omega)) (by omega)).mono ?_; rintro e w2 ⟨rfl, hg2⟩) | (go_at_call 26; refine (hA _).mono ?_; rintro e w' ⟨rfl, rfl⟩))
      go_ret
      exact ⟨by simp, (gr_trans hg hg2).1⟩
    · have a1' : atW (rk0 a0) = a0 := by omega
      have a2' : atE (rk0 a0) = 0 := by omega
      have q : (a0 == 9223372036854775808) = false := beq_no hsg
      have q2 : (spS a0 == decide (9223372036854775808 ≤ a0)) = true := by rw [hs]; simp
      have q3 : ((clsW a0 == 0) == (spM a0 == 0)) = true := by rw [hz]; simp
      rw [a1', a2'] at hA
      clear k1 k6 k8 k9 k10 a1' a2' ha hz hs hsg
      generalize rk0 a0 = rk at *
      go_enter Try.func5, Try.ntmps5
      go_wp2_with (first | (go_at_call 23; refine (hS _).mono ?_; rintro e w' ⟨rfl, rfl⟩) | (go_at_call 24; refine (hR _).mono ?_; rintro e w' ⟨rfl, rfl⟩) | (go_at_call 25; refine (hC _).mono ?_; rintro e w' ⟨rfl, rfl⟩) | (go_at_call 22; refine (f6alive_any _).mono ?_; rintro e w' ⟨rfl, hg⟩) | (go_at_call 20; refine (hJ _ _ _ (by first | rfl | omega | (rw [wrapU]; omega)) (by omega)).mono ?_; rintro e w2 ⟨rfl, hg2⟩) | (go_at_call 26; refine (hA _).mono ?_; rintro e w' ⟨rfl, rfl⟩))
      go_ret
      exact ⟨by simp, (gr_trans hg hg2).1⟩

/-! ### THE ROW's STEP: WRITTEN OUT: LEAVE IT -/
set_option maxRecDepth 100000 in
theorem lifted (os : Os) (started : os.Started) (H : Type) (enc : TypeId × Value → H) :
    ReturnsInHanded {} Try.checked os 5 .any (Rows.f64BackSpec.pre6 enc Try.prog Try.f5 Rows.f64BackRow.domain false) (Rows.f64BackSpec.post enc Try.prog Try.f5 false true false false) := by
  refine returnsInHanded_of_change (C := Try.checked) own started (by kernel_rfl) Try.func5
    (ChangeSpec.witness6 (enc := enc) (C := Try.checked) false ⟨#[], #[.int .u64 0, .int .i64 0], []⟩ 8 (by kernel_rfl) (by kernel_rfl) (by kernel_rfl) (by kernel_rfl)) ?_
  intro W base args ds gs before hval0 hW hcnd _
  have hval : ∀ (j : Nat) t v, Try.f5.params[j]? = some t → args[j]? = some v → Value.okWide Try.prog W .any base t v := hval0
  have hW' := hW
  obtain ⟨p, q, hA0, hV, rfl, hfz, hnd⟩ := hW
  have hA : DataW.TrodAll enc Try.prog W 0 (fun _ => true) true Try.f5.params.toList args.toList ds p := hA0
  rw [Try.params5] at hA hval
  obtain ⟨v0, vs0, d0, ds0, p0, q0, hargs, rfl, rfl, h0, r0⟩ := trodAll_cons hA
  obtain ⟨v1, vs1, d1, ds1, p1, q1, rfl, rfl, rfl, h1, r1⟩ := trodAll_cons r0
  obtain ⟨rfl, rfl, rfl⟩ := trodAll_nil r1
  obtain rfl : args = #[v0, v1] := by cases args; simp_all
  obtain ⟨rfl, rfl⟩ := trodVars_none hV
  obtain ⟨a0, rfl, rfl, rfl, w0⟩ := open_int Try.underlying25 (hval 0 25 v0 rfl rfl) h0
  obtain ⟨a1, rfl, rfl, rfl, w1⟩ := open_int Try.underlying3 (hval 1 3 v1 rfl rfl) h1
  clear hA0 hval0
  simp only [List.append_nil] at hW'
  refine (walk a0 a1 w0 w1 W).mono fun e W' ⟨he, hg⟩ => ?_
  subst he
  exact ⟨_, rfl, post_of_same (pa := []) (pv := []) hW' (fun _ _ _ => (trodAll_cons_mk (shut_bool Try.underlying4 _) trodAll_mk0)) (fun sp _ => (trodAll_cons_mk (shut_int Try.underlying25 w0) (trodAll_cons_mk (shut_int Try.underlying3 w1) trodAll_mk0))) (fun _ _ => rfl) rfl
    (hg.frame _) hg.2.1 (ok_one (by kernel_rfl) rfl (okWide_bool_mk Try.underlying4 _))⟩

theorem over : Rows.f64BackRow.holds Try.pinned (OpenSpec.ofChange Rows.f64BackSpec) :=
  OpenClaim.holds_of_wide 5 Try.f5 rfl rfl rfl rfl rfl rfl rfl ⟨rfl, rfl, rfl, rfl, rfl⟩ rfl rfl rfl rfl rfl (by kernel_rfl) Try.func5 (by kernel_rfl)
    (of_decide_eq_true (by kernel_rfl)) (by unfold Func.isWrapper; first | (rw [if_pos (by decide +kernel)]; kernel_rfl) | (rw [if_neg (by decide +kernel)]; exact ⟨rfl, rfl⟩))
    (fun os started H enc _ => lifted os started H enc)

/-- ████ THE STATEMENT ████ -/
theorem proved : Rows.F64BackSaid :=
  over
#print axioms proved
end Go.Proofs.Yteohdooeinogoaa.f64Back
