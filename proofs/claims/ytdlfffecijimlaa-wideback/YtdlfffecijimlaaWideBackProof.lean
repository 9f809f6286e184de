/-
  THE SHELL OF A PROOF OF 'Rows.WideBackSaid' ('plumb/plumblaw01.WideBack'), WRITTEN BY PROGRAM (proof-skeleton.mjs) off the guide's own print for that function. Not trusted: Lean checks it.
  YOURS ARE THE HOLES MARKED 'HOLE' (filled). ALL ELSE IS THE GUIDE's TEMPLATE (howto/template/XProofs.lean) at this function's number and types: leave it.
-/
import Derived.Test.YtdlfffecijimlaaRows
import Derived.WalkKit
import Derived.ProofKit
import Derived.OpenShut
import Derived.ShutString
import Derived.WalkLawsBesides
import Derived.WalkSpells
import Derived.Test.YtdlfffecijimlaaWide
namespace Go.Proofs.Ytdlfffecijimlaa.wideBack
open Go.ChangeShapes Go.WideShapes Go.ChangeAt Go.RowKit
open Go.ChangeMaps (open_string shut_string)
open Ar
set_option linter.unusedVariables false      -- a walk need not use every 'w<i>' (that an integer argument fits its kind)

theorem own : ownKnob Try.prog.godebug = none := by kernel_rfl

theorem back_facts {a b c : Int} (ha : U a) (hb : U b) (hc : U c) :
    (addLo a b c != IntKind.u64.wrap (IntKind.u64.wrap (a + b) + bits .and .u64 c 1)) = false ∧ (addHi a b c = 0 ∨ addHi a b c = 1) ∧
    (addHi a b c = 1 → addLo a b c < a ∨ (addLo a b c = a ∧ (0 < b ∨ bits .and .u64 c 1 = 1))) ∧
    (addHi a b c = 0 → ¬ addLo a b c < a ∧ (addLo a b c = a → ¬ 0 < b ∧ ¬ bits .and .u64 c 1 = 1)) ∧
    subLo (addLo a b c) b c = a ∧ subHi (addLo a b c) b c = addHi a b c := by
  rw [add_lo hc, and_one hc]
  unfold addLo addHi subLo subHi U at *
  refine ⟨by simp, by omega, by omega, by omega, by omega, by omega⟩
/-! ### STEP 1: THE WALK: the Go text returns true. 'Grown w w'': the world has at most new blocks (Derived/RowKit3.lean). Part the cases AHEAD of 'go_enter' where a test parts the walk; take each callee by a contract of your own. -/
theorem walk (a0 : Int) (a1 : Int) (a2 : Int) (w0 : (Lit.int .u64 a0).wf = true) (w1 : (Lit.int .u64 a1).wf = true) (w2 : (Lit.int .u64 a2).wf = true) (w : World) :
    Calls Try.prog 4 #[.int .u64 a0, .int .u64 a1, .int .u64 a2] w fun e w' => e = .returned (.bool true) ∧ Grown w w' := by
  have ha := U_of w0
  have hb := U_of w1
  have hc := U_of w2
  clear w0 w1 w2
  obtain ⟨t1, hk, f1, f0, t5, t6⟩ := back_facts ha hb hc
  have t5' : (subLo (addLo a0 a1 a2) a1 a2 == a0) = true := by simp [t5]
  have t6' : (subHi (addLo a0 a1 a2) a1 a2 == addHi a0 a1 a2) = true := by simp [t6]
  clear t5 t6
  rcases hk with hk | hk
  · obtain ⟨g1, g2⟩ := f0 hk
    clear f0 f1
    have k1 : ¬ 1 < addHi a0 a1 a2 := by omega
    have k2 : (addHi a0 a1 a2 == 1) = false := by simp [hk]
    clear hk
    by_cases e : addLo a0 a1 a2 = a0
    · obtain ⟨g3, g4⟩ := g2 e
      have e' : (addLo a0 a1 a2 == a0) = true := by simp [e]
      have g4' : (bits .and .u64 a2 1 == 1) = false := by simp [g4]
      clear e g2 g4
      go_enter Try.func4, Try.ntmps4
      go_wp2_with (first | (go_at_call 10; refine (add_any ha hb hc _).mono ?_; rintro e w' ⟨_, _, rfl, rfl, rfl, rfl⟩) | (go_at_call 11; refine (sub_any (U_addLo _ _ _) hb hc _).mono ?_; rintro e w' ⟨_, _, rfl, rfl, rfl, rfl⟩))
      go_ret
      exact ⟨rfl, Grown.refl _⟩
    · have e' : (addLo a0 a1 a2 == a0) = false := by simp [e]
      clear e g2
      go_enter Try.func4, Try.ntmps4
      go_wp2_with (first | (go_at_call 10; refine (add_any ha hb hc _).mono ?_; rintro e w' ⟨_, _, rfl, rfl, rfl, rfl⟩) | (go_at_call 11; refine (sub_any (U_addLo _ _ _) hb hc _).mono ?_; rintro e w' ⟨_, _, rfl, rfl, rfl, rfl⟩))
      go_ret
      exact ⟨rfl, Grown.refl _⟩
  · have g := f1 hk
    clear f0 f1
    have k1 : ¬ 1 < addHi a0 a1 a2 := by omega
    have k2 : (addHi a0 a1 a2 == 1) = true := by simp [hk]
    clear hk
    by_cases l : addLo a0 a1 a2 < a0
    · clear g
      go_enter Try.func4, Try.ntmps4
      go_wp2_with (first | (go_at_call 10; refine (add_any ha hb hc _).mono ?_; rintro e w' ⟨_, _, rfl, rfl, rfl, rfl⟩) | (go_at_call 11; refine (sub_any (U_addLo _ _ _) hb hc _).mono ?_; rintro e w' ⟨_, _, rfl, rfl, rfl, rfl⟩))
      go_ret
      exact ⟨rfl, Grown.refl _⟩
    · obtain ⟨e, g⟩ := g.resolve_left l
      have e' : (addLo a0 a1 a2 == a0) = true := by simp [e]
      clear e
      by_cases z : 0 < a1
      · clear g
        go_enter Try.func4, Try.ntmps4
        go_wp2_with (first | (go_at_call 10; refine (add_any ha hb hc _).mono ?_; rintro e w' ⟨_, _, rfl, rfl, rfl, rfl⟩) | (go_at_call 11; refine (sub_any (U_addLo _ _ _) hb hc _).mono ?_; rintro e w' ⟨_, _, rfl, rfl, rfl, rfl⟩))
        go_ret
        exact ⟨rfl, Grown.refl _⟩
      · have g' := g.resolve_left z
        have g4' : (bits .and .u64 a2 1 == 1) = true := by simp [g']
        clear g g'
        go_enter Try.func4, Try.ntmps4
        go_wp2_with (first | (go_at_call 10; refine (add_any ha hb hc _).mono ?_; rintro e w' ⟨_, _, rfl, rfl, rfl, rfl⟩) | (go_at_call 11; refine (sub_any (U_addLo _ _ _) hb hc _).mono ?_; rintro e w' ⟨_, _, rfl, rfl, rfl, rfl⟩))
        go_ret
        exact ⟨rfl, Grown.refl _⟩

/-! ### THE ROW's STEP: WRITTEN OUT: LEAVE IT -/
set_option maxRecDepth 100000 in
theorem lifted (os : Os) (started : os.Started) (H : Type) (enc : TypeId × Value → H) :
    ReturnsInHanded {} Try.checked os 4 .any (Rows.wideBackSpec.pre6 enc Try.prog Try.f4 Rows.wideBackRow.domain false) (Rows.wideBackSpec.post enc Try.prog Try.f4 false true false false) := by
  refine returnsInHanded_of_change (C := Try.checked) own started (by kernel_rfl) Try.func4
    (ChangeSpec.witness6 (enc := enc) (C := Try.checked) false ⟨#[], #[.int .u64 0, .int .u64 0, .int .u64 0], []⟩ 8 (by kernel_rfl) (by kernel_rfl) (by kernel_rfl) (by kernel_rfl)) ?_
  intro W base args ds gs before hval0 hW hcnd _
  have hval : ∀ (j : Nat) t v, Try.f4.params[j]? = some t → args[j]? = some v → Value.okWide Try.prog W .any base t v := hval0
  have hW' := hW
  obtain ⟨p, q, hA0, hV, rfl, hfz, hnd⟩ := hW
  have hA : DataW.TrodAll enc Try.prog W 0 (fun _ => true) true Try.f4.params.toList args.toList ds p := hA0
  rw [Try.params4] at hA hval
  obtain ⟨v0, vs0, d0, ds0, p0, q0, hargs, rfl, rfl, h0, r0⟩ := trodAll_cons hA
  obtain ⟨v1, vs1, d1, ds1, p1, q1, rfl, rfl, rfl, h1, r1⟩ := trodAll_cons r0
  obtain ⟨v2, vs2, d2, ds2, p2, q2, rfl, rfl, rfl, h2, r2⟩ := trodAll_cons r1
  obtain ⟨rfl, rfl, rfl⟩ := trodAll_nil r2
  obtain rfl : args = #[v0, v1, v2] := by cases args; simp_all
  obtain ⟨rfl, rfl⟩ := trodVars_none hV
  obtain ⟨a0, rfl, rfl, rfl, w0⟩ := open_int Try.underlying22 (hval 0 22 v0 rfl rfl) h0
  obtain ⟨a1, rfl, rfl, rfl, w1⟩ := open_int Try.underlying22 (hval 1 22 v1 rfl rfl) h1
  obtain ⟨a2, rfl, rfl, rfl, w2⟩ := open_int Try.underlying22 (hval 2 22 v2 rfl rfl) h2
  clear hA0 hval0
  simp only [List.append_nil] at hW'
  refine (walk a0 a1 a2 w0 w1 w2 W).mono fun e W' ⟨he, hg⟩ => ?_
  subst he
  exact ⟨_, rfl, post_of_same (pa := []) (pv := []) hW' (fun _ _ _ => (trodAll_cons_mk (shut_bool Try.underlying4 _) trodAll_mk0)) (fun sp _ => (trodAll_cons_mk (shut_int Try.underlying22 w0) (trodAll_cons_mk (shut_int Try.underlying22 w1) (trodAll_cons_mk (shut_int Try.underlying22 w2) trodAll_mk0)))) (fun _ _ => rfl) rfl
    (hg.frame _) hg.2.1 (ok_one (by kernel_rfl) rfl (okWide_bool_mk Try.underlying4 _))⟩

theorem over : Rows.wideBackRow.holds Try.pinned (OpenSpec.ofChange Rows.wideBackSpec) :=
  OpenClaim.holds_of_wide 4 Try.f4 rfl rfl rfl rfl rfl rfl rfl ⟨rfl, rfl, rfl, rfl, rfl⟩ rfl rfl rfl rfl rfl (by kernel_rfl) Try.func4 (by kernel_rfl)
    (of_decide_eq_true (by kernel_rfl)) (by unfold Func.isWrapper; first | (rw [if_pos (by decide +kernel)]; kernel_rfl) | (rw [if_neg (by decide +kernel)]; exact ⟨rfl, rfl⟩))
    (fun os started H enc _ => lifted os started H enc)

/-- ████ THE STATEMENT ████ -/
theorem proved : Rows.WideBackSaid :=
  over
#print axioms proved
end Go.Proofs.Ytdlfffecijimlaa.wideBack
