/-
  THE SHELL OF A PROOF OF 'Rows.WideRingSaid' ('plumb/plumblaw01.WideRing'), WRITTEN BY PROGRAM (proof-skeleton.mjs) off the guide's own print for that function. Not trusted: Lean checks it.
  YOURS ARE THE HOLES MARKED 'HOLE' (filled). ALL ELSE IS THE GUIDE's TEMPLATE (howto/template/XProofs.lean) at this function's number and types: leave it.
-/
import Derived.Test.YtdlfffecijimlaaRows
import Derived.WalkKit
import Derived.ProofKit
import Derived.OpenShut
import Derived.ShutString
import Derived.WalkLawsBesides
import Derived.WalkSpells
import Derived.Test.YtdlfffecijimlaaWide
namespace Go.Proofs.Ytdlfffecijimlaa.wideRing
open Go.ChangeShapes Go.WideShapes Go.ChangeAt Go.RowKit
open Go.ChangeMaps (open_string shut_string)
open Ar
set_option linter.unusedVariables false      -- a walk need not use every 'w<i>' (that an integer argument fits its kind)

theorem own : ownKnob Try.prog.godebug = none := by kernel_rfl

theorem ring_facts {a b c : Int} (ha : U a) (hb : U b) (hc : U c) :
    mulHi a b = mulHi b a ∧ mulLo a b = mulLo b a ∧ mulLo a b = IntKind.u64.wrap (a * b) ∧ mulHi a 1 = 0 ∧ mulLo a 1 = a ∧ mulHi a 0 = 0 ∧ mulLo a 0 = 0 ∧
    m3a (addHi b c 0) (addLo b c 0) a = addHi (mulHi a b) (mulHi a c) (addHi (mulLo a b) (mulLo a c) 0) ∧
    m3b (addHi b c 0) (addLo b c 0) a = addLo (mulHi a b) (mulHi a c) (addHi (mulLo a b) (mulLo a c) 0) ∧
    m3c (addHi b c 0) (addLo b c 0) a = addLo (mulLo a b) (mulLo a c) 0 := by
  have e1 : addHi b c 0 * 18446744073709551616 + addLo b c 0 = b + c := by unfold addHi addLo; omega
  have e2 : (b + c) * a = a * b + a * c := by grind
  have b1 := word_mul ha hb
  have b2 := word_mul ha hc
  refine ⟨by unfold mulHi; rw [Int.mul_comm], by unfold mulLo; rw [Int.mul_comm], by rw [wrapU]; rfl, ?_, ?_, by unfold mulHi; omega, by unfold mulLo; omega, ?_, ?_, ?_⟩
  · unfold U at ha; unfold mulHi; omega
  · unfold U at ha; unfold mulLo; omega
  · unfold m3a; rw [e1, e2]; unfold addHi mulHi mulLo; generalize a * b = p at *; generalize a * c = q at *; clear e1 e2; omega
  · unfold m3b; rw [e1, e2]; unfold addLo addHi mulHi mulLo; generalize a * b = p at *; generalize a * c = q at *; clear e1 e2; omega
  · unfold m3c; rw [e1, e2]; unfold addLo mulLo; generalize a * b = p at *; generalize a * c = q at *; clear e1 e2; omega
/-! ### STEP 1: THE WALK: the Go text returns true. 'Grown w w'': the world has at most new blocks (Derived/RowKit3.lean). Part the cases AHEAD of 'go_enter' where a test parts the walk; take each callee by a contract of your own. -/
theorem walk (a0 : Int) (a1 : Int) (a2 : Int) (w0 : (Lit.int .u64 a0).wf = true) (w1 : (Lit.int .u64 a1).wf = true) (w2 : (Lit.int .u64 a2).wf = true) (w : World) :
    Calls Try.prog 7 #[.int .u64 a0, .int .u64 a1, .int .u64 a2] w fun e w' => e = .returned (.bool true) ∧ Grown w w' := by
  have ha := U_of w0
  have hb := U_of w1
  have hc := U_of w2
  clear w0 w1 w2
  obtain ⟨f1, f2, f3, f4, f5, f6, f7, f8, f9, f10⟩ := ring_facts ha hb hc
  have g1 := bne_of f1
  have g2 := bne_of f2
  have g3 := bne_of f3
  have g4 := bne_of f4
  have g5 := bne_of f5
  have g6 := bne_of f6
  have g7 := bne_of f7
  have g8 := beq_of f8
  have g9 := beq_of f9
  have g10 := beq_of f10
  clear f1 f2 f3 f4 f5 f6 f7 f8 f9 f10
  have us := U_addLo a1 a2 0
  have uk := U_addHi (c := 0) hb hc
  have u1 := U_mulLo a0 a1
  have u2 := U_mulLo a0 a2
  have u3 := U_mulHi ha hb
  have u4 := U_mulHi ha hc
  have u5 := U_addHi (c := 0) u1 u2
  have u6 := U_zero
  have u7 := U_one
  go_enter Try.func7, Try.ntmps7
  go_wp2_with (first | (go_at_call 9; refine (mul_any (by assumption) (by assumption) _).mono ?_; rintro e w' ⟨_, _, rfl, hg, rfl, rfl⟩) | (go_at_call 10; refine (add_any (by assumption) (by assumption) (by assumption) _).mono ?_; rintro e w' ⟨_, _, rfl, rfl, rfl, rfl⟩) | (go_at_call 15; refine (mul3_any (by assumption) (by assumption) (by assumption) _).mono ?_; rintro e w' ⟨_, _, _, rfl, hg, rfl, rfl, rfl⟩))
  go_ret
  exact ⟨rfl, by repeat (first | assumption | exact Grown.refl _ | refine grown_trans (by assumption) ?_)⟩

/-! ### THE ROW's STEP: WRITTEN OUT: LEAVE IT -/
set_option maxRecDepth 100000 in
theorem lifted (os : Os) (started : os.Started) (H : Type) (enc : TypeId × Value → H) :
    ReturnsInHanded {} Try.checked os 7 .any (Rows.wideRingSpec.pre6 enc Try.prog Try.f7 Rows.wideRingRow.domain false) (Rows.wideRingSpec.post enc Try.prog Try.f7 false true false false) := by
  refine returnsInHanded_of_change (C := Try.checked) own started (by kernel_rfl) Try.func7
    (ChangeSpec.witness6 (enc := enc) (C := Try.checked) false ⟨#[], #[.int .u64 0, .int .u64 0, .int .u64 0], []⟩ 8 (by kernel_rfl) (by kernel_rfl) (by kernel_rfl) (by kernel_rfl)) ?_
  intro W base args ds gs before hval0 hW hcnd _
  have hval : ∀ (j : Nat) t v, Try.f7.params[j]? = some t → args[j]? = some v → Value.okWide Try.prog W .any base t v := hval0
  have hW' := hW
  obtain ⟨p, q, hA0, hV, rfl, hfz, hnd⟩ := hW
  have hA : DataW.TrodAll enc Try.prog W 0 (fun _ => true) true Try.f7.params.toList args.toList ds p := hA0
  rw [Try.params7] at hA hval
  obtain ⟨v0, vs0, d0, ds0, p0, q0, hargs, rfl, rfl, h0, r0⟩ := trodAll_cons hA
  obtain ⟨v1, vs1, d1, ds1, p1, q1, rfl, rfl, rfl, h1, r1⟩ := trodAll_cons r0
  obtain ⟨v2, vs2, d2, ds2, p2, q2, rfl, rfl, rfl, h2, r2⟩ := trodAll_cons r1
  obtain ⟨rfl, rfl, rfl⟩ := trodAll_nil r2
  obtain rfl : args = #[v0, v1, v2] := by cases args; simp_all
  obtain ⟨rfl, rfl⟩ := trodVars_none hV
  obtain ⟨a0, rfl, rfl, rfl, w0⟩ := open_int Try.underlying22 (hval 0 22 v0 rfl rfl) h0
  obtain ⟨a1, rfl, rfl, rfl, w1⟩ := open_int Try.underlying22 (hval 1 22 v1 rfl rfl) h1
  obtain ⟨a2, rfl, rfl, rfl, w2⟩ := open_int Try.underlying22 (hval 2 22 v2 rfl rfl) h2
  clear hA0 hval0
  simp only [List.append_nil] at hW'
  refine (walk a0 a1 a2 w0 w1 w2 W).mono fun e W' ⟨he, hg⟩ => ?_
  subst he
  exact ⟨_, rfl, post_of_same (pa := []) (pv := []) hW' (fun _ _ _ => (trodAll_cons_mk (shut_bool Try.underlying4 _) trodAll_mk0)) (fun sp _ => (trodAll_cons_mk (shut_int Try.underlying22 w0) (trodAll_cons_mk (shut_int Try.underlying22 w1) (trodAll_cons_mk (shut_int Try.underlying22 w2) trodAll_mk0)))) (fun _ _ => rfl) rfl
    (hg.frame _) hg.2.1 (ok_one (by kernel_rfl) rfl (okWide_bool_mk Try.underlying4 _))⟩

theorem over : Rows.wideRingRow.holds Try.pinned (OpenSpec.ofChange Rows.wideRingSpec) :=
  OpenClaim.holds_of_wide 7 Try.f7 rfl rfl rfl rfl rfl rfl rfl ⟨rfl, rfl, rfl, rfl, rfl⟩ rfl rfl rfl rfl rfl (by kernel_rfl) Try.func7 (by kernel_rfl)
    (of_decide_eq_true (by kernel_rfl)) (by unfold Func.isWrapper; first | (rw [if_pos (by decide +kernel)]; kernel_rfl) | (rw [if_neg (by decide +kernel)]; exact ⟨rfl, rfl⟩))
    (fun os started H enc _ => lifted os started H enc)

/-- ████ THE STATEMENT ████ -/
theorem proved : Rows.WideRingSaid :=
  over
#print axioms proved
end Go.Proofs.Ytdlfffecijimlaa.wideRing
