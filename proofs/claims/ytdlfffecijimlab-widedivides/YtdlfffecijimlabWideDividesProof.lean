/-
  THE SHELL OF A PROOF OF 'Rows.WideDividesSaid' ('plumb/plumblaw01.WideDivides'), WRITTEN BY PROGRAM (proof-skeleton.mjs) off the guide's own print for that function. Not trusted: Lean checks it.
  YOURS ARE THE HOLES MARKED 'HOLE' (filled). ALL ELSE IS THE GUIDE's TEMPLATE (howto/template/XProofs.lean) at this function's number and types: leave it.
-/
import Derived.Test.YtdlfffecijimlabRows
import Derived.WalkKit
import Derived.ProofKit
import Derived.OpenShut
import Derived.ShutString
import Derived.WalkLawsBesides
import Derived.WalkSpells
import Derived.Test.YtdlfffecijimlabBits
import Derived.Test.YtdlfffecijimlabShift
import Derived.Test.YtdlfffecijimlabWide
import Derived.Test.YtdlfffecijimlabLens
import Derived.Test.YtdlfffecijimlabShifts
import Derived.Test.YtdlfffecijimlabDivArith
import Derived.Test.YtdlfffecijimlabDiv
namespace Go.Proofs.Ytdlfffecijimlab.wideDivides
open Go.ChangeShapes Go.WideShapes Go.ChangeAt Go.RowKit
open Go.ChangeMaps (open_string shut_string)
open Ar
set_option linter.unusedVariables false      -- a walk need not use every 'w<i>' (that an integer argument fits its kind)

theorem own : ownKnob Try.prog.godebug = none := by kernel_rfl

theorem num_any (e : Int) (w : World) : Calls Try.prog 10 #[.int .i64 e] w fun r w' => r = .returned (.int .i64 e) ∧ w = w' := by
  go_enter Try.func10, Try.ntmps10
  go_wp2
  go_ret
  exact ⟨rfl, rfl⟩
/-- the number that is made of quotient, divisor and rest -/
theorem made {q b r : Int} (hq : U q) (hb : U b) (h0 : 0 < b) (hr : 0 ≤ r) (hrb : r < b) :
    addHi (mulHi q b) 0 (addHi (mulLo q b) r 0) = 0 ∧
    addLo (mulHi q b) 0 (addHi (mulLo q b) r 0) < b ∧
    addLo (mulHi q b) 0 (addHi (mulLo q b) r 0) * 18446744073709551616 + addLo (mulLo q b) r 0 = q * b + r := by
  have h := word_mul hq hb
  have h1 : q * b ≤ 18446744073709551615 * b := Int.mul_le_mul_of_nonneg_right (by unfold U at hq; omega) (by omega)
  unfold U at *
  unfold addHi addLo mulHi mulLo
  generalize q * b = x at *
  have c1 : (x % 18446744073709551616 + r + 0 % 2) / 18446744073709551616 % 2 = (x % 18446744073709551616 + r) / 18446744073709551616 := by omega
  rw [c1]
  have e1 : x / 18446744073709551616 + 0 + (x % 18446744073709551616 + r) / 18446744073709551616 = (x + r) / 18446744073709551616 := by omega
  rw [e1]
  have lt : (x + r) / 18446744073709551616 < b := Int.ediv_lt_of_lt_mul (by omega) (by omega)
  have ge : 0 ≤ (x + r) / 18446744073709551616 := by omega
  clear c1 e1 h1 h
  omega
/-! ### STEP 1: THE WALK: the Go text returns true. 'Grown w w'': the world has at most new blocks (Derived/RowKit3.lean). Part the cases AHEAD of 'go_enter' where a test parts the walk; take each callee by a contract of your own. -/
theorem walk (a0 : Int) (a1 : Int) (a2 : Int) (w0 : (Lit.int .u64 a0).wf = true) (w1 : (Lit.int .u64 a1).wf = true) (w2 : (Lit.int .u64 a2).wf = true) (w : World) :
    Calls Try.prog 4 #[.int .u64 a0, .int .u64 a1, .int .u64 a2] w fun e w' => e = .returned (.bool true) ∧ Grown w w' := by
  have ha := U_of w0
  have hb := U_of w1
  have hc := U_of w2
  clear w0 w1 w2
  by_cases h0 : a1 = 0
  · subst h0
    go_enter Try.func4, Try.ntmps4
    go_wp2_with (first | (go_at_call 8; refine (div_zero_any rfl _).mono ?_; rintro e w' ⟨rfl, hg⟩) | (go_at_call 10; refine (num_any _ _).mono ?_; rintro e w' ⟨rfl, rfl⟩))
    go_ret
    exact ⟨rfl, hg.1⟩
  · have t0 : (a1 == 0) = false := beq_no h0
    have p1 : 0 < a1 := by unfold U at hb; omega
    have c0 := hc.1
    have r0 : 0 ≤ a2 % a1 := Int.emod_nonneg _ h0
    have r1 : a2 % a1 < a1 := Int.emod_lt_of_pos _ p1
    obtain ⟨m1, m2, m3⟩ := made ha hb p1 r0 r1
    have ur : U (a2 % a1) := by unfold U at *; omega
    have z0 := U_zero
    have uH := U_addLo (mulHi a0 a1) 0 (addHi (mulLo a0 a1) (a2 % a1) 0)
    have uL := U_addLo (mulLo a0 a1) (a2 % a1) 0
    obtain ⟨d1, d2⟩ := div_of p1 m3 r0 r1
    have D1 := bne_of (show divQ (addLo (mulHi a0 a1) 0 (addHi (mulLo a0 a1) (a2 % a1) 0)) (addLo (mulLo a0 a1) (a2 % a1) 0) a1 = a0 from d1)
    have D2 := bne_of (show divR (addLo (mulHi a0 a1) 0 (addHi (mulLo a0 a1) (a2 % a1) 0)) (addLo (mulLo a0 a1) (a2 % a1) 0) a1 = a2 % a1 from d2)
    have ew : IntKind.u64.wrap (a1 - 1) = a1 - 1 := by rw [wrapU]; unfold U at hb; omega
    have ub1 : U (a1 - 1) := by unfold U at *; omega
    have lb1 : a1 - 1 < a1 := by omega
    clear d1 d2 m3
    go_enter Try.func4, Try.ntmps4
    go_wp2_with fail
    refine (mul_any ha hb _).mono ?_
    rintro e w' ⟨_, _, rfl, hg1, rfl, rfl⟩
    go_wp2_with fail
    refine (add_any (U_mulLo _ _) ur z0 _).mono ?_
    rintro e w' ⟨_, _, rfl, rfl, rfl, rfl⟩
    go_wp2_with fail
    refine (add_any (U_mulHi ha hb) z0 (U_addHi (U_mulLo _ _) ur) _).mono ?_
    rintro e w' ⟨_, _, rfl, rfl, rfl, rfl⟩
    go_wp2_with fail
    refine (div_any uH uL hb h0 m2 _).mono ?_
    rintro e w' ⟨rfl, hg2⟩
    go_wp2_with (go_at_call 10; refine (num_any _ _).mono ?_; rintro e w' ⟨rfl, rfl⟩)
    refine (div_great_any h0 (Int.le_refl _) _).mono ?_
    rintro e w' ⟨rfl, hg3⟩
    go_wp2_with (go_at_call 10; refine (num_any _ _).mono ?_; rintro e w' ⟨rfl, rfl⟩)
    refine (div_any ub1 ha hb h0 lb1 _).mono ?_
    rintro e w' ⟨rfl, hg4⟩
    go_wp2_with (go_at_call 10; refine (num_any _ _).mono ?_; rintro e w' ⟨rfl, rfl⟩)
    go_ret
    exact ⟨rfl, (gr_trans (gr_trans (gr_trans hg1 hg2) hg3) hg4).1⟩

/-! ### THE ROW's STEP: WRITTEN OUT: LEAVE IT -/
set_option maxRecDepth 100000 in
theorem lifted (os : Os) (started : os.Started) (H : Type) (enc : TypeId × Value → H) :
    ReturnsInHanded {} Try.checked os 4 .any (Rows.wideDividesSpec.pre6 enc Try.prog Try.f4 Rows.wideDividesRow.domain false) (Rows.wideDividesSpec.post enc Try.prog Try.f4 false true false false) := by
  refine returnsInHanded_of_change (C := Try.checked) own started (by kernel_rfl) Try.func4
    (ChangeSpec.witness6 (enc := enc) (C := Try.checked) false ⟨#[], #[.int .u64 0, .int .u64 0, .int .u64 0], []⟩ 8 (by kernel_rfl) (by kernel_rfl) (by kernel_rfl) (by kernel_rfl)) ?_
  intro W base args ds gs before hval0 hW hcnd _
  have hval : ∀ (j : Nat) t v, Try.f4.params[j]? = some t → args[j]? = some v → Value.okWide Try.prog W .any base t v := hval0
  have hW' := hW
  obtain ⟨p, q, hA0, hV, rfl, hfz, hnd⟩ := hW
  have hA : DataW.TrodAll enc Try.prog W 0 (fun _ => true) true Try.f4.params.toList args.toList ds p := hA0
  rw [Try.params4] at hA hval
  obtain ⟨v0, vs0, d0, ds0, p0, q0, hargs, rfl, rfl, h0, r0⟩ := trodAll_cons hA
  obtain ⟨v1, vs1, d1, ds1, p1, q1, rfl, rfl, rfl, h1, r1⟩ := trodAll_cons r0
  obtain ⟨v2, vs2, d2, ds2, p2, q2, rfl, rfl, rfl, h2, r2⟩ := trodAll_cons r1
  obtain ⟨rfl, rfl, rfl⟩ := trodAll_nil r2
  obtain rfl : args = #[v0, v1, v2] := by cases args; simp_all
  obtain ⟨rfl, rfl⟩ := trodVars_none hV
  obtain ⟨a0, rfl, rfl, rfl, w0⟩ := open_int Try.underlying22 (hval 0 22 v0 rfl rfl) h0
  obtain ⟨a1, rfl, rfl, rfl, w1⟩ := open_int Try.underlying22 (hval 1 22 v1 rfl rfl) h1
  obtain ⟨a2, rfl, rfl, rfl, w2⟩ := open_int Try.underlying22 (hval 2 22 v2 rfl rfl) h2
  clear hA0 hval0
  simp only [List.append_nil] at hW'
  refine (walk a0 a1 a2 w0 w1 w2 W).mono fun e W' ⟨he, hg⟩ => ?_
  subst he
  exact ⟨_, rfl, post_of_same (pa := []) (pv := []) hW' (fun _ _ _ => (trodAll_cons_mk (shut_bool Try.underlying4 _) trodAll_mk0)) (fun sp _ => (trodAll_cons_mk (shut_int Try.underlying22 w0) (trodAll_cons_mk (shut_int Try.underlying22 w1) (trodAll_cons_mk (shut_int Try.underlying22 w2) trodAll_mk0)))) (fun _ _ => rfl) rfl
    (hg.frame _) hg.2.1 (ok_one (by kernel_rfl) rfl (okWide_bool_mk Try.underlying4 _))⟩

theorem over : Rows.wideDividesRow.holds Try.pinned (OpenSpec.ofChange Rows.wideDividesSpec) :=
  OpenClaim.holds_of_wide 4 Try.f4 rfl rfl rfl rfl rfl rfl rfl ⟨rfl, rfl, rfl, rfl, rfl⟩ rfl rfl rfl rfl rfl (by kernel_rfl) Try.func4 (by kernel_rfl)
    (of_decide_eq_true (by kernel_rfl)) (by unfold Func.isWrapper; first | (rw [if_pos (by decide +kernel)]; kernel_rfl) | (rw [if_neg (by decide +kernel)]; exact ⟨rfl, rfl⟩))
    (fun os started H enc _ => lifted os started H enc)

/-- ████ THE STATEMENT ████ -/
theorem proved : Rows.WideDividesSaid :=
  over
#print axioms proved
end Go.Proofs.Ytdlfffecijimlab.wideDivides
