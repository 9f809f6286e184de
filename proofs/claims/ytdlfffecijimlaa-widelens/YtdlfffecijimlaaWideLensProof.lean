/-
  THE SHELL OF A PROOF OF 'Rows.WideLensSaid' ('plumb/plumblaw01.WideLens'), WRITTEN BY PROGRAM (proof-skeleton.mjs) off the guide's own print for that function. Not trusted: Lean checks it.
  YOURS ARE THE HOLES MARKED 'HOLE' (filled). ALL ELSE IS THE GUIDE's TEMPLATE (howto/template/XProofs.lean) at this function's number and types: leave it.
-/
import Derived.Test.YtdlfffecijimlaaRows
import Derived.WalkKit
import Derived.ProofKit
import Derived.OpenShut
import Derived.ShutString
import Derived.WalkLawsBesides
import Derived.WalkSpells
import Derived.Test.YtdlfffecijimlaaBits
import Derived.Test.YtdlfffecijimlaaWide
import Derived.Test.YtdlfffecijimlaaLens
namespace Go.Proofs.Ytdlfffecijimlaa.wideLens
open Go.ChangeShapes Go.WideShapes Go.ChangeAt Go.RowKit
open Go.ChangeMaps (open_string shut_string)
open Ar
set_option linter.unusedVariables false      -- a walk need not use every 'w<i>' (that an integer argument fits its kind)

theorem own : ownKnob Try.prog.godebug = none := by kernel_rfl

theorem lens_facts {x : Int} (h : U x) (h0 : x ≠ 0) :
    lenW x ≠ 0 ∧ zerosW x < lenW x ∧ x / 2 ^ ((lenW x).toNat - 1) = 1 ∧ bits .and .u64 (x / 2 ^ (zerosW x).toNat) 1 = 1 ∧ IntKind.u64.wrap (x / 2 ^ (zerosW x).toNat * 2 ^ (zerosW x).toNat) = x := by
  obtain ⟨k, hk, e1, l1, l2⟩ := lenW_pos h h0
  obtain ⟨z, m, hz, e2, ex, _⟩ := zerosW_pos h h0
  rw [e1, e2]
  have pk := pow_pos k
  have pz := pow_pos z
  have ek : ((k : Int) + 1).toNat - 1 = k := by omega
  have ez : (z : Int).toNat = z := by omega
  rw [ek, ez]
  have d1 : x / 2 ^ k = 1 := by
    have es : (2 : Int) ^ (k + 1) = 2 ^ k * 2 := Int.pow_succ _ _
    refine Int.ediv_eq_iff_of_pos (by omega) |>.mpr ?_
    omega
  have d2 : x / 2 ^ z = 2 * m + 1 := by
    have es : (2 : Int) ^ (z + 1) = 2 ^ z * 2 := Int.pow_succ _ _
    have : x = (2 * m + 1) * 2 ^ z := by rw [ex, es]; grind
    rw [this]
    exact Int.mul_ediv_cancel _ (by omega)
  have d3 : (2 * (m : Int) + 1) * 2 ^ z = x := by
    have es : (2 : Int) ^ (z + 1) = 2 ^ z * 2 := Int.pow_succ _ _
    rw [ex, es]; grind
  have hzk : 2 ^ z ≤ x := by
    rw [← d3]
    have : 1 * (2 : Int) ^ z ≤ (2 * (m : Int) + 1) * 2 ^ z := Int.mul_le_mul_of_nonneg_right (by omega) (by omega)
    omega
  have hlt : z < k + 1 := by
    have c1 := pow_cast z
    have c2 := pow_cast (k + 1)
    have : 2 ^ z < 2 ^ (k + 1) := by omega
    exact (Nat.pow_lt_pow_iff_right (by omega)).mp this
  refine ⟨by omega, by omega, d1, ?_, ?_⟩
  · rw [d2, and_one]
    · omega
    · unfold U at *
      have : 2 * (m : Int) + 1 ≤ x := by
        rw [← d3]
        have : (2 * (m : Int) + 1) * 1 ≤ (2 * (m : Int) + 1) * 2 ^ z := Int.mul_le_mul_of_nonneg_left (by omega) (by omega)
        omega
      omega
  · rw [d2, d3, wrapU]; unfold U at h; omega
/-! ### STEP 1: THE WALK: the Go text returns true. 'Grown w w'': the world has at most new blocks (Derived/RowKit3.lean). Part the cases AHEAD of 'go_enter' where a test parts the walk; take each callee by a contract of your own. -/
theorem walk (a0 : Int) (w0 : (Lit.int .u64 a0).wf = true) (w : World) :
    Calls Try.prog 6 #[.int .u64 a0] w fun e w' => e = .returned (.bool true) ∧ Grown w w' := by
  have ha := U_of w0
  clear w0
  obtain ⟨n1, n2⟩ := lenW_bd ha
  obtain ⟨z1, z2⟩ := zerosW_bd ha
  by_cases h0 : a0 = 0
  · subst h0
    have e1 : (lenW 0 == 0) = true := rfl
    have e2 : (zerosW 0 == 64) = true := rfl
    go_enter Try.func6, Try.ntmps6
    go_wp2_with (first | (go_at_call 13; refine (len_any ha _).mono ?_; rintro e w' ⟨rfl, rfl⟩) | (go_at_call 14; refine (zeros_any ha _).mono ?_; rintro e w' ⟨_, rfl, rfl, rfl⟩))
    go_ret
    exact ⟨rfl, Grown.refl _⟩
  · obtain ⟨f1, f2, f3, f4, f5⟩ := lens_facts ha h0
    have h0' : (a0 == 0) = false := beq_no h0
    have n3 : (lenW a0 == 0) = false := beq_no f1
    have g3 := beq_of f3
    have g4 := beq_of f4
    have g5 := beq_of f5
    clear f1 f3 f4 f5 h0
    go_enter Try.func6, Try.ntmps6
    go_wp2_with (first | (go_at_call 13; refine (len_any ha _).mono ?_; rintro e w' ⟨rfl, rfl⟩) | (go_at_call 14; refine (zeros_any ha _).mono ?_; rintro e w' ⟨_, rfl, rfl, rfl⟩))
    go_ret
    exact ⟨rfl, Grown.refl _⟩

/-! ### THE ROW's STEP: WRITTEN OUT: LEAVE IT -/
set_option maxRecDepth 100000 in
theorem lifted (os : Os) (started : os.Started) (H : Type) (enc : TypeId × Value → H) :
    ReturnsInHanded {} Try.checked os 6 .any (Rows.wideLensSpec.pre6 enc Try.prog Try.f6 Rows.wideLensRow.domain false) (Rows.wideLensSpec.post enc Try.prog Try.f6 false true false false) := by
  refine returnsInHanded_of_change (C := Try.checked) own started (by kernel_rfl) Try.func6
    (ChangeSpec.witness6 (enc := enc) (C := Try.checked) false ⟨#[], #[.int .u64 0], []⟩ 8 (by kernel_rfl) (by kernel_rfl) (by kernel_rfl) (by kernel_rfl)) ?_
  intro W base args ds gs before hval0 hW hcnd _
  have hval : ∀ (j : Nat) t v, Try.f6.params[j]? = some t → args[j]? = some v → Value.okWide Try.prog W .any base t v := hval0
  have hW' := hW
  obtain ⟨p, q, hA0, hV, rfl, hfz, hnd⟩ := hW
  have hA : DataW.TrodAll enc Try.prog W 0 (fun _ => true) true Try.f6.params.toList args.toList ds p := hA0
  rw [Try.params6] at hA hval
  obtain ⟨v0, vs0, d0, ds0, p0, q0, hargs, rfl, rfl, h0, r0⟩ := trodAll_cons hA
  obtain ⟨rfl, rfl, rfl⟩ := trodAll_nil r0
  obtain rfl : args = #[v0] := by cases args; simp_all
  obtain ⟨rfl, rfl⟩ := trodVars_none hV
  obtain ⟨a0, rfl, rfl, rfl, w0⟩ := open_int Try.underlying22 (hval 0 22 v0 rfl rfl) h0
  clear hA0 hval0
  simp only [List.append_nil] at hW'
  refine (walk a0 w0 W).mono fun e W' ⟨he, hg⟩ => ?_
  subst he
  exact ⟨_, rfl, post_of_same (pa := []) (pv := []) hW' (fun _ _ _ => (trodAll_cons_mk (shut_bool Try.underlying4 _) trodAll_mk0)) (fun sp _ => (trodAll_cons_mk (shut_int Try.underlying22 w0) trodAll_mk0)) (fun _ _ => rfl) rfl
    (hg.frame _) hg.2.1 (ok_one (by kernel_rfl) rfl (okWide_bool_mk Try.underlying4 _))⟩

theorem over : Rows.wideLensRow.holds Try.pinned (OpenSpec.ofChange Rows.wideLensSpec) :=
  OpenClaim.holds_of_wide 6 Try.f6 rfl rfl rfl rfl rfl rfl rfl ⟨rfl, rfl, rfl, rfl, rfl⟩ rfl rfl rfl rfl rfl (by kernel_rfl) Try.func6 (by kernel_rfl)
    (of_decide_eq_true (by kernel_rfl)) (by unfold Func.isWrapper; first | (rw [if_pos (by decide +kernel)]; kernel_rfl) | (rw [if_neg (by decide +kernel)]; exact ⟨rfl, rfl⟩))
    (fun os started H enc _ => lifted os started H enc)

/-- ████ THE STATEMENT ████ -/
theorem proved : Rows.WideLensSaid :=
  over
#print axioms proved
end Go.Proofs.Ytdlfffecijimlaa.wideLens
