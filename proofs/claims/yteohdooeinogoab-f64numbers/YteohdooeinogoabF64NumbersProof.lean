/-
  THE SHELL OF A PROOF OF 'Rows.F64NumbersSaid' ('plumb/plumblaw06.F64Numbers'), WRITTEN BY PROGRAM (proof-skeleton.mjs) off the guide's own print for that function. Not trusted: Lean checks it.
  YOURS ARE THE HOLES MARKED 'HOLE' (filled). ALL ELSE IS THE GUIDE's TEMPLATE (howto/template/XProofs.lean) at this function's number and types: leave it.
-/
import Derived.Test.YteohdooeinogoabRows
import Derived.WalkKit
import Derived.ProofKit
import Derived.OpenShut
import Derived.ShutString
import Derived.WalkLawsBesides
import Derived.WalkSpells
import Derived.Deep.RegionWith
import Derived.Deep.DeepCutAuto
import Derived.Deep.DeepFit
import Derived.Test.YteohdooeinogoabF64N
namespace Go.Proofs.Yteohdooeinogoab.f64Numbers
open Go.ChangeShapes Go.WideShapes Go.ChangeAt Go.RowKit
open Go.ChangeMaps (open_string shut_string)
set_option linter.unusedVariables false      -- a walk need not use every 'w<i>' (that an integer argument fits its kind)

theorem own : ownKnob Try.prog.godebug = none := by kernel_rfl

open Na Ar
/-- what the law asks for -/
def wantN (s t zm zn : Bool) (K : Int) : Int :=
  if (s && !zm) = (t && !zn) then (if (s && !zm) = true then -K else K) else (if (s && !zm) = true then -1 else 1)
set_option maxHeartbeats 1000000 in
theorem numbers_go {a b m n x y c K A B : Int} {s t zm zn : Bool}
    (hS : ∀ w, Calls Try.prog 16 #[.int .u64 a] w fun e w' => e = .returned (.tuple #[.bool s, .int .u64 m, .int .i64 x, .int .i64 0]) ∧ w = w')
    (hT : ∀ w, Calls Try.prog 16 #[.int .u64 b] w fun e w' => e = .returned (.tuple #[.bool t, .int .u64 n, .int .i64 y, .int .i64 0]) ∧ w = w')
    (hC : ∀ w, Calls Try.prog 13 #[.int .u64 a, .int .u64 b] w fun e w' => e = .returned (.tuple #[.int .i64 c, .int .i64 0]) ∧ w = w')
    (h1 : ∀ w : World, Calls Try.prog 25 #[.int .u64 m, .int .i64 x] w fun e w' => ∃ a n c l, e = .returned (.slice a n c) ∧ RowC w' a n c l ∧ Nm l A ∧ Below w.heap.size w w')
    (h2 : ∀ w : World, Calls Try.prog 25 #[.int .u64 n, .int .i64 y] w fun e w' => ∃ a n c l, e = .returned (.slice a n c) ∧ RowC w' a n c l ∧ Nm l B ∧ Below w.heap.size w w')
    (hm : (m == 0) = zm) (hn : (n == 0) = zn) (hK : ordN A B = K) (k1 : -1 ≤ K) (k2 : K ≤ 1) (hc : Hid (c = wantN s t zm zn K)) (w : World) :
    Calls Try.prog 7 #[.int .u64 a, .int .u64 b] w fun e w' => e = .returned (.bool true) ∧ Below w.heap.size w w' := by
  cases s <;> cases t <;> cases zm <;> cases zn
  all_goals
    simp [wantN] at hc
    have hc' := hc.out
    clear hc
    subst hc'
    go_enter Try.func7, Try.ntmps7
    go_wp2_with fail
    refine (hS _).mono ?_
    rintro e w' ⟨rfl, rfl⟩
    go_wp2_with fail
    refine (hT _).mono ?_
    rintro e w' ⟨rfl, rfl⟩
    go_wp2_with fail
    refine (hC _).mono ?_
    rintro e w' ⟨rfl, rfl⟩
    go_wp2_with fail
    refine (f6alive_any _).mono ?_
    rintro e w1 ⟨rfl, hg1⟩
    go_wp2_with fail
    refine (h1 _).mono ?_
    rintro e w2 ⟨p1, p2, p3, p4, rfl, r1, n1, hb2⟩
    go_wp2_with fail
    refine (h2 _).mono ?_
    rintro e w3 ⟨q1, q2, q3, q4, rfl, r2, n2, hb3⟩
    have r1' := r1.later hb3
    clear r1
    go_wp2_with fail
    refine (cmpK r1' r2 n1 n2 hK).mono ?_
    rintro e w4 ⟨rfl, hb4⟩
    have hB := ((hg1.2.trans (hb2.mono hg1.2.size)).trans (hb3.mono (Nat.le_trans hg1.2.size hb2.size))).trans (hb4.mono (Nat.le_trans (Nat.le_trans hg1.2.size hb2.size) hb3.size))
    clear r1' r2 n1 n2 hb2 hb3 hb4 hg1
    go_wp2_with fail
    go_ret
    exact ⟨by simp, hB⟩
theorem want_of {a b : Int} (ha : U a) (hb : U b) (fa : ef a ≠ 2047) (fb : ef b ≠ 2047) : cmW a b = wantN (spS a) (spS b) (spM a == 0) (spM b == 0) (ord (mg a) (mg b)) := by
  have e1 : spS a = decide (9223372036854775808 ≤ a) := by unfold spS; rw [if_neg fa]
  have e2 : spS b = decide (9223372036854775808 ≤ b) := by unfold spS; rw [if_neg fb]
  have z1 := num_zero ha fa
  have z2 := num_zero hb fb
  have g1 := mg_bd a
  have g2 := mg_bd b
  have q1 : (spM a == 0) = decide (mg a = 0) := by rw [Bool.eq_iff_iff]; simpa using z1
  have q2 : (spM b == 0) = decide (mg b = 0) := by rw [Bool.eq_iff_iff]; simpa using z2
  unfold cmW
  rw [if_neg fa, if_neg fb, e1, e2, q1, q2]
  unfold wantN
  have o1 := ord_cases (mg a) (mg b)
  have o2 := ord_cases (rk0 a) (rk0 b)
  rcases rk0_mg ha with ⟨h, r, _⟩ | ⟨h, r, _⟩ <;> rcases rk0_mg hb with ⟨h', r', _⟩ | ⟨h', r', _⟩
  · have d1 : decide (9223372036854775808 ≤ a) = false := by simpa using h
    have d2 : decide (9223372036854775808 ≤ b) = false := by simpa using h'
    rw [d1, d2]; simp; omega
  · have d1 : decide (9223372036854775808 ≤ a) = false := by simpa using h
    have d2 : decide (9223372036854775808 ≤ b) = true := by simpa using h'
    rw [d1, d2]
    by_cases z : mg b = 0
    · rw [z] at o1 ⊢
      simp; omega
    · simp [z]; omega
  · have d1 : decide (9223372036854775808 ≤ a) = true := by simpa using h
    have d2 : decide (9223372036854775808 ≤ b) = false := by simpa using h'
    rw [d1, d2]
    by_cases z : mg a = 0
    · rw [z] at o1 ⊢
      simp; omega
    · simp [z]; omega
  · have d1 : decide (9223372036854775808 ≤ a) = true := by simpa using h
    have d2 : decide (9223372036854775808 ≤ b) = true := by simpa using h'
    rw [d1, d2]
    by_cases z : mg a = 0 <;> by_cases z' : mg b = 0
    · rw [z, z'] at o1 ⊢
      simp; omega
    · simp [z, z']; omega
    · simp [z, z']; omega
    · simp [z, z']; omega
/-! ### STEP 1: THE WALK: the Go text returns true. 'Grown w w'': the world has at most new blocks (Derived/RowKit3.lean). Part the cases AHEAD of 'go_enter' where a test parts the walk; take each callee by a contract of your own. -/
theorem walk (a0 : Int) (a1 : Int) (w0 : (Lit.int .u64 a0).wf = true) (w1 : (Lit.int .u64 a1).wf = true) (w : World) :
    Calls Try.prog 7 #[.int .u64 a0, .int .u64 a1] w fun e w' => e = .returned (.bool true) ∧ Below w.heap.size w w' := by
  have ha := U_of w0
  have hb := U_of w1
  clear w0 w1
  have hS := fun w => f6Split_any ha w
  have hT := fun w => f6Split_any hb w
  have hC := fun w => f6Cmp_any ha hb w
  by_cases fa : ef a0 = 2047
  · have k1 : fiE a0 = 60 := by unfold fiE; rw [if_pos fa]
    have k2 : cmE a0 a1 = 60 := by unfold cmE; rw [if_pos fa]
    have k3 : cmW a0 a1 = 0 := by unfold cmW; rw [if_pos fa]
    rw [k1] at hS
    rw [k2, k3] at hC
    clear k1 k2 k3 fa
    have q : (fiE a1 != 0) = true ∨ (fiE a1 != 0) = false := by cases (fiE a1 != 0) <;> simp
    rcases q with q | q
    all_goals
      go_enter Try.func7, Try.ntmps7
      go_wp2_with fail
      refine (hS _).mono ?_
      rintro e w' ⟨rfl, rfl⟩
      go_wp2_with fail
      refine (hT _).mono ?_
      rintro e w' ⟨rfl, rfl⟩
      go_wp2_with fail
      refine (hC _).mono ?_
      rintro e w' ⟨rfl, rfl⟩
      go_wp2_with fail
      refine (f6alive_any _).mono ?_
      rintro e w1 ⟨rfl, hg1⟩
      go_wp2_with fail
      go_ret
      exact ⟨rfl, hg1.2⟩
  · by_cases fb : ef a1 = 2047
    · have k1 : fiE a0 = 0 := by unfold fiE; rw [if_neg fa]
      have k4 : fiE a1 = 60 := by unfold fiE; rw [if_pos fb]
      have k2 : cmE a0 a1 = 60 := by unfold cmE; rw [if_neg fa, if_pos fb]
      have k3 : cmW a0 a1 = 0 := by unfold cmW; rw [if_neg fa, if_pos fb]
      rw [k1] at hS
      rw [k4] at hT
      rw [k2, k3] at hC
      clear k1 k2 k3 k4 fa fb
      go_enter Try.func7, Try.ntmps7
      go_wp2_with fail
      refine (hS _).mono ?_
      rintro e w' ⟨rfl, rfl⟩
      go_wp2_with fail
      refine (hT _).mono ?_
      rintro e w' ⟨rfl, rfl⟩
      go_wp2_with fail
      refine (hC _).mono ?_
      rintro e w' ⟨rfl, rfl⟩
      go_wp2_with fail
      refine (f6alive_any _).mono ?_
      rintro e w1 ⟨rfl, hg1⟩
      go_wp2_with fail
      go_ret
      exact ⟨rfl, hg1.2⟩
    · have k1 : fiE a0 = 0 := by unfold fiE; rw [if_neg fa]
      have k4 : fiE a1 = 0 := by unfold fiE; rw [if_neg fb]
      have k2 : cmE a0 a1 = 0 := by unfold cmE; rw [if_neg fa, if_neg fb]
      rw [k1] at hS
      rw [k4] at hT
      rw [k2] at hC
      obtain ⟨p, e1, e2, _, _, _, _, e7⟩ := num_parts ha fa
      obtain ⟨q, f1, f2, _, _, _, _, f7⟩ := num_parts hb fb
      have hK := ordN_num ha hb fa fb
      rw [e7, f7] at hK
      have o := ord_cases (mg a0) (mg a1)
      exact numbers_go hS hT hC (fun w => f6sizeL_any (U_spM _) p e1 (by omega) w) (fun w => f6sizeL_any (U_spM _) q f1 (by omega) w) rfl rfl hK (by omega) (by omega) (want_of ha hb fa fb) w

/-! ### THE ROW's STEP: WRITTEN OUT: LEAVE IT -/
set_option maxRecDepth 100000 in
theorem lifted (os : Os) (started : os.Started) (H : Type) (enc : TypeId × Value → H) :
    ReturnsInHanded {} Try.checked os 7 .any (Rows.f64NumbersSpec.pre6 enc Try.prog Try.f7 Rows.f64NumbersRow.domain false) (Rows.f64NumbersSpec.post enc Try.prog Try.f7 false true false false) := by
  refine returnsInHanded_of_change (C := Try.checked) own started (by kernel_rfl) Try.func7
    (ChangeSpec.witness6 (enc := enc) (C := Try.checked) false ⟨#[], #[.int .u64 0, .int .u64 0], []⟩ 8 (by kernel_rfl) (by kernel_rfl) (by kernel_rfl) (by kernel_rfl)) ?_
  intro W base args ds gs before hval0 hW hcnd _
  have hval : ∀ (j : Nat) t v, Try.f7.params[j]? = some t → args[j]? = some v → Value.okWide Try.prog W .any base t v := hval0
  have hW' := hW
  obtain ⟨p, q, hA0, hV, rfl, hfz, hnd⟩ := hW
  have hA : DataW.TrodAll enc Try.prog W 0 (fun _ => true) true Try.f7.params.toList args.toList ds p := hA0
  rw [Try.params7] at hA hval
  obtain ⟨v0, vs0, d0, ds0, p0, q0, hargs, rfl, rfl, h0, r0⟩ := trodAll_cons hA
  obtain ⟨v1, vs1, d1, ds1, p1, q1, rfl, rfl, rfl, h1, r1⟩ := trodAll_cons r0
  obtain ⟨rfl, rfl, rfl⟩ := trodAll_nil r1
  obtain rfl : args = #[v0, v1] := by cases args; simp_all
  obtain ⟨rfl, rfl⟩ := trodVars_none hV
  obtain ⟨a0, rfl, rfl, rfl, w0⟩ := open_int Try.underlying22 (hval 0 22 v0 rfl rfl) h0
  obtain ⟨a1, rfl, rfl, rfl, w1⟩ := open_int Try.underlying22 (hval 1 22 v1 rfl rfl) h1
  clear hA0 hval0
  simp only [List.append_nil] at hW'
  refine (walk a0 a1 w0 w1 W).mono fun e W' ⟨he, hg⟩ => ?_
  subst he
  exact ⟨_, rfl, _, _, _, [], _, [], hW', trodAll_mk1 (shut_bool Try.underlying4 _), (trodAll_cons_mk (shut_int Try.underlying22 w0) (trodAll_cons_mk (shut_int Try.underlying22 w1) trodAll_mk0)), rfl, hg.frame _, fun h => by cases h⟩

theorem over : Rows.f64NumbersRow.holds Try.pinned (OpenSpec.ofChange Rows.f64NumbersSpec) :=
  OpenClaim.holds_of_wide 7 Try.f7 rfl rfl rfl rfl rfl rfl rfl ⟨rfl, rfl, rfl, rfl, rfl⟩ rfl rfl rfl rfl rfl (by kernel_rfl) Try.func7 (by kernel_rfl)
    (of_decide_eq_true (by kernel_rfl)) (by unfold Func.isWrapper; first | (rw [if_pos (by decide +kernel)]; kernel_rfl) | (rw [if_neg (by decide +kernel)]; exact ⟨rfl, rfl⟩))
    (fun os started H enc _ => lifted os started H enc)

/-- ████ THE STATEMENT ████ -/
theorem proved : Rows.F64NumbersSaid :=
  over
#print axioms proved
end Go.Proofs.Yteohdooeinogoab.f64Numbers
