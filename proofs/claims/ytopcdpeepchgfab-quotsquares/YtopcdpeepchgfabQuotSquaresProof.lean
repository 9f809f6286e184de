/-
  THE SHELL OF A PROOF OF 'Rows.QuotSquaresSaid' ('plumb/plumblaw03.QuotSquares'), WRITTEN BY PROGRAM (proof-skeleton.mjs, third state) off the guide's own print for that function. Not trusted: Lean checks it.
  YOURS IS THE HOLE MARKED 'HOLE' (it bears 'sorry'). ALL ELSE IS THE GUIDE's OWN WAY (howto/template/XProofs.lean; Derived/Test/ChunkProofs.lean for 'Below') at this function's number and types: leave it.
-/
import Derived.Test.YtopcdpeepchgfabRows
import Derived.WalkKit
import Derived.ProofKit
import Derived.OpenShut
import Derived.ShutString
import Derived.WalkLawsBesides
import Derived.WalkSpells
import Derived.Deep.RegionWith
import Derived.Deep.DeepCutAuto
import Derived.Deep.DeepFit
import Derived.Test.YtopcdpeepchgfabQuotSq
import Derived.ChangeOld
import Derived.Below
namespace Go.Proofs.Ytopcdpeepchgfab.quotSquares
open Go.ChangeShapes Go.WideShapes Go.ChangeAt Go.RowKit
open Go.ChangeMaps (open_string shut_string)
set_option linter.unusedVariables false

theorem own : ownKnob Try.prog.godebug = none := by kernel_rfl
theorem laidOut : laidOutB Try.prog = true := by kernel_rfl

/-- WHAT THE WALK IS TOLD OF A SLICE OF INTEGERS THAT CAME IN: it is nil; or it leads to a row of 'cap' cells, the numbers 'zs' (the first 'len' are its elements, the rest its spare room), each fitting its kind. -/
def IsRow (k : IntKind) (w : World) (a : Option Addr) (len cap : Nat) (zs : List Int) : Prop :=
  (a = none ∧ len = 0 ∧ cap = 0 ∧ zs = []) ∨
  ∃ x, a = some x ∧ len ≤ cap ∧ cap ≤ maxLen ∧ zs.length = cap ∧ (∀ i, i < zs.length → w.cell? (x.add i) = some (.int k (zs.getD i 0))) ∧ ∀ n ∈ zs, (Lit.int k n).wf = true

open Na Ar
/-! ### STEP 1: THE WALK: the Go text returns true, AND WRITES NOTHING THAT WAS THERE: 'Below w.heap.size w w'' (Derived/Below.lean: '.refl', '.alloc', '.drew', '.setCell' at a new block, '.trans'). Open each 'IsRow' by 'rcases' AHEAD of 'go_enter'; part every test ahead of the walk. -/
set_option maxHeartbeats 6400000 in
set_option maxRecDepth 100000 in
theorem walk (a0 : Option Addr) (len0 cap0 : Nat) (z0 : List Int) (w : World) (w0 : IsRow .u64 w a0 len0 cap0 z0) :
    Calls Try.prog 3 #[.slice a0 len0 cap0] w fun e w' => e = .returned (.bool true) ∧ Below w.heap.size w w' := by
  have q0 := row_of w0
  obtain ⟨hr0, hx0, hm0⟩ := q0
  clear w0
  generalize z0.take len0 = x0 at *
  have B_0 := Below.refl w.heap.size w
  go_enter Try.func3, Try.ntmps3
  go_wp2_with fail
  refine (live_any _).mono ?_
  rintro e wt1 ⟨rfl, hbt1⟩
  have hr0_t1 := hr0.later hbt1
  clear hr0
  have hB_t1 := B_0.trans (hbt1.mono B_0.size)
  go_wp2_with fail
  refine (boundedQ hr0_t1 hx0 hm0 500 (by omega)).mono ?_
  rintro e wt2 ⟨caA, cnA, ccA, LA, rfl, rA, mA, tA, hlA, HTLA, hbt2⟩
  have hr0_t2 := hr0_t1.later hbt2
  clear hr0_t1
  have hB_t2 := hB_t1.trans (hbt2.mono hB_t1.size)
  clear hr0_t2
  obtain ⟨A, hA⟩ : ∃ A, A = num LA := ⟨_, rfl⟩
  rw [← hA] at mA tA
  have pA := mA.nonneg
  clear hA
  go_wp2_with fail
  refine (rootQ rA mA (by omega)).mono ?_
  rintro e wt3 ⟨sa, sn, sc, sl, S, rfl, rs, ms, es, hS, hbt3⟩
  have rA_t3 := rA.later hbt3
  clear rA
  have hB_t3 := hB_t2.trans (hbt3.mono hB_t2.size)
  have pS := hS.1
  have tS : Lt S 500 := tA.le pS (root_le hS pA)
  have tSS : Lt (S * S) 1000 := tS.mul tS
  have tSS0 : Lt (S * S + 0) 1000 := by rw [Int.add_zero]; exact tSS
  have rt4 := rowC_nil wt3
  go_wp2_with fail
  refine (timesQ rs rs rt4 ms ms Nm.nil tSS tSS0 (by omega)).mono ?_
  rintro e wt5 ⟨qa, qn, qc, ql, rfl, rq, mq, eq, hbt5⟩
  have rA_t5 := rA_t3.later hbt5
  clear rA_t3
  have rs_t5 := rs.later hbt5
  clear rs
  have rt4_t5 := rt4.later hbt5
  clear rt4
  have hB_t5 := hB_t3.trans (hbt5.mono hB_t3.size)
  clear rt4_t5
  go_wp2_with fail
  have alt6 := alloc_below (w := wt5) (.cells #[.int .u64 1] 31)
  have rt6 := rowC_one wt5 1 31
  have rA_t6 := rA_t5.later alt6
  clear rA_t5
  have rs_t6 := rs_t5.later alt6
  clear rs_t5
  have rq_t6 := rq.later alt6
  clear rq
  have hB_t6 := hB_t5.trans (alt6.mono hB_t5.size)
  have t1 : Lt (S + 1) 502 := (tS.add lt_one).mono (by omega)
  refine (addQ rs_t6 rt6 ms (Nm.one (x := 1) (by omega)) t1 (by omega)).mono ?_
  rintro e wt7 ⟨na, nn, nc, nl, rfl, rn, mn, en, hbt7⟩
  have rA_t7 := rA_t6.later hbt7
  clear rA_t6
  have rs_t7 := rs_t6.later hbt7
  clear rs_t6
  have rq_t7 := rq_t6.later hbt7
  clear rq_t6
  have rt6_t7 := rt6.later hbt7
  clear rt6
  have hB_t7 := hB_t6.trans (hbt7.mono hB_t6.size)
  clear rt6_t7
  have t2 : Lt ((S + 1) * (S + 1)) 1004 := t1.mul t1
  have t20 : Lt ((S + 1) * (S + 1) + 0) 1004 := by rw [Int.add_zero]; exact t2
  have rt8 := rowC_nil wt7
  go_wp2_with fail
  refine (timesQ rn rn rt8 mn mn Nm.nil t2 t20 (by omega)).mono ?_
  rintro e wt9 ⟨ba, bn, bc, bl, rfl, rb, mb, eb, hbt9⟩
  have rA_t9 := rA_t7.later hbt9
  clear rA_t7
  have rs_t9 := rs_t7.later hbt9
  clear rs_t7
  have rq_t9 := rq_t7.later hbt9
  clear rq_t7
  have rn_t9 := rn.later hbt9
  clear rn
  have rt8_t9 := rt8.later hbt9
  clear rt8
  have hB_t9 := hB_t7.trans (hbt9.mono hB_t7.size)
  clear rt8_t9
  clear rn_t9
  go_wp2_with fail
  refine (num3_any 0 _).mono ?_
  rintro e wt10 ⟨rfl, hbt10⟩
  have rA_t10 := rA_t9.later hbt10
  clear rA_t9
  have rs_t10 := rs_t9.later hbt10
  clear rs_t9
  have rq_t10 := rq_t9.later hbt10
  clear rq_t9
  have rb_t10 := rb.later hbt10
  clear rb
  have hB_t10 := hB_t9.trans (hbt10.mono hB_t9.size)
  go_wp2_with fail
  refine (normalQ rs_t10 ms es).mono ?_
  rintro e wt11 ⟨rfl, hbt11⟩
  have rA_t11 := rA_t10.later hbt11
  clear rA_t10
  have rs_t11 := rs_t10.later hbt11
  clear rs_t10
  have rq_t11 := rq_t10.later hbt11
  clear rq_t10
  have rb_t11 := rb_t10.later hbt11
  clear rb_t10
  have hB_t11 := hB_t10.trans (hbt11.mono hB_t10.size)
  obtain ⟨O, hO⟩ : ∃ O, ordN (S * S + 0) A = O := ⟨_, rfl⟩
  have HO : Hid (ordN (S * S + 0) A = O) := hO
  have hO1 : ¬ 0 < O := by rw [← hO]; have := (ordN_le (A := S * S + 0) (B := A)).mpr (by have := hS.2.1; omega); omega
  have hO2 : (O == 0) = decide (S * S = A) := by rw [← hO, ← ordN_zero, Int.add_zero]
  have hP : Hid (ordN ((S + 1) * (S + 1) + 0) A = 1) := ordN_gt (by have := hS.2.2; omega)
  clear hO
  go_wp2_with fail
  refine (cmpK rq_t11 rA_t11 mq mA HO.out).mono ?_
  rintro e wt12 ⟨rfl, hbt12⟩
  have rA_t12 := rA_t11.later hbt12
  clear rA_t11
  have rs_t12 := rs_t11.later hbt12
  clear rs_t11
  have rq_t12 := rq_t11.later hbt12
  clear rq_t11
  have rb_t12 := rb_t11.later hbt12
  clear rb_t11
  have hB_t12 := hB_t11.trans (hbt12.mono hB_t11.size)
  go_wp2_with fail
  refine (cmpK rb_t12 rA_t12 mb mA hP.out).mono ?_
  rintro e wt13 ⟨rfl, hbt13⟩
  have rA_t13 := rA_t12.later hbt13
  clear rA_t12
  have rs_t13 := rs_t12.later hbt13
  clear rs_t12
  have rq_t13 := rq_t12.later hbt13
  clear rq_t12
  have rb_t13 := rb_t12.later hbt13
  clear rb_t12
  have hB_t13 := hB_t12.trans (hbt13.mono hB_t12.size)
  clear rb_t13
  obtain ⟨J, hJ⟩ : ∃ J, decide (S * S = A) = J := ⟨_, rfl⟩
  have hjj : (J != J) = false := by simp
  rw [hJ] at hO2
  go_wp2_with fail
  refine (cmpK rq_t13 rA_t13 mq mA HO.out).mono ?_
  rintro e wt14 ⟨rfl, hbt14⟩
  have rA_t14 := rA_t13.later hbt14
  clear rA_t13
  have rs_t14 := rs_t13.later hbt14
  clear rs_t13
  have rq_t14 := rq_t13.later hbt14
  clear rq_t13
  have hB_t14 := hB_t13.trans (hbt14.mono hB_t13.size)
  clear rq_t14
  clear rs_t14
  have tAA : Lt (A * A) 1000 := tA.mul tA
  have tAA0 : Lt (A * A + 0) 1000 := by rw [Int.add_zero]; exact tAA
  have tAA1 : Lt (A * A + 1) 1002 := (tAA.add lt_one).mono (by omega)
  have rt15 := rowC_nil wt14
  go_wp2_with fail
  refine (timesQ rA_t14 rA_t14 rt15 mA mA Nm.nil tAA tAA0 (by omega)).mono ?_
  rintro e wt16 ⟨ga, gn, gc, gl, rfl, rg, mg, eg, hbt16⟩
  have rA_t16 := rA_t14.later hbt16
  clear rA_t14
  have rt15_t16 := rt15.later hbt16
  clear rt15
  have hB_t16 := hB_t14.trans (hbt16.mono hB_t14.size)
  clear rt15_t16
  have lg : gn ≤ 3700000 := by have h1 := rg.1.1; rw [eg.out] at h1; have h2 := tAA0.len; omega
  go_wp2_with fail
  refine (rootQ rg mg lg).mono ?_
  rintro e wt17 ⟨ta, tn, tc, tl, T, rfl, rt, mt, et, hT, hbt17⟩
  have rA_t17 := rA_t16.later hbt17
  clear rA_t16
  have rg_t17 := rg.later hbt17
  clear rg
  have hB_t17 := hB_t16.trans (hbt17.mono hB_t16.size)
  have hTA : T = A := hT.unique ⟨pA, by omega, by rw [Int.add_zero]; exact sq_next pA⟩
  rw [hTA] at mt et hT
  have hTd : decide (A * A = A * A + 0) = true := decide_eq_true (by omega)
  rw [hTA, hTd]
  clear hTA
  go_wp2_with fail
  have alt18 := alloc_below (w := wt17) (.cells #[.int .u64 1] 31)
  have rt18 := rowC_one wt17 1 31
  have rA_t18 := rA_t17.later alt18
  clear rA_t17
  have rg_t18 := rg_t17.later alt18
  clear rg_t17
  have rt_t18 := rt.later alt18
  clear rt
  have hB_t18 := hB_t17.trans (alt18.mono hB_t17.size)
  refine (timesQ rA_t18 rA_t18 rt18 mA mA (Nm.one (x := 1) (by omega)) (tAA.mono (by omega)) tAA1 (by omega)).mono ?_
  rintro e wt19 ⟨ha, hn, hc, hl, rfl, rh, mh, eh, hbt19⟩
  have rA_t19 := rA_t18.later hbt19
  clear rA_t18
  have rg_t19 := rg_t18.later hbt19
  clear rg_t18
  have rt_t19 := rt_t18.later hbt19
  clear rt_t18
  have rt18_t19 := rt18.later hbt19
  clear rt18
  have hB_t19 := hB_t18.trans (hbt19.mono hB_t18.size)
  clear rt18_t19
  clear rg_t19
  have lh : hn ≤ 3700000 := by have h1 := rh.1.1; rw [eh.out] at h1; have h2 := tAA1.len; omega
  go_wp2_with fail
  refine (rootQ rh mh lh).mono ?_
  rintro e wt20 ⟨ua, un, uc, ul, V, rfl, ru, mu, eu, hV, hbt20⟩
  have rA_t20 := rA_t19.later hbt20
  clear rA_t19
  have rt_t20 := rt_t19.later hbt20
  clear rt_t19
  have rh_t20 := rh.later hbt20
  clear rh
  have hB_t20 := hB_t19.trans (hbt20.mono hB_t19.size)
  clear rh_t20
  go_wp2_with fail
  refine (cmpK rt_t20 rA_t20 mt mA (ordN_self A)).mono ?_
  rintro e wt21 ⟨rfl, hbt21⟩
  have rA_t21 := rA_t20.later hbt21
  clear rA_t20
  have rt_t21 := rt_t20.later hbt21
  clear rt_t20
  have ru_t21 := ru.later hbt21
  clear ru
  have hB_t21 := hB_t20.trans (hbt21.mono hB_t20.size)
  obtain ⟨P, hPv⟩ : ∃ P, ordN V A = P := ⟨_, rfl⟩
  have HP : Hid (ordN V A = P) := hPv
  have hP0 : ¬ P < 0 := by rw [← hPv]; exact root_ge pA hV
  have hPz : 0 < A → P = 0 := fun h => by rw [← hPv, root_one h hV]; exact ordN_self A
  have hVd : 0 < A → decide (V * V = A * A + 1) = false := fun h => decide_eq_false (by rw [root_one h hV]; omega)
  clear hPv
  go_wp2_with fail
  refine (cmpK ru_t21 rA_t21 mu mA HP.out).mono ?_
  rintro e wt22 ⟨rfl, hbt22⟩
  have rA_t22 := rA_t21.later hbt22
  clear rA_t21
  have rt_t22 := rt_t21.later hbt22
  clear rt_t21
  have ru_t22 := ru_t21.later hbt22
  clear ru_t21
  have hB_t22 := hB_t21.trans (hbt22.mono hB_t21.size)
  go_wp2_with fail
  refine (zeroQ rA_t22 mA).mono ?_
  rintro e wt23 ⟨rfl, hbt23⟩
  have rA_t23 := rA_t22.later hbt23
  clear rA_t22
  have rt_t23 := rt_t22.later hbt23
  clear rt_t22
  have ru_t23 := ru_t22.later hbt23
  clear ru_t22
  have hB_t23 := hB_t22.trans (hbt23.mono hB_t22.size)
  by_cases hA0 : A = 0
  · skip
    have z0 : decide (A = 0) = true := decide_eq_true hA0
    rw [z0]
    clear hA0 z0 hPz hVd
    go_wp2
    go_ret
    exact ⟨rfl, hB_t23⟩
  · skip
    have z0 : decide (A = 0) = false := decide_eq_false hA0
    have v0 := hVd (by omega)
    have p0 := hPz (by omega)
    subst p0
    rw [z0]
    clear hA0 hPz hVd
    generalize decide (V * V = A * A + 1) = vv at *
    go_wp2_with fail
    refine (cmpK ru_t23 rA_t23 mu mA HP.out).mono ?_
    rintro e wt24 ⟨rfl, hbt24⟩
    have rA_t24 := rA_t23.later hbt24
    clear rA_t23
    have rt_t24 := rt_t23.later hbt24
    clear rt_t23
    have ru_t24 := ru_t23.later hbt24
    clear ru_t23
    have hB_t24 := hB_t23.trans (hbt24.mono hB_t23.size)
    go_wp2
    go_ret
    exact ⟨rfl, hB_t24⟩

/-! ### THE ROW's STEP: WRITTEN OUT: LEAVE IT -/
set_option maxRecDepth 100000 in
theorem lifted (os : Os) (started : os.Started) (H : Type) (enc : TypeId × Value → H) :
    ReturnsInHanded {} Try.checked os 3 .any (Rows.quotSquaresSpec.pre6 enc Try.prog Try.f3 Rows.quotSquaresRow.domain false) (Rows.quotSquaresSpec.post enc Try.prog Try.f3 false true false false) := by
  refine returnsInHanded_of_change (C := Try.checked) own started (by kernel_rfl) Try.func3
    (ChangeSpec.witness6 (enc := enc) (C := Try.checked) false ⟨#[], #[.slice none 0 0], []⟩ 8 (by kernel_rfl) (by kernel_rfl) (by kernel_rfl) (by kernel_rfl)) ?_
  intro W base args ds gs before hval0 hW hcnd _
  have hval : ∀ (j : Nat) t v, Try.f3.params[j]? = some t → args[j]? = some v → Value.okWide Try.prog W .any base t v := hval0
  have hW' := hW
  obtain ⟨p, q, hA0, hV, rfl, hfz, hnd⟩ := hW
  have hA : DataW.TrodAll enc Try.prog W 0 (fun _ => true) true Try.f3.params.toList args.toList ds p := hA0
  rw [Try.params3] at hA hval
  obtain ⟨v0, vs0, d0, ds0, p0, q0, hargs, rfl, rfl, h0, r0⟩ := trodAll_cons hA
  obtain ⟨rfl, rfl, rfl⟩ := trodAll_nil r0
  obtain rfl : args = #[v0] := by cases args; simp_all
  obtain ⟨rfl, rfl⟩ := trodVars_none hV
  obtain ⟨a0, len0, cap0, rfl⟩ := okWide_slice Try.underlying22 (hval 0 22 v0 rfl rfl)
  have k0 := h0
  have lt0 : ∀ x ∈ p0, x.block < W.heap.size := by obtain ⟨m, hm⟩ := k0; exact DataW.trod_lt m _ _ _ hm
  obtain ⟨z0, w0⟩ : ∃ zs, IsRow .u64 W a0 len0 cap0 zs := by
    obtain ⟨fuel, hf⟩ := h0
    rcases open_ints Try.underlying22 Try.underlying31 (by kernel_rfl) hf with ⟨hcs, _⟩ | ⟨x, l, c, zs, hcs, _, hl, hm, hz, _, hcell, hwz⟩
    · simp [Value.cells] at hcs
      obtain ⟨rfl, rfl, rfl⟩ := hcs
      exact ⟨[], .inl ⟨rfl, rfl, rfl, rfl⟩⟩
    · simp [Value.cells] at hcs
      obtain ⟨rfl, rfl, rfl⟩ := hcs
      exact ⟨zs, .inr ⟨_, rfl, hl, hm, by simpa using hz, hcell, hwz⟩⟩
  clear hA0 hval0
  refine (walk a0 len0 cap0 z0 W w0).mono fun e W' ⟨he, bel⟩ => ?_
  subst he
  exact ⟨_, rfl, _, _, _, [], _, [], hW', trodAll_mk1 (shut_bool Try.underlying4 _), (trodAll_cons_mk (Below.trod laidOut (by kernel_rfl) (of_decide_eq_true (by kernel_rfl)) k0 bel lt0) trodAll_mk0), rfl, bel.frame _, fun h => by cases h⟩

theorem over : Rows.quotSquaresRow.holds Try.pinned (OpenSpec.ofChange Rows.quotSquaresSpec) :=
  OpenClaim.holds_of_wide 3 Try.f3 rfl rfl rfl rfl rfl rfl rfl ⟨rfl, rfl, rfl, rfl, rfl⟩ rfl rfl rfl rfl rfl (by kernel_rfl) Try.func3 (by kernel_rfl)
    (of_decide_eq_true (by kernel_rfl)) (by unfold Func.isWrapper; first | (rw [if_pos (by decide +kernel)]; kernel_rfl) | (rw [if_neg (by decide +kernel)]; exact ⟨rfl, rfl⟩))
    (fun os started H enc _ => lifted os started H enc)

/-- ████ THE STATEMENT ████ -/
theorem proved : Rows.QuotSquaresSaid := over
#print axioms proved
end Go.Proofs.Ytopcdpeepchgfab.quotSquares
