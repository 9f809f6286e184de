/-
  THE SHELL OF A PROOF OF 'Rows.QuotPowersSaid' ('plumb/plumblaw03.QuotPowers'), WRITTEN BY PROGRAM (proof-skeleton.mjs, third state) off the guide's own print for that function. Not trusted: Lean checks it.
  YOURS IS THE HOLE MARKED 'HOLE' (it bears 'sorry'). ALL ELSE IS THE GUIDE's OWN WAY (howto/template/XProofs.lean; Derived/Test/ChunkProofs.lean for 'Below') at this function's number and types: leave it.
-/
import Derived.Test.YtopcdpeepchgfaaRows
import Derived.WalkKit
import Derived.ProofKit
import Derived.OpenShut
import Derived.ShutString
import Derived.WalkLawsBesides
import Derived.WalkSpells
import Derived.Deep.RegionWith
import Derived.Deep.DeepCutAuto
import Derived.Deep.DeepFit
import Derived.Test.YtopcdpeepchgfaaQuotPw
import Derived.ChangeOld
import Derived.Below
namespace Go.Proofs.Ytopcdpeepchgfaa.quotPowers
open Go.ChangeShapes Go.WideShapes Go.ChangeAt Go.RowKit
open Go.ChangeMaps (open_string shut_string)
set_option linter.unusedVariables false

theorem own : ownKnob Try.prog.godebug = none := by kernel_rfl
theorem laidOut : laidOutB Try.prog = true := by kernel_rfl

/-- WHAT THE WALK IS TOLD OF A SLICE OF INTEGERS THAT CAME IN: it is nil; or it leads to a row of 'cap' cells, the numbers 'zs' (the first 'len' are its elements, the rest its spare room), each fitting its kind. -/
def IsRow (k : IntKind) (w : World) (a : Option Addr) (len cap : Nat) (zs : List Int) : Prop :=
  (a = none ∧ len = 0 ∧ cap = 0 ∧ zs = []) ∨
  ∃ x, a = some x ∧ len ≤ cap ∧ cap ≤ maxLen ∧ zs.length = cap ∧ (∀ i, i < zs.length → w.cell? (x.add i) = some (.int k (zs.getD i 0))) ∧ ∀ n ∈ zs, (Lit.int k n).wf = true

open Na Ar
/-! ### STEP 1: THE WALK: the Go text returns true, AND WRITES NOTHING THAT WAS THERE: 'Below w.heap.size w w'' (Derived/Below.lean: '.refl', '.alloc', '.drew', '.setCell' at a new block, '.trans'). Open each 'IsRow' by 'rcases' AHEAD of 'go_enter'; part every test ahead of the walk. -/
set_option maxHeartbeats 6400000 in
set_option maxRecDepth 100000 in
theorem walk (a0 : Option Addr) (len0 cap0 : Nat) (z0 : List Int) (a1 : Int) (a2 : Int) (w : World) (w0 : IsRow .u64 w a0 len0 cap0 z0) (w1 : (Lit.int .i64 a1).wf = true) (w2 : (Lit.int .i64 a2).wf = true) :
    Calls Try.prog 6 #[.slice a0 len0 cap0, .int .i64 a1, .int .i64 a2] w fun e w' => e = .returned (.bool true) ∧ Below w.heap.size w w' := by
  have b1 := bounds_i64 w1
  have b2 := bounds_i64 w2
  clear w1 w2
  have q0 := row_of w0
  obtain ⟨hr0, hx0, hm0⟩ := q0
  clear w0
  generalize z0.take len0 = x0 at *
  have B_0 := Below.refl w.heap.size w
  go_enter Try.func6, Try.ntmps6
  go_wp2_with fail
  refine (live_any _).mono ?_
  rintro e wt1 ⟨rfl, hbt1⟩
  have hr0_t1 := hr0.later hbt1
  clear hr0
  have hB_t1 := B_0.trans (hbt1.mono B_0.size)
  go_wp2_with fail
  refine (boundedQ hr0_t1 hx0 hm0 8 (by omega)).mono ?_
  rintro e wt2 ⟨caG, cnG, ccG, LG, rfl, rG, mG, tG, hlG, HTLG, hbt2⟩
  have hr0_t2 := hr0_t1.later hbt2
  clear hr0_t1
  have hB_t2 := hB_t1.trans (hbt2.mono hB_t1.size)
  clear hr0_t2
  obtain ⟨G, hG⟩ : ∃ G, G = num LG := ⟨_, rfl⟩
  rw [← hG] at mG tG
  have pG := mG.nonneg
  clear hG
  go_wp2_with fail
  refine (normQ rG mG tG (by omega)).mono ?_
  rintro e wt3 ⟨ga, gn, gc, gl, rfl, rX, mX, eX, hbt3⟩
  have rG_t3 := rG.later hbt3
  clear rG
  have hB_t3 := hB_t2.trans (hbt3.mono hB_t2.size)
  clear rG_t3
  go_wp2_with fail
  refine (within3_any a1 b1.1 b1.2 _).mono ?_
  rintro e wt4 ⟨p, rfl, hp, hbt4⟩
  have rX_t4 := rX.later hbt4
  clear rX
  have hB_t4 := hB_t3.trans (hbt4.mono hB_t3.size)
  go_wp2_with fail
  refine (within3_any a2 b2.1 b2.2 _).mono ?_
  rintro e wt5 ⟨q, rfl, hq, hbt5⟩
  have rX_t5 := rX_t4.later hbt5
  clear rX_t4
  have hB_t5 := hB_t4.trans (hbt5.mono hB_t4.size)
  have lp : Lt (G ^ p) 97 := (tG.pow p).mono (by omega)
  have lq : Lt (G ^ q) 97 := (tG.pow q).mono (by omega)
  have ls : Lt (G ^ (p + q)) 193 := (tG.pow (p + q)).mono (by omega)
  have l1 : Lt (G ^ 1) 9 := (tG.pow 1).mono (by omega)
  have l0 : Lt (G ^ 0) 1 := (tG.pow 0).mono (by omega)
  have cs : ((p + q : Nat) : Int) = (p : Int) + (q : Int) := by omega
  go_wp2_with fail
  refine (powQ p (by omega) rX_t5 mX lp (by omega)).mono ?_
  rintro e wt6 ⟨xa, xn, xc, xl, rfl, ra, ma, ea, hbt6⟩
  have rX_t6 := rX_t5.later hbt6
  clear rX_t5
  have hB_t6 := hB_t5.trans (hbt6.mono hB_t5.size)
  go_wp2_with fail
  refine (powQ q (by omega) rX_t6 mX lq (by omega)).mono ?_
  rintro e wt7 ⟨ya, yn, yc, yl, rfl, rb, mb, eb, hbt7⟩
  have rX_t7 := rX_t6.later hbt7
  clear rX_t6
  have ra_t7 := ra.later hbt7
  clear ra
  have hB_t7 := hB_t6.trans (hbt7.mono hB_t6.size)
  have hps := powQ (p + q) (by omega) rX_t7 mX ls (by omega)
  rw [cs] at hps
  go_wp2_with fail
  refine (hps).mono ?_
  rintro e wt8 ⟨za, zn, zc, zl, rfl, rc, mc, ec, hbt8⟩
  have rX_t8 := rX_t7.later hbt8
  clear rX_t7
  have ra_t8 := ra_t7.later hbt8
  clear ra_t7
  have rb_t8 := rb.later hbt8
  clear rb
  have hB_t8 := hB_t7.trans (hbt8.mono hB_t7.size)
  clear hps cs
  go_wp2_with fail
  refine (powQ 1 (by omega) rX_t8 mX l1 (by omega)).mono ?_
  rintro e wt9 ⟨oa, on, oc, ol, rfl, ro, mo, eo, hbt9⟩
  have rX_t9 := rX_t8.later hbt9
  clear rX_t8
  have ra_t9 := ra_t8.later hbt9
  clear ra_t8
  have rb_t9 := rb_t8.later hbt9
  clear rb_t8
  have rc_t9 := rc.later hbt9
  clear rc
  have hB_t9 := hB_t8.trans (hbt9.mono hB_t8.size)
  go_wp2_with fail
  refine (powQ 0 (by omega) rX_t9 mX l0 (by omega)).mono ?_
  rintro e wt10 ⟨ka, kn, kc, kl, rfl, rk, mk, ek, hbt10⟩
  have rX_t10 := rX_t9.later hbt10
  clear rX_t9
  have ra_t10 := ra_t9.later hbt10
  clear ra_t9
  have rb_t10 := rb_t9.later hbt10
  clear rb_t9
  have rc_t10 := rc_t9.later hbt10
  clear rc_t9
  have ro_t10 := ro.later hbt10
  clear ro
  have hB_t10 := hB_t9.trans (hbt10.mono hB_t9.size)
  have lt : Lt (G ^ p * G ^ q) 194 := lp.mul lq
  have lt0 : Lt (G ^ p * G ^ q + 0) 194 := by rw [Int.add_zero]; exact lt
  have rt11 := rowC_nil wt10
  go_wp2_with fail
  refine (timesQ ra_t10 rb_t10 rt11 ma mb Nm.nil lt lt0 (by omega)).mono ?_
  rintro e wt12 ⟨ta, tn, tc, tl, rfl, rt, mt, et, hbt12⟩
  have rX_t12 := rX_t10.later hbt12
  clear rX_t10
  have ra_t12 := ra_t10.later hbt12
  clear ra_t10
  have rb_t12 := rb_t10.later hbt12
  clear rb_t10
  have rc_t12 := rc_t10.later hbt12
  clear rc_t10
  have ro_t12 := ro_t10.later hbt12
  clear ro_t10
  have rk_t12 := rk.later hbt12
  clear rk
  have rt11_t12 := rt11.later hbt12
  clear rt11
  have hB_t12 := hB_t10.trans (hbt12.mono hB_t10.size)
  clear rt11_t12
  clear ra_t12
  clear rb_t12
  go_wp2_with fail
  refine (num3_any 0 _).mono ?_
  rintro e wt13 ⟨rfl, hbt13⟩
  have rX_t13 := rX_t12.later hbt13
  clear rX_t12
  have rc_t13 := rc_t12.later hbt13
  clear rc_t12
  have ro_t13 := ro_t12.later hbt13
  clear ro_t12
  have rk_t13 := rk_t12.later hbt13
  clear rk_t12
  have rt_t13 := rt.later hbt13
  clear rt
  have hB_t13 := hB_t12.trans (hbt13.mono hB_t12.size)
  go_wp2_with fail
  refine (num3_any 0 _).mono ?_
  rintro e wt14 ⟨rfl, hbt14⟩
  have rX_t14 := rX_t13.later hbt14
  clear rX_t13
  have rc_t14 := rc_t13.later hbt14
  clear rc_t13
  have ro_t14 := ro_t13.later hbt14
  clear ro_t13
  have rk_t14 := rk_t13.later hbt14
  clear rk_t13
  have rt_t14 := rt_t13.later hbt14
  clear rt_t13
  have hB_t14 := hB_t13.trans (hbt14.mono hB_t13.size)
  go_wp2_with fail
  refine (num3_any 0 _).mono ?_
  rintro e wt15 ⟨rfl, hbt15⟩
  have rX_t15 := rX_t14.later hbt15
  clear rX_t14
  have rc_t15 := rc_t14.later hbt15
  clear rc_t14
  have ro_t15 := ro_t14.later hbt15
  clear ro_t14
  have rk_t15 := rk_t14.later hbt15
  clear rk_t14
  have rt_t15 := rt_t14.later hbt15
  clear rt_t14
  have hB_t15 := hB_t14.trans (hbt15.mono hB_t14.size)
  go_wp2_with fail
  refine (num3_any 0 _).mono ?_
  rintro e wt16 ⟨rfl, hbt16⟩
  have rX_t16 := rX_t15.later hbt16
  clear rX_t15
  have rc_t16 := rc_t15.later hbt16
  clear rc_t15
  have ro_t16 := ro_t15.later hbt16
  clear ro_t15
  have rk_t16 := rk_t15.later hbt16
  clear rk_t15
  have rt_t16 := rt_t15.later hbt16
  clear rt_t15
  have hB_t16 := hB_t15.trans (hbt16.mono hB_t15.size)
  go_wp2_with fail
  refine (num3_any 0 _).mono ?_
  rintro e wt17 ⟨rfl, hbt17⟩
  have rX_t17 := rX_t16.later hbt17
  clear rX_t16
  have rc_t17 := rc_t16.later hbt17
  clear rc_t16
  have ro_t17 := ro_t16.later hbt17
  clear ro_t16
  have rk_t17 := rk_t16.later hbt17
  clear rk_t16
  have rt_t17 := rt_t16.later hbt17
  clear rt_t16
  have hB_t17 := hB_t16.trans (hbt17.mono hB_t16.size)
  go_wp2_with fail
  refine (sameQ rt_t17 rc_t17 mt mc et ec (by rw [Int.add_zero, Int.pow_add])).mono ?_
  rintro e wt18 ⟨rfl, hbt18⟩
  have rX_t18 := rX_t17.later hbt18
  clear rX_t17
  have rc_t18 := rc_t17.later hbt18
  clear rc_t17
  have ro_t18 := ro_t17.later hbt18
  clear ro_t17
  have rk_t18 := rk_t17.later hbt18
  clear rk_t17
  have rt_t18 := rt_t17.later hbt18
  clear rt_t17
  have hB_t18 := hB_t17.trans (hbt18.mono hB_t17.size)
  clear rt_t18
  clear rc_t18
  go_wp2_with fail
  refine (sameQ ro_t18 rX_t18 mo mX eo eX (Int.pow_one _)).mono ?_
  rintro e wt19 ⟨rfl, hbt19⟩
  have rX_t19 := rX_t18.later hbt19
  clear rX_t18
  have ro_t19 := ro_t18.later hbt19
  clear ro_t18
  have rk_t19 := rk_t18.later hbt19
  clear rk_t18
  have hB_t19 := hB_t18.trans (hbt19.mono hB_t18.size)
  clear ro_t19
  go_wp2_with fail
  have alt20 := alloc_below (w := wt19) (.cells #[.int .u64 1] 32)
  have rt20 := rowC_one wt19 1 32
  have rX_t20 := rX_t19.later alt20
  clear rX_t19
  have rk_t20 := rk_t19.later alt20
  clear rk_t19
  have hB_t20 := hB_t19.trans (alt20.mono hB_t19.size)
  refine (sameQ rk_t20 rt20 mk (Nm.one (x := 1) (by omega)) ek (w1_ 1 (by omega) (by omega)) (Int.pow_zero _)).mono ?_
  rintro e wt21 ⟨rfl, hbt21⟩
  have rX_t21 := rX_t20.later hbt21
  clear rX_t20
  have rk_t21 := rk_t20.later hbt21
  clear rk_t20
  have rt20_t21 := rt20.later hbt21
  clear rt20
  have hB_t21 := hB_t20.trans (hbt21.mono hB_t20.size)
  clear rk_t21
  clear rt20_t21
  go_wp2_with fail
  refine (powNegQ rX_t21 mX (-1 - (p : Int)) (by omega) (by omega)).mono ?_
  rintro e wt22 ⟨f1, f2, rfl, hbt22⟩
  have rX_t22 := rX_t21.later hbt22
  clear rX_t21
  have hB_t22 := hB_t21.trans (hbt22.mono hB_t21.size)
  have hbn := bits_nonneg G
  have l8 : bitsN G ≤ 64 * 8 := bits_le (k := 8) tG.1 tG.2
  have lgn : gn ≤ 4000000 := by have h1 := rX_t22.1.1; have := mX.len; omega
  by_cases hb1 : bitsN G ≤ 1
  · skip
    go_wp2_with fail
    refine (powFewQ rX_t22 mX hb1).mono ?_
    rintro e wt23 ⟨ha, hn, hc, hl, rfl, rh, mh, eh, hbt23⟩
    have rX_t23 := rX_t22.later hbt23
    clear rX_t22
    have hB_t23 := hB_t22.trans (hbt23.mono hB_t22.size)
    have hbt := natBits_any rX_t23 mX.ws lgn
    rw [mX.num] at hbt
    generalize bitsN G = bb at *
    go_wp2_with fail
    refine (hbt).mono ?_
    rintro e wt24 ⟨rfl, hbt24⟩
    have rX_t24 := rX_t23.later hbt24
    clear rX_t23
    have rh_t24 := rh.later hbt24
    clear rh
    have hB_t24 := hB_t23.trans (hbt24.mono hB_t23.size)
    go_wp2_with fail
    refine (num3_any 31 _).mono ?_
    rintro e wt25 ⟨rfl, hbt25⟩
    have rX_t25 := rX_t24.later hbt25
    clear rX_t24
    have rh_t25 := rh_t24.later hbt25
    clear rh_t24
    have hB_t25 := hB_t24.trans (hbt25.mono hB_t24.size)
    go_wp2_with fail
    refine (num3_any 0 _).mono ?_
    rintro e wt26 ⟨rfl, hbt26⟩
    have rX_t26 := rX_t25.later hbt26
    clear rX_t25
    have rh_t26 := rh_t25.later hbt26
    clear rh_t25
    have hB_t26 := hB_t25.trans (hbt26.mono hB_t25.size)
    go_wp2_with fail
    refine (sameQ rh_t26 rX_t26 mh mX eh eX rfl).mono ?_
    rintro e wt27 ⟨rfl, hbt27⟩
    have rX_t27 := rX_t26.later hbt27
    clear rX_t26
    have rh_t27 := rh_t26.later hbt27
    clear rh_t26
    have hB_t27 := hB_t26.trans (hbt27.mono hB_t26.size)
    go_wp2
    go_ret
    exact ⟨rfl, hB_t27⟩
  · skip
    go_wp2_with fail
    refine (powBigQ rX_t22 mX (by omega)).mono ?_
    rintro e wt23 ⟨ha, hc, rfl, hbt23⟩
    have rX_t23 := rX_t22.later hbt23
    clear rX_t22
    have hB_t23 := hB_t22.trans (hbt23.mono hB_t22.size)
    have hbt := natBits_any rX_t23 mX.ws lgn
    rw [mX.num] at hbt
    generalize bitsN G = bb at *
    go_wp2_with fail
    refine (hbt).mono ?_
    rintro e wt24 ⟨rfl, hbt24⟩
    have rX_t24 := rX_t23.later hbt24
    clear rX_t23
    have hB_t24 := hB_t23.trans (hbt24.mono hB_t23.size)
    go_wp2_with fail
    refine (num3_any 31 _).mono ?_
    rintro e wt25 ⟨rfl, hbt25⟩
    have rX_t25 := rX_t24.later hbt25
    clear rX_t24
    have hB_t25 := hB_t24.trans (hbt25.mono hB_t24.size)
    go_wp2_with fail
    refine (num3_any 21 _).mono ?_
    rintro e wt26 ⟨rfl, hbt26⟩
    have rX_t26 := rX_t25.later hbt26
    clear rX_t25
    have hB_t26 := hB_t25.trans (hbt26.mono hB_t25.size)
    go_wp2
    go_ret
    exact ⟨rfl, hB_t26⟩

/-! ### THE ROW's STEP: WRITTEN OUT: LEAVE IT -/
set_option maxRecDepth 100000 in
theorem lifted (os : Os) (started : os.Started) (H : Type) (enc : TypeId × Value → H) :
    ReturnsInHanded {} Try.checked os 6 .any (Rows.quotPowersSpec.pre6 enc Try.prog Try.f6 Rows.quotPowersRow.domain false) (Rows.quotPowersSpec.post enc Try.prog Try.f6 false true false false) := by
  refine returnsInHanded_of_change (C := Try.checked) own started (by kernel_rfl) Try.func6
    (ChangeSpec.witness6 (enc := enc) (C := Try.checked) false ⟨#[], #[.slice none 0 0, .int .i64 0, .int .i64 0], []⟩ 8 (by kernel_rfl) (by kernel_rfl) (by kernel_rfl) (by kernel_rfl)) ?_
  intro W base args ds gs before hval0 hW hcnd _
  have hval : ∀ (j : Nat) t v, Try.f6.params[j]? = some t → args[j]? = some v → Value.okWide Try.prog W .any base t v := hval0
  have hW' := hW
  obtain ⟨p, q, hA0, hV, rfl, hfz, hnd⟩ := hW
  have hA : DataW.TrodAll enc Try.prog W 0 (fun _ => true) true Try.f6.params.toList args.toList ds p := hA0
  rw [Try.params6] at hA hval
  obtain ⟨v0, vs0, d0, ds0, p0, q0, hargs, rfl, rfl, h0, r0⟩ := trodAll_cons hA
  obtain ⟨v1, vs1, d1, ds1, p1, q1, rfl, rfl, rfl, h1, r1⟩ := trodAll_cons r0
  obtain ⟨v2, vs2, d2, ds2, p2, q2, rfl, rfl, rfl, h2, r2⟩ := trodAll_cons r1
  obtain ⟨rfl, rfl, rfl⟩ := trodAll_nil r2
  obtain rfl : args = #[v0, v1, v2] := by cases args; simp_all
  obtain ⟨rfl, rfl⟩ := trodVars_none hV
  obtain ⟨a0, len0, cap0, rfl⟩ := okWide_slice Try.underlying22 (hval 0 22 v0 rfl rfl)
  have k0 := h0
  have lt0 : ∀ x ∈ p0, x.block < W.heap.size := by obtain ⟨m, hm⟩ := k0; exact DataW.trod_lt m _ _ _ hm
  obtain ⟨z0, w0⟩ : ∃ zs, IsRow .u64 W a0 len0 cap0 zs := by
    obtain ⟨fuel, hf⟩ := h0
    rcases open_ints Try.underlying22 Try.underlying32 (by kernel_rfl) hf with ⟨hcs, _⟩ | ⟨x, l, c, zs, hcs, _, hl, hm, hz, _, hcell, hwz⟩
    · simp [Value.cells] at hcs
      obtain ⟨rfl, rfl, rfl⟩ := hcs
      exact ⟨[], .inl ⟨rfl, rfl, rfl, rfl⟩⟩
    · simp [Value.cells] at hcs
      obtain ⟨rfl, rfl, rfl⟩ := hcs
      exact ⟨zs, .inr ⟨_, rfl, hl, hm, by simpa using hz, hcell, hwz⟩⟩
  obtain ⟨a1, rfl, rfl, rfl, w1⟩ := open_int Try.underlying3 (hval 1 3 v1 rfl rfl) h1
  obtain ⟨a2, rfl, rfl, rfl, w2⟩ := open_int Try.underlying3 (hval 2 3 v2 rfl rfl) h2
  clear hA0 hval0
  refine (walk a0 len0 cap0 z0 a1 a2 W w0 w1 w2).mono fun e W' ⟨he, bel⟩ => ?_
  subst he
  exact ⟨_, rfl, _, _, _, [], _, [], hW', trodAll_mk1 (shut_bool Try.underlying4 _), (trodAll_cons_mk (Below.trod laidOut (by kernel_rfl) (of_decide_eq_true (by kernel_rfl)) k0 bel lt0) (trodAll_cons_mk (shut_int Try.underlying3 w1) (trodAll_cons_mk (shut_int Try.underlying3 w2) trodAll_mk0))), rfl, bel.frame _, fun h => by cases h⟩

theorem over : Rows.quotPowersRow.holds Try.pinned (OpenSpec.ofChange Rows.quotPowersSpec) :=
  OpenClaim.holds_of_wide 6 Try.f6 rfl rfl rfl rfl rfl rfl rfl ⟨rfl, rfl, rfl, rfl, rfl⟩ rfl rfl rfl rfl rfl (by kernel_rfl) Try.func6 (by kernel_rfl)
    (of_decide_eq_true (by kernel_rfl)) (by unfold Func.isWrapper; first | (rw [if_pos (by decide +kernel)]; kernel_rfl) | (rw [if_neg (by decide +kernel)]; exact ⟨rfl, rfl⟩))
    (fun os started H enc _ => lifted os started H enc)

/-- ████ THE STATEMENT ████ -/
theorem proved : Rows.QuotPowersSaid := over
#print axioms proved
end Go.Proofs.Ytopcdpeepchgfaa.quotPowers
