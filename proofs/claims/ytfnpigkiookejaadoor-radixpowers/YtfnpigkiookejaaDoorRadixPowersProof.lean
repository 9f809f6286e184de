/-
  THE SHELL OF A PROOF OF 'Rows.RadixPowersSaid' ('plumb/plumblaw04.RadixPowers'), WRITTEN BY PROGRAM (proof-skeleton.mjs) off the guide's own print for that function. Not trusted: Lean checks it.
  YOURS ARE THE HOLES MARKED 'HOLE' (filled). ALL ELSE IS THE GUIDE's TEMPLATE (howto/template/XProofs.lean) at this function's number and types: leave it.
-/
import Derived.Test.YtfnpigkiookejaaDoorCards
import Derived.Test.YtfnpigkiookejaaDoorTie
import Derived.Deep.DeepHandedRow
import Derived.Lay
import Derived.SevenTiedAt
import Derived.WalkKit
import Derived.ProofKit
import Derived.OpenShut
import Derived.ShutString
import Derived.WalkLawsBesides
import Derived.WalkSpells
import Derived.Deep.RegionWith
import Derived.Deep.DeepCutAuto
import Derived.Deep.DeepFit
import Derived.Test.YtfnpigkiookejaaDoorRadixRest
import Derived.Test.YtfnpigkiookejaaDoorBaseC
namespace Go.Proofs.YtfnpigkiookejaaDoor.radixPowers
open Go.ChangeShapes Go.WideShapes Go.ChangeAt Go.RowKit
open Go.ChangeMaps (open_string shut_string)
set_option linter.unusedVariables false      -- a walk need not use every 'w<i>' (that an integer argument fits its kind)

theorem own : ownKnob Tryd.prog.godebug = none := by kernel_rfl

open Na Ar
theorem pw_neg {M n : Int} (b : Int) (h : n < 0) : pwE M n = 31 ∧ pwL b M n = [] := by
  unfold pwE pwL; rw [if_pos h, if_pos h]; exact ⟨rfl, rfl⟩
theorem pw_big {M n : Int} (b : Int) (h0 : 0 ≤ M) (h : M < n) : pwE M n = 21 ∧ pwL b M n = [] := by
  unfold pwE pwL; rw [if_neg (show ¬ n < 0 by omega), if_neg (show ¬ n < 0 by omega), if_pos h, if_pos h]; exact ⟨rfl, rfl⟩
theorem pw_ok {M : Int} {n : Nat} (b : Int) (h : (n : Int) ≤ M) : pwE M (n : Int) = 0 ∧ pwL b M (n : Int) = words (b ^ n) := by
  unfold pwE pwL; rw [if_neg (by omega), if_neg (by omega), if_neg (by omega), if_neg (by omega)]; exact ⟨rfl, rfl⟩
theorem five_odd (n : Nat) : (5 : Int) ^ n % 2 = 1 := by
  induction n with
  | zero => rfl
  | succ n ih => rw [Int.pow_succ, Int.mul_emod, ih]; rfl
/-! ### STEP 1: THE WALK: the Go text returns true. 'Grown w w'': the world has at most new blocks (Derived/RowKit3.lean). Part the cases AHEAD of 'go_enter' where a test parts the walk; take each callee by a contract of your own. -/
set_option maxHeartbeats 6400000 in
set_option maxRecDepth 100000 in
theorem walk (a0 : Int) (w0 : (Lit.int .i64 a0).wf = true) (w : World) :
    Calls Tryd.prog 7 #[.int .i64 a0] w fun e w' => e = .returned (.bool true) ∧ Below w.heap.size w w' := by
  have b0 := bounds_i64 w0
  clear w0
  have h5 := five_any a0 b0.1 b0.2 w
  have h10 := fun w => ten_any a0 b0.1 b0.2 w
  have B_0 := Below.refl w.heap.size w
  by_cases hneg : a0 < 0
  · have p5 := pw_neg (M := 112899) 5 hneg
    have p10 := pw_neg (M := 78913) 10 hneg
    rw [p5.1, p5.2] at h5
    rw [p10.1, p10.2] at h10
    clear p5 p10
    go_enter Tryd.func7, Tryd.ntmps7
    go_wp2_with fail
    refine h5.mono ?_
    rintro e w1 ⟨v1, rfl, ho1, hb1⟩
    obtain ⟨xa, xc, rfl, hx1⟩ := ho1.readsC
    clear h5 ho1 hx1
    go_wp2_with fail
    refine (h10 _).mono ?_
    rintro e w2 ⟨v2, rfl, ho2, hb2⟩
    obtain ⟨ya, yc, rfl, hy2⟩ := ho2.readsC
    have hB2 := hb1.trans (hb2.mono hb1.size)
    clear h10 ho2 hy2
    go_wp2_with fail
    refine (alive_any w2).mono ?_
    rintro e w3 ⟨rfl, hb3⟩
    have hB3 := hB2.trans (hb3.mono hB2.size)
    go_wp2
    go_ret
    exact ⟨rfl, hB3⟩
  · by_cases hbig : 112899 < a0
    · have p5 := pw_big (M := 112899) 5 (by omega) hbig
      have p10 := pw_big (M := 78913) (n := a0) 10 (by omega) (by omega)
      rw [p5.1, p5.2] at h5
      rw [p10.1, p10.2] at h10
      clear p5 p10
      go_enter Tryd.func7, Tryd.ntmps7
      go_wp2_with fail
      refine h5.mono ?_
      rintro e w1 ⟨v1, rfl, ho1, hb1⟩
      obtain ⟨xa, xc, rfl, hx1⟩ := ho1.readsC
      clear h5 ho1 hx1
      go_wp2_with fail
      refine (h10 _).mono ?_
      rintro e w2 ⟨v2, rfl, ho2, hb2⟩
      obtain ⟨ya, yc, rfl, hy2⟩ := ho2.readsC
      have hB2 := hb1.trans (hb2.mono hb1.size)
      clear h10 ho2 hy2
      go_wp2_with fail
      refine (alive_any w2).mono ?_
      rintro e w3 ⟨rfl, hb3⟩
      have hB3 := hB2.trans (hb3.mono hB2.size)
      go_wp2
      go_ret
      exact ⟨rfl, hB3⟩
    · obtain ⟨N, rfl⟩ : ∃ N : Nat, a0 = (N : Int) := ⟨a0.toNat, by omega⟩
      have p5 := pw_ok (M := 112899) (n := N) 5 (by omega)
      rw [p5.1, p5.2] at h5
      have l5 := five_lt (n := N) (by omega)
      have d5 := Dg_words ((5 : Int) ^ N)
      have n5 := num_words l5.1
      have w5 := l5.len
      have hz5 : zerosN ((5 : Int) ^ N) = 0 := by
        have hp : (0 : Int) < 5 ^ N := Int.pow_pos (by omega)
        have := zerosN_eq (N := (5 : Int) ^ N) (u := (5 : Int) ^ N) (k := 0) (by simp) hp (five_odd N)
        simpa using this
      have hrs := fun w => rest_any (b := 5) (by omega) N (by omega) w
      have hpw := fun (h : N ≤ 400) w => power_any (b := 5) (by omega) N (by omega) w
      have hF2 : (5 : Int) ^ N * 2 ^ N = 10 ^ N := five_two N
      generalize (5 : Int) ^ N = F at *
      go_enter Tryd.func7, Tryd.ntmps7
      go_wp2_with fail
      refine h5.mono ?_
      rintro e w1 ⟨v1, rfl, ho1, hb1⟩
      obtain ⟨xa, xc, rfl, hx1⟩ := ho1.readsC
      clear h5 ho1 p5 B_0
      by_cases hten : 78913 < (N : Int)
      · have p10 := pw_big (M := 78913) 10 (by omega) hten
        rw [p10.1, p10.2] at h10
        clear p10 hpw hF2
        go_wp2_with fail
        refine (h10 _).mono ?_
        rintro e w2 ⟨v2, rfl, ho2, hb2⟩
        obtain ⟨ya, yc, rfl, hy2⟩ := ho2.readsC
        have hx2 := hx1.later hb2
        have hB2 := hb1.trans (hb2.mono hb1.size)
        clear h10 ho2 hy2 hx1
        go_wp2_with fail
        refine (alive_any w2).mono ?_
        rintro e w3 ⟨rfl, hb3⟩
        have hx3 := hx2.later hb3
        have hB3 := hB2.trans (hb3.mono hB2.size)
        have hsm := small_any (d := 4294967291) hx3 d5 (by omega) (by unfold U; omega) (by omega)
        rw [n5] at hsm
        clear hx2
        go_wp2_with fail
        refine hsm.mono ?_
        rintro e w4 ⟨v4, rfl, ho4, hb4⟩
        have hx4 := hx3.later hb4
        have hB4 := hB3.trans (hb4.mono hB3.size)
        clear hsm hx3 ho4
        go_wp2_with fail
        refine (hrs w4).mono ?_
        rintro e w' ⟨rfl, rfl⟩
        have hzz := natZeros_any hx4 d5 (by omega)
        rw [n5, hz5] at hzz
        clear hrs
        generalize F % 4294967291 = FR at *
        go_wp2_with fail
        refine hzz.mono ?_
        rintro e w5' ⟨rfl, hb5⟩
        have hx5 := hx4.later hb5
        have hB5 := hB4.trans (hb5.mono hB4.size)
        have hnm := natNorm_any hx5 d5 (by omega)
        rw [n5] at hnm
        clear hzz hx4
        go_wp2_with fail
        refine hnm.mono ?_
        rintro e w6 ⟨v6, rfl, ho6, hb6⟩
        obtain ⟨za, zc, rfl, hz6⟩ := ho6.readsC
        have hB6 := hB5.trans (hb6.mono hB5.size)
        clear hnm ho6 hz6
        generalize (words F).length = lF at *
        go_wp2
        go_ret
        exact ⟨rfl, hB6⟩
      · have p10 := pw_ok (M := 78913) (n := N) 10 (by omega)
        rw [p10.1, p10.2] at h10
        have l10 := ten_lt (n := N) (by omega)
        have w10 := l10.len
        clear p10
        go_wp2_with fail
        refine (h10 _).mono ?_
        rintro e w2 ⟨v2, rfl, ho2, hb2⟩
        obtain ⟨ya, yc, rfl, hy2⟩ := ho2.readsC
        have hx2 := hx1.later hb2
        have hB2 := hb1.trans (hb2.mono hb1.size)
        clear h10 ho2 hx1
        go_wp2_with fail
        refine (alive_any w2).mono ?_
        rintro e w3 ⟨rfl, hb3⟩
        have hx3 := hx2.later hb3
        have hy3 := hy2.later hb3
        have hB3 := hB2.trans (hb3.mono hB2.size)
        have hsm := small_any (d := 4294967291) hx3 d5 (by omega) (by unfold U; omega) (by omega)
        rw [n5] at hsm
        clear hx2 hy2
        go_wp2_with fail
        refine hsm.mono ?_
        rintro e w4 ⟨v4, rfl, ho4, hb4⟩
        have hx4 := hx3.later hb4
        have hy4 := hy3.later hb4
        have hB4 := hB3.trans (hb4.mono hB3.size)
        clear hsm hx3 ho4 hy3
        go_wp2_with fail
        refine (hrs w4).mono ?_
        rintro e w' ⟨rfl, rfl⟩
        have hzz := natZeros_any hx4 d5 (by omega)
        rw [n5, hz5] at hzz
        clear hrs
        generalize F % 4294967291 = FR at *
        go_wp2_with fail
        refine hzz.mono ?_
        rintro e w5' ⟨rfl, hb5⟩
        have hx5 := hx4.later hb5
        have hy5 := hy4.later hb5
        have hB5 := hB4.trans (hb5.mono hB4.size)
        have hnm := natNorm_any hx5 d5 (by omega)
        rw [n5] at hnm
        clear hzz hx4 hy4
        go_wp2_with fail
        refine hnm.mono ?_
        rintro e w6 ⟨v6, rfl, ho6, hb6⟩
        obtain ⟨za, zc, rfl, hz6⟩ := ho6.readsC
        have hx6 := hx5.later hb6
        have hy6 := hy5.later hb6
        have hB6 := hB5.trans (hb6.mono hB5.size)
        have hs := natShl_any hx6 d5 (by omega) (N : Int) (by omega)
        have s1 : shlE F (N : Int) = 0 := by unfold shlE; rw [if_neg (by omega), Int.toNat_natCast, hF2]; exact (l10.fits (Nat.le_refl _)).2
        have s2 : shlL F (N : Int) = words (10 ^ N) := by unfold shlL; rw [if_neg (by omega), Int.toNat_natCast, hF2]; exact (l10.fits (Nat.le_refl _)).1
        rw [n5, s1, s2] at hs
        clear hnm ho6 hz6 hx5 hy5 s1 s2 hF2
        generalize hlF : (words F).length = lF at *
        clear hlF
        go_wp2_with fail
        refine hs.mono ?_
        rintro e w7 ⟨v7, rfl, ho7, hb7⟩
        obtain ⟨ua, uc, rfl, hu7⟩ := ho7.readsC
        have hx7 := hx6.later hb7
        have hy7 := hy6.later hb7
        have hB7 := hB6.trans (hb7.mono hB6.size)
        have he := sameN hy7 hu7 (by omega) (by omega) rfl
        clear hs ho7 hx6 hy6
        generalize (words (10 ^ N : Int)).length = lT at *
        go_wp2_with fail
        refine he.mono ?_
        rintro e w8 ⟨rfl, hb8⟩
        have hx8 := hx7.later hb8
        have hB8 := hB7.trans (hb8.mono hB7.size)
        clear he hx7 hy7 hu7
        by_cases h400 : 400 < (N : Int)
        · go_wp2
          go_ret
          exact ⟨rfl, hB8⟩
        · have hp9 := hpw (by omega) w8
          go_wp2_with fail
          refine hp9.mono ?_
          rintro e w9 ⟨qa, ql, qc, rfl, hq9, hb9⟩
          have hx9 := hx8.later hb9
          have hB9 := hB8.trans (hb9.mono hB8.size)
          have hee := sameN hx9 hq9 (by have := hx9.1.1; omega) (by have := hq9.1.1; have := hx9.1.1; omega) rfl
          clear hp9 hpw hx8
          go_wp2_with fail
          refine hee.mono ?_
          rintro e w10' ⟨rfl, hb10⟩
          have hB10 := hB9.trans (hb10.mono hB9.size)
          go_wp2
          go_ret
          exact ⟨rfl, hB10⟩

/-! ### THE ROW's STEP: WRITTEN OUT: LEAVE IT -/
set_option maxRecDepth 100000 in
theorem reads (os : Os) {H : Type} (enc : TypeId × Value → H) : ∃ places, DataW.whole enc Tryd.prog ((World.laidAll Tryd.prog os Rows.radixPowersRow.laid).forCall (fun _ _ => 0) ⟨#[], #[.int .i64 0], []⟩).memory Tryd.f7.params.toList Rows.radixPowersSpec.vars false (#[.int .i64 0] : Array Value).toList 8 = some ([.lit (.int .i64 0)], [], places) :=
  ⟨[], by kernel_rfl⟩
set_option maxRecDepth 100000 in
theorem lifted (os : Os) (started : os.Started) (H : Type) (enc : TypeId × Value → H) (F : Stop.Interp) :
    ReturnsInHanded {} Tryd.checked os 7 .any ((OpenSpec.ofChange Rows.radixPowersSpec).preRow enc Tryd.prog Tryd.f7 Rows.radixPowersRow.domain false Rows.radixPowersRow.laid) (((OpenSpec.ofChange Rows.radixPowersSpec).at F).post enc Tryd.prog Tryd.f7 false true false false) := by
  obtain ⟨places, hx⟩ := reads os enc
  refine returnsInHanded_of_row (C := Tryd.checked) (s := (OpenSpec.ofChange Rows.radixPowersSpec)) own started (by kernel_rfl) Tryd.func7
    (witness_row_at (enc := enc) (C := Tryd.checked) false (World.laidAll Tryd.prog os Rows.radixPowersRow.laid) #[.int .i64 0] (World.laidAll_os _ _ _) (by kernel_rfl) (by kernel_rfl) (by kernel_rfl)
      (OpenSpec.preRow_of_cond 8 hx (by kernel_rfl) (fun k hk => by cases hk) (by kernel_rfl) (laidMet_laidAll _ (by kernel_rfl) (by kernel_rfl)))) ?_
  intro W base args ds gs before hval0 hW _ hcond _ hL _ _
  have hval : ∀ (j : Nat) t v, Tryd.f7.params[j]? = some t → args[j]? = some v → Value.okWide Tryd.prog W .any base t v := hval0
  have hW' := hW
  obtain ⟨p, q, hA0, hV, rfl, hfz, hnd⟩ := hW
  have hA : DataW.TrodAll enc Tryd.prog W 0 (fun _ => true) true Tryd.f7.params.toList args.toList ds p := hA0
  rw [Tryd.params7] at hA hval
  obtain ⟨v0, vs0, d0, ds0, p0, q0, hargs, rfl, rfl, h0, r0⟩ := trodAll_cons hA
  obtain ⟨rfl, rfl, rfl⟩ := trodAll_nil r0
  obtain rfl : args = #[v0] := by cases args; simp_all
  obtain ⟨rfl, rfl⟩ := trodVars_none hV
  obtain ⟨a0, rfl, rfl, rfl, w0⟩ := open_int Tryd.underlying3 (hval 0 3 v0 rfl rfl) h0
  clear hA0 hval0
  simp only [List.append_nil] at hW'
  refine (walk a0 w0 W).mono fun e W' ⟨he, hg⟩ => ?_
  subst he
  exact ⟨_, rfl, _, _, _, [], _, [], hW', trodAll_mk1 (shut_bool Tryd.underlying4 _), (trodAll_cons_mk (shut_int Tryd.underlying3 w0) trodAll_mk0), rfl, hg.frame _, fun h => by cases h⟩

theorem over : Rows.radixPowersRow.holds Tryd.pinned (OpenSpec.ofChange Rows.radixPowersSpec) :=
  OpenClaim.holds_of_cond 7 Tryd.f7 rfl rfl rfl rfl rfl rfl rfl ⟨rfl, rfl, rfl, rfl, rfl⟩ rfl rfl rfl rfl rfl (by kernel_rfl) Tryd.func7 (by kernel_rfl)
    (of_decide_eq_true (by kernel_rfl)) (by unfold Func.isWrapper; first | (rw [if_pos (by decide +kernel)]; kernel_rfl) | (rw [if_neg (by decide +kernel)]; exact ⟨rfl, rfl⟩))
    (fun os started H enc _ F => by rw [OpenClaim.pre_eq_preRow]; exact lifted os started H enc F)
theorem plain (f : FuncId) (fn : Func) (hf : Tryd.pinned.checked.prog.funcNamed "plumb/plumblaw04.RadixPowers" = some f) (hfn : Tryd.pinned.checked.prog.funcs[f]? = some fn) :
    false = Tryd.pinned.checked.prog.looks [] ∧ ∀ (j : Nat) t, fn.params[j]? = some t → Tryd.pinned.checked.prog.wantsStandIn t = false := by
  obtain rfl : f = 7 := Option.some.inj ((show Tryd.prog.funcNamed "plumb/plumblaw04.RadixPowers" = some 7 by kernel_rfl).symm.trans hf) |>.symm
  obtain rfl : fn = Tryd.f7 := (Option.some.inj (Tryd.func7.symm.trans hfn)).symm
  refine ⟨by kernel_rfl, fun j t ht => ?_⟩
  rw [Tryd.params7] at ht
  have hall : ∀ t ∈ (Tryd.f7.params).toList, Tryd.prog.wantsStandIn t = false := by
    rw [Tryd.params7]
    intro t ht
    simp only [List.mem_cons, List.mem_nil_iff, or_false] at ht
    rcases ht with rfl <;> kernel_rfl
  exact hall t (by rw [Tryd.params7]; exact Array.mem_toList_iff.mpr (Array.mem_of_getElem? ht))
/-- the statement -/
theorem proved : Rows.RadixPowersCardSaid :=
  Claim7.holds_tied_plain_at .later [] _ _ _ _ over (fun _ h => by cases h) (by kernel_rfl) (fun _ h => by cases h) radixPowers_row_tie rfl ⟨rfl, rfl⟩ (by kernel_rfl) rfl plain (by kernel_rfl)
#print axioms proved
end Go.Proofs.YtfnpigkiookejaaDoor.radixPowers
