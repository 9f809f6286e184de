/-
  THE SHELL OF A PROOF OF 'Rows.RadixJoinsSaid' ('plumb/plumblaw04.RadixJoins'), WRITTEN BY PROGRAM (proof-skeleton.mjs) off the guide's own print for that function. Not trusted: Lean checks it.
  YOURS ARE THE HOLES MARKED 'HOLE' (filled). ALL ELSE IS THE GUIDE's TEMPLATE (howto/template/XProofs.lean) at this function's number and types: leave it.
-/
import Derived.Test.YtfnpigkiookejaaDoorCards
import Derived.Test.YtfnpigkiookejaaDoorTie
import Derived.Deep.DeepHandedRow
import Derived.Lay
import Derived.SevenTiedAt
import Derived.WalkKit
import Derived.ProofKit
import Derived.OpenShut
import Derived.ShutString
import Derived.WalkLawsBesides
import Derived.WalkSpells
import Derived.Deep.RegionWith
import Derived.Deep.DeepCutAuto
import Derived.Deep.DeepFit
import Derived.Test.YtfnpigkiookejaaDoorBaseE
namespace Go.Proofs.YtfnpigkiookejaaDoor.radixJoins
open Go.ChangeShapes Go.WideShapes Go.ChangeAt Go.RowKit
open Go.ChangeMaps (open_string shut_string)
set_option linter.unusedVariables false      -- a walk need not use every 'w<i>' (that an integer argument fits its kind)

theorem own : ownKnob Tryd.prog.godebug = none := by kernel_rfl

open Na Ar
theorem long_pow {X Y : Int} {b : Int} {n : Nat} (hX : 0 ≤ X) (hY : 0 ≤ Y) (hb : 2 ≤ b) (h : (words (X * b ^ n + Y)).length ≤ 4096) (he : resE (b ^ n) ≠ 0) : X = 0 := by
  by_cases g : X = 0
  · exact g
  · exfalso
    have p : 0 < b ^ n := Int.pow_pos (by omega)
    have m := Int.mul_le_mul_of_nonneg_right (show (1 : Int) ≤ X by omega) (Int.le_of_lt p)
    have := res_above (A := b ^ n) (B := X * b ^ n + Y) (by omega) (by omega) he
    have r := (res_fits h).2
    omega
theorem bulk_part {H : Type} {d : DataW H} {l : List (DataW H)} (h : d ∈ l) : Rows.uptoBulk d ≤ Rows.uptoBulkAll l := by
  induction l with
  | nil => cases h
  | cons x r ih =>
    simp only [Rows.uptoBulkAll]
    cases List.mem_cons.1 h with
    | inl e => subst e; omega
    | inr e => have := ih e; omega
theorem bulk_one {H : Type} (d : DataW H) : 1 ≤ Rows.uptoBulk d := by
  cases d with
  | lit l => cases l <;> simp [Rows.uptoBulk]
  | nil => simp [Rows.uptoBulk]
  | ptr d => simp [Rows.uptoBulk]
  | slice elems spare => simp [Rows.uptoBulk]
  | agg parts => simp [Rows.uptoBulk]
  | iface t d => simp [Rows.uptoBulk]
  | map entries => simp [Rows.uptoBulk]
  | held h => simp [Rows.uptoBulk]
theorem bulk_length {H : Type} (l : List (DataW H)) : l.length ≤ Rows.uptoBulkAll l := by
  induction l with
  | nil => simp [Rows.uptoBulkAll]
  | cons x r ih => have := bulk_one x; simp only [Rows.uptoBulkAll, List.length_cons]; omega
theorem bulk_slice {H : Type} {el sp l : List (DataW H)} (hk : Rows.uptoSmall H l = true) (h : DataW.slice el sp ∈ l) : el.length ≤ 1048576 := by
  have b : Rows.uptoBulkAll l ≤ 1048576 := of_decide_eq_true hk
  have p := bulk_part h
  have q := bulk_length el
  simp only [Rows.uptoBulk] at p
  omega
theorem bulk_string {H : Type} {bs : List UInt8} {l : List (DataW H)} (hk : Rows.uptoSmall H l = true) (h : DataW.lit (.string bs) ∈ l) : bs.length ≤ 1048576 := by
  have b : Rows.uptoBulkAll l ≤ 1048576 := of_decide_eq_true hk
  have p := bulk_part h
  simp only [Rows.uptoBulk] at p
  omega

/-! ### STEP 1: THE WALK: the Go text returns true. 'Grown w w'': the world has at most new blocks (Derived/RowKit3.lean). Part the cases AHEAD of 'go_enter' where a test parts the walk; take each callee by a contract of your own. -/
set_option maxHeartbeats 6400000 in
set_option maxRecDepth 100000 in
theorem walk (a0 : ByteArray) (a1 : ByteArray) (a2 : Int) (w0 : a0.size ≤ maxLen) (w1 : a1.size ≤ maxLen) (w2 : (Lit.int .i64 a2).wf = true) (w : World) (bs0 : a0.size ≤ 1048576) (bs1 : a1.size ≤ 1048576) :
    Calls Tryd.prog 4 #[.string a0, .string a1, .int .i64 a2] w fun e w' => e = .returned (.bool true) ∧ Below w.heap.size w w' := by
  have b2 := bounds_i64 w2
  clear w0 w1 w2
  have hsz := app_size a0 a1
  have h0 := parse_all a0 a2 (by omega) w
  have h1 := fun w => parse_all a1 a2 (by omega) w
  have h2 := fun w => parse_all (a0 ++ a1) a2 (by omega) w
  have hcat : a0.size + a1.size ≤ 9223372036854775807 := by omega
  have HSZ : Hid ((a0 ++ a1).size = a0.size + a1.size) := hsz
  clear hsz
  go_enter Tryd.func4, Tryd.ntmps4
  go_wp2_with fail
  refine h0.mono ?_
  intro e wt1 hp
  rcases hp with ⟨hg1, v1, rfl, ho1, hb1⟩ | ⟨_, t1, ad1, rfl, hb1⟩
  · clear h0
    go_wp2_with fail
    refine (h1 _).mono ?_
    intro e wt2 hp
    rcases hp with ⟨hg2, v2, rfl, ho2, hb2⟩ | ⟨_, t2, ad2, rfl, hb2⟩
    · have hB2 := hb1.trans (hb2.mono hb1.size)
      go_wp2_with fail
      refine (h2 _).mono ?_
      intro e wt3 hp
      rcases hp with ⟨hg3, v3, rfl, ho3, hb3⟩ | ⟨_, t3, ad3, rfl, hb3⟩
      · have hB3 := hB2.trans (hb3.mono hB2.size)
        obtain ⟨xa, xc, rfl, hx1⟩ := ho1.readsC
        obtain ⟨ya, yc, rfl, hy2⟩ := ho2.readsC
        obtain ⟨za, zc, rfl, hz3⟩ := ho3.readsC
        have hx3 := (hx1.later hb2).later hb3
        have hy3 := hy2.later hb3
        have hb2' : 2 ≤ a2 := hg1.1.1
        have hb9 : a2 ≤ 36 := hg1.1.2.1
        have hZ := app_num a0 a1 a2
        have hX0 : 0 ≤ numB a0 a2 a0.size := numB_nonneg (by omega) _
        have hY0 : 0 ≤ numB a1 a2 a1.size := numB_nonneg (by omega) _
        have l1 := hg1.2
        have l2 := hg2.2
        have l3 := hg3.2
        rw [hZ] at l3 hz3 ⊢
        have nX := num_words hX0
        have nY := num_words hY0
        have dX := Dg_words (numB a0 a2 a0.size)
        have dY := Dg_words (numB a1 a2 a1.size)
        have hw1 : Ws [a2] := Dg.one ⟨by omega, by omega⟩
        have n2 : num [a2] = a2 := by simp [num, val]
        have hwb : IntKind.u64.wrap a2 = a2 := by rw [wrapU]; omega
        clear ho1 ho2 ho3 hx1 hy2 hg1 hg2 hg3 hZ
        generalize numB a0 a2 a0.size = X at *
        generalize numB a1 a2 a1.size = Y at *
        go_wp2_with fail
        refine (alive_any _).mono ?_
        rintro e wt4 ⟨rfl, hb4⟩
        have hx4 := hx3.later hb4
        have hy4 := hy3.later hb4
        have hz4 := hz3.later hb4
        have hB4 := hB3.trans (hb4.mono hB3.size)
        have hba : Below wt4.heap.size wt4 (wt4.alloc (.cells #[.int .u64 a2] 39)) := (Below.refl _ _).alloc (Nat.le_refl _) _
        have hone := rowC_one wt4 a2 39
        have hpw := pow_any hone hw1 (by omega) (a1.size : Int) (by omega) (by omega)
        have e1 : powE a2 (a1.size : Int) = resE (a2 ^ a1.size) := by unfold powE; rw [if_neg (by omega)]; rfl
        have e2 : powL a2 (a1.size : Int) = resL (a2 ^ a1.size) := by unfold powL; rw [if_neg (by omega)]; rfl
        rw [n2, e1, e2] at hpw
        have hx5 := hx4.later hba
        have hy5 := hy4.later hba
        have hz5 := hz4.later hba
        have hB5 := hB4.trans (hba.mono hB4.size)
        clear hx3 hy3 hz3 hx4 hy4 hz4 hone e1 e2
        by_cases hE : resE (a2 ^ a1.size) = 0
        · obtain ⟨el, eb⟩ := res_ok hE
          rw [hE, el] at hpw
          have hP0 : 0 < a2 ^ a1.size := Int.pow_pos (by omega)
          have nP := num_words (Int.le_of_lt hP0)
          have dP := Dg_words (a2 ^ a1.size)
          have lp := eb
          clear hE el eb
          generalize a2 ^ a1.size = P at *
          have hXP0 : 0 ≤ X * P := Int.mul_nonneg hX0 (Int.le_of_lt hP0)
          have fq := res_fits (N := X * P) (by have := words_mono hXP0 (show X * P ≤ X * P + Y by omega); omega)
          have fs := res_fits (N := X * P + Y) l3
          have nq := num_words hXP0
          have dq := Dg_words (X * P)
          have lq := words_mono hXP0 (show X * P ≤ X * P + Y by omega)
          go_wp2_with fail
          refine hpw.mono ?_
          rintro e wt6 ⟨v6, rfl, ho6, hb6⟩
          obtain ⟨pa, pc, rfl, hp6⟩ := ho6.readsC
          have hx6 := hx5.later hb6
          have hy6 := hy5.later hb6
          have hz6 := hz5.later hb6
          have hB6 := hB5.trans (hb6.mono hB5.size)
          have hml := natMul_any hx6 hp6 dX dP (by omega) (by omega)
          rw [nX, nP, fq.1, fq.2] at hml
          clear hpw ho6 hx5 hy5 hz5
          generalize (words P).length = pl at *
          go_wp2_with fail
          refine hml.mono ?_
          rintro e wt7 ⟨v7, rfl, ho7, hb7⟩
          obtain ⟨qa, qc, rfl, hq7⟩ := ho7.readsC
          have hy7 := hy6.later hb7
          have hz7 := hz6.later hb7
          have hB7 := hB6.trans (hb7.mono hB6.size)
          have had := natAdd_any hq7 hy7 dq dY (by omega) (by omega)
          rw [nq, nY, fs.1, fs.2] at had
          clear hml ho7 hy6 hz6 hx6 hp6
          generalize (words (X * P)).length = ql at *
          generalize (words Y).length = yl at *
          go_wp2_with fail
          refine had.mono ?_
          rintro e wt8 ⟨v8, rfl, ho8, hb8⟩
          obtain ⟨sa, sc, rfl, hs8⟩ := ho8.readsC
          have hz8 := hz7.later hb8
          have hB8 := hB7.trans (hb8.mono hB7.size)
          have hsm := sameN hz8 hs8 (by omega) (by omega) rfl
          clear had ho8 hy7 hz7 hq7
          generalize (words (X * P + Y)).length = sl at *
          go_wp2_with fail
          refine hsm.mono ?_
          rintro e wt9 ⟨rfl, hb9'⟩
          have hB9 := hB8.trans (hb9'.mono hB8.size)
          go_wp2
          go_ret
          exact ⟨rfl, hB9⟩
        · have hX : X = 0 := long_pow hX0 hY0 hb2' l3 hE
          have q21 : resE (a2 ^ a1.size) = 21 := by
            unfold resE at hE ⊢
            split at hE
            · exact absurd rfl hE
            · rename_i h; rw [if_neg h]
          have qnil : resL (a2 ^ a1.size) = [] := by
            unfold resE at hE
            unfold resL
            split at hE
            · exact absurd rfl hE
            · rename_i h; rw [if_neg h]
          rw [q21, qnil] at hpw
          subst hX
          have ez : (0 : Int) * a2 ^ a1.size + Y = Y := by simp
          rw [ez] at l3 hz5 ⊢
          have z0 : words 0 = [] := dig_zero _
          rw [z0] at hx5 nX dX l1 ⊢
          clear q21 qnil hE ez z0
          go_wp2_with fail
          refine hpw.mono ?_
          rintro e wt6 ⟨v6, rfl, ho6, hb6⟩
          obtain ⟨pa, pc, rfl, hp6⟩ := ho6.readsC
          have hx6 := hx5.later hb6
          have hy6 := hy5.later hb6
          have hz6 := hz5.later hb6
          have hB6 := hB5.trans (hb6.mono hB5.size)
          have hnm := natNorm_any hx6 dX (by simp)
          rw [nX] at hnm
          have z0 : words 0 = [] := dig_zero _
          rw [z0] at hnm
          clear hpw ho6 hx5 hy5 hz5 hp6 z0
          go_wp2_with fail
          refine hnm.mono ?_
          rintro e wt7 ⟨v7, rfl, ho7, hb7⟩
          obtain ⟨qa, qc, rfl, hq7⟩ := ho7.readsC
          have hy7 := hy6.later hb7
          have hz7 := hz6.later hb7
          have hB7 := hB6.trans (hb7.mono hB6.size)
          have hsm := sameN hz7 hy7 (by omega) (by omega) rfl
          clear hnm ho7 hy6 hz6 hx6 hq7
          generalize (words Y).length = yl at *
          go_wp2_with fail
          refine hsm.mono ?_
          rintro e wt8 ⟨rfl, hb8⟩
          have hB8 := hB7.trans (hb8.mono hB7.size)
          go_wp2
          go_ret
          exact ⟨rfl, hB8⟩
      · have hB3 := hB2.trans (hb3.mono hB2.size)
        go_wp2_with fail
        refine (alive_any _).mono ?_
        rintro e wt4 ⟨rfl, hb4⟩
        have hB4 := hB3.trans (hb4.mono hB3.size)
        go_wp2_with fail
        refine (alive_any _).mono ?_
        rintro e wt5 ⟨rfl, hb5⟩
        have hB5 := hB4.trans (hb5.mono hB4.size)
        go_wp2
        go_ret
        exact ⟨rfl, hB5⟩
    · have hB2 := hb1.trans (hb2.mono hb1.size)
      go_wp2_with fail
      refine (h2 _).mono ?_
      intro e wt3 hp
      rcases hp with ⟨hg3, v3, rfl, ho3, hb3⟩ | ⟨_, t3, ad3, rfl, hb3⟩
      · have hB3 := hB2.trans (hb3.mono hB2.size)
        go_wp2_with fail
        refine (alive_any _).mono ?_
        rintro e wt4 ⟨rfl, hb4⟩
        have hB4 := hB3.trans (hb4.mono hB3.size)
        go_wp2_with fail
        refine (alive_any _).mono ?_
        rintro e wt5 ⟨rfl, hb5⟩
        have hB5 := hB4.trans (hb5.mono hB4.size)
        go_wp2
        go_ret
        exact ⟨rfl, hB5⟩
      · have hB3 := hB2.trans (hb3.mono hB2.size)
        go_wp2_with fail
        refine (alive_any _).mono ?_
        rintro e wt4 ⟨rfl, hb4⟩
        have hB4 := hB3.trans (hb4.mono hB3.size)
        go_wp2_with fail
        refine (alive_any _).mono ?_
        rintro e wt5 ⟨rfl, hb5⟩
        have hB5 := hB4.trans (hb5.mono hB4.size)
        go_wp2
        go_ret
        exact ⟨rfl, hB5⟩
  · clear h0
    go_wp2_with fail
    refine (h1 _).mono ?_
    intro e wt2 hp
    rcases hp with ⟨hg2, v2, rfl, ho2, hb2⟩ | ⟨_, t2, ad2, rfl, hb2⟩
    · have hB2 := hb1.trans (hb2.mono hb1.size)
      go_wp2_with fail
      refine (h2 _).mono ?_
      intro e wt3 hp
      rcases hp with ⟨hg3, v3, rfl, ho3, hb3⟩ | ⟨_, t3, ad3, rfl, hb3⟩
      · have hB3 := hB2.trans (hb3.mono hB2.size)
        go_wp2_with fail
        refine (alive_any _).mono ?_
        rintro e wt4 ⟨rfl, hb4⟩
        have hB4 := hB3.trans (hb4.mono hB3.size)
        go_wp2_with fail
        refine (alive_any _).mono ?_
        rintro e wt5 ⟨rfl, hb5⟩
        have hB5 := hB4.trans (hb5.mono hB4.size)
        go_wp2
        go_ret
        exact ⟨rfl, hB5⟩
      · have hB3 := hB2.trans (hb3.mono hB2.size)
        go_wp2_with fail
        refine (alive_any _).mono ?_
        rintro e wt4 ⟨rfl, hb4⟩
        have hB4 := hB3.trans (hb4.mono hB3.size)
        go_wp2_with fail
        refine (alive_any _).mono ?_
        rintro e wt5 ⟨rfl, hb5⟩
        have hB5 := hB4.trans (hb5.mono hB4.size)
        go_wp2
        go_ret
        exact ⟨rfl, hB5⟩
    · have hB2 := hb1.trans (hb2.mono hb1.size)
      go_wp2_with fail
      refine (h2 _).mono ?_
      intro e wt3 hp
      rcases hp with ⟨hg3, v3, rfl, ho3, hb3⟩ | ⟨_, t3, ad3, rfl, hb3⟩
      · have hB3 := hB2.trans (hb3.mono hB2.size)
        go_wp2_with fail
        refine (alive_any _).mono ?_
        rintro e wt4 ⟨rfl, hb4⟩
        have hB4 := hB3.trans (hb4.mono hB3.size)
        go_wp2_with fail
        refine (alive_any _).mono ?_
        rintro e wt5 ⟨rfl, hb5⟩
        have hB5 := hB4.trans (hb5.mono hB4.size)
        go_wp2
        go_ret
        exact ⟨rfl, hB5⟩
      · have hB3 := hB2.trans (hb3.mono hB2.size)
        go_wp2_with fail
        refine (alive_any _).mono ?_
        rintro e wt4 ⟨rfl, hb4⟩
        have hB4 := hB3.trans (hb4.mono hB3.size)
        go_wp2_with fail
        refine (alive_any _).mono ?_
        rintro e wt5 ⟨rfl, hb5⟩
        have hB5 := hB4.trans (hb5.mono hB4.size)
        go_wp2
        go_ret
        exact ⟨rfl, hB5⟩

/-! ### THE ROW's STEP: WRITTEN OUT: LEAVE IT -/
set_option maxRecDepth 100000 in
theorem reads (os : Os) {H : Type} (enc : TypeId × Value → H) : ∃ places, DataW.whole enc Tryd.prog ((World.laidAll Tryd.prog os Rows.radixJoinsUptoRow.laid).forCall (fun _ _ => 0) ⟨#[], #[.string ByteArray.empty, .string ByteArray.empty, .int .i64 0], []⟩).memory Tryd.f4.params.toList Rows.radixJoinsSpec.vars false (#[.string ByteArray.empty, .string ByteArray.empty, .int .i64 0] : Array Value).toList 8 = some ([.lit (.string []), .lit (.string []), .lit (.int .i64 0)], [], places) :=
  ⟨[], by kernel_rfl⟩
set_option maxRecDepth 100000 in
theorem lifted (os : Os) (started : os.Started) (H : Type) (enc : TypeId × Value → H) (F : Stop.Interp) :
    ReturnsInHanded {} Tryd.checked os 4 .any ((Rows.OpenSpec.upto Rows.radixJoinsSpec).preRow enc Tryd.prog Tryd.f4 Rows.radixJoinsUptoRow.domain false Rows.radixJoinsUptoRow.laid) (((Rows.OpenSpec.upto Rows.radixJoinsSpec).at F).post enc Tryd.prog Tryd.f4 false true false false) := by
  obtain ⟨places, hx⟩ := reads os enc
  refine returnsInHanded_of_row (C := Tryd.checked) (s := (Rows.OpenSpec.upto Rows.radixJoinsSpec)) own started (by kernel_rfl) Tryd.func4
    (witness_row_at (enc := enc) (C := Tryd.checked) false (World.laidAll Tryd.prog os Rows.radixJoinsUptoRow.laid) #[.string ByteArray.empty, .string ByteArray.empty, .int .i64 0] (World.laidAll_os _ _ _) (by kernel_rfl) (by kernel_rfl) (by kernel_rfl)
      (OpenSpec.preRow_of_cond 8 hx (by kernel_rfl) (fun k hk => by cases hk; kernel_rfl) (by kernel_rfl) (laidMet_laidAll _ (by kernel_rfl) (by kernel_rfl)))) ?_
  intro W base args ds gs before hval0 hW _ hcond _ hL _ _
  have hval : ∀ (j : Nat) t v, Tryd.f4.params[j]? = some t → args[j]? = some v → Value.okWide Tryd.prog W .any base t v := hval0
  have hk := hcond _ rfl
  have hW' := hW
  obtain ⟨p, q, hA0, hV, rfl, hfz, hnd⟩ := hW
  have hA : DataW.TrodAll enc Tryd.prog W 0 (fun _ => true) true Tryd.f4.params.toList args.toList ds p := hA0
  rw [Tryd.params4] at hA hval
  obtain ⟨v0, vs0, d0, ds0, p0, q0, hargs, rfl, rfl, h0, r0⟩ := trodAll_cons hA
  obtain ⟨v1, vs1, d1, ds1, p1, q1, rfl, rfl, rfl, h1, r1⟩ := trodAll_cons r0
  obtain ⟨v2, vs2, d2, ds2, p2, q2, rfl, rfl, rfl, h2, r2⟩ := trodAll_cons r1
  obtain ⟨rfl, rfl, rfl⟩ := trodAll_nil r2
  obtain rfl : args = #[v0, v1, v2] := by cases args; simp_all
  obtain ⟨rfl, rfl⟩ := trodVars_none hV
  obtain ⟨a0, rfl, rfl, rfl, w0⟩ := open_string Tryd.underlying9 (hval 0 9 v0 rfl rfl) h0
  obtain ⟨a1, rfl, rfl, rfl, w1⟩ := open_string Tryd.underlying9 (hval 1 9 v1 rfl rfl) h1
  obtain ⟨a2, rfl, rfl, rfl, w2⟩ := open_int Tryd.underlying3 (hval 2 3 v2 rfl rfl) h2
  have bs0 : a0.size ≤ 1048576 := by
    have q := bulk_string (bs := a0.data.toList) hk (by simp)
    rw [Array.length_toList] at q
    exact q
  have bs1 : a1.size ≤ 1048576 := by
    have q := bulk_string (bs := a1.data.toList) hk (by simp)
    rw [Array.length_toList] at q
    exact q
  clear hA0 hval0
  simp only [List.append_nil] at hW'
  refine (walk a0 a1 a2 w0 w1 w2 W bs0 bs1).mono fun e W' ⟨he, hg⟩ => ?_
  subst he
  exact ⟨_, rfl, _, _, _, [], _, [], hW', trodAll_mk1 (shut_bool Tryd.underlying4 _), (trodAll_cons_mk (shut_string Tryd.underlying9 w0) (trodAll_cons_mk (shut_string Tryd.underlying9 w1) (trodAll_cons_mk (shut_int Tryd.underlying3 w2) trodAll_mk0))), rfl, hg.frame _, fun h => by cases h⟩

theorem over : Rows.radixJoinsUptoRow.holds Tryd.pinned (Rows.OpenSpec.upto Rows.radixJoinsSpec) :=
  OpenClaim.holds_of_cond 4 Tryd.f4 rfl rfl rfl rfl rfl rfl rfl ⟨rfl, rfl, rfl, rfl, rfl⟩ rfl rfl rfl rfl rfl (by kernel_rfl) Tryd.func4 (by kernel_rfl)
    (of_decide_eq_true (by kernel_rfl)) (by unfold Func.isWrapper; first | (rw [if_pos (by decide +kernel)]; kernel_rfl) | (rw [if_neg (by decide +kernel)]; exact ⟨rfl, rfl⟩))
    (fun os started H enc _ F => by rw [OpenClaim.pre_eq_preRow]; exact lifted os started H enc F)
theorem plain (f : FuncId) (fn : Func) (hf : Tryd.pinned.checked.prog.funcNamed "plumb/plumblaw04.RadixJoins" = some f) (hfn : Tryd.pinned.checked.prog.funcs[f]? = some fn) :
    false = Tryd.pinned.checked.prog.looks [] ∧ ∀ (j : Nat) t, fn.params[j]? = some t → Tryd.pinned.checked.prog.wantsStandIn t = false := by
  obtain rfl : f = 4 := Option.some.inj ((show Tryd.prog.funcNamed "plumb/plumblaw04.RadixJoins" = some 4 by kernel_rfl).symm.trans hf) |>.symm
  obtain rfl : fn = Tryd.f4 := (Option.some.inj (Tryd.func4.symm.trans hfn)).symm
  refine ⟨by kernel_rfl, fun j t ht => ?_⟩
  rw [Tryd.params4] at ht
  have hall : ∀ t ∈ (Tryd.f4.params).toList, Tryd.prog.wantsStandIn t = false := by
    rw [Tryd.params4]
    intro t ht
    simp only [List.mem_cons, List.mem_nil_iff, or_false] at ht
    rcases ht with rfl | rfl | rfl <;> kernel_rfl
  exact hall t (by rw [Tryd.params4]; exact Array.mem_toList_iff.mpr (Array.mem_of_getElem? ht))
/-- the statement -/
theorem proved : Rows.RadixJoinsUptoCardSaid :=
  Claim7.holds_tied_plain_at .later [] _ _ _ _ over (fun _ h => by cases h) (by kernel_rfl) (fun _ h => by cases h) radixJoinsUpto_row_tie rfl ⟨rfl, rfl⟩ (by kernel_rfl) rfl plain (by kernel_rfl)
#print axioms proved
end Go.Proofs.YtfnpigkiookejaaDoor.radixJoins
