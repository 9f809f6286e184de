/-
  THE SHELL OF A PROOF OF 'Rows.F64ExactSaid' ('plumb/plumblaw06.F64Exact'), WRITTEN BY PROGRAM (proof-skeleton.mjs) off the guide's own print for that function. Not trusted: Lean checks it.
  YOURS ARE THE HOLES MARKED 'HOLE' (filled). ALL ELSE IS THE GUIDE's TEMPLATE (howto/template/XProofs.lean) at this function's number and types: leave it.
-/
import Derived.Test.YteohdooeinogoabRows
import Derived.WalkKit
import Derived.ProofKit
import Derived.OpenShut
import Derived.ShutString
import Derived.WalkLawsBesides
import Derived.WalkSpells
import Derived.Deep.RegionWith
import Derived.Deep.DeepCutAuto
import Derived.Deep.DeepFit
import Derived.Test.YteohdooeinogoabF64X
namespace Go.Proofs.Yteohdooeinogoab.f64Exact
open Go.ChangeShapes Go.WideShapes Go.ChangeAt Go.RowKit
open Go.ChangeMaps (open_string shut_string)
set_option linter.unusedVariables false      -- a walk need not use every 'w<i>' (that an integer argument fits its kind)

theorem own : ownKnob Try.prog.godebug = none := by kernel_rfl

open Na Ar
set_option maxHeartbeats 1000000 in
theorem exact_no {s : Bool} {m x z n : Int} (hm : U m) (h0 : (m == 0) = false) (hz : zerosN m = z) (hn : bitsN m = n) (z1 : 0 ≤ z) (z2 : z ≤ 63) (n1 : 1 ≤ n) (n2 : n ≤ 64)
    (hJ : ∀ w : World, Calls Try.prog 20 #[.bool s, .int .u64 m, .int .i64 x] w fun e w' => e = .returned (.tuple #[.int .u64 0, .int .i64 61]) ∧ Gr w w')
    (hC : ¬ (-4000 ≤ x ∧ x ≤ 4000 ∧ n - z ≤ 53 ∧ -1074 ≤ x + z ∧ x + n ≤ 1024)) (w : World) :
    Calls Try.prog 6 #[.bool s, .int .u64 m, .int .i64 x] w fun e w' => e = .returned (.bool true) ∧ Below w.heap.size w w' := by
  by_cases c1 : x < -4000
  · clear hC
    go_enter Try.func6, Try.ntmps6
    go_wp2_with fail
    refine (hJ _).mono ?_
    rintro e w1 ⟨rfl, hg1⟩
    go_wp2_with fail
    refine (f6alive_any _).mono ?_
    rintro e w2 ⟨rfl, hg2⟩
    have hB2 := (gr_trans hg1 hg2).2
    clear hg1 hg2
    go_wp2_with fail
    refine (zerosOne hm hz w2).mono ?_
    rintro e w3 ⟨rfl, hb3⟩
    have hB3 := hB2.trans (hb3.mono hB2.size)
    clear hb3 hB2
    go_wp2_with fail
    refine (bitsOne hm hn w3).mono ?_
    rintro e w4 ⟨rfl, hb4⟩
    have hB4 := hB3.trans (hb4.mono hB3.size)
    clear hb4 hB3
    go_wp2_with fail
    go_ret
    exact ⟨rfl, hB4⟩
  · by_cases c2 : 4000 < x
    · clear hC
      go_enter Try.func6, Try.ntmps6
      go_wp2_with fail
      refine (hJ _).mono ?_
      rintro e w1 ⟨rfl, hg1⟩
      go_wp2_with fail
      refine (f6alive_any _).mono ?_
      rintro e w2 ⟨rfl, hg2⟩
      have hB2 := (gr_trans hg1 hg2).2
      clear hg1 hg2
      go_wp2_with fail
      refine (zerosOne hm hz w2).mono ?_
      rintro e w3 ⟨rfl, hb3⟩
      have hB3 := hB2.trans (hb3.mono hB2.size)
      clear hb3 hB2
      go_wp2_with fail
      refine (bitsOne hm hn w3).mono ?_
      rintro e w4 ⟨rfl, hb4⟩
      have hB4 := hB3.trans (hb4.mono hB3.size)
      clear hb4 hB3
      go_wp2_with fail
      go_ret
      exact ⟨rfl, hB4⟩
    · by_cases c3 : 53 < n - z
      · clear hC
        go_enter Try.func6, Try.ntmps6
        go_wp2_with fail
        refine (hJ _).mono ?_
        rintro e w1 ⟨rfl, hg1⟩
        go_wp2_with fail
        refine (f6alive_any _).mono ?_
        rintro e w2 ⟨rfl, hg2⟩
        have hB2 := (gr_trans hg1 hg2).2
        clear hg1 hg2
        go_wp2_with fail
        refine (zerosOne hm hz w2).mono ?_
        rintro e w3 ⟨rfl, hb3⟩
        have hB3 := hB2.trans (hb3.mono hB2.size)
        clear hb3 hB2
        go_wp2_with fail
        refine (bitsOne hm hn w3).mono ?_
        rintro e w4 ⟨rfl, hb4⟩
        have hB4 := hB3.trans (hb4.mono hB3.size)
        clear hb4 hB3
        go_wp2_with fail
        go_ret
        exact ⟨rfl, hB4⟩
      · by_cases c4 : x + z < -1074
        · clear hC
          go_enter Try.func6, Try.ntmps6
          go_wp2_with fail
          refine (hJ _).mono ?_
          rintro e w1 ⟨rfl, hg1⟩
          go_wp2_with fail
          refine (f6alive_any _).mono ?_
          rintro e w2 ⟨rfl, hg2⟩
          have hB2 := (gr_trans hg1 hg2).2
          clear hg1 hg2
          go_wp2_with fail
          refine (zerosOne hm hz w2).mono ?_
          rintro e w3 ⟨rfl, hb3⟩
          have hB3 := hB2.trans (hb3.mono hB2.size)
          clear hb3 hB2
          go_wp2_with fail
          refine (bitsOne hm hn w3).mono ?_
          rintro e w4 ⟨rfl, hb4⟩
          have hB4 := hB3.trans (hb4.mono hB3.size)
          clear hb4 hB3
          go_wp2_with fail
          go_ret
          exact ⟨rfl, hB4⟩
        · have c5 : 1024 < x + n := by omega
          clear hC
          go_enter Try.func6, Try.ntmps6
          go_wp2_with fail
          refine (hJ _).mono ?_
          rintro e w1 ⟨rfl, hg1⟩
          go_wp2_with fail
          refine (f6alive_any _).mono ?_
          rintro e w2 ⟨rfl, hg2⟩
          have hB2 := (gr_trans hg1 hg2).2
          clear hg1 hg2
          go_wp2_with fail
          refine (zerosOne hm hz w2).mono ?_
          rintro e w3 ⟨rfl, hb3⟩
          have hB3 := hB2.trans (hb3.mono hB2.size)
          clear hb3 hB2
          go_wp2_with fail
          refine (bitsOne hm hn w3).mono ?_
          rintro e w4 ⟨rfl, hb4⟩
          have hB4 := hB3.trans (hb4.mono hB3.size)
          clear hb4 hB3
          go_wp2_with fail
          go_ret
          exact ⟨rfl, hB4⟩
set_option maxHeartbeats 1000000 in
theorem exact_yes {s : Bool} {m x z n b M X : Int} (hm : U m) (h0 : (m == 0) = false) (hz : zerosN m = z) (hn : bitsN m = n) (z1 : 0 ≤ z) (z2 : z ≤ 63) (n1 : 1 ≤ n) (n2 : n ≤ 64)
    (hJ : ∀ w : World, Calls Try.prog 20 #[.bool s, .int .u64 m, .int .i64 x] w fun e w' => e = .returned (.tuple #[.int .u64 b, .int .i64 0]) ∧ Gr w w')
    (hS : ∀ w : World, Calls Try.prog 16 #[.int .u64 b] w fun e w' => e = .returned (.tuple #[.bool s, .int .u64 M, .int .i64 X, .int .i64 0]) ∧ w = w')
    (c1 : -4000 ≤ x) (c2 : x ≤ 4000) (c3 : n - z ≤ 53) (c4 : -1074 ≤ x + z) (c5 : x + n ≤ 1024) (hM : U M) (x1 : -1074 ≤ X) (x2 : X ≤ 971) (t : Nat) (ht : t ≤ 63) (hX : (X ≤ x ∧ x - X = (t : Int) ∧ M = m * 2 ^ t) ∨ (x < X ∧ X - x = (t : Int) ∧ m = M * 2 ^ t)) (w : World) :
    Calls Try.prog 6 #[.bool s, .int .u64 m, .int .i64 x] w fun e w' => e = .returned (.bool true) ∧ Below w.heap.size w w' := by
  have q : (s != s) = false := by simp
  rcases hX with ⟨l, d, hE⟩ | ⟨l, d, hE⟩
  · have hE' : Hid (M = m * 2 ^ t) := hE
    clear hE
    have hp : ∀ w : World, Calls Try.prog 23 #[.slice (some ⟨w.heap.size, 0, none⟩) 1 1, .int .i64 (t : Int)] (w.alloc (.cells #[.int .u64 m] 22)) fun e w' => ∃ a n c l, e = .returned (.tuple #[.slice a n c, .int .i64 0]) ∧ RowC w' a n c l ∧ Nm l M ∧ Below w.heap.size w w' := by
      intro w
      rw [hE'.out]
      exact shlOne hm t (by omega) w
    have hq : ∀ w : World, Calls Try.prog 23 #[.slice (some ⟨w.heap.size, 0, none⟩) 1 1, .int .i64 0] (w.alloc (.cells #[.int .u64 M] 22)) fun e w' => ∃ a n c l, e = .returned (.tuple #[.slice a n c, .int .i64 0]) ∧ RowC w' a n c l ∧ Nm l M ∧ Below w.heap.size w w' := by
      intro w
      have h := shlOne hM 0 (by omega) w
      rw [Int.pow_zero, Int.mul_one] at h
      exact h
    clear hE'
    go_enter Try.func6, Try.ntmps6
    go_wp2_with fail
    refine (hJ _).mono ?_
    rintro e w1 ⟨rfl, hg1⟩
    go_wp2_with fail
    refine (f6alive_any _).mono ?_
    rintro e w2 ⟨rfl, hg2⟩
    have hB2 := (gr_trans hg1 hg2).2
    clear hg1 hg2
    go_wp2_with fail
    refine (zerosOne hm hz w2).mono ?_
    rintro e w3 ⟨rfl, hb3⟩
    have hB3 := hB2.trans (hb3.mono hB2.size)
    clear hb3 hB2
    go_wp2_with fail
    refine (bitsOne hm hn w3).mono ?_
    rintro e w4 ⟨rfl, hb4⟩
    have hB4 := hB3.trans (hb4.mono hB3.size)
    clear hb4 hB3
    go_wp2_with fail
    refine (hS _).mono ?_
    rintro e w' ⟨rfl, rfl⟩
    go_wp2_with fail
    refine (hp _).mono ?_
    rintro e w5 ⟨p1, p2, p3, p4, rfl, r1, k1, hb5⟩
    have hB5 := hB4.trans (hb5.mono hB4.size)
    clear hb5 hB4
    go_wp2_with fail
    refine (hq _).mono ?_
    rintro e w6 ⟨q1, q2, q3, q4, rfl, r2, k2, hb6⟩
    have r1' := r1.later hb6
    have hB6 := hB5.trans (hb6.mono hB5.size)
    clear hb6 hB5 r1
    go_wp2_with fail
    refine (cmpK r1' r2 k1 k2 (ordN_self _)).mono ?_
    rintro e w7 ⟨rfl, hb7⟩
    have hB7 := hB6.trans (hb7.mono hB6.size)
    go_wp2_with fail
    go_ret
    exact ⟨rfl, hB7⟩
  · have hE' : Hid (m = M * 2 ^ t) := hE
    clear hE
    have hq : ∀ w : World, Calls Try.prog 23 #[.slice (some ⟨w.heap.size, 0, none⟩) 1 1, .int .i64 (t : Int)] (w.alloc (.cells #[.int .u64 M] 22)) fun e w' => ∃ a n c l, e = .returned (.tuple #[.slice a n c, .int .i64 0]) ∧ RowC w' a n c l ∧ Nm l m ∧ Below w.heap.size w w' := by
      intro w
      have h := shlOne hM t (by omega) w
      rw [← hE'.out] at h
      exact h
    have hp : ∀ w : World, Calls Try.prog 23 #[.slice (some ⟨w.heap.size, 0, none⟩) 1 1, .int .i64 0] (w.alloc (.cells #[.int .u64 m] 22)) fun e w' => ∃ a n c l, e = .returned (.tuple #[.slice a n c, .int .i64 0]) ∧ RowC w' a n c l ∧ Nm l m ∧ Below w.heap.size w w' := by
      intro w
      have h := shlOne hm 0 (by omega) w
      rw [Int.pow_zero, Int.mul_one] at h
      exact h
    clear hE'
    go_enter Try.func6, Try.ntmps6
    go_wp2_with fail
    refine (hJ _).mono ?_
    rintro e w1 ⟨rfl, hg1⟩
    go_wp2_with fail
    refine (f6alive_any _).mono ?_
    rintro e w2 ⟨rfl, hg2⟩
    have hB2 := (gr_trans hg1 hg2).2
    clear hg1 hg2
    go_wp2_with fail
    refine (zerosOne hm hz w2).mono ?_
    rintro e w3 ⟨rfl, hb3⟩
    have hB3 := hB2.trans (hb3.mono hB2.size)
    clear hb3 hB2
    go_wp2_with fail
    refine (bitsOne hm hn w3).mono ?_
    rintro e w4 ⟨rfl, hb4⟩
    have hB4 := hB3.trans (hb4.mono hB3.size)
    clear hb4 hB3
    go_wp2_with fail
    refine (hS _).mono ?_
    rintro e w' ⟨rfl, rfl⟩
    go_wp2_with fail
    refine (hp _).mono ?_
    rintro e w5 ⟨p1, p2, p3, p4, rfl, r1, k1, hb5⟩
    have hB5 := hB4.trans (hb5.mono hB4.size)
    clear hb5 hB4
    go_wp2_with fail
    refine (hq _).mono ?_
    rintro e w6 ⟨q1, q2, q3, q4, rfl, r2, k2, hb6⟩
    have r1' := r1.later hb6
    have hB6 := hB5.trans (hb6.mono hB5.size)
    clear hb6 hB5 r1
    go_wp2_with fail
    refine (cmpK r1' r2 k1 k2 (ordN_self _)).mono ?_
    rintro e w7 ⟨rfl, hb7⟩
    have hB7 := hB6.trans (hb7.mono hB6.size)
    go_wp2_with fail
    go_ret
    exact ⟨rfl, hB7⟩
/-! ### STEP 1: THE WALK: the Go text returns true. 'Grown w w'': the world has at most new blocks (Derived/RowKit3.lean). Part the cases AHEAD of 'go_enter' where a test parts the walk; take each callee by a contract of your own. -/
theorem walk (a0 : Bool) (a1 : Int) (a2 : Int) (w1 : (Lit.int .u64 a1).wf = true) (w2 : (Lit.int .i64 a2).wf = true) (w : World) :
    Calls Try.prog 6 #[.bool a0, .int .u64 a1, .int .i64 a2] w fun e w' => e = .returned (.bool true) ∧ Below w.heap.size w w' := by
  have hm := U_of w1
  have hJ0 := fun w => f6Join_any a0 a2 hm w
  clear w1
  by_cases h0 : a1 = 0
  · have hJ : ∀ w : World, Calls Try.prog 20 #[.bool a0, .int .u64 a1, .int .i64 a2] w fun e w' => e = .returned (.tuple #[.int .u64 (sg a0), .int .i64 0]) ∧ Gr w w' := fun w => (hJ0 w).mono (by
      rintro e w' ⟨b, c, rfl, hg, h⟩
      obtain ⟨rfl, rfl⟩ := joinIs_uniq h (Or.inl ⟨h0, rfl, rfl⟩)
      exact ⟨rfl, hg⟩)
    clear hJ0
    subst h0
    cases a0
    · have e : sg false = 0 := rfl
      rw [e] at hJ
      clear e
      go_enter Try.func6, Try.ntmps6
      go_wp2_with fail
      refine (hJ _).mono ?_
      rintro e w1 ⟨rfl, hg1⟩
      go_wp2_with fail
      refine (f6alive_any _).mono ?_
      rintro e w2 ⟨rfl, hg2⟩
      have hB2 := (gr_trans hg1 hg2).2
      clear hg1 hg2
      go_wp2_with fail
      go_ret
      exact ⟨rfl, hB2⟩
    · have e : sg true = 9223372036854775808 := rfl
      rw [e] at hJ
      clear e
      go_enter Try.func6, Try.ntmps6
      go_wp2_with fail
      refine (hJ _).mono ?_
      rintro e w1 ⟨rfl, hg1⟩
      go_wp2_with fail
      refine (f6alive_any _).mono ?_
      rintro e w2 ⟨rfl, hg2⟩
      have hB2 := (gr_trans hg1 hg2).2
      clear hg1 hg2
      go_wp2_with fail
      go_ret
      exact ⟨rfl, hB2⟩
  · have z0 : (a1 == 0) = false := beq_no h0
    obtain ⟨b1, b2, b3⟩ := bits_len hm h0
    obtain ⟨y1, y2⟩ := zeros_bd hm h0
    by_cases hC : ExC a1 a2
    · obtain ⟨M, nf, hA⟩ := exc_yes hm h0 hC
      have hx := nf.1
      obtain ⟨_, x1, m1, m2, m3⟩ := nf
      obtain ⟨u1, u2, u3, u4, u5⟩ := split_of (s := a0) rfl x1 hA m1 m2 m3
      have hJ : ∀ w : World, Calls Try.prog 20 #[.bool a0, .int .u64 a1, .int .i64 a2] w fun e w' => e = .returned (.tuple #[.int .u64 (sg a0 + (atX a1 a2 + 1074) * 4503599627370496 + M), .int .i64 0]) ∧ Gr w w' := fun w => (hJ0 w).mono (by
        rintro e w' ⟨b, c, rfl, hg, h⟩
        obtain ⟨rfl, rfl⟩ := joinIs_uniq h (join_ok h0 ⟨hx, x1, m1, m2, m3⟩ hA)
        exact ⟨rfl, hg⟩)
      have hS := fun w => f6Split_any u1 w
      rw [u2, u3, u4, u5] at hS
      obtain ⟨c1, c2, c3, c4, c5⟩ := hC
      have hM : U M := by unfold U; omega
      have hXX : (atX a1 a2 ≤ a2 ∧ a2 - atX a1 a2 = (((a2 - atX a1 a2).natAbs : Nat) : Int) ∧ M = a1 * 2 ^ (a2 - atX a1 a2).natAbs) ∨ (a2 < atX a1 a2 ∧ atX a1 a2 - a2 = (((a2 - atX a1 a2).natAbs : Nat) : Int) ∧ a1 = M * 2 ^ (a2 - atX a1 a2).natAbs) := by
        by_cases l : atX a1 a2 ≤ a2
        · left
          refine ⟨l, by omega, ?_⟩
          rcases hx with ⟨_, e⟩ | ⟨l2, e⟩
          · have : (a2 - atX a1 a2).natAbs = (a2 - atX a1 a2).toNat := by omega
            rw [this]; exact e
          · have e0 : a2 - atX a1 a2 = 0 := by omega
            have e1 : atX a1 a2 - a2 = 0 := by omega
            rw [e1] at e
            rw [e0]
            have e3 : e2 0 = 1 := rfl
            rw [e3] at e
            have e4 : (2 : Int) ^ (0 : Int).natAbs = 1 := rfl
            rw [e4]; omega
        · right
          refine ⟨by omega, by omega, ?_⟩
          rcases hx with ⟨l2, _⟩ | ⟨_, e⟩
          · omega
          · have : (a2 - atX a1 a2).natAbs = (atX a1 a2 - a2).toNat := by omega
            rw [this]; exact e
      have hb : (a2 - atX a1 a2).natAbs ≤ 63 := by
        have : atX a1 a2 = max (a2 + bitsN a1 - 53) (-1074) := by unfold atX; rw [b1]
        omega
      exact exact_yes hm z0 rfl rfl y1 y2 b2 b3 hJ hS c1 c2 c3 c4 c5 hM x1 hA _ hb hXX w
    · have hJ : ∀ w : World, Calls Try.prog 20 #[.bool a0, .int .u64 a1, .int .i64 a2] w fun e w' => e = .returned (.tuple #[.int .u64 0, .int .i64 61]) ∧ Gr w w' := fun w => (hJ0 w).mono (by
        rintro e w' ⟨b, c, rfl, hg, h⟩
        obtain ⟨rfl, rfl⟩ := joinIs_uniq h (Or.inr ⟨h0, Or.inr ⟨fun M X nf => by
          apply Decidable.byContradiction
          intro hc
          exact hC (exc_no hm h0 nf (by omega)), rfl, rfl⟩⟩)
        exact ⟨rfl, hg⟩)
      exact exact_no hm z0 rfl rfl y1 y2 b2 b3 hJ hC w

/-! ### THE ROW's STEP: WRITTEN OUT: LEAVE IT -/
set_option maxRecDepth 100000 in
theorem lifted (os : Os) (started : os.Started) (H : Type) (enc : TypeId × Value → H) :
    ReturnsInHanded {} Try.checked os 6 .any (Rows.f64ExactSpec.pre6 enc Try.prog Try.f6 Rows.f64ExactRow.domain false) (Rows.f64ExactSpec.post enc Try.prog Try.f6 false true false false) := by
  refine returnsInHanded_of_change (C := Try.checked) own started (by kernel_rfl) Try.func6
    (ChangeSpec.witness6 (enc := enc) (C := Try.checked) false ⟨#[], #[.bool false, .int .u64 0, .int .i64 0], []⟩ 8 (by kernel_rfl) (by kernel_rfl) (by kernel_rfl) (by kernel_rfl)) ?_
  intro W base args ds gs before hval0 hW hcnd _
  have hval : ∀ (j : Nat) t v, Try.f6.params[j]? = some t → args[j]? = some v → Value.okWide Try.prog W .any base t v := hval0
  have hW' := hW
  obtain ⟨p, q, hA0, hV, rfl, hfz, hnd⟩ := hW
  have hA : DataW.TrodAll enc Try.prog W 0 (fun _ => true) true Try.f6.params.toList args.toList ds p := hA0
  rw [Try.params6] at hA hval
  obtain ⟨v0, vs0, d0, ds0, p0, q0, hargs, rfl, rfl, h0, r0⟩ := trodAll_cons hA
  obtain ⟨v1, vs1, d1, ds1, p1, q1, rfl, rfl, rfl, h1, r1⟩ := trodAll_cons r0
  obtain ⟨v2, vs2, d2, ds2, p2, q2, rfl, rfl, rfl, h2, r2⟩ := trodAll_cons r1
  obtain ⟨rfl, rfl, rfl⟩ := trodAll_nil r2
  obtain rfl : args = #[v0, v1, v2] := by cases args; simp_all
  obtain ⟨rfl, rfl⟩ := trodVars_none hV
  obtain ⟨a0, rfl, rfl, rfl⟩ := open_bool Try.underlying4 (hval 0 4 v0 rfl rfl) h0
  obtain ⟨a1, rfl, rfl, rfl, w1⟩ := open_int Try.underlying22 (hval 1 22 v1 rfl rfl) h1
  obtain ⟨a2, rfl, rfl, rfl, w2⟩ := open_int Try.underlying3 (hval 2 3 v2 rfl rfl) h2
  clear hA0 hval0
  simp only [List.append_nil] at hW'
  refine (walk a0 a1 a2 w1 w2 W).mono fun e W' ⟨he, hg⟩ => ?_
  subst he
  exact ⟨_, rfl, _, _, _, [], _, [], hW', trodAll_mk1 (shut_bool Try.underlying4 _), (trodAll_cons_mk (shut_bool Try.underlying4 _) (trodAll_cons_mk (shut_int Try.underlying22 w1) (trodAll_cons_mk (shut_int Try.underlying3 w2) trodAll_mk0))), rfl, hg.frame _, fun h => by cases h⟩

theorem over : Rows.f64ExactRow.holds Try.pinned (OpenSpec.ofChange Rows.f64ExactSpec) :=
  OpenClaim.holds_of_wide 6 Try.f6 rfl rfl rfl rfl rfl rfl rfl ⟨rfl, rfl, rfl, rfl, rfl⟩ rfl rfl rfl rfl rfl (by kernel_rfl) Try.func6 (by kernel_rfl)
    (of_decide_eq_true (by kernel_rfl)) (by unfold Func.isWrapper; first | (rw [if_pos (by decide +kernel)]; kernel_rfl) | (rw [if_neg (by decide +kernel)]; exact ⟨rfl, rfl⟩))
    (fun os started H enc _ => lifted os started H enc)

/-- ████ THE STATEMENT ████ -/
theorem proved : Rows.F64ExactSaid :=
  over
#print axioms proved
end Go.Proofs.Yteohdooeinogoab.f64Exact
