/-
  THE SHELL OF A PROOF OF 'Rows.WideShiftsSaid' ('plumb/plumblaw01.WideShifts'), WRITTEN BY PROGRAM (proof-skeleton.mjs) off the guide's own print for that function. Not trusted: Lean checks it.
  YOURS ARE THE HOLES MARKED 'HOLE' (filled). ALL ELSE IS THE GUIDE's TEMPLATE (howto/template/XProofs.lean) at this function's number and types: leave it.
-/
import Derived.Test.YtdlfffecijimlabRows
import Derived.WalkKit
import Derived.ProofKit
import Derived.OpenShut
import Derived.ShutString
import Derived.WalkLawsBesides
import Derived.WalkSpells
import Derived.Test.YtdlfffecijimlabBits
import Derived.Test.YtdlfffecijimlabShift
import Derived.Test.YtdlfffecijimlabWide
import Derived.Test.YtdlfffecijimlabLens
import Derived.Test.YtdlfffecijimlabShifts
import Derived.Test.YtdlfffecijimlabShiftsCore
namespace Go.Proofs.Ytdlfffecijimlab.wideShifts
open Go.ChangeShapes Go.WideShapes Go.ChangeAt Go.RowKit
open Go.ChangeMaps (open_string shut_string)
open Ar
set_option linter.unusedVariables false      -- a walk need not use every 'w<i>' (that an integer argument fits its kind)

theorem own : ownKnob Try.prog.godebug = none := by kernel_rfl

theorem sh_more (a b : Int) (k : Nat) : shHi (shHi a b k) (shLo a b k) 1 = shHi a b (k + 1) ∧ shLo (shHi a b k) (shLo a b k) 1 = shLo a b (k + 1) ∧
    addLo (shLo a b k) (shLo a b k) 0 = shLo a b (k + 1) ∧ addLo (shHi a b k) (shHi a b k) (addHi (shLo a b k) (shLo a b k) 0) = shHi a b (k + 1) := by
  have e : (a * 18446744073709551616 + b) * 2 ^ (k + 1) = 2 * ((a * 18446744073709551616 + b) * 2 ^ k) := by rw [Int.pow_succ]; grind
  unfold shHi shLo addLo addHi
  rw [e]
  generalize (a * 18446744073709551616 + b) * 2 ^ k = T
  refine ⟨by omega, by omega, by omega, by omega⟩
theorem sh_cap (a b : Int) {k : Nat} (hk : k ≤ 128) : shHi a b (clampN ((k : Int) + 1)) = shHi a b (k + 1) ∧ shLo a b (clampN ((k : Int) + 1)) = shLo a b (k + 1) := by
  by_cases h : k = 128
  · subst h
    have e : clampN (((128 : Nat) : Int) + 1) = 128 := rfl
    rw [e, ← shl_hi_big (a := a) (b := b) (k := 128) (by omega), ← shl_lo_big (a := a) (b := b) (k := 128) (by omega), ← shl_hi_big (a := a) (b := b) (k := 128 + 1) (by omega), ← shl_lo_big (a := a) (b := b) (k := 128 + 1) (by omega), wrapU, wrapU]
    have e1 : (2 : Int) ^ (128 - 64) = 18446744073709551616 := rfl
    have e2 : (2 : Int) ^ (128 + 1 - 64) = 18446744073709551616 * 2 := rfl
    rw [e1, e2]
    omega
  · have e : clampN ((k : Int) + 1) = k + 1 := clampN_of (k + 1) (by omega)
    rw [e]; exact ⟨rfl, rfl⟩
theorem sr_join (a b : Int) (k : Nat) : srHi a b k * 18446744073709551616 + srLo a b k = (a * 18446744073709551616 + b) / 2 ^ k := by unfold srHi srLo; omega
theorem sr_more (a b : Int) (k : Nat) : srHi (srHi a b k) (srLo a b k) 1 = srHi a b (k + 1) ∧ srLo (srHi a b k) (srLo a b k) 1 = srLo a b (k + 1) ∧
    srLost (srHi a b k) (srLo a b k) 1 = decide ((a * 18446744073709551616 + b) / 2 ^ k % 2 ≠ 0) := by
  have e : (a * 18446744073709551616 + b) / 2 ^ (k + 1) = (a * 18446744073709551616 + b) / 2 ^ k / 2 := by rw [← div_add]; rfl
  have j := sr_join a b k
  have p : (2 : Int) ^ 1 = 2 := rfl
  refine ⟨?_, ?_, ?_⟩
  · unfold srHi at *; rw [e]; unfold srLo at *; rw [j, p]
  · unfold srLo at *; rw [e]; unfold srHi at *; rw [j, p]
  · unfold srLost; rw [j, p]
theorem sr_zero {a b : Int} (ha : U a) (hb : U b) {k : Nat} (hk : 128 ≤ k) : (a * 18446744073709551616 + b) / 2 ^ k = 0 ∧ (a * 18446744073709551616 + b) % 2 ^ k = a * 18446744073709551616 + b := by
  have h : (2 : Int) ^ 128 ≤ 2 ^ k := by
    have c1 := pow_cast 128
    have c2 := pow_cast k
    have : 2 ^ 128 ≤ 2 ^ k := Nat.pow_le_pow_right (by omega) hk
    omega
  rw [p128] at h
  unfold U at *
  exact ⟨Int.ediv_eq_zero_of_lt (by omega) (by omega), Int.emod_eq_of_lt (by omega) (by omega)⟩
theorem sr_cap {a b : Int} (ha : U a) (hb : U b) {k : Nat} (hk : k ≤ 128) : srHi a b (clampN ((k : Int) + 1)) = srHi a b (k + 1) ∧ srLo a b (clampN ((k : Int) + 1)) = srLo a b (k + 1) ∧ srLost a b (clampN ((k : Int) + 1)) = srLost a b (k + 1) := by
  by_cases h : k = 128
  · subst h
    have e : clampN (((128 : Nat) : Int) + 1) = 128 := rfl
    rw [e]
    unfold srHi srLo srLost
    rw [(sr_zero ha hb (k := 128) (by omega)).1, (sr_zero ha hb (k := 128 + 1) (by omega)).1, (sr_zero ha hb (k := 128) (by omega)).2, (sr_zero ha hb (k := 128 + 1) (by omega)).2]
    exact ⟨rfl, rfl, rfl⟩
  · have e : clampN ((k : Int) + 1) = k + 1 := clampN_of (k + 1) (by omega)
    rw [e]; exact ⟨rfl, rfl, rfl⟩
theorem lost_more (a b : Int) (k : Nat) : srLost a b (k + 1) = (decide ((a * 18446744073709551616 + b) / 2 ^ k % 2 ≠ 0) || srLost a b k) := by
  have e := emod_succ (a * 18446744073709551616 + b) k
  have p := pow_pos k
  have m : 0 ≤ (a * 18446744073709551616 + b) % 2 ^ k := Int.emod_nonneg _ (by omega)
  unfold srLost
  rw [e, Bool.eq_iff_iff]
  have t : (a * 18446744073709551616 + b) / 2 ^ k % 2 = 0 ∨ (a * 18446744073709551616 + b) / 2 ^ k % 2 = 1 := by omega
  generalize (a * 18446744073709551616 + b) / 2 ^ k % 2 = x at *
  generalize (a * 18446744073709551616 + b) % 2 ^ k = y at *
  generalize (2 : Int) ^ k = P at *
  rcases t with rfl | rfl <;> simp <;> omega
theorem back {a b : Int} (ha : U a) (hb : U b) (k : Nat) :
    (srLost a b k = false ∧ (shHi (srHi a b k) (srLo a b k) k == a) = true ∧ (shLo (srHi a b k) (srLo a b k) k == b) = true) ∨ (srLost a b k = true ∧ (shHi (srHi a b k) (srLo a b k) k == a) = false) ∨
    (srLost a b k = true ∧ (shHi (srHi a b k) (srLo a b k) k == a) = true ∧ (shLo (srHi a b k) (srLo a b k) k == b) = false) := by
  have j := sr_join a b k
  have p := pow_pos k
  have d := Int.mul_ediv_add_emod (a * 18446744073709551616 + b) (2 ^ k)
  have m : 0 ≤ (a * 18446744073709551616 + b) % 2 ^ k := Int.emod_nonneg _ (by omega)
  have q : 0 ≤ (a * 18446744073709551616 + b) / 2 ^ k := Int.ediv_nonneg (by unfold U at *; omega) (by omega)
  have q2 : 0 ≤ 2 ^ k * ((a * 18446744073709551616 + b) / 2 ^ k) := Int.mul_nonneg (by omega) q
  unfold srLost shHi shLo
  rw [j, Int.mul_comm _ (2 ^ k)]
  generalize 2 ^ k * ((a * 18446744073709551616 + b) / 2 ^ k) = x at *
  generalize (a * 18446744073709551616 + b) % 2 ^ k = y at *
  unfold U at *
  by_cases h : y = 0
  · left
    subst h
    refine ⟨by simp, beq_of (by omega), beq_of (by omega)⟩
  · right
    have e : decide (y ≠ 0) = true := by simp [h]
    rw [e]
    by_cases g : x / 18446744073709551616 % 18446744073709551616 = a
    · right
      exact ⟨rfl, beq_of g, beq_no (by omega)⟩
    · left
      exact ⟨rfl, beq_no g⟩
theorem one_word (j : Nat) (hj : j < 64) : IntKind.u64.wrap (2 ^ j) = 2 ^ j ∧ U (2 ^ j) := by
  have p := pow_pos j
  have l := pow_lt hj
  refine ⟨by rw [wrapU]; omega, by unfold U; omega⟩
theorem one_lens (j : Nat) (hj : j < 64) : lenW (2 ^ j) = j + 1 ∧ zerosW (2 ^ j) = j ∧ lenW (2 ^ j - 1) = j := by
  have p := pow_pos j
  have e : (2 : Int) ^ (j + 1) = 2 ^ j * 2 := Int.pow_succ _ _
  have l : lenW (2 ^ j) = j + 1 := lenW_eq (Int.le_refl _) (by omega)
  refine ⟨l, ?_, ?_⟩
  · have u := (one_word j hj).2
    unfold U at u
    have hw : IntKind.u64.wrap (-2 ^ j) = 18446744073709551616 - 2 ^ j := by rw [wrapU]; omega
    have c := pow_cast j
    have hb : bits .and .u64 (2 ^ j) (IntKind.u64.wrap (-2 ^ j)) = 2 ^ j := by
      rw [hw, u64_and _ _ u.1 u.2 (by omega) (by omega)]
      have e1 : ((2 : Int) ^ j).toNat = 2 ^ j := by omega
      have e2 : (18446744073709551616 - (2 : Int) ^ j).toNat = 2 ^ 64 - 2 ^ j := by omega
      have z := low_bit j 0 hj (by simp; omega)
      simp only [Nat.mul_zero, Nat.zero_add] at z
      rw [e1, e2, z]; exact c
    unfold zerosW
    rw [if_neg (by omega), hb, l]; omega
  · cases j with
    | zero => rfl
    | succ i =>
      have pi := pow_pos i
      have ei : (2 : Int) ^ (i + 1) = 2 ^ i * 2 := Int.pow_succ _ _
      rw [lenW_eq (k := i) (by omega) (by omega)]; omega
theorem ones {k : Nat} (hk : k ≤ 128) :
    (k < 64 ∧ (shHi 0 1 k != 0) = false ∧ (shLo 0 1 k != IntKind.u64.wrap (2 ^ (k % 64))) = false) ∨
    (64 ≤ k ∧ k < 128 ∧ (shHi 0 1 k != IntKind.u64.wrap (2 ^ (k % 64))) = false ∧ (shLo 0 1 k != 0) = false) ∨ (128 ≤ k ∧ (shHi 0 1 k != 0) = false ∧ (shLo 0 1 k != 0) = false) := by
  by_cases h : k < 64
  · left
    have e : k % 64 = k := by omega
    have u := one_word k h
    rw [e, u.1]
    unfold shHi shLo U at *
    refine ⟨h, bne_of ?_, bne_of ?_⟩ <;> simp <;> omega
  · right
    by_cases h2 : k < 128
    · left
      have e : k % 64 = k - 64 := by omega
      rw [e, ← shl_hi_big (a := 0) (b := 1) (by omega : 64 ≤ k), ← shl_lo_big (a := 0) (b := 1) (by omega : 64 ≤ k), Int.one_mul]
      exact ⟨by omega, h2, bne_of rfl, bne_of rfl⟩
    · right
      have e : k = 128 := by omega
      subst e
      exact ⟨by omega, rfl, rfl⟩
/-! ### STEP 1: THE WALK: the Go text returns true. 'Grown w w'': the world has at most new blocks (Derived/RowKit3.lean). Part the cases AHEAD of 'go_enter' where a test parts the walk; take each callee by a contract of your own. -/
theorem walk (a0 : Int) (a1 : Int) (a2 : Int) (w0 : (Lit.int .u64 a0).wf = true) (w1 : (Lit.int .u64 a1).wf = true) (w2 : (Lit.int .i64 a2).wf = true) (w : World) :
    Calls Try.prog 6 #[.int .u64 a0, .int .u64 a1, .int .i64 a2] w fun e w' => e = .returned (.bool true) ∧ Grown w w' := by
  have ha := U_of w0
  have hb := U_of w1
  clear w0 w1 w2
  have hh := fun w => lawHeld_any a2 w
  have hk := clampN_le a2
  generalize clampN a2 = k at *
  have ck := clampN_of k hk
  have c1 : clampN 1 = 1 := rfl
  have cl := sh_cap a0 a1 hk
  have cr := sr_cap ha hb hk
  have m := sh_more a0 a1 k
  have n := sr_more a0 a1 k
  have lm := lost_more a0 a1 k
  have ow := one_word (k % 64) (by omega)
  have ol := one_lens (k % 64) (by omega)
  have e64 : ((k % 64 : Nat) : Int) = (k : Int) % 64 := by omega
  have uA := U_shHi a0 a1 k
  have uB := U_shLo a0 a1 k
  have uP := U_srHi ha hb k
  have uQ := U_srLo a0 a1 k
  have hq : srLo a0 a1 k % 2 = (a0 * 18446744073709551616 + a1) / 2 ^ k % 2 := by unfold srLo; omega
  refine (shifts_core (A := shHi a0 a1 k) (B := shLo a0 a1 k) (C := shHi a0 a1 (k + 1)) (D := shLo a0 a1 (k + 1)) (K := addHi (shLo a0 a1 k) (shLo a0 a1 k) 0) (K' := addHi (shHi a0 a1 k) (shHi a0 a1 k) (addHi (shLo a0 a1 k) (shLo a0 a1 k) 0))
    (P := srHi a0 a1 k) (Q := srLo a0 a1 k) (u := shHi (srHi a0 a1 k) (srLo a0 a1 k) k) (v := shLo (srHi a0 a1 k) (srLo a0 a1 k) k) (R := srHi a0 a1 (k + 1)) (V := srLo a0 a1 (k + 1)) (h := shHi 0 1 k) (l := shLo 0 1 k)
    (x1 := lenW (2 ^ (k % 64))) (x2 := zerosW (2 ^ (k % 64))) (x3 := lenW (2 ^ (k % 64) - 1)) (x4 := lenW 0) (x5 := zerosW 0) (L := srLost a0 a1 k) (G := decide ((a0 * 18446744073709551616 + a1) / 2 ^ k % 2 ≠ 0)) (Y := srLost a0 a1 (k + 1)) (k := k) hk hh
    ?_ ?_ ?_ ?_ ?_ ?_ ?_ ?_ ?_ ?_ ?_ ?_ ?_ ?_ ?_ ?_ ?_ ?_ rfl rfl (back ha hb k) ?_ ?_ w).mono (fun e w' he => ⟨he.1, he.2.1⟩)
  · intro w; have s := shl_any ha hb k w; rw [ck] at s; exact s
  · intro w; have s := shl_any uA uB 1 w; rw [c1, m.1, m.2.1] at s; exact s
  · intro w; have s := shl_any ha hb ((k : Int) + 1) w; rw [cl.1, cl.2] at s; exact s
  · intro w
    refine (add_any uB uB U_zero w).mono ?_
    rintro e w' ⟨_, _, rfl, rfl, rfl, rfl⟩
    rw [m.2.2.1]; exact ⟨rfl, gr_refl _⟩
  · intro w
    refine (add_any uA uA (U_addHi uB uB) w).mono ?_
    rintro e w' ⟨_, _, rfl, rfl, rfl, rfl⟩
    rw [m.2.2.2]; exact ⟨rfl, gr_refl _⟩
  · intro w; have s := shr_any ha hb k w; rw [ck] at s; exact s
  · intro w; have s := shl_any uP uQ k w; rw [ck] at s; exact s
  · intro w; have s := shr_any uP uQ 1 w; rw [c1, n.1, n.2.1, n.2.2] at s; exact s
  · intro w; have s := shr_any ha hb ((k : Int) + 1) w; rw [cr.1, cr.2.1, cr.2.2] at s; exact s
  · intro w; have s := shl_any U_zero U_one k w; rw [ck] at s; exact s
  · intro w; rw [ow.1]; refine (len_any ow.2 w).mono ?_; rintro e w' ⟨rfl, rfl⟩; exact ⟨rfl, gr_refl _⟩
  · intro w; rw [ow.1]; refine (zeros_any ow.2 w).mono ?_; rintro e w' ⟨_, rfl, rfl, rfl⟩; exact ⟨rfl, gr_refl _⟩
  · intro w
    have p := pow_pos (k % 64)
    have q := pow_lt (show k % 64 < 64 by omega)
    have e1 : IntKind.u64.wrap (2 ^ (k % 64) - 1) = 2 ^ (k % 64) - 1 := by rw [wrapU]; omega
    rw [ow.1, e1]
    refine (len_any (by unfold U; omega) w).mono ?_; rintro e w' ⟨rfl, rfl⟩; exact ⟨rfl, gr_refl _⟩
  · intro w; refine (len_any U_zero w).mono ?_; rintro e w' ⟨rfl, rfl⟩; exact ⟨rfl, gr_refl _⟩
  · intro w; refine (zeros_any U_zero w).mono ?_; rintro e w' ⟨_, rfl, rfl, rfl⟩; exact ⟨rfl, gr_refl _⟩
  · exact beq_of (by rw [ol.1, e64])
  · exact beq_of (by rw [ol.2.1, e64])
  · exact beq_of (by rw [ol.2.2, e64])
  · rw [lm, and_one uQ, hq]
    by_cases t : (a0 * 18446744073709551616 + a1) / 2 ^ k % 2 = 0
    · rw [t]; exact Or.inl ⟨rfl, rfl, rfl⟩
    · have t' : (a0 * 18446744073709551616 + a1) / 2 ^ k % 2 = 1 := by omega
      rw [t']; exact Or.inr ⟨rfl, rfl, rfl⟩
  · rcases ones hk with o | o | o
    · exact Or.inl o
    · exact Or.inr (Or.inl o)
    · have e128 : k = 128 := by omega
      subst e128
      exact Or.inr (Or.inr ⟨o.1, o.2.1, o.2.2, rfl, rfl, rfl⟩)

/-! ### THE ROW's STEP: WRITTEN OUT: LEAVE IT -/
set_option maxRecDepth 100000 in
theorem lifted (os : Os) (started : os.Started) (H : Type) (enc : TypeId × Value → H) :
    ReturnsInHanded {} Try.checked os 6 .any (Rows.wideShiftsSpec.pre6 enc Try.prog Try.f6 Rows.wideShiftsRow.domain false) (Rows.wideShiftsSpec.post enc Try.prog Try.f6 false true false false) := by
  refine returnsInHanded_of_change (C := Try.checked) own started (by kernel_rfl) Try.func6
    (ChangeSpec.witness6 (enc := enc) (C := Try.checked) false ⟨#[], #[.int .u64 0, .int .u64 0, .int .i64 0], []⟩ 8 (by kernel_rfl) (by kernel_rfl) (by kernel_rfl) (by kernel_rfl)) ?_
  intro W base args ds gs before hval0 hW hcnd _
  have hval : ∀ (j : Nat) t v, Try.f6.params[j]? = some t → args[j]? = some v → Value.okWide Try.prog W .any base t v := hval0
  have hW' := hW
  obtain ⟨p, q, hA0, hV, rfl, hfz, hnd⟩ := hW
  have hA : DataW.TrodAll enc Try.prog W 0 (fun _ => true) true Try.f6.params.toList args.toList ds p := hA0
  rw [Try.params6] at hA hval
  obtain ⟨v0, vs0, d0, ds0, p0, q0, hargs, rfl, rfl, h0, r0⟩ := trodAll_cons hA
  obtain ⟨v1, vs1, d1, ds1, p1, q1, rfl, rfl, rfl, h1, r1⟩ := trodAll_cons r0
  obtain ⟨v2, vs2, d2, ds2, p2, q2, rfl, rfl, rfl, h2, r2⟩ := trodAll_cons r1
  obtain ⟨rfl, rfl, rfl⟩ := trodAll_nil r2
  obtain rfl : args = #[v0, v1, v2] := by cases args; simp_all
  obtain ⟨rfl, rfl⟩ := trodVars_none hV
  obtain ⟨a0, rfl, rfl, rfl, w0⟩ := open_int Try.underlying22 (hval 0 22 v0 rfl rfl) h0
  obtain ⟨a1, rfl, rfl, rfl, w1⟩ := open_int Try.underlying22 (hval 1 22 v1 rfl rfl) h1
  obtain ⟨a2, rfl, rfl, rfl, w2⟩ := open_int Try.underlying3 (hval 2 3 v2 rfl rfl) h2
  clear hA0 hval0
  simp only [List.append_nil] at hW'
  refine (walk a0 a1 a2 w0 w1 w2 W).mono fun e W' ⟨he, hg⟩ => ?_
  subst he
  exact ⟨_, rfl, post_of_same (pa := []) (pv := []) hW' (fun _ _ _ => (trodAll_cons_mk (shut_bool Try.underlying4 _) trodAll_mk0)) (fun sp _ => (trodAll_cons_mk (shut_int Try.underlying22 w0) (trodAll_cons_mk (shut_int Try.underlying22 w1) (trodAll_cons_mk (shut_int Try.underlying3 w2) trodAll_mk0)))) (fun _ _ => rfl) rfl
    (hg.frame _) hg.2.1 (ok_one (by kernel_rfl) rfl (okWide_bool_mk Try.underlying4 _))⟩

theorem over : Rows.wideShiftsRow.holds Try.pinned (OpenSpec.ofChange Rows.wideShiftsSpec) :=
  OpenClaim.holds_of_wide 6 Try.f6 rfl rfl rfl rfl rfl rfl rfl ⟨rfl, rfl, rfl, rfl, rfl⟩ rfl rfl rfl rfl rfl (by kernel_rfl) Try.func6 (by kernel_rfl)
    (of_decide_eq_true (by kernel_rfl)) (by unfold Func.isWrapper; first | (rw [if_pos (by decide +kernel)]; kernel_rfl) | (rw [if_neg (by decide +kernel)]; exact ⟨rfl, rfl⟩))
    (fun os started H enc _ => lifted os started H enc)

/-- ████ THE STATEMENT ████ -/
theorem proved : Rows.WideShiftsSaid :=
  over
#print axioms proved
end Go.Proofs.Ytdlfffecijimlab.wideShifts
