/- WideOrder: the order of numbers of two words. -/
import Derived.Test.YtdlfffecijimlaaRows
import Derived.WalkKit
import Derived.ProofKit
import Derived.OpenShut
import Derived.ShutString
import Derived.ChangeOld
import Derived.Below
import Derived.WalkLawsBesides
import Derived.WalkSpells
import Derived.Laws.StructEq
import Derived.ChangeKeysEq
import Derived.Test.YtdlfffecijimlaaWide
namespace Go.Proofs.Ytdlfffecijimlaa.wideOrder
open Go.ChangeShapes Go.WideShapes Go.ChangeAt Go.RowKit
open Ar
set_option linter.unusedVariables false

theorem own : ownKnob Try.prog.godebug = none := by kernel_rfl
theorem laidOut : laidOutB Try.prog = true := by kernel_rfl
theorem cells_arr : Try.prog.cellsOf 29 = 2 := by kernel_rfl
theorem cells_u64 : Try.prog.cellsOf 22 = 1 := by kernel_rfl

theorem okWide_array {P : Program} {w : World} {r : Reach} {base n : Nat} {t e : TypeId} {v : Value} (ht : P.underlying t = some (.array n e)) (h : Value.okWide P w r base t v) : ∃ cs, v = .agg cs ∧ cs.size = P.cellsOf t := by
  simp only [Value.okWide, ht] at h
  obtain ⟨cs, h1, h2, _⟩ := h
  exact ⟨cs, h1, h2⟩

theorem open_pair {H : Type} {enc : TypeId × Value → H} {w : World} {r : Reach} {base b0 : Nat} {spare : Nat → Bool} {held : Bool} {v : Value} {d : DataW H} {p : List MemPlace}
    (hv : Value.okWide Try.prog w r b0 29 v) (h : DataW.Trod enc Try.prog w base spare held 29 v d p) :
    ∃ x y : Int, v = .agg #[.int .u64 x, .int .u64 y] ∧ U x ∧ U y := by
  obtain ⟨cs, rfl, hsz⟩ := okWide_array Try.underlying29 hv
  obtain ⟨fuel, hf⟩ := h
  obtain ⟨xs, m, _, _, hl, hx, hi⟩ := DataW.trod_array Try.underlying29 hf
  rw [cells_arr] at hsz
  obtain ⟨c0, c1, rfl⟩ : ∃ c0 c1, cs = #[c0, c1] := by
    match cs, hsz with
    | ⟨[c0, c1]⟩, _ => exact ⟨c0, c1, rfl⟩
  have i0 := hi 0 (by omega)
  have i1 := hi 1 (by omega)
  match xs, hx with
  | [x0, x1], _ =>
    simp [Value.cells, cells_u64] at i0 i1
    obtain ⟨n0, e0, _, w0⟩ := DataW.trod_int Try.underlying22 i0
    obtain ⟨n1, e1, _, w1⟩ := DataW.trod_int Try.underlying22 i1
    simp at e0 e1
    subst e0 e1
    exact ⟨n0, n1, rfl, U_of w0, U_of w1⟩

theorem info_u64 : (Try.prog.info? 22).isSome = true := by kernel_rfl
theorem part_0 (x0 x1 : Int) (w : World) : (part 22 #[.int .u64 x0, .int .u64 x1] 0).run Try.prog w = .ok (.int .u64 x0) w := by kernel_rfl
theorem part_1 (x0 x1 : Int) (w : World) : (part 22 #[.int .u64 x0, .int .u64 x1] 1).run Try.prog w = .ok (.int .u64 x1) w := by kernel_rfl
theorem arr_eq (x0 x1 y0 y1 : Int) (w : World) :
    (binOp .eql 29 (.agg #[.int .u64 x0, .int .u64 x1]) (.agg #[.int .u64 y0, .int .u64 y1])).run Try.prog w = .ok (.bool (x0 == y0 && x1 == y1)) w := by
  obtain ⟨i, hi⟩ := Option.isSome_iff_exists.mp info_u64
  rw [run_eql_struct, show (10000 : Nat) = 9999 + 1 from rfl, run_equalIn_array w 9999 _ _ Try.underlying29 hi, cells_u64]
  have hr : List.range 2 = [0, 1] := rfl
  rw [hr]
  have e1 := run_equalIn_int (P := Try.prog) w 9998 22 .u64 .u64 x0 y0 Try.underlying22
  have e2 := run_equalIn_int (P := Try.prog) w 9998 22 .u64 .u64 x1 y1 Try.underlying22
  simp only [Op.eqItems, Sem.run_bind, Nat.zero_mul, Nat.one_mul, part_0, part_1, Result.andThen_ok, e1, e2, Sem.run_ite]
  cases (x0 == y0) <;> cases (x1 == y1) <;> simp

/-- the number of two words -/
def num (a b : Int) : Int := a * 18446744073709551616 + b
theorem cmp_num {a b c d : Int} (hb : U b) (hd : U d) : cmp2 a b c d = ord (num a b) (num c d) := by
  unfold cmp2 ord num U at *
  by_cases h : a = c
  · subst h
    rw [if_pos rfl]
    by_cases h1 : b < d
    · rw [if_pos h1, if_pos (by omega)]
    · by_cases h2 : d < b
      · rw [if_neg h1, if_pos h2, if_neg (by omega), if_pos (by omega)]
      · rw [if_neg h1, if_neg h2, if_neg (by omega), if_neg (by omega)]
  · rw [if_neg h]
    by_cases h1 : a < c
    · rw [if_pos h1, if_pos (by omega)]
    · rw [if_neg h1, if_pos (by omega), if_neg (by omega), if_pos (by omega)]
theorem borrow_num {a b c d : Int} (ha : U a) (hb : U b) (hc : U c) (hd : U d) : subHi a c (subHi b d 0) = if num a b < num c d then 1 else 0 := by
  unfold num subHi U at *
  split <;> omega
theorem ord_lt {x y : Int} (h : x < y) : ord x y = -1 := by unfold ord; rw [if_pos h]
theorem ord_eq {x y : Int} (h : x = y) : ord x y = 0 := by unfold ord; rw [if_neg (by omega), if_neg (by omega)]
theorem ord_gt {x y : Int} (h : y < x) : ord x y = 1 := by unfold ord; rw [if_neg (by omega), if_pos h]
theorem num_eq {a b c d : Int} (hb : U b) (hd : U d) : (a == c && b == d) = decide (num a b = num c d) := by
  rw [Bool.eq_iff_iff]
  unfold num U at *
  simp
  omega
theorem last_cmp : (cmp2 0 1 1 0 == -1) = true := rfl
theorem walk_mmm (a b a' b' a'' b'' : Int) (ha : U a) (hb : U b) (ha' : U a') (hb' : U b') (ha'' : U a'') (hb'' : U b'') (w : World)
    (h1 : cmp2 a b a' b' = -1) (h2 : cmp2 a' b' a'' b'' = -1) (h3 : cmp2 a b a'' b'' = -1) (h4 : cmp2 a' b' a b = 1) (h5 : (subHi a a' (subHi b b' 0) == 1) = true)
    (hq : ∀ w, (binOp .eql 29 (.agg #[.int .u64 a, .int .u64 b]) (.agg #[.int .u64 a', .int .u64 b'])).run Try.prog w = .ok (.bool false) w) :
    Calls Try.prog 5 #[.agg #[.int .u64 a, .int .u64 b], .agg #[.int .u64 a', .int .u64 b'], .agg #[.int .u64 a'', .int .u64 b'']] w fun e w' => e = .returned (.bool true) ∧ Below w.heap.size w w' := by
  have hk := U_subHi (c := 0) hb hb'
  have hz := U_zero
  have hl := last_cmp
  go_enter Try.func5, Try.ntmps5
  go_wp2_with (first | (go_at_call 12; refine (cmp_any _ _ _ _ _).mono ?_; rintro e w' ⟨_, rfl, rfl, rfl⟩) | (go_at_call 11; refine (sub_any (by assumption) (by assumption) (by assumption) _).mono ?_; rintro e w' ⟨_, _, rfl, rfl, rfl, rfl⟩))
  go_ret
  exact ⟨rfl, (((Below.refl _ _).alloc (Nat.le_refl _) _).alloc (by simp) _).alloc (by simp; omega) _⟩
theorem walk_mzm (a b a' b' a'' b'' : Int) (ha : U a) (hb : U b) (ha' : U a') (hb' : U b') (ha'' : U a'') (hb'' : U b'') (w : World)
    (h1 : cmp2 a b a' b' = -1) (h2 : cmp2 a' b' a'' b'' = 0) (h3 : cmp2 a b a'' b'' = -1) (h4 : cmp2 a' b' a b = 1) (h5 : (subHi a a' (subHi b b' 0) == 1) = true)
    (hq : ∀ w, (binOp .eql 29 (.agg #[.int .u64 a, .int .u64 b]) (.agg #[.int .u64 a', .int .u64 b'])).run Try.prog w = .ok (.bool false) w) :
    Calls Try.prog 5 #[.agg #[.int .u64 a, .int .u64 b], .agg #[.int .u64 a', .int .u64 b'], .agg #[.int .u64 a'', .int .u64 b'']] w fun e w' => e = .returned (.bool true) ∧ Below w.heap.size w w' := by
  have hk := U_subHi (c := 0) hb hb'
  have hz := U_zero
  have hl := last_cmp
  go_enter Try.func5, Try.ntmps5
  go_wp2_with (first | (go_at_call 12; refine (cmp_any _ _ _ _ _).mono ?_; rintro e w' ⟨_, rfl, rfl, rfl⟩) | (go_at_call 11; refine (sub_any (by assumption) (by assumption) (by assumption) _).mono ?_; rintro e w' ⟨_, _, rfl, rfl, rfl, rfl⟩))
  go_ret
  exact ⟨rfl, (((Below.refl _ _).alloc (Nat.le_refl _) _).alloc (by simp) _).alloc (by simp; omega) _⟩
theorem walk_mpm (a b a' b' a'' b'' : Int) (ha : U a) (hb : U b) (ha' : U a') (hb' : U b') (ha'' : U a'') (hb'' : U b'') (w : World)
    (h1 : cmp2 a b a' b' = -1) (h2 : cmp2 a' b' a'' b'' = 1) (h3 : cmp2 a b a'' b'' = -1) (h4 : cmp2 a' b' a b = 1) (h5 : (subHi a a' (subHi b b' 0) == 1) = true)
    (hq : ∀ w, (binOp .eql 29 (.agg #[.int .u64 a, .int .u64 b]) (.agg #[.int .u64 a', .int .u64 b'])).run Try.prog w = .ok (.bool false) w) :
    Calls Try.prog 5 #[.agg #[.int .u64 a, .int .u64 b], .agg #[.int .u64 a', .int .u64 b'], .agg #[.int .u64 a'', .int .u64 b'']] w fun e w' => e = .returned (.bool true) ∧ Below w.heap.size w w' := by
  have hk := U_subHi (c := 0) hb hb'
  have hz := U_zero
  have hl := last_cmp
  go_enter Try.func5, Try.ntmps5
  go_wp2_with (first | (go_at_call 12; refine (cmp_any _ _ _ _ _).mono ?_; rintro e w' ⟨_, rfl, rfl, rfl⟩) | (go_at_call 11; refine (sub_any (by assumption) (by assumption) (by assumption) _).mono ?_; rintro e w' ⟨_, _, rfl, rfl, rfl, rfl⟩))
  go_ret
  exact ⟨rfl, (((Below.refl _ _).alloc (Nat.le_refl _) _).alloc (by simp) _).alloc (by simp; omega) _⟩
theorem walk_mpz (a b a' b' a'' b'' : Int) (ha : U a) (hb : U b) (ha' : U a') (hb' : U b') (ha'' : U a'') (hb'' : U b'') (w : World)
    (h1 : cmp2 a b a' b' = -1) (h2 : cmp2 a' b' a'' b'' = 1) (h3 : cmp2 a b a'' b'' = 0) (h4 : cmp2 a' b' a b = 1) (h5 : (subHi a a' (subHi b b' 0) == 1) = true)
    (hq : ∀ w, (binOp .eql 29 (.agg #[.int .u64 a, .int .u64 b]) (.agg #[.int .u64 a', .int .u64 b'])).run Try.prog w = .ok (.bool false) w) :
    Calls Try.prog 5 #[.agg #[.int .u64 a, .int .u64 b], .agg #[.int .u64 a', .int .u64 b'], .agg #[.int .u64 a'', .int .u64 b'']] w fun e w' => e = .returned (.bool true) ∧ Below w.heap.size w w' := by
  have hk := U_subHi (c := 0) hb hb'
  have hz := U_zero
  have hl := last_cmp
  go_enter Try.func5, Try.ntmps5
  go_wp2_with (first | (go_at_call 12; refine (cmp_any _ _ _ _ _).mono ?_; rintro e w' ⟨_, rfl, rfl, rfl⟩) | (go_at_call 11; refine (sub_any (by assumption) (by assumption) (by assumption) _).mono ?_; rintro e w' ⟨_, _, rfl, rfl, rfl, rfl⟩))
  go_ret
  exact ⟨rfl, (((Below.refl _ _).alloc (Nat.le_refl _) _).alloc (by simp) _).alloc (by simp; omega) _⟩
theorem walk_mpp (a b a' b' a'' b'' : Int) (ha : U a) (hb : U b) (ha' : U a') (hb' : U b') (ha'' : U a'') (hb'' : U b'') (w : World)
    (h1 : cmp2 a b a' b' = -1) (h2 : cmp2 a' b' a'' b'' = 1) (h3 : cmp2 a b a'' b'' = 1) (h4 : cmp2 a' b' a b = 1) (h5 : (subHi a a' (subHi b b' 0) == 1) = true)
    (hq : ∀ w, (binOp .eql 29 (.agg #[.int .u64 a, .int .u64 b]) (.agg #[.int .u64 a', .int .u64 b'])).run Try.prog w = .ok (.bool false) w) :
    Calls Try.prog 5 #[.agg #[.int .u64 a, .int .u64 b], .agg #[.int .u64 a', .int .u64 b'], .agg #[.int .u64 a'', .int .u64 b'']] w fun e w' => e = .returned (.bool true) ∧ Below w.heap.size w w' := by
  have hk := U_subHi (c := 0) hb hb'
  have hz := U_zero
  have hl := last_cmp
  go_enter Try.func5, Try.ntmps5
  go_wp2_with (first | (go_at_call 12; refine (cmp_any _ _ _ _ _).mono ?_; rintro e w' ⟨_, rfl, rfl, rfl⟩) | (go_at_call 11; refine (sub_any (by assumption) (by assumption) (by assumption) _).mono ?_; rintro e w' ⟨_, _, rfl, rfl, rfl, rfl⟩))
  go_ret
  exact ⟨rfl, (((Below.refl _ _).alloc (Nat.le_refl _) _).alloc (by simp) _).alloc (by simp; omega) _⟩
theorem walk_zmm (a b a' b' a'' b'' : Int) (ha : U a) (hb : U b) (ha' : U a') (hb' : U b') (ha'' : U a'') (hb'' : U b'') (w : World)
    (h1 : cmp2 a b a' b' = 0) (h2 : cmp2 a' b' a'' b'' = -1) (h3 : cmp2 a b a'' b'' = -1) (h4 : cmp2 a' b' a b = 0) (h5 : (subHi a a' (subHi b b' 0) == 1) = false)
    (hq : ∀ w, (binOp .eql 29 (.agg #[.int .u64 a, .int .u64 b]) (.agg #[.int .u64 a', .int .u64 b'])).run Try.prog w = .ok (.bool true) w) :
    Calls Try.prog 5 #[.agg #[.int .u64 a, .int .u64 b], .agg #[.int .u64 a', .int .u64 b'], .agg #[.int .u64 a'', .int .u64 b'']] w fun e w' => e = .returned (.bool true) ∧ Below w.heap.size w w' := by
  have hk := U_subHi (c := 0) hb hb'
  have hz := U_zero
  have hl := last_cmp
  go_enter Try.func5, Try.ntmps5
  go_wp2_with (first | (go_at_call 12; refine (cmp_any _ _ _ _ _).mono ?_; rintro e w' ⟨_, rfl, rfl, rfl⟩) | (go_at_call 11; refine (sub_any (by assumption) (by assumption) (by assumption) _).mono ?_; rintro e w' ⟨_, _, rfl, rfl, rfl, rfl⟩))
  go_ret
  exact ⟨rfl, (((Below.refl _ _).alloc (Nat.le_refl _) _).alloc (by simp) _).alloc (by simp; omega) _⟩
theorem walk_zzz (a b a' b' a'' b'' : Int) (ha : U a) (hb : U b) (ha' : U a') (hb' : U b') (ha'' : U a'') (hb'' : U b'') (w : World)
    (h1 : cmp2 a b a' b' = 0) (h2 : cmp2 a' b' a'' b'' = 0) (h3 : cmp2 a b a'' b'' = 0) (h4 : cmp2 a' b' a b = 0) (h5 : (subHi a a' (subHi b b' 0) == 1) = false)
    (hq : ∀ w, (binOp .eql 29 (.agg #[.int .u64 a, .int .u64 b]) (.agg #[.int .u64 a', .int .u64 b'])).run Try.prog w = .ok (.bool true) w) :
    Calls Try.prog 5 #[.agg #[.int .u64 a, .int .u64 b], .agg #[.int .u64 a', .int .u64 b'], .agg #[.int .u64 a'', .int .u64 b'']] w fun e w' => e = .returned (.bool true) ∧ Below w.heap.size w w' := by
  have hk := U_subHi (c := 0) hb hb'
  have hz := U_zero
  have hl := last_cmp
  go_enter Try.func5, Try.ntmps5
  go_wp2_with (first | (go_at_call 12; refine (cmp_any _ _ _ _ _).mono ?_; rintro e w' ⟨_, rfl, rfl, rfl⟩) | (go_at_call 11; refine (sub_any (by assumption) (by assumption) (by assumption) _).mono ?_; rintro e w' ⟨_, _, rfl, rfl, rfl, rfl⟩))
  go_ret
  exact ⟨rfl, (((Below.refl _ _).alloc (Nat.le_refl _) _).alloc (by simp) _).alloc (by simp; omega) _⟩
theorem walk_zpp (a b a' b' a'' b'' : Int) (ha : U a) (hb : U b) (ha' : U a') (hb' : U b') (ha'' : U a'') (hb'' : U b'') (w : World)
    (h1 : cmp2 a b a' b' = 0) (h2 : cmp2 a' b' a'' b'' = 1) (h3 : cmp2 a b a'' b'' = 1) (h4 : cmp2 a' b' a b = 0) (h5 : (subHi a a' (subHi b b' 0) == 1) = false)
    (hq : ∀ w, (binOp .eql 29 (.agg #[.int .u64 a, .int .u64 b]) (.agg #[.int .u64 a', .int .u64 b'])).run Try.prog w = .ok (.bool true) w) :
    Calls Try.prog 5 #[.agg #[.int .u64 a, .int .u64 b], .agg #[.int .u64 a', .int .u64 b'], .agg #[.int .u64 a'', .int .u64 b'']] w fun e w' => e = .returned (.bool true) ∧ Below w.heap.size w w' := by
  have hk := U_subHi (c := 0) hb hb'
  have hz := U_zero
  have hl := last_cmp
  go_enter Try.func5, Try.ntmps5
  go_wp2_with (first | (go_at_call 12; refine (cmp_any _ _ _ _ _).mono ?_; rintro e w' ⟨_, rfl, rfl, rfl⟩) | (go_at_call 11; refine (sub_any (by assumption) (by assumption) (by assumption) _).mono ?_; rintro e w' ⟨_, _, rfl, rfl, rfl, rfl⟩))
  go_ret
  exact ⟨rfl, (((Below.refl _ _).alloc (Nat.le_refl _) _).alloc (by simp) _).alloc (by simp; omega) _⟩
theorem walk_pmm (a b a' b' a'' b'' : Int) (ha : U a) (hb : U b) (ha' : U a') (hb' : U b') (ha'' : U a'') (hb'' : U b'') (w : World)
    (h1 : cmp2 a b a' b' = 1) (h2 : cmp2 a' b' a'' b'' = -1) (h3 : cmp2 a b a'' b'' = -1) (h4 : cmp2 a' b' a b = -1) (h5 : (subHi a a' (subHi b b' 0) == 1) = false)
    (hq : ∀ w, (binOp .eql 29 (.agg #[.int .u64 a, .int .u64 b]) (.agg #[.int .u64 a', .int .u64 b'])).run Try.prog w = .ok (.bool false) w) :
    Calls Try.prog 5 #[.agg #[.int .u64 a, .int .u64 b], .agg #[.int .u64 a', .int .u64 b'], .agg #[.int .u64 a'', .int .u64 b'']] w fun e w' => e = .returned (.bool true) ∧ Below w.heap.size w w' := by
  have hk := U_subHi (c := 0) hb hb'
  have hz := U_zero
  have hl := last_cmp
  go_enter Try.func5, Try.ntmps5
  go_wp2_with (first | (go_at_call 12; refine (cmp_any _ _ _ _ _).mono ?_; rintro e w' ⟨_, rfl, rfl, rfl⟩) | (go_at_call 11; refine (sub_any (by assumption) (by assumption) (by assumption) _).mono ?_; rintro e w' ⟨_, _, rfl, rfl, rfl, rfl⟩))
  go_ret
  exact ⟨rfl, (((Below.refl _ _).alloc (Nat.le_refl _) _).alloc (by simp) _).alloc (by simp; omega) _⟩
theorem walk_pmz (a b a' b' a'' b'' : Int) (ha : U a) (hb : U b) (ha' : U a') (hb' : U b') (ha'' : U a'') (hb'' : U b'') (w : World)
    (h1 : cmp2 a b a' b' = 1) (h2 : cmp2 a' b' a'' b'' = -1) (h3 : cmp2 a b a'' b'' = 0) (h4 : cmp2 a' b' a b = -1) (h5 : (subHi a a' (subHi b b' 0) == 1) = false)
    (hq : ∀ w, (binOp .eql 29 (.agg #[.int .u64 a, .int .u64 b]) (.agg #[.int .u64 a', .int .u64 b'])).run Try.prog w = .ok (.bool false) w) :
    Calls Try.prog 5 #[.agg #[.int .u64 a, .int .u64 b], .agg #[.int .u64 a', .int .u64 b'], .agg #[.int .u64 a'', .int .u64 b'']] w fun e w' => e = .returned (.bool true) ∧ Below w.heap.size w w' := by
  have hk := U_subHi (c := 0) hb hb'
  have hz := U_zero
  have hl := last_cmp
  go_enter Try.func5, Try.ntmps5
  go_wp2_with (first | (go_at_call 12; refine (cmp_any _ _ _ _ _).mono ?_; rintro e w' ⟨_, rfl, rfl, rfl⟩) | (go_at_call 11; refine (sub_any (by assumption) (by assumption) (by assumption) _).mono ?_; rintro e w' ⟨_, _, rfl, rfl, rfl, rfl⟩))
  go_ret
  exact ⟨rfl, (((Below.refl _ _).alloc (Nat.le_refl _) _).alloc (by simp) _).alloc (by simp; omega) _⟩
theorem walk_pmp (a b a' b' a'' b'' : Int) (ha : U a) (hb : U b) (ha' : U a') (hb' : U b') (ha'' : U a'') (hb'' : U b'') (w : World)
    (h1 : cmp2 a b a' b' = 1) (h2 : cmp2 a' b' a'' b'' = -1) (h3 : cmp2 a b a'' b'' = 1) (h4 : cmp2 a' b' a b = -1) (h5 : (subHi a a' (subHi b b' 0) == 1) = false)
    (hq : ∀ w, (binOp .eql 29 (.agg #[.int .u64 a, .int .u64 b]) (.agg #[.int .u64 a', .int .u64 b'])).run Try.prog w = .ok (.bool false) w) :
    Calls Try.prog 5 #[.agg #[.int .u64 a, .int .u64 b], .agg #[.int .u64 a', .int .u64 b'], .agg #[.int .u64 a'', .int .u64 b'']] w fun e w' => e = .returned (.bool true) ∧ Below w.heap.size w w' := by
  have hk := U_subHi (c := 0) hb hb'
  have hz := U_zero
  have hl := last_cmp
  go_enter Try.func5, Try.ntmps5
  go_wp2_with (first | (go_at_call 12; refine (cmp_any _ _ _ _ _).mono ?_; rintro e w' ⟨_, rfl, rfl, rfl⟩) | (go_at_call 11; refine (sub_any (by assumption) (by assumption) (by assumption) _).mono ?_; rintro e w' ⟨_, _, rfl, rfl, rfl, rfl⟩))
  go_ret
  exact ⟨rfl, (((Below.refl _ _).alloc (Nat.le_refl _) _).alloc (by simp) _).alloc (by simp; omega) _⟩
theorem walk_pzp (a b a' b' a'' b'' : Int) (ha : U a) (hb : U b) (ha' : U a') (hb' : U b') (ha'' : U a'') (hb'' : U b'') (w : World)
    (h1 : cmp2 a b a' b' = 1) (h2 : cmp2 a' b' a'' b'' = 0) (h3 : cmp2 a b a'' b'' = 1) (h4 : cmp2 a' b' a b = -1) (h5 : (subHi a a' (subHi b b' 0) == 1) = false)
    (hq : ∀ w, (binOp .eql 29 (.agg #[.int .u64 a, .int .u64 b]) (.agg #[.int .u64 a', .int .u64 b'])).run Try.prog w = .ok (.bool false) w) :
    Calls Try.prog 5 #[.agg #[.int .u64 a, .int .u64 b], .agg #[.int .u64 a', .int .u64 b'], .agg #[.int .u64 a'', .int .u64 b'']] w fun e w' => e = .returned (.bool true) ∧ Below w.heap.size w w' := by
  have hk := U_subHi (c := 0) hb hb'
  have hz := U_zero
  have hl := last_cmp
  go_enter Try.func5, Try.ntmps5
  go_wp2_with (first | (go_at_call 12; refine (cmp_any _ _ _ _ _).mono ?_; rintro e w' ⟨_, rfl, rfl, rfl⟩) | (go_at_call 11; refine (sub_any (by assumption) (by assumption) (by assumption) _).mono ?_; rintro e w' ⟨_, _, rfl, rfl, rfl, rfl⟩))
  go_ret
  exact ⟨rfl, (((Below.refl _ _).alloc (Nat.le_refl _) _).alloc (by simp) _).alloc (by simp; omega) _⟩
theorem walk_ppp (a b a' b' a'' b'' : Int) (ha : U a) (hb : U b) (ha' : U a') (hb' : U b') (ha'' : U a'') (hb'' : U b'') (w : World)
    (h1 : cmp2 a b a' b' = 1) (h2 : cmp2 a' b' a'' b'' = 1) (h3 : cmp2 a b a'' b'' = 1) (h4 : cmp2 a' b' a b = -1) (h5 : (subHi a a' (subHi b b' 0) == 1) = false)
    (hq : ∀ w, (binOp .eql 29 (.agg #[.int .u64 a, .int .u64 b]) (.agg #[.int .u64 a', .int .u64 b'])).run Try.prog w = .ok (.bool false) w) :
    Calls Try.prog 5 #[.agg #[.int .u64 a, .int .u64 b], .agg #[.int .u64 a', .int .u64 b'], .agg #[.int .u64 a'', .int .u64 b'']] w fun e w' => e = .returned (.bool true) ∧ Below w.heap.size w w' := by
  have hk := U_subHi (c := 0) hb hb'
  have hz := U_zero
  have hl := last_cmp
  go_enter Try.func5, Try.ntmps5
  go_wp2_with (first | (go_at_call 12; refine (cmp_any _ _ _ _ _).mono ?_; rintro e w' ⟨_, rfl, rfl, rfl⟩) | (go_at_call 11; refine (sub_any (by assumption) (by assumption) (by assumption) _).mono ?_; rintro e w' ⟨_, _, rfl, rfl, rfl, rfl⟩))
  go_ret
  exact ⟨rfl, (((Below.refl _ _).alloc (Nat.le_refl _) _).alloc (by simp) _).alloc (by simp; omega) _⟩
theorem walk (a b a' b' a'' b'' : Int) (ha : U a) (hb : U b) (ha' : U a') (hb' : U b') (ha'' : U a'') (hb'' : U b'') (w : World) :
    Calls Try.prog 5 #[.agg #[.int .u64 a, .int .u64 b], .agg #[.int .u64 a', .int .u64 b'], .agg #[.int .u64 a'', .int .u64 b'']] w fun e w' => e = .returned (.bool true) ∧ Below w.heap.size w w' := by
  have c1 := cmp_num (a := a) (c := a') hb hb'
  have c2 := cmp_num (a := a') (c := a'') hb' hb''
  have c3 := cmp_num (a := a) (c := a'') hb hb''
  have c4 := cmp_num (a := a') (c := a) hb' hb
  have k := borrow_num ha hb ha' hb'
  have q := fun w => arr_eq a b a' b' w
  rw [num_eq hb hb'] at q
  generalize num a b = x at *
  generalize num a' b' = y at *
  generalize num a'' b'' = z at *
  rcases Int.lt_trichotomy x y with g1 | g1 | g1
  · rcases Int.lt_trichotomy y z with g2 | g2 | g2
    · exact walk_mmm a b a' b' a'' b'' ha hb ha' hb' ha'' hb'' w (c1.trans (ord_lt g1)) (c2.trans (ord_lt g2)) (c3.trans (ord_lt (by omega))) (c4.trans (ord_gt g1)) (by rw [k, if_pos g1]; rfl) (fun w => by rw [q w, decide_eq_false (by omega)])
    · exact walk_mzm a b a' b' a'' b'' ha hb ha' hb' ha'' hb'' w (c1.trans (ord_lt g1)) (c2.trans (ord_eq g2)) (c3.trans (ord_lt (by omega))) (c4.trans (ord_gt g1)) (by rw [k, if_pos g1]; rfl) (fun w => by rw [q w, decide_eq_false (by omega)])
    · rcases Int.lt_trichotomy x z with g3 | g3 | g3
      · exact walk_mpm a b a' b' a'' b'' ha hb ha' hb' ha'' hb'' w (c1.trans (ord_lt g1)) (c2.trans (ord_gt g2)) (c3.trans (ord_lt g3)) (c4.trans (ord_gt g1)) (by rw [k, if_pos g1]; rfl) (fun w => by rw [q w, decide_eq_false (by omega)])
      · exact walk_mpz a b a' b' a'' b'' ha hb ha' hb' ha'' hb'' w (c1.trans (ord_lt g1)) (c2.trans (ord_gt g2)) (c3.trans (ord_eq g3)) (c4.trans (ord_gt g1)) (by rw [k, if_pos g1]; rfl) (fun w => by rw [q w, decide_eq_false (by omega)])
      · exact walk_mpp a b a' b' a'' b'' ha hb ha' hb' ha'' hb'' w (c1.trans (ord_lt g1)) (c2.trans (ord_gt g2)) (c3.trans (ord_gt g3)) (c4.trans (ord_gt g1)) (by rw [k, if_pos g1]; rfl) (fun w => by rw [q w, decide_eq_false (by omega)])
  · rcases Int.lt_trichotomy y z with g2 | g2 | g2
    · exact walk_zmm a b a' b' a'' b'' ha hb ha' hb' ha'' hb'' w (c1.trans (ord_eq g1)) (c2.trans (ord_lt g2)) (c3.trans (ord_lt (by omega))) (c4.trans (ord_eq g1.symm)) (by rw [k, if_neg (by omega)]; rfl) (fun w => by rw [q w, decide_eq_true g1])
    · exact walk_zzz a b a' b' a'' b'' ha hb ha' hb' ha'' hb'' w (c1.trans (ord_eq g1)) (c2.trans (ord_eq g2)) (c3.trans (ord_eq (by omega))) (c4.trans (ord_eq g1.symm)) (by rw [k, if_neg (by omega)]; rfl) (fun w => by rw [q w, decide_eq_true g1])
    · exact walk_zpp a b a' b' a'' b'' ha hb ha' hb' ha'' hb'' w (c1.trans (ord_eq g1)) (c2.trans (ord_gt g2)) (c3.trans (ord_gt (by omega))) (c4.trans (ord_eq g1.symm)) (by rw [k, if_neg (by omega)]; rfl) (fun w => by rw [q w, decide_eq_true g1])
  · rcases Int.lt_trichotomy y z with g2 | g2 | g2
    · rcases Int.lt_trichotomy x z with g3 | g3 | g3
      · exact walk_pmm a b a' b' a'' b'' ha hb ha' hb' ha'' hb'' w (c1.trans (ord_gt g1)) (c2.trans (ord_lt g2)) (c3.trans (ord_lt g3)) (c4.trans (ord_lt g1)) (by rw [k, if_neg (by omega)]; rfl) (fun w => by rw [q w, decide_eq_false (by omega)])
      · exact walk_pmz a b a' b' a'' b'' ha hb ha' hb' ha'' hb'' w (c1.trans (ord_gt g1)) (c2.trans (ord_lt g2)) (c3.trans (ord_eq g3)) (c4.trans (ord_lt g1)) (by rw [k, if_neg (by omega)]; rfl) (fun w => by rw [q w, decide_eq_false (by omega)])
      · exact walk_pmp a b a' b' a'' b'' ha hb ha' hb' ha'' hb'' w (c1.trans (ord_gt g1)) (c2.trans (ord_lt g2)) (c3.trans (ord_gt g3)) (c4.trans (ord_lt g1)) (by rw [k, if_neg (by omega)]; rfl) (fun w => by rw [q w, decide_eq_false (by omega)])
    · exact walk_pzp a b a' b' a'' b'' ha hb ha' hb' ha'' hb'' w (c1.trans (ord_gt g1)) (c2.trans (ord_eq g2)) (c3.trans (ord_gt (by omega))) (c4.trans (ord_lt g1)) (by rw [k, if_neg (by omega)]; rfl) (fun w => by rw [q w, decide_eq_false (by omega)])
    · exact walk_ppp a b a' b' a'' b'' ha hb ha' hb' ha'' hb'' w (c1.trans (ord_gt g1)) (c2.trans (ord_gt g2)) (c3.trans (ord_gt (by omega))) (c4.trans (ord_lt g1)) (by rw [k, if_neg (by omega)]; rfl) (fun w => by rw [q w, decide_eq_false (by omega)])

set_option maxRecDepth 100000 in
theorem lifted (os : Os) (started : os.Started) (H : Type) (enc : TypeId × Value → H) :
    ReturnsInHanded {} Try.checked os 5 .any (Rows.wideOrderSpec.pre6 enc Try.prog Try.f5 Rows.wideOrderRow.domain false) (Rows.wideOrderSpec.post enc Try.prog Try.f5 false true false false) := by
  refine returnsInHanded_of_change (C := Try.checked) own started (by kernel_rfl) Try.func5
    (ChangeSpec.witness6 (enc := enc) (C := Try.checked) false ⟨#[], #[.agg #[.int .u64 0, .int .u64 0], .agg #[.int .u64 0, .int .u64 0], .agg #[.int .u64 0, .int .u64 0]], []⟩ 8 (by kernel_rfl) (by kernel_rfl) (by kernel_rfl) (by kernel_rfl)) ?_
  intro W base args ds gs before hval0 hW hcnd _
  have hval : ∀ (j : Nat) t v, Try.f5.params[j]? = some t → args[j]? = some v → Value.okWide Try.prog W .any base t v := hval0
  have hW' := hW
  obtain ⟨p, q, hA0, hV, rfl, hfz, hnd⟩ := hW
  have hA : DataW.TrodAll enc Try.prog W 0 (fun _ => true) true Try.f5.params.toList args.toList ds p := hA0
  rw [Try.params5] at hA hval
  obtain ⟨v0, vs0, d0, ds0, p0, q0, hargs, rfl, rfl, h0, r0⟩ := trodAll_cons hA
  obtain ⟨v1, vs1, d1, ds1, p1, q1, rfl, rfl, rfl, h1, r1⟩ := trodAll_cons r0
  obtain ⟨v2, vs2, d2, ds2, p2, q2, rfl, rfl, rfl, h2, r2⟩ := trodAll_cons r1
  obtain ⟨rfl, rfl, rfl⟩ := trodAll_nil r2
  obtain rfl : args = #[v0, v1, v2] := by cases args; simp_all
  obtain ⟨rfl, rfl⟩ := trodVars_none hV
  have lt0 : ∀ x ∈ p0, x.block < W.heap.size := by obtain ⟨m, hm⟩ := h0; exact DataW.trod_lt m _ _ _ hm
  have lt1 : ∀ x ∈ p1, x.block < W.heap.size := by obtain ⟨m, hm⟩ := h1; exact DataW.trod_lt m _ _ _ hm
  have lt2 : ∀ x ∈ p2, x.block < W.heap.size := by obtain ⟨m, hm⟩ := h2; exact DataW.trod_lt m _ _ _ hm
  obtain ⟨a, b, rfl, ha, hb⟩ := open_pair (hval 0 29 v0 rfl rfl) h0
  obtain ⟨a', b', rfl, ha', hb'⟩ := open_pair (hval 1 29 v1 rfl rfl) h1
  obtain ⟨a'', b'', rfl, ha'', hb''⟩ := open_pair (hval 2 29 v2 rfl rfl) h2
  clear hA0 hval0
  refine (walk a b a' b' a'' b'' ha hb ha' hb' ha'' hb'' W).mono fun e W' ⟨he, bel⟩ => ?_
  subst he
  exact ⟨_, rfl, _, _, _, [], _, [], hW', trodAll_mk1 (shut_bool Try.underlying4 _), (trodAll_cons_mk (Below.trod laidOut (by kernel_rfl) (of_decide_eq_true (by kernel_rfl)) h0 bel lt0) (trodAll_cons_mk (Below.trod laidOut (by kernel_rfl) (of_decide_eq_true (by kernel_rfl)) h1 bel lt1) (trodAll_cons_mk (Below.trod laidOut (by kernel_rfl) (of_decide_eq_true (by kernel_rfl)) h2 bel lt2) trodAll_mk0))), rfl, bel.frame _, fun h => by cases h⟩

theorem over : Rows.wideOrderRow.holds Try.pinned (OpenSpec.ofChange Rows.wideOrderSpec) :=
  OpenClaim.holds_of_wide 5 Try.f5 rfl rfl rfl rfl rfl rfl rfl ⟨rfl, rfl, rfl, rfl, rfl⟩ rfl rfl rfl rfl rfl (by kernel_rfl) Try.func5 (by kernel_rfl)
    (of_decide_eq_true (by kernel_rfl)) (by unfold Func.isWrapper; first | (rw [if_pos (by decide +kernel)]; kernel_rfl) | (rw [if_neg (by decide +kernel)]; exact ⟨rfl, rfl⟩))
    (fun os started H enc _ => lifted os started H enc)

theorem proved : Rows.WideOrderSaid := over
#print axioms proved
end Go.Proofs.Ytdlfffecijimlaa.wideOrder
