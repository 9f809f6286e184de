/- plumbref01: shifts a place at a time, lengths, order. -/
import Derived.Test.YtdlfffecijimlabWide
import Derived.Test.YtdlfffecijimlabShift
namespace Go.Proofs.Ytdlfffecijimlab
open Go.ChangeShapes Go.WideShapes Go.ChangeAt Go.RowKit
open Ar
set_option linter.unusedVariables false

namespace Ar
theorem or_two {x t : Int} (ht : t = 0 ∨ t = 1) : bits .or .u64 (IntKind.u64.wrap (x * 2)) t = x * 2 % 18446744073709551616 + t := by
  rw [wrapU]
  have h : 0 ≤ x * 2 % 18446744073709551616 ∧ x * 2 % 18446744073709551616 < 18446744073709551616 := by omega
  rw [u64_or _ _ h.1 h.2 (by omega) (by omega)]
  have : ((x * 2 % 18446744073709551616).toNat ||| t.toNat) = (x * 2 % 18446744073709551616).toNat + t.toNat := nat_join 1 _ _ (by omega) (by omega)
  rw [this]; omega
def ShlInv (a b : Int) (k : Nat) (X Y : Int) : Prop := X = shHi a b k ∧ Y = shLo a b k
theorem shl_start {a b : Int} (ha : U a) (hb : U b) : ShlInv a b 0 a b := by
  unfold ShlInv shHi shLo U at *
  simp
  omega
theorem shl_step {a b X Y : Int} {k : Nat} (h : ShlInv a b k X Y) : ShlInv a b (k + 1) (bits .or .u64 (IntKind.u64.wrap (X * 2)) (Y / 9223372036854775808)) (IntKind.u64.wrap (Y * 2)) := by
  obtain ⟨hX, hY⟩ := h
  have uy : U Y := by rw [hY]; exact U_shLo ..
  have ty : Y / 9223372036854775808 = 0 ∨ Y / 9223372036854775808 = 1 := top_01 uy
  rw [or_two ty, wrapU]
  clear ty uy
  subst hX hY
  unfold ShlInv shHi shLo
  have e : (a * 18446744073709551616 + b) * 2 ^ (k + 1) = 2 * ((a * 18446744073709551616 + b) * 2 ^ k) := by rw [Int.pow_succ]; grind
  rw [e]
  generalize (a * 18446744073709551616 + b) * 2 ^ k = T
  omega
def ShrInv (a b : Int) (k : Nat) (X Y : Int) (L : Bool) : Prop := X = srHi a b k ∧ Y = srLo a b k ∧ L = srLost a b k
theorem shr_start {a b : Int} (ha : U a) (hb : U b) : ShrInv a b 0 a b false := by
  unfold ShrInv srHi srLo srLost U at *
  simp [Int.emod_one]
  omega
theorem shr_step {a b X Y : Int} {L : Bool} {k : Nat} (ha : U a) (hb : U b) (h : ShrInv a b k X Y L) :
    ShrInv a b (k + 1) (X / 2) (bits .or .u64 (Y / 2) (IntKind.u64.wrap (X * 9223372036854775808))) (L || (bits .and .u64 Y 1 == 1)) := by
  obtain ⟨hX, hY, hL⟩ := h
  have uy : U Y := by rw [hY]; exact U_srLo ..
  have ew : IntKind.u64.wrap (X * 9223372036854775808) = IntKind.u64.wrap (X % 2 * 2 ^ 63) := by
    rw [wrapU, wrapU]
    have : (2 : Int) ^ 63 = 9223372036854775808 := rfl
    rw [this]; omega
  have eo : bits .or .u64 (Y / 2) (IntKind.u64.wrap (X * 9223372036854775808)) = Y / 2 + X % 2 * 2 ^ 63 := by
    rw [ew]
    refine or_low (by omega) ?_ ?_ (by omega)
    · unfold U at uy; omega
    · unfold U at uy
      have : (2 : Int) ^ 63 = 9223372036854775808 := rfl
      rw [this]; omega
  have e63 : (2 : Int) ^ 63 = 9223372036854775808 := rfl
  rw [eo, and_one uy, e63]
  clear ew eo uy
  have ed : (a * 18446744073709551616 + b) / 2 ^ (k + 1) = (a * 18446744073709551616 + b) / 2 ^ k / 2 := by rw [← div_add]; rfl
  have em := emod_succ (a * 18446744073709551616 + b) k
  have p := pow_pos k
  have hm : 0 ≤ (a * 18446744073709551616 + b) % 2 ^ k := Int.emod_nonneg _ (by omega)
  subst hX hY hL
  unfold ShrInv srHi srLo srLost
  rw [ed, em]
  generalize (a * 18446744073709551616 + b) / 2 ^ k = T at *
  generalize (a * 18446744073709551616 + b) % 2 ^ k = R at *
  generalize (2 : Int) ^ k = P at *
  clear ed em
  refine ⟨by omega, by omega, ?_⟩
  rw [Bool.eq_iff_iff]
  have t : T % 2 = 0 ∨ T % 2 = 1 := by omega
  simp
  rcases t with t | t <;> rw [t] <;> omega
theorem len_div {x : Int} (h : U x) (k : Nat) : 0 < x / 2 ^ k ↔ (k : Int) < lenW x := by
  by_cases h0 : x = 0
  · subst h0; simp [lenW_zero]
  · obtain ⟨m, hm, e, l1, l2⟩ := lenW_pos h h0
    have p := pow_pos k
    rw [e]
    constructor
    · intro hp
      have h1 := Int.mul_ediv_self_le (x := x) (k := 2 ^ k) (by omega)
      have h2 : 2 ^ k * 1 ≤ 2 ^ k * (x / 2 ^ k) := Int.mul_le_mul_of_nonneg_left (by omega) (by omega)
      have c1 := pow_cast k
      have c2 := pow_cast (m + 1)
      have : 2 ^ k < 2 ^ (m + 1) := by omega
      have := (Nat.pow_lt_pow_iff_right (by omega)).mp this
      omega
    · intro hp
      have hle : (2 : Int) ^ k ≤ 2 ^ m := by
        have c1 := pow_cast k
        have c2 := pow_cast m
        have : 2 ^ k ≤ 2 ^ m := Nat.pow_le_pow_right (by omega) (by omega)
        omega
      have : 1 ≤ x / 2 ^ k := Int.le_ediv_of_mul_le p (by omega)
      omega
theorem zero_bit {x : Int} (h : U x) (k : Nat) (hk : k < 64) (hz : (k : Int) ≤ zerosW x) : (x / 2 ^ k % 2 = 0 ∧ (k : Int) < zerosW x) ∨ (x / 2 ^ k % 2 = 1 ∧ (k : Int) = zerosW x) := by
  by_cases h0 : x = 0
  · subst h0
    left
    have : zerosW 0 = 64 := rfl
    rw [this]; simp; omega
  · obtain ⟨z, m, hz', e, ex, _⟩ := zerosW_pos h h0
    rw [e] at hz ⊢
    have pz := pow_pos z
    have pk := pow_pos k
    have es : (2 : Int) ^ (z + 1) = 2 ^ z * 2 := Int.pow_succ _ _
    have d3 : x = (2 * (m : Int) + 1) * 2 ^ z := by rw [ex, es]; grind
    by_cases hlt : k = z
    · right
      subst hlt
      rw [d3, Int.mul_ediv_cancel _ (by omega)]
      omega
    · left
      have hs : z = (z - k - 1) + 1 + k := by omega
      have e4 : (2 : Int) ^ z = 2 ^ (z - k - 1) * 2 * 2 ^ k := by
        have : (2 : Int) ^ z = 2 ^ ((z - k - 1) + 1 + k) := by rw [← hs]
        rw [this, Int.pow_add, Int.pow_succ]
      have e5 : x = ((2 * (m : Int) + 1) * 2 ^ (z - k - 1) * 2) * 2 ^ k := by rw [d3, e4]; grind
      rw [e5, Int.mul_ediv_cancel _ (by omega)]
      omega
end Ar

theorem refHeld_any (n : Int) (w : World) :
    Calls Try.prog 31 #[.int .i64 n] w fun e w' => e = .returned (.int .i64 (clampN n)) ∧ w = w' := by
  by_cases h0 : n < 0
  · have e : clampN n = 0 := by unfold clampN; rw [if_pos (by omega)]
    rw [e]
    go_enter Try.func31, Try.ntmps31
    go_wp2
    go_ret
    exact ⟨rfl, rfl⟩
  · by_cases h1 : 128 < n
    · have e : clampN n = 128 := by unfold clampN; rw [if_neg (by omega), if_pos (by omega)]
      rw [e]
      go_enter Try.func31, Try.ntmps31
      go_wp2
      go_ret
      exact ⟨rfl, rfl⟩
    · have e : (clampN n : Int) = n := by
        unfold clampN; split
        · omega
        · split <;> omega
      rw [e]
      go_enter Try.func31, Try.ntmps31
      go_wp2
      go_ret
      exact ⟨rfl, rfl⟩

theorem refShl_any {a b : Int} (ha : U a) (hb : U b) (n : Int) (w : World) :
    Calls Try.prog 21 #[.int .u64 a, .int .u64 b, .int .i64 n] w fun e w' => e = .returned (.tuple #[.int .u64 (shHi a b (clampN n)), .int .u64 (shLo a b (clampN n))]) ∧ w = w' := by
  have hw := fun w => refHeld_any n w
  have hk := clampN_le n
  have h0 := shl_start ha hb
  generalize clampN n = k at *
  go_enter Try.func21, Try.ntmps21
  go_wp2
  go_loop [0, 1, 8] (fun x y i => ∃ (j : Nat) (X Y : Int), x = .int .u64 X ∧ y = .int .u64 Y ∧ i = .int .i64 j ∧ j ≤ k ∧ ShlInv a b j X Y) (fun _ _ i => k - (intOf i).toNat)
  case atStart => exact ⟨0, a, b, rfl, rfl, rfl, by omega, h0⟩
  case round =>
    obtain ⟨j, X, Y, rfl, rfl, rfl, hj, hr⟩ := hrel
    by_cases hlt : j < k
    · have hn := shl_step hr
      clear hr h0
      go_wp2_with (go_at_call 31; refine (hw _).mono ?_; rintro e w' ⟨rfl, rfl⟩)
      go_round
      case rel => exact ⟨j + 1, _, _, rfl, rfl, by go_num, by omega, hn⟩
      case measure => simp [intOf]; omega
    · have e : j = k := by omega
      subst e
      clear h0
      go_wp2_with (go_at_call 31; refine (hw _).mono ?_; rintro e w' ⟨rfl, rfl⟩)
      go_ret2
      exact ⟨ret_two hr.1 hr.2, rfl⟩

theorem refShr_any {a b : Int} (ha : U a) (hb : U b) (n : Int) (w : World) :
    Calls Try.prog 22 #[.int .u64 a, .int .u64 b, .int .i64 n] w fun e w' => e = .returned (.tuple #[.int .u64 (srHi a b (clampN n)), .int .u64 (srLo a b (clampN n)), .bool (srLost a b (clampN n))]) ∧ w = w' := by
  have hw := fun w => refHeld_any n w
  have hk := clampN_le n
  have h0 := shr_start ha hb
  generalize clampN n = k at *
  go_enter Try.func22, Try.ntmps22
  go_wp2
  go_loop [0, 1, 9, 10] (fun x y l i => ∃ (j : Nat) (X Y : Int) (L : Bool), x = .int .u64 X ∧ y = .int .u64 Y ∧ l = .bool L ∧ i = .int .i64 j ∧ j ≤ k ∧ ShrInv a b j X Y L) (fun _ _ _ i => k - (intOf i).toNat)
  case atStart => exact ⟨0, a, b, false, rfl, rfl, rfl, rfl, by omega, h0⟩
  case round =>
    obtain ⟨j, X, Y, L, rfl, rfl, rfl, rfl, hj, hr⟩ := hrel
    by_cases hlt : j < k
    · have hn := shr_step ha hb hr
      clear hr h0
      cases L with
      | true =>
        rw [Bool.true_or] at hn
        go_wp2_with (go_at_call 31; refine (hw _).mono ?_; rintro e w' ⟨rfl, rfl⟩)
        go_round
        case rel => exact ⟨j + 1, _, _, true, rfl, rfl, rfl, by go_num, by omega, hn⟩
        case measure => simp [intOf]; omega
      | false =>
        rw [Bool.false_or] at hn
        go_wp2_with (go_at_call 31; refine (hw _).mono ?_; rintro e w' ⟨rfl, rfl⟩)
        go_round
        case rel => exact ⟨j + 1, _, _, _, rfl, rfl, rfl, by go_num, by omega, hn⟩
        case measure => simp [intOf]; omega
    · have e : j = k := by omega
      subst e
      clear h0
      go_wp2_with (go_at_call 31; refine (hw _).mono ?_; rintro e w' ⟨rfl, rfl⟩)
      go_ret3
      exact ⟨ret_iib hr.1 hr.2.1 hr.2.2, rfl⟩

theorem refLen_any {x : Int} (hx : U x) (w : World) :
    Calls Try.prog 25 #[.int .u64 x] w fun e w' => e = .returned (.int .i64 (lenW x)) ∧ w = w' := by
  obtain ⟨b1, b2⟩ := lenW_bd hx
  go_enter Try.func25, Try.ntmps25
  go_wp2
  go_loop [0, 3] (fun v n => ∃ (k : Nat) (X : Int), v = .int .u64 X ∧ n = .int .i64 k ∧ Hid (X = x / 2 ^ k) ∧ (k : Int) ≤ lenW x) (fun _ n => (lenW x - intOf n).toNat)
  case atStart => exact ⟨0, x, rfl, rfl, (by simp : x = x / 2 ^ 0), by omega⟩
  case round =>
    obtain ⟨k, X, rfl, rfl, hX, hk⟩ := hrel
    have hd := len_div hx k
    rw [← hX.out] at hd
    by_cases hp : 0 < X
    · have hk' := hd.mp hp
      have e : X / 2 = x / 2 ^ (k + 1) := by rw [← div_add, hX.out]; rfl
      have E : Hid (X / 2 = x / 2 ^ (k + 1)) := e
      clear hd e
      go_wp2
      go_round
      case rel => exact ⟨k + 1, _, rfl, by go_num, E, by omega⟩
      case measure => simp [intOf]; omega
    · have hk' : lenW x = k := by
        have : ¬ (k : Int) < lenW x := fun h => hp (hd.mpr h)
        omega
      have HK : Hid (lenW x = k) := hk'
      clear hd hk'
      go_wp2
      go_ret
      exact ⟨ret_int HK.out.symm, rfl⟩

theorem refZeros_any {x : Int} (hx : U x) (w : World) :
    Calls Try.prog 26 #[.int .u64 x] w fun e w' => e = .returned (.int .i64 (zerosW x)) ∧ w = w' := by
  obtain ⟨b1, b2⟩ := zerosW_bd hx
  go_enter Try.func26, Try.ntmps26
  go_wp2
  go_loop [3] (fun n => ∃ (k : Nat), n = .int .i64 k ∧ (k : Int) ≤ zerosW x) (fun n => (zerosW x - intOf n).toNat)
  case atStart => exact ⟨0, rfl, by omega⟩
  case round =>
    obtain ⟨k, rfl, hk⟩ := hrel
    by_cases hlt : k < 64
    · rcases zero_bit hx k hlt hk with ⟨hb, hz⟩ | ⟨hb, hz⟩
      · have t : (bits .and .u64 (x / 2 ^ k) 1 == 0) = true := beq_of ((and_one (U_div_pow hx k)).trans hb)
        clear hb
        go_wp2
        go_round
        case rel => exact ⟨k + 1, by go_num, by omega⟩
        case measure => simp [intOf]; omega
      · have t : (bits .and .u64 (x / 2 ^ k) 1 == 0) = false := beq_no (by rw [and_one (U_div_pow hx k), hb]; decide)
        have HZ : Hid ((k : Int) = zerosW x) := hz
        clear hb hz
        go_wp2
        go_ret
        exact ⟨ret_int HZ.out, rfl⟩
    · have HZ : Hid ((k : Int) = zerosW x) := (by omega : (k : Int) = zerosW x)
      go_wp2
      go_ret
      exact ⟨ret_int HZ.out, rfl⟩

theorem refCmp_any (a b c d : Int) (w : World) :
    Calls Try.prog 24 #[.int .u64 a, .int .u64 b, .int .u64 c, .int .u64 d] w fun e w' => e = .returned (.int .i64 (cmp2 a b c d)) ∧ w = w' := by
  by_cases h1 : a < c
  · have e : cmp2 a b c d = -1 := by unfold cmp2 ord; rw [if_neg (by omega), if_pos h1]
    rw [e]
    go_enter Try.func24, Try.ntmps24
    go_wp2
    go_ret
    exact ⟨rfl, rfl⟩
  · by_cases h2 : a = c
    · have t : (a == c) = true := beq_of h2
      have f : cmp2 a b c d = ord b d := by unfold cmp2; rw [if_pos h2]
      by_cases h3 : b < d
      · have e : cmp2 a b c d = -1 := by rw [f]; unfold ord; rw [if_pos h3]
        rw [e]
        clear f e h2
        go_enter Try.func24, Try.ntmps24
        go_wp2
        go_ret
        exact ⟨rfl, rfl⟩
      · by_cases h4 : b = d
        · have e : cmp2 a b c d = 0 := by rw [f]; unfold ord; rw [if_neg h3, if_neg (by omega)]
          have t' : (b == d) = true := beq_of h4
          rw [e]
          clear f e h2 h4
          go_enter Try.func24, Try.ntmps24
          go_wp2
          go_ret
          exact ⟨rfl, rfl⟩
        · have e : cmp2 a b c d = 1 := by rw [f]; unfold ord; rw [if_neg h3, if_pos (by omega)]
          have t' : (b == d) = false := beq_no h4
          rw [e]
          clear f e h2 h4
          go_enter Try.func24, Try.ntmps24
          go_wp2
          go_ret
          exact ⟨rfl, rfl⟩
    · have t : (a == c) = false := beq_no h2
      have e : cmp2 a b c d = 1 := by unfold cmp2 ord; rw [if_neg h2, if_neg h1, if_pos (by omega)]
      rw [e]
      clear e h2
      go_enter Try.func24, Try.ntmps24
      go_wp2
      go_ret
      exact ⟨rfl, rfl⟩
end Go.Proofs.Ytdlfffecijimlab
