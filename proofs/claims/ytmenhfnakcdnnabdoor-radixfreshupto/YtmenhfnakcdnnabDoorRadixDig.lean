/- package radix: what a digit stands for; known; step. -/
import Derived.Test.YtmenhfnakcdnnabDoorBaseB
import Derived.Laws.RangeAny
import Derived.Lib.OthersKept
namespace Go.Proofs.YtmenhfnakcdnnabDoor
open Go.ChangeShapes Go.WideShapes Go.ChangeAt Go.RowKit
open Na Ar
set_option linter.unusedVariables false
namespace Na
/-- a rune's value as a digit; 36: it is none -/
def valN (r : Int) : Int := if 48 ≤ r ∧ r ≤ 57 then r - 48 else if 97 ≤ r ∧ r ≤ 122 then r - 87 else if 65 ≤ r ∧ r ≤ 90 then r - 55 else 36
theorem valN_bd (r : Int) : 0 ≤ valN r ∧ valN r ≤ 36 := by unfold valN; split <;> (try split) <;> (try split) <;> omega
theorem valN_high {r : Int} (h : 128 ≤ r) : valN r = 36 := by unfold valN; rw [if_neg (by omega), if_neg (by omega), if_neg (by omega)]
end Na
theorem value_any (r : Int) (h0 : 0 ≤ r) (h1 : r ≤ 2147483647) (w : World) :
    Calls Tryd.prog 74 #[.int .i32 r] w fun e w' => e = .returned (.int .i64 (valN r)) ∧ w = w' := by
  by_cases a1 : 48 ≤ r
  · by_cases a2 : r ≤ 57
    · have HE : Hid (r - 48 = valN r) := by show _ = _; unfold valN; rw [if_pos ⟨a1, a2⟩]
      go_enter Tryd.func74, Tryd.ntmps74
      go_wp2
      go_ret
      exact ⟨ret_int HE.out, rfl⟩
    · by_cases a3 : 97 ≤ r
      · by_cases a4 : r ≤ 122
        · have HE : Hid (r - 97 + 10 = valN r) := by show _ = _; unfold valN; rw [if_neg (by omega), if_pos ⟨a3, a4⟩]; omega
          go_enter Tryd.func74, Tryd.ntmps74
          go_wp2
          go_ret
          exact ⟨ret_int HE.out, rfl⟩
        · have HE : Hid (36 = valN r) := by show _ = _; unfold valN; rw [if_neg (by omega), if_neg (by omega), if_neg (by omega)]
          have a5 : 65 ≤ r := by omega
          have a6 : ¬ r ≤ 90 := by omega
          go_enter Tryd.func74, Tryd.ntmps74
          go_wp2
          go_ret
          exact ⟨ret_int HE.out, rfl⟩
      · by_cases a5 : 65 ≤ r
        · by_cases a6 : r ≤ 90
          · have HE : Hid (r - 65 + 10 = valN r) := by show _ = _; unfold valN; rw [if_neg (by omega), if_neg (by omega), if_pos ⟨a5, a6⟩]; omega
            go_enter Tryd.func74, Tryd.ntmps74
            go_wp2
            go_ret
            exact ⟨ret_int HE.out, rfl⟩
          · have HE : Hid (36 = valN r) := by show _ = _; unfold valN; rw [if_neg (by omega), if_neg (by omega), if_neg (by omega)]
            go_enter Tryd.func74, Tryd.ntmps74
            go_wp2
            go_ret
            exact ⟨ret_int HE.out, rfl⟩
        · have HE : Hid (36 = valN r) := by show _ = _; unfold valN; rw [if_neg (by omega), if_neg (by omega), if_neg (by omega)]
          go_enter Tryd.func74, Tryd.ntmps74
          go_wp2
          go_ret
          exact ⟨ret_int HE.out, rfl⟩
  · have HE : Hid (36 = valN r) := by show _ = _; unfold valN; rw [if_neg (by omega), if_neg (by omega), if_neg (by omega)]
    have a3 : ¬ 97 ≤ r := by omega
    have a5 : ¬ 65 ≤ r := by omega
    go_enter Tryd.func74, Tryd.ntmps74
    go_wp2
    go_ret
    exact ⟨ret_int HE.out, rfl⟩
def knownB (b : Int) : Bool := decide (2 ≤ b ∧ b ≤ 36)
theorem known_any (b : Int) (w : World) :
    Calls Tryd.prog 40 #[.int .i64 b] w fun e w' => e = .returned (.bool (knownB b)) ∧ w = w' := by
  by_cases a1 : 2 ≤ b
  · by_cases a2 : b ≤ 36
    · have HE : Hid (knownB b = true) := by show _ = _; unfold knownB; simp [a1, a2]
      go_enter Tryd.func40, Tryd.ntmps40
      go_wp2
      go_ret
      exact ⟨by rw [HE.out]; rfl, rfl⟩
    · have HE : Hid (knownB b = false) := by show _ = _; unfold knownB; simp [a2]
      go_enter Tryd.func40, Tryd.ntmps40
      go_wp2
      go_ret
      exact ⟨by rw [HE.out]; rfl, rfl⟩
  · have HE : Hid (knownB b = false) := by show _ = _; unfold knownB; simp [a1]
    go_enter Tryd.func40, Tryd.ntmps40
    go_wp2
    go_ret
    exact ⟨by rw [HE.out]; rfl, rfl⟩
/-- the greatest power of the base that is a word -/
def IsStep (b : Int) (c : Nat) : Prop := 1 ≤ c ∧ c ≤ 64 ∧ b ^ c < 18446744073709551616 ∧ 18446744073709551616 ≤ b ^ (c + 1)
theorem step_small {b : Int} {c : Nat} (hb : 2 ≤ b) (h : b ^ c < 18446744073709551616) : c < 64 := by
  by_cases g : c < 64
  · exact g
  · have a : (2 : Int) ^ 64 ≤ 2 ^ c := p2mono (by omega)
    have e : (2 : Int) ^ c ≤ b ^ c := by
      induction c with
      | zero => simp
      | succ c _ =>
        have : ∀ k : Nat, (2 : Int) ^ k ≤ b ^ k := by
          intro k
          induction k with
          | zero => simp
          | succ k ih =>
            rw [Int.pow_succ, Int.pow_succ]
            exact Int.mul_le_mul ih hb (by omega) (Int.pow_nonneg (by omega))
        exact this _
    have f : (2 : Int) ^ 64 = 18446744073709551616 := by decide
    omega
set_option maxHeartbeats 1600000 in
set_option maxRecDepth 100000 in
theorem step_any (b : Int) (hb : 2 ≤ b) (hb9 : b ≤ 36) (w : World) :
    Calls Tryd.prog 41 #[.int .i64 b] w fun e w' => ∃ c : Nat, e = .returned (.tuple #[.int .u64 (b ^ c), .int .i64 (c : Int)]) ∧ IsStep b c ∧ w = w' := by
  go_enter Tryd.func41, Tryd.ntmps41
  have hb1 : b ^ 1 = b := Int.pow_one b
  have hwb : IntKind.u64.wrap b = b := by rw [wrapU]; omega
  have hbz : (b == 0) = false := by simp; omega
  go_wp2
  go_loop [4, 5] (fun s c => ∃ k : Nat, s = .int .u64 (b ^ k) ∧ c = .int .i64 (k : Int) ∧ 1 ≤ k ∧ k < 64 ∧ b ^ k < 18446744073709551616) (fun _ c => 64 - (intOf c).toNat)
  case atStart => exact ⟨1, by rw [hb1], rfl, by omega, by omega, by rw [hb1]; omega⟩
  case round =>
    obtain ⟨k, rfl, rfl, hk1, hk2, hkB⟩ := hrel
    have hp : 0 < b ^ k := Int.pow_pos (by omega)
    have hs : b ^ (k + 1) = b ^ k * b := Int.pow_succ ..
    have hsm := step_small (b := b) (c := k + 1) hb
    clear hb1
    by_cases hle : b ^ k ≤ 18446744073709551615 / b
    · have hlt : b ^ k * b < 18446744073709551616 := by
        have := Int.mul_le_mul_of_nonneg_right hle (show 0 ≤ b by omega)
        have d := Int.ediv_mul_le 18446744073709551615 (show b ≠ 0 by omega)
        omega
      have h64 := hsm (by rw [hs]; exact hlt)
      have hmn : 0 ≤ b ^ k * b := Int.mul_nonneg (by omega) (by omega)
      have HS : Hid (b ^ (k + 1) = b ^ k * b) := hs
      clear hs hsm
      generalize b ^ k = P at *
      go_wp2
      go_round
      case rel => exact ⟨k + 1, by rw [HS.out], by go_num, by omega, h64, by rw [HS.out]; exact hlt⟩
      case measure => simp [intOf]; omega
    · have hge : 18446744073709551616 ≤ b ^ (k + 1) := by
        rw [hs]
        have d := Int.lt_ediv_add_one_mul_self 18446744073709551615 (show 0 < b by omega)
        have := Int.mul_le_mul_of_nonneg_right (show 18446744073709551615 / b + 1 ≤ b ^ k by omega) (show 0 ≤ b by omega)
        omega
      have HI : IsStep b k := ⟨hk1, by omega, hkB, hge⟩
      clear hs hsm hge
      go_wp2
      go_ret2
      exact ⟨k, rfl, HI, rfl⟩
end Go.Proofs.YtmenhfnakcdnnabDoor
