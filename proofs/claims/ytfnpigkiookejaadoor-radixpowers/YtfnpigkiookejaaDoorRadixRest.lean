/- plumblaw04.rest: a power by a prime. -/
import Derived.Test.YtfnpigkiookejaaDoorBaseE
namespace Go.Proofs.YtfnpigkiookejaaDoor
open Go.ChangeShapes Go.WideShapes Go.ChangeAt Go.RowKit
open Na Ar
set_option linter.unusedVariables false
namespace Na
theorem pow_cong {a b p : Int} (h : a % p = b % p) (k : Nat) : a ^ k % p = b ^ k % p := by
  induction k with
  | zero => simp
  | succ k ih => rw [Int.pow_succ, Int.pow_succ, Int.mul_emod, ih, h, ← Int.mul_emod]
/-- r times b to the n is what was asked, by the prime -/
def RsI (X B R : Int) (N : Nat) : Prop := (0 ≤ B ∧ B < 4294967291) ∧ (0 ≤ R ∧ R < 4294967291) ∧ R * B ^ N % 4294967291 = X % 4294967291
theorem rs_mod {a p : Int} (h : 0 < p) : 0 ≤ a % p ∧ a % p < p := ⟨Int.emod_nonneg _ (by omega), Int.emod_lt_of_pos _ h⟩
theorem sq_half (B : Int) (N : Nat) : B ^ N = B ^ (N % 2) * (B * B) ^ (N / 2) := by
  have e : (B * B) ^ (N / 2) = B ^ (2 * (N / 2)) := by rw [Int.pow_mul]; congr 1; rw [show (2 : Nat) = 1 + 1 from rfl, Int.pow_add, Int.pow_one]
  rw [e, ← Int.pow_add]
  congr 1
  omega
theorem rsI_odd {X B R : Int} {N : Nat} (h : RsI X B R N) (ho : N % 2 = 1) : RsI X (B * B % 4294967291) (R * B % 4294967291) (N / 2) := by
  obtain ⟨h1, h2, h3⟩ := h
  refine ⟨rs_mod (by omega), rs_mod (by omega), ?_⟩
  rw [Int.mul_emod, Int.emod_emod_of_dvd _ (Int.dvd_refl _), pow_cong (Int.emod_emod_of_dvd _ (Int.dvd_refl _)) (N / 2), ← Int.mul_emod, ← h3]
  rw [sq_half B N, ho, Int.pow_one, Int.mul_assoc]
theorem rsI_even {X B R : Int} {N : Nat} (h : RsI X B R N) (ho : N % 2 = 0) : RsI X (B * B % 4294967291) R (N / 2) := by
  obtain ⟨h1, h2, h3⟩ := h
  refine ⟨rs_mod (by omega), h2, ?_⟩
  rw [Int.mul_emod, pow_cong (Int.emod_emod_of_dvd _ (Int.dvd_refl _)) (N / 2), ← Int.mul_emod, ← h3]
  rw [sq_half B N, ho, Int.pow_zero, Int.one_mul]
theorem rsI_done {X B R : Int} (h : RsI X B R 0) : R = X % 4294967291 := by
  obtain ⟨h1, h2, h3⟩ := h
  rw [Int.pow_zero, Int.mul_one, Int.emod_eq_of_lt h2.1 h2.2] at h3
  exact h3
theorem rs_mul {a b : Int} (ha : 0 ≤ a ∧ a < 4294967291) (hb : 0 ≤ b ∧ b < 4294967291) : 0 ≤ a * b ∧ a * b < 18446744073709551616 := by
  have m0 : 0 ≤ a * b := Int.mul_nonneg ha.1 hb.1
  have m1 : a * b ≤ 4294967290 * 4294967290 := Int.mul_le_mul (by omega) (by omega) hb.1 (by omega)
  generalize a * b = z at *
  omega
end Na
set_option maxHeartbeats 1600000 in
set_option maxRecDepth 100000 in
theorem rest_any {b : Int} (hb : 0 ≤ b ∧ b < 4294967291) (n : Nat) (hn : n ≤ 1000000) (w : World) :
    Calls Tryd.prog 25 #[.int .u64 b, .int .i64 (n : Int)] w fun e w' => e = .returned (.int .u64 (b ^ n % 4294967291)) ∧ w = w' := by
  have hst : RsI (b ^ n) b 1 n := ⟨hb, by omega, by rw [Int.one_mul]⟩
  go_enter Tryd.func25, Tryd.ntmps25
  go_wp2
  go_loop [0, 1, 6] (fun x m r => ∃ (B R : Int) (N : Nat), x = .int .u64 B ∧ m = .int .i64 (N : Int) ∧ r = .int .u64 R ∧ N ≤ n ∧ RsI (b ^ n) B R N) (fun _ m _ => (RowKit.intOf m).toNat)
  case atStart => exact ⟨b, 1, n, rfl, rfl, rfl, Nat.le_refl _, hst⟩
  case round =>
    obtain ⟨B, R, N, rfl, rfl, rfl, hN, hinv⟩ := hrel
    clear hst
    by_cases h0 : N = 0
    · subst h0
      have HE : Hid (R = b ^ n % 4294967291) := rsI_done hinv
      clear hinv
      go_wp2
      go_ret
      exact ⟨ret_int HE.out, rfl⟩
    · have hB := hinv.1
      have hR := hinv.2.1
      obtain ⟨m0, m1⟩ := rs_mul hB hB
      obtain ⟨q0, q1⟩ := rs_mul hR hB
      have w1 : IntKind.u64.wrap (B * B) = B * B := by rw [wrapU]; exact Int.emod_eq_of_lt m0 m1
      have w2 : IntKind.u64.wrap (R * B) = R * B := by rw [wrapU]; exact Int.emod_eq_of_lt q0 q1
      have hNp : (0 : Int) < (N : Int) := by omega
      have cN : Hid ((N : Int) / 2 = ((N / 2 : Nat) : Int)) := by show _ = _; omega
      have hNb : (N : Int) ≤ 1000000 := by omega
      have hdl : N / 2 < N := by omega
      rcases Nat.mod_two_eq_zero_or_one N with ho | ho
      · have hnx := rsI_even hinv ho
        have t : (((N : Int) % 2) == 1) = false := by simp; omega
        clear hinv ho hB hR
        go_wp2
        go_round
        case rel => exact ⟨_, _, N / 2, rfl, congrArg (Value.int .i64) cN.out, rfl, by omega, hnx⟩
        case measure => simp [RowKit.intOf]; omega
      · have hnx := rsI_odd hinv ho
        have t : (((N : Int) % 2) == 1) = true := by simp; omega
        clear hinv ho hB hR
        go_wp2
        go_round
        case rel => exact ⟨_, _, N / 2, rfl, congrArg (Value.int .i64) cN.out, rfl, by omega, hnx⟩
        case measure => simp [RowKit.intOf]; omega
end Go.Proofs.YtfnpigkiookejaaDoor
