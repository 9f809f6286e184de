/- plumbref02: Zeros. -/
import Derived.Test.YtbdljmboilapeabRefNatBits
namespace Go.Proofs.Ytbdljmboilapeab
open Go.ChangeShapes Go.WideShapes Go.ChangeAt Go.RowKit
open Na
set_option linter.unusedVariables false

namespace Na
def ctz (n : Nat) : Nat := if h : n = 0 ∨ n % 2 = 1 then 0 else ctz (n / 2) + 1
termination_by n
decreasing_by omega
def zerosN (N : Int) : Int := (ctz N.toNat : Int)
theorem ctz_odd (m : Nat) : ctz (2 * m + 1) = 0 := by unfold ctz; rw [dif_pos (by omega)]
theorem ctz_pow (k m : Nat) : ctz (2 ^ k * (2 * m + 1)) = k := by
  induction k with
  | zero => rw [Nat.pow_zero, Nat.one_mul]; exact ctz_odd m
  | succ k ih =>
    have e : 2 ^ (k + 1) * (2 * m + 1) = 2 * (2 ^ k * (2 * m + 1)) := by rw [Nat.pow_succ]; grind
    have p : 0 < 2 ^ k * (2 * m + 1) := Nat.mul_pos (Nat.two_pow_pos k) (by omega)
    rw [e, ctz, dif_neg (by omega)]
    have d : 2 * (2 ^ k * (2 * m + 1)) / 2 = 2 ^ k * (2 * m + 1) := by omega
    rw [d, ih]
theorem zerosN_eq {N u : Int} {k : Nat} (h : N = 2 ^ k * u) (hu : 0 < u) (ho : u % 2 = 1) : zerosN N = k := by
  obtain ⟨m, hm⟩ : ∃ m : Nat, u = 2 * (m : Int) + 1 := ⟨(u / 2).toNat, by omega⟩
  have e : N.toNat = 2 ^ k * (2 * m + 1) := by
    have c := p2cast k
    have : N = ((2 ^ k * (2 * m + 1) : Nat) : Int) := by rw [h, hm, Int.natCast_mul, c]; rfl
    omega
  unfold zerosN
  rw [e, ctz_pow]
theorem zerosN_zero : zerosN 0 = 0 := by unfold zerosN; rw [show (0 : Int).toNat = 0 from rfl, ctz]; simp
def ZeI (x : Int) (k : Nat) (v : Int) : Prop := x = 2 ^ k * v ∧ 0 < v
theorem ze_start {x : Int} (h : 0 < x) : ZeI x 0 x := ⟨by simp, h⟩
theorem ze_step {x v : Int} {k : Nat} (h : ZeI x k v) (he : v % 2 = 0) : ZeI x (k + 1) (v / 2) := by
  obtain ⟨h1, h2⟩ := h
  refine ⟨?_, by omega⟩
  rw [h1, Int.pow_succ, Int.mul_assoc]
  have : 2 * (v / 2) = v := by omega
  rw [this]
theorem ze_small {x v : Int} {k : Nat} (h : ZeI x k v) (hx : x ≤ 65535) : k ≤ 15 := by
  by_cases g : 16 ≤ k
  · have l : 2 ^ 16 ≤ 2 ^ k := Nat.pow_le_pow_right (by omega) g
    have l' : (65536 : Int) ≤ 2 ^ k := by rw [← p2cast]; exact Int.ofNat_le.mpr l
    have p := p2pos k
    have m : (2 : Int) ^ k * 1 ≤ 2 ^ k * v := Int.mul_le_mul_of_nonneg_left (by have := h.2; omega) (by omega)
    rw [← h.1, Int.mul_one] at m
    generalize (2 : Int) ^ k = P at *
    omega
  · omega
theorem ze_end {ps : List Int} {x v : Int} {i k : Nat} (hp : Dg 65536 ps) (hi : i < ps.length) (hz : val 65536 (ps.take i) = 0) (hx : ps.getD i 0 = x) (h : ZeI x k v) (ho : v % 2 = 1) (hk : k ≤ 15) : zerosN (val 65536 ps) = 16 * i + k := by
  have e := val_at hi
  rw [hz, hx, Int.zero_add, h.1] at e
  have V0 := val_nonneg (B := 65536) (by omega) (hp.drop (i + 1))
  generalize val 65536 (ps.drop (i + 1)) = V at *
  have r : (65536 : Int) = 2 ^ k * (2 * 2 ^ (15 - k)) := by
    have : (2 : Int) * 2 ^ (15 - k) = 2 ^ (16 - k) := by
      have : 16 - k = (15 - k) + 1 := by omega
      rw [this, Int.pow_succ, Int.mul_comm]
    rw [this, ← Int.pow_add]
    have : k + (16 - k) = 16 := by omega
    rw [this]; rfl
  have e2 : 2 ^ k * v + 65536 * V = 2 ^ k * (v + 2 * (2 ^ (15 - k) * V)) := by
    have : (65536 : Int) * V = 2 ^ k * (2 * 2 ^ (15 - k)) * V := by rw [← r]
    rw [this]; grind
  rw [e2, p16, ← Int.mul_assoc, ← Int.pow_add] at e
  have w0 : 0 ≤ (2 : Int) ^ (15 - k) * V := Int.mul_nonneg (Int.le_of_lt (p2pos _)) V0
  have := zerosN_eq e (by have := h.2; omega) (by omega)
  rw [this]; omega
theorem ze_skip {ps : List Int} {i : Nat} (hi : i < ps.length) (hz : val 65536 (ps.take i) = 0) (hx : ps.getD i 0 = 0) : val 65536 (ps.take (i + 1)) = 0 := by
  rw [take_val hi, hz, hx]; simp
end Na

set_option maxHeartbeats 1600000 in
set_option maxRecDepth 100000 in
theorem refZeros_any {a : Option Addr} {m c1 : Nat} {xs : List Int} {w : World} (hr1 : RowAt .u64 w a m xs) (hx : Ws xs) (hm : m ≤ 100000) :
    Calls Try.prog 20 #[.slice a m c1] w fun e w' => e = .returned (.int .i64 (zerosN (num xs))) ∧ Below w.heap.size w w' := by
  have e1 := hr1.1
  have l1 := digs_len hx
  have p1 := num_nonneg hx
  have b1 : (digs (num xs)).length ≤ 400000 := by omega
  have v1 := val_digs p1
  have dx := Dg_digs (num xs)
  clear l1 e1
  go_enter Try.func20, Try.ntmps20
  go_wp2_with fail
  refine (digits_get hr1 hx (by omega)).mono ?_
  rintro e w1 ⟨a1, d1, rfl, _, _, rx, hbb⟩
  clear hr1
  generalize digs (num xs) = ps at *
  have HV : Hid (val 65536 ps = num xs) := v1
  obtain ⟨L, hL⟩ : ∃ L, L = ps.length := ⟨_, rfl⟩
  rw [← hL] at b1 rx ⊢
  have HL : Hid (L = ps.length) := hL
  clear hL v1
  go_wp2
  go_loop [4] (fun i => ∃ k : Nat, i = .int .i64 k ∧ k ≤ L ∧ Hid (val 65536 (ps.take k) = 0)) (fun i => L - (intOf i).toNat)
  case atStart => exact ⟨0, rfl, by omega, (by simp [val] : val 65536 (ps.take 0) = 0)⟩
  case round =>
    obtain ⟨i, rfl, hi, hz⟩ := hrel
    by_cases hlt : i < L
    · obtain ⟨b, off, rfl, hb, hc⟩ := rx.at (by omega)
      have hcx := hc i hlt
      have gx := dx.getAny i
      have hlt' : i < ps.length := by rw [← HL.out]; exact hlt
      have hsk := ze_skip hlt' hz.out
      have hen := fun x v k hx h ho hk => ze_end (x := x) (v := v) (k := k) dx hlt' hz.out hx h ho hk
      generalize hxx : ps.getD i 0 = x at *
      obtain ⟨gx0, gx1⟩ := gx
      by_cases h0 : x = 0
      · have t1 : (x == 0) = true := by simp [h0]
        have HS : Hid (val 65536 (ps.take (i + 1)) = 0) := hsk h0
        clear hc rx hsk hen hz h0 hxx hlt'
        go_wp2
        go_round
        case rel => exact ⟨i + 1, by go_num, by omega, HS⟩
        case measure => simp [intOf]; omega
      · have t1 : (x == 0) = false := by simp [h0]
        have hze := ze_start (x := x) (by omega)
        have hen' := fun v k h ho hk => hen x v k rfl h ho hk
        rw [HV.out] at hen'
        clear hc rx hsk hen hz hxx hlt' h0
        go_wp2
        go_loop [5, 6] (fun n v => ∃ (k : Nat) (V : Int), n = .int .i64 (16 * (i : Int) + k) ∧ v = .int .i64 V ∧ ZeI x k V ∧ 0 ≤ V ∧ V ≤ 65535) (fun _ v => (intOf v).toNat)
        case atStart => exact ⟨0, x, by go_num, rfl, hze, gx0, gx1⟩
        case round =>
          obtain ⟨k, V, rfl, rfl, hin, hV0, hV1⟩ := hrel
          have hk := ze_small hin gx1
          have hVp := hin.2
          by_cases he : V % 2 = 0
          · have t2 : (V % 2 == 0) = true := by simp [he]
            have hn := ze_step hin he
            clear hin hen' hze he
            go_wp2
            go_round
            case rel => exact ⟨k + 1, _, by go_num, rfl, hn, by omega, by omega⟩
            case measure => simp [intOf]; omega
          · have t2 : (V % 2 == 0) = false := by simp; omega
            have HE : Hid (16 * (i : Int) + k = zerosN (num xs)) := (hen' V k hin (by omega) hk).symm
            clear hin hen' hze he
            go_wp2
            go_ret
            exact ⟨ret_i HE.out, hbb⟩
    · have HE : Hid (0 = zerosN (num xs)) := by
        show _ = _
        have h := hz.out
        rw [List.take_of_length_le (by rw [← HL.out]; omega), HV.out] at h
        rw [h, zerosN_zero]
      clear rx hz
      go_wp2
      go_ret
      exact ⟨ret_i HE.out, hbb⟩
end Go.Proofs.Ytbdljmboilapeab
