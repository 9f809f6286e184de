/- plumbref02: Shr. -/
import Derived.Test.YtbdljmboilapeabRefZeros
namespace Go.Proofs.Ytbdljmboilapeab
open Go.ChangeShapes Go.WideShapes Go.ChangeAt Go.RowKit
open Na
set_option linter.unusedVariables false

namespace Na
def shrE (N n : Int) : Int := if n < 0 then 22 else resE (N / 2 ^ n.toNat)
def shrL (N n : Int) : List Int := if n < 0 then [] else resL (N / 2 ^ n.toNat)
def shrB (N n : Int) : Bool := if n < 0 then false else if resE (N / 2 ^ n.toNat) = 0 then decide (N % 2 ^ n.toNat ≠ 0) else false
/-- the sixteen powers of two that a digit is shifted by -/
def Pw (f : Int) : Prop := f = 1 ∨ f = 2 ∨ f = 4 ∨ f = 8 ∨ f = 16 ∨ f = 32 ∨ f = 64 ∨ f = 128 ∨ f = 256 ∨ f = 512 ∨ f = 1024 ∨ f = 2048 ∨ f = 4096 ∨ f = 8192 ∨ f = 16384 ∨ f = 32768
theorem pw_of {k : Nat} (h : k ≤ 15) : Pw (2 ^ k) := by
  have : k = 0 ∨ k = 1 ∨ k = 2 ∨ k = 3 ∨ k = 4 ∨ k = 5 ∨ k = 6 ∨ k = 7 ∨ k = 8 ∨ k = 9 ∨ k = 10 ∨ k = 11 ∨ k = 12 ∨ k = 13 ∨ k = 14 ∨ k = 15 := by omega
  rcases this with rfl | rfl | rfl | rfl | rfl | rfl | rfl | rfl | rfl | rfl | rfl | rfl | rfl | rfl | rfl | rfl <;> unfold Pw <;> decide
theorem pw_digit {f x y : Int} (hf : Pw f) (hx : 0 ≤ x ∧ x ≤ 65535) (hy : 0 ≤ y ∧ y ≤ 65535) :
    0 ≤ y % f * (65536 / f) ∧ y % f * (65536 / f) ≤ 65535 ∧ 0 ≤ x / f + y % f * (65536 / f) ∧ x / f + y % f * (65536 / f) < 65536 ∧ f * (x / f + y % f * (65536 / f)) = x - x % f + 65536 * (y % f) := by
  rcases hf with rfl | rfl | rfl | rfl | rfl | rfl | rfl | rfl | rfl | rfl | rfl | rfl | rfl | rfl | rfl | rfl <;> simp <;> omega
theorem pw_one {f x : Int} (hf : Pw f) (hx : 0 ≤ x ∧ x ≤ 65535) : 0 ≤ x / f ∧ x / f < 65536 ∧ f * (x / f) = x - x % f ∧ 0 ≤ x % f ∧ x % f < f ∧ 1 ≤ f ∧ f ≤ 32768 := by
  rcases hf with rfl | rfl | rfl | rfl | rfl | rfl | rfl | rfl | rfl | rfl | rfl | rfl | rfl | rfl | rfl | rfl <;> omega
def ShrI (ps : List Int) (f : Int) (k j : Nat) (fs : List Int) : Prop := Dg 65536 fs ∧ fs.length = j ∧ f * val 65536 fs + ps.getD k 0 % f = val 65536 ((ps.drop k).take j) + 65536 ^ j * (ps.getD (k + j) 0 % f)
theorem sr_start (ps : List Int) (f : Int) (k : Nat) : ShrI ps f k 0 [] := ⟨Dg.nil _, rfl, by simp [val]⟩
theorem drop_take_val {ps : List Int} {k j : Nat} (h : k + j < ps.length) : val 65536 ((ps.drop k).take (j + 1)) = val 65536 ((ps.drop k).take j) + 65536 ^ j * ps.getD (k + j) 0 := by
  rw [take_val (by rw [List.length_drop]; omega)]
  have : (ps.drop k).getD j 0 = ps.getD (k + j) 0 := by simp [List.getD_eq_getElem?_getD, List.getElem?_drop]
  rw [this]
theorem sr_next {ps fs : List Int} {f v : Int} {k j : Nat} (h : ShrI ps f k j fs) (hlt : k + j < ps.length) (hv : 0 ≤ v ∧ v < 65536) (e : f * v = ps.getD (k + j) 0 - ps.getD (k + j) 0 % f + 65536 * (ps.getD (k + j + 1) 0 % f)) : ShrI ps f k (j + 1) (fs ++ [v]) := by
  obtain ⟨h1, h2, h3⟩ := h
  refine ⟨h1.append (Dg.one hv), by rw [List.length_append, h2]; rfl, ?_⟩
  rw [val_append, h2, drop_take_val hlt, Int.pow_succ, ← Nat.add_assoc]
  have e4 : val 65536 [v] = v := by simp [val]
  rw [e4, Int.mul_add]
  have e5 : f * (65536 ^ j * v) = 65536 ^ j * (f * v) := by grind
  rw [e5, e]
  generalize (65536 : Int) ^ j = P at *
  generalize ps.getD (k + j) 0 = x at *
  generalize x % f = r at *
  generalize ps.getD (k + j + 1) 0 % f = s at *
  generalize ps.getD k 0 % f = u at *
  generalize val 65536 ((ps.drop k).take j) = V at *
  have e6 : P * (x - r + 65536 * s) = P * x - P * r + P * 65536 * s := by grind
  rw [e6]
  have e7 : P * 65536 * s = P * 65536 * s := rfl
  generalize P * 65536 * s = Z at *
  generalize P * x = X at *
  generalize P * r = R at *
  omega
theorem sr_whole {ps fs : List Int} {f : Int} {k j : Nat} (h : ShrI ps f k j fs) (hj : k + j = ps.length) (hf : 0 < f) (hr : 0 ≤ ps.getD k 0 % f ∧ ps.getD k 0 % f < f) : val 65536 fs = val 65536 (ps.drop k) / f := by
  obtain ⟨h1, h2, h3⟩ := h
  rw [List.take_of_length_le (by rw [List.length_drop]; omega), getD_out (by omega : ps.length ≤ k + j)] at h3
  have e : val 65536 (ps.drop k) = f * val 65536 fs + ps.getD k 0 % f := by simpa using h3.symm
  rw [e, Int.add_comm, Int.add_mul_ediv_left _ _ (by omega), Int.ediv_eq_zero_of_lt hr.1 hr.2]
  omega
theorem sr_split {ps : List Int} {t : Nat} (hp : Dg 65536 ps) (h : t / 16 < ps.length) : val 65536 ps / 2 ^ t = val 65536 (ps.drop (t / 16)) / 2 ^ (t % 16) ∧
    val 65536 ps % 2 ^ t = val 65536 (ps.take (t / 16)) + 65536 ^ (t / 16) * (ps.getD (t / 16) 0 % 2 ^ (t % 16)) := by
  have e : (2 : Int) ^ t = 65536 ^ (t / 16) * 2 ^ (t % 16) := by
    rw [p16, ← Int.pow_add]
    congr 1; omega
  have v0 := val_nonneg (B := 65536) (by omega) (hp.take (t / 16))
  have v1 := val_lt (B := 65536) (by omega) (hp.take (t / 16))
  rw [List.length_take, Nat.min_eq_left (by omega)] at v1
  have p : 0 < (65536 : Int) ^ (t / 16) := Int.pow_pos (by omega)
  have q := p2pos (t % 16)
  have ev : val 65536 ps = val 65536 (ps.take (t / 16)) + 65536 ^ (t / 16) * val 65536 (ps.drop (t / 16)) := by
    rw [val_at h, val_drop h]
  have ed := val_drop (B := 65536) h
  have pw := pw_of (show t % 16 ≤ 15 by omega)
  have r : ∃ z : Int, (65536 : Int) = 2 ^ (t % 16) * z := by
    rcases pw with g | g | g | g | g | g | g | g | g | g | g | g | g | g | g | g <;> rw [g] <;> first | exact ⟨65536, rfl⟩ | exact ⟨32768, rfl⟩ | exact ⟨16384, rfl⟩ | exact ⟨8192, rfl⟩ | exact ⟨4096, rfl⟩ | exact ⟨2048, rfl⟩ | exact ⟨1024, rfl⟩ | exact ⟨512, rfl⟩ | exact ⟨256, rfl⟩ | exact ⟨128, rfl⟩ | exact ⟨64, rfl⟩ | exact ⟨32, rfl⟩ | exact ⟨16, rfl⟩ | exact ⟨8, rfl⟩ | exact ⟨4, rfl⟩ | exact ⟨2, rfl⟩
  obtain ⟨z, hz⟩ := r
  have em : val 65536 (ps.drop (t / 16)) % 2 ^ (t % 16) = ps.getD (t / 16) 0 % 2 ^ (t % 16) := by
    rw [ed]
    have : (65536 : Int) * val 65536 (ps.drop (t / 16 + 1)) = 2 ^ (t % 16) * (z * val 65536 (ps.drop (t / 16 + 1))) := by rw [← Int.mul_assoc, ← hz]
    rw [this, Int.add_mul_emod_self_left]
  constructor
  · rw [ev, e, ← Int.ediv_ediv_of_nonneg (by omega), Int.add_mul_ediv_left _ _ (by omega), Int.ediv_eq_zero_of_lt v0 v1, Int.zero_add]
  · rw [← em, e]
    have hD := Int.mul_ediv_add_emod (val 65536 (ps.drop (t / 16))) (2 ^ (t % 16))
    have m0 : 0 ≤ val 65536 (ps.drop (t / 16)) % 2 ^ (t % 16) := Int.emod_nonneg _ (by omega)
    have m1 : val 65536 (ps.drop (t / 16)) % 2 ^ (t % 16) < 2 ^ (t % 16) := Int.emod_lt_of_pos _ q
    have split : val 65536 ps = (val 65536 (ps.take (t / 16)) + 65536 ^ (t / 16) * (val 65536 (ps.drop (t / 16)) % 2 ^ (t % 16))) + 65536 ^ (t / 16) * 2 ^ (t % 16) * (val 65536 (ps.drop (t / 16)) / 2 ^ (t % 16)) := by
      rw [ev]
      generalize val 65536 (ps.drop (t / 16)) / 2 ^ (t % 16) = Y at *
      generalize val 65536 (ps.drop (t / 16)) % 2 ^ (t % 16) = Z at *
      generalize (2 : Int) ^ (t % 16) = F at *
      generalize (65536 : Int) ^ (t / 16) = P at *
      rw [← hD]; grind
    rw [split, Int.add_mul_emod_self_left]
    have up : (65536 : Int) ^ (t / 16) * (val 65536 (ps.drop (t / 16)) % 2 ^ (t % 16) + 1) ≤ 65536 ^ (t / 16) * 2 ^ (t % 16) := Int.mul_le_mul_of_nonneg_left (by omega) (by omega)
    have lo : 0 ≤ (65536 : Int) ^ (t / 16) * (val 65536 (ps.drop (t / 16)) % 2 ^ (t % 16)) := Int.mul_nonneg (by omega) m0
    rw [Int.mul_add, Int.mul_one] at up
    exact Int.emod_eq_of_lt (by omega) (by omega)
/-- is one of the first digits not 0? -/
def lostD (ps : List Int) (i : Nat) : Bool := decide (val 65536 (ps.take i) ≠ 0)
theorem lost_next {ps : List Int} {i : Nat} (hp : Dg 65536 ps) (h : i < ps.length) : lostD ps (i + 1) = (lostD ps i || (ps.getD i 0 != 0)) := by
  unfold lostD
  rw [take_val h, Bool.eq_iff_iff]
  have v0 := val_nonneg (B := 65536) (by omega) (hp.take i)
  have g := hp.getAny i
  have p : 0 < (65536 : Int) ^ i := Int.pow_pos (by omega)
  have q : 0 ≤ (65536 : Int) ^ i * ps.getD i 0 := Int.mul_nonneg (by omega) g.1
  have z : (65536 : Int) ^ i * ps.getD i 0 = 0 ↔ ps.getD i 0 = 0 := by
    constructor
    · intro h
      rcases Int.mul_eq_zero.mp h with h | h
      · omega
      · exact h
    · intro h; rw [h]; simp
  generalize (65536 : Int) ^ i * ps.getD i 0 = Z at *
  generalize ps.getD i 0 = x at *
  generalize val 65536 (ps.take i) = V at *
  simp
  omega
theorem lost_all {ps : List Int} {t : Nat} (hp : Dg 65536 ps) (h : t / 16 < ps.length) : decide (val 65536 ps % 2 ^ t ≠ 0) = (lostD ps (t / 16) || (ps.getD (t / 16) 0 % 2 ^ (t % 16) != 0)) := by
  rw [(sr_split hp h).2]
  unfold lostD
  rw [Bool.eq_iff_iff]
  have v0 := val_nonneg (B := 65536) (by omega) (hp.take (t / 16))
  have g := pw_one (pw_of (show t % 16 ≤ 15 by omega)) (hp.getAny (t / 16))
  have p : 0 < (65536 : Int) ^ (t / 16) := Int.pow_pos (by omega)
  have q : 0 ≤ (65536 : Int) ^ (t / 16) * (ps.getD (t / 16) 0 % 2 ^ (t % 16)) := Int.mul_nonneg (by omega) g.2.2.2.1
  have z : (65536 : Int) ^ (t / 16) * (ps.getD (t / 16) 0 % 2 ^ (t % 16)) = 0 ↔ ps.getD (t / 16) 0 % 2 ^ (t % 16) = 0 := by
    constructor
    · intro h
      rcases Int.mul_eq_zero.mp h with h | h
      · omega
      · exact h
    · intro h; rw [h]; simp
  generalize (65536 : Int) ^ (t / 16) * (ps.getD (t / 16) 0 % 2 ^ (t % 16)) = Z at *
  generalize ps.getD (t / 16) 0 % 2 ^ (t % 16) = x at *
  generalize val 65536 (ps.take (t / 16)) = V at *
  simp
  omega
theorem shr_out {N : Int} {L t : Nat} (h0 : 0 ≤ N) (h : N < 65536 ^ L) (ht : L ≤ t / 16) : N / 2 ^ t = 0 ∧ N % 2 ^ t = N := by
  refine ⟨bit_out h0 h ht, ?_⟩
  rw [p16] at h
  have l : 2 ^ (16 * L) ≤ 2 ^ t := Nat.pow_le_pow_right (by omega) (by omega)
  have l' := Int.ofNat_le.mpr l
  rw [p2cast, p2cast] at l'
  exact Int.emod_eq_of_lt h0 (by omega)
end Na

theorem ret_vbi {v : Value} {k : IntKind} {p q : Bool} {a b : Int} (h : p = q) (h' : a = b) : Ending.returned (.tuple #[v, .bool p, .int k a]) = .returned (.tuple #[v, .bool q, .int k b]) := by rw [h, h']
set_option maxHeartbeats 6400000 in
set_option maxRecDepth 100000 in
theorem refShr_any {a : Option Addr} {m c1 : Nat} {xs : List Int} {w : World} (hr1 : RowAt .u64 w a m xs) (hx : Ws xs) (hm : m ≤ 100000) (n : Int) (hn9 : n ≤ 9223372036854775807) :
    Calls Try.prog 13 #[.slice a m c1, .int .i64 n] w fun e w' => ∃ v, e = .returned (.tuple #[v, .bool (shrB (num xs) n), .int .i64 (shrE (num xs) n)]) ∧ Own .u64 w' w.heap.size 47 v (shrL (num xs) n) ∧ Below w.heap.size w w' := by
  obtain ⟨i_i64, hi_i64, hz0_i64, hz1_i64, hz2_i64⟩ := info_parts info_int
  by_cases hneg : n < 0
  · have E1 : Hid (shrE (num xs) n = 22) := by show _ = _; unfold shrE; rw [if_pos hneg]
    have E2 : Hid (shrL (num xs) n = []) := by show _ = _; unfold shrL; rw [if_pos hneg]
    have E3 : Hid (shrB (num xs) n = false) := by show _ = _; unfold shrB; rw [if_pos hneg]
    go_enter Try.func13, Try.ntmps13
    go_wp2
    go_ret3
    exact ⟨_, ret_vbi E3.out.symm E1.out.symm, by rw [E2.out]; exact own_nil _ _ _ _, Below.refl _ _⟩
  · obtain ⟨t, rfl⟩ : ∃ t : Nat, n = (t : Int) := ⟨n.toNat, by omega⟩
    have E1 : Hid (shrE (num xs) (t : Int) = resE (num xs / 2 ^ t)) := by show _ = _; unfold shrE; rw [if_neg hneg]; simp
    have E2 : Hid (shrL (num xs) (t : Int) = resL (num xs / 2 ^ t)) := by show _ = _; unfold shrL; rw [if_neg hneg]; simp
    have E3 : Hid (shrB (num xs) (t : Int) = if resE (num xs / 2 ^ t) = 0 then decide (num xs % 2 ^ t ≠ 0) else false) := by show _ = _; unfold shrB; rw [if_neg hneg]; simp
    have e1 := hr1.1
    have l1 := digs_len hx
    have p1 := num_nonneg hx
    have b1 : (digs (num xs)).length ≤ 400000 := by omega
    have v1 := val_digs p1
    have dx := Dg_digs (num xs)
    have z1 := digs_nil p1
    have vl := val_lt (B := 65536) (by omega) dx
    rw [v1] at vl
    have so := fun h => shr_out (L := (digs (num xs)).length) (t := t) p1 vl h
    clear l1 e1 hneg vl
    go_enter Try.func13, Try.ntmps13
    go_wp2_with fail
    refine (digits_get hr1 hx (by omega)).mono ?_
    rintro e w1 ⟨a1, d1, rfl, _, _, rx, hbb⟩
    have hw1 := hbb.size
    clear hr1
    obtain ⟨A, hA⟩ : ∃ A, A = num xs := ⟨_, rfl⟩
    have HA : Hid (num xs = A) := hA.symm
    rw [← hA] at b1 v1 dx z1 rx p1 so E1 E2 E3 ⊢
    clear hA
    generalize digs A = ps at *
    have HV : Hid (val 65536 ps = A) := v1
    obtain ⟨n1, hn1⟩ : ∃ n1, n1 = ps.length := ⟨_, rfl⟩
    rw [← hn1] at b1 rx z1 so ⊢
    have HN : Hid (n1 = ps.length) := hn1
    clear hn1 v1
    by_cases hout : n1 ≤ t / 16
    · obtain ⟨o1, o2⟩ := so hout
      have E := res_zero o1
      have F2 : Hid (shrL (num xs) (t : Int) = []) := by show _ = _; rw [HA.out, E2.out]; exact E.1
      have F1 : Hid (0 = shrE (num xs) (t : Int)) := by show _ = _; rw [HA.out, E1.out]; exact E.2.symm
      have F3 : Hid (decide (0 < n1) = shrB (num xs) (t : Int)) := by
        show _ = _
        rw [HA.out, E3.out, E.2, if_pos rfl, o2, Bool.eq_iff_iff]
        simp
        omega
      clear E o1 o2 so z1 rx E1 E2 E3
      go_wp2
      go_ret3
      exact ⟨_, ret_vbi F3.out F1.out, by rw [F2.out]; exact own_nil _ _ _ _, hbb⟩
    · have hin : t / 16 < n1 := by omega
      have hin' : t / 16 < ps.length := by rw [← HN.out]; exact hin
      have hsp := sr_split (t := t) dx hin'
      rw [HV.out] at hsp
      have hla := lost_all (t := t) dx hin'
      rw [HV.out] at hla
      have HQ : Hid (A / 2 ^ t = val 65536 (ps.drop (t / 16)) / 2 ^ (t % 16)) := hsp.1
      have HLA : Hid (decide (A % 2 ^ t ≠ 0) = (lostD ps (t / 16) || (ps.getD (t / 16) 0 % 2 ^ (t % 16) != 0))) := hla
      obtain ⟨b, off, rfl, hb, hc⟩ := rx.at (by omega)
      have HC : Hid (∀ i, i < n1 → w1.cell? ⟨b, off + i, none⟩ = some (.int .i64 (ps.getD i 0))) := hc
      clear so z1 hsp hla hout hc rx
      go_wp2
      go_loop [9, 10] (fun l i => ∃ (k : Nat) (L : Bool), i = .int .i64 k ∧ l = .bool L ∧ k ≤ t / 16 ∧ Hid (L = lostD ps k)) (fun _ i => t / 16 - (intOf i).toNat)
      case atStart => exact ⟨0, false, rfl, rfl, by omega, (by simp [lostD, val] : false = lostD ps 0)⟩
      case round =>
        obtain ⟨k, L, rfl, rfl, hk, hL⟩ := hrel
        by_cases hkl : k < t / 16
        · have hcx := HC.out k (by omega)
          have hn := lost_next (i := k) dx (by rw [← HN.out]; omega)
          rw [← hL.out] at hn
          have gk := dx.getAny k
          generalize ps.getD k 0 = x at *
          have hkn : k < n1 := by omega
          cases L with
          | true =>
            rw [Bool.true_or] at hn
            have HN2 : Hid (true = lostD ps (k + 1)) := hn.symm
            clear hn hL
            go_wp2
            go_round
            case rel => exact ⟨k + 1, true, by go_num, rfl, by omega, HN2⟩
            case measure => simp [intOf]; omega
          | false =>
            rw [Bool.false_or] at hn
            have HN2 : Hid ((x != 0) = lostD ps (k + 1)) := hn.symm
            clear hn hL
            go_wp2
            go_round
            case rel => exact ⟨k + 1, _, by go_num, rfl, by omega, HN2⟩
            case measure => simp [intOf]; omega
        · have hke : k = t / 16 := by omega
          have HL2 : Hid (L = lostD ps (t / 16)) := by rw [← hke]; exact hL
          clear hL hke
          go_wp2
          go_loop [11, 12] (fun f i => ∃ j : Nat, i = .int .i64 j ∧ f = .int .i64 (2 ^ j) ∧ j ≤ t % 16) (fun _ i => t % 16 - (intOf i).toNat)
          case atStart => exact ⟨0, rfl, rfl, by omega⟩
          case round =>
            obtain ⟨j, rfl, rfl, hj⟩ := hrel
            have hpw := pow2_small (show j ≤ 15 by omega)
            have HP : Hid ((2 : Int) ^ (j + 1) = 2 ^ j * 2) := Int.pow_succ _ _
            by_cases hjl : j < t % 16
            · generalize hf : (2 : Int) ^ j = f at *
              obtain ⟨hf0, hf1⟩ := hpw
              clear hf hbb
              go_wp2
              go_round
              case rel => exact ⟨j + 1, by go_num, by rw [HP.out], by omega⟩
              case measure => simp [intOf]; omega
            · have hje : j = t % 16 := by omega
              have pw := pw_of (show j ≤ 15 by omega)
              have HF0 : Hid ((2 : Int) ^ (t % 16) = 2 ^ j) := by rw [hje]; rfl
              clear hje HP hpw
              generalize (2 : Int) ^ j = f at *
              have hcx := HC.out (t / 16) hin
              have gk := dx.getAny (t / 16)
              have g1 := pw_one pw gk
              obtain ⟨x, hxx⟩ : ∃ x, x = ps.getD (t / 16) 0 := ⟨_, rfl⟩
              rw [← hxx] at hcx gk g1
              have HX : Hid (x = ps.getD (t / 16) 0) := hxx
              have hf1 : 1 ≤ f := g1.2.2.2.2.2.1
              have hf2 : f ≤ 32768 := g1.2.2.2.2.2.2
              have hx0 : 0 ≤ x := gk.1
              have hx1 : x ≤ 65535 := gk.2
              have hst := sr_start ps f (t / 16)
              have hmod : Hid (0 ≤ x % f ∧ x % f < f) := ⟨g1.2.2.2.1, g1.2.2.2.2.1⟩
              have hfz : (f == 0) = false := by simp; omega
              obtain ⟨F, hF⟩ : ∃ F : Bool, F = (L || (x % f != 0)) := ⟨_, rfl⟩
              have HFin : Hid (F = decide (A % 2 ^ t ≠ 0)) := by
                show _ = _
                rw [HLA.out, ← HL2.out, ← HX.out, HF0.out]; exact hF
              have hwalk : ∀ (d0 : Bool), d0 = F → True := fun _ _ => trivial
              clear gk g1 hxx hwalk
              cases L with
              | true =>
                rw [Bool.true_or] at hF
                go_wp2
                go_loopw [13, 14, 15] (fun d i _ wr => ∃ (j : Nat) (fs : List Int), i = .int .i64 ((t / 16 + j : Nat) : Int) ∧ t / 16 + j ≤ n1 ∧ Own .i64 wr w1.heap.size 3 d fs ∧ ShrI ps f (t / 16) j fs ∧ Below w1.heap.size w1 wr) (fun _ i _ _ => n1 - (intOf i).toNat)
                case atStart => exact ⟨0, [], by go_num, by omega, own_nil _ _ _ _, hst, Below.refl _ _⟩
                case round =>
                  obtain ⟨j2, fs, rfl, hj2, hod, hinv, hnx⟩ := hrel
                  have hsz := hnx.size
                  have hel := hinv.2.1
                  clear hst
                  by_cases hlt : t / 16 + j2 < n1
                  · have hcy := (hnx.cell (p := ⟨b, off + (t / 16 + j2), none⟩) hb).trans (HC.out (t / 16 + j2) hlt)
                    have gy := dx.getAny (t / 16 + j2)
                    have gz := dx.getAny (t / 16 + j2 + 1)
                    have hnext := fun v hv e => sr_next (v := v) hinv (by rw [← HN.out]; exact hlt) hv e
                    by_cases hl2 : t / 16 + j2 + 1 < n1
                    · have hcz := (hnx.cell (p := ⟨b, off + (t / 16 + j2 + 1), none⟩) hb).trans (HC.out (t / 16 + j2 + 1) hl2)
                      generalize ps.getD (t / 16 + j2) 0 = y at *
                      generalize ps.getD (t / 16 + j2 + 1) 0 = z at *
                      obtain ⟨d1, d2, d3, d4, d5⟩ := pw_digit pw gy gz
                      have hst2 := hnext _ ⟨d3, d4⟩ d5
                      obtain ⟨gy0, gy1⟩ := gy
                      obtain ⟨gz0, gz1⟩ := gz
                      clear hnext hinv hbb d5 hcx
                      go_wp2
                      go_quiet (fail)
                      go_wp2_with (at_builtin; refine wpList_append_own _ rfl _ _ 71 rfl w1.heap.size 3 i_i64 (.int .i64 0) 1 8 Try.underlying71 hi_i64 hz0_i64 hz1_i64 hz2_i64 rfl (by decide) _ _ _ rfl (hod.row.alloc _) ⟨wr.heap.size, 0, none⟩ 1 1 [.int .i64 (y / f + z % f * (65536 / f))] rfl rfl one_new one_cell (by unfold maxLen; omega) (by omega) (by simp; omega) ?_)
                      intro v' w4 hown' hgrow _
                      have hb' := grow_below (wr := wr.drewN _) hsz hod.row (below_drewN hnx _) hgrow
                      have ho' := own_next hown' (by omega)
                      clear hown' hgrow hod hnx hcy hcz
                      go_wp2
                      go_roundw
                      case rel => exact ⟨j2 + 1, _, by go_num, by omega, ho', hst2, hb'⟩
                      case measure => simp [intOf]; omega
                    · have oz := getD_out (xs := ps) (k := t / 16 + j2 + 1) (by rw [← HN.out]; omega)
                      rw [oz] at hnext
                      generalize ps.getD (t / 16 + j2) 0 = y at *
                      obtain ⟨d1, d2, d3, d4, d5, d6, d7⟩ := pw_one pw gy
                      have hst2 := hnext (y / f) ⟨d1, d2⟩ (by rw [d3]; simp)
                      obtain ⟨gy0, gy1⟩ := gy
                      clear hnext hinv hbb d3 hcx oz gz
                      go_wp2_with (at_builtin; refine wpList_append_own _ rfl _ _ 71 rfl w1.heap.size 3 i_i64 (.int .i64 0) 1 8 Try.underlying71 hi_i64 hz0_i64 hz1_i64 hz2_i64 rfl (by decide) _ _ _ rfl (hod.row.alloc _) ⟨wr.heap.size, 0, none⟩ 1 1 [.int .i64 (y / f)] rfl rfl one_new one_cell (by unfold maxLen; omega) (by omega) (by simp; omega) ?_)
                      intro v' w4 hown' hgrow _
                      have hb' := grow_below hsz hod.row hnx hgrow
                      have ho' := own_next hown' (by omega)
                      clear hown' hgrow hod hnx hcy
                      go_wp2
                      go_roundw
                      case rel => exact ⟨j2 + 1, _, by go_num, by omega, ho', hst2, hb'⟩
                      case measure => simp [intOf]; omega
                  · have hv := sr_whole hinv (by rw [← HN.out]; omega) (by omega) (by rw [← HX.out]; exact hmod.out)
                    have HV2 : Hid (val 65536 fs = A / 2 ^ t) := by show _ = _; rw [HQ.out, HF0.out]; exact hv
                    have hfd := hinv.1
                    obtain ⟨a3, d3, rfl, q1, q2, r3⟩ := hod.reads
                    have hfl : fs.length ≤ 10000000 := by omega
                    have hbd := hbb.trans (hnx.mono hw1)
                    clear hv hinv hod hnx hbb hel hcx
                    go_wp2_with fail
                    refine (told_any r3 hfd hfl q1 q2).mono ?_
                    rintro e w5 ⟨v5, rfl, hown5, hb5⟩
                    have hbe := hbd.trans (hb5.mono hbd.size)
                    have hsz2 := hbd.size
                    rw [HV2.out] at hown5 ⊢
                    clear r3 hbd hb5
                    by_cases hE : resE (A / 2 ^ t) = 0
                    · have t9 : (resE (A / 2 ^ t) != 0) = false := by simp [hE]
                      have G3 : Hid (F = shrB (num xs) (t : Int)) := by
                        show _ = _
                        rw [HA.out, E3.out, if_pos hE]; exact HFin.out
                      have G1 : Hid (0 = shrE (num xs) (t : Int)) := by show _ = _; rw [HA.out, E1.out]; exact hE.symm
                      have G2 : Hid (shrL (num xs) (t : Int) = resL (A / 2 ^ t)) := by show _ = _; rw [HA.out]; exact E2.out
                      clear hE E1 E2 E3
                      go_wp2
                      go_ret3
                      exact ⟨_, ret_vbi (by rw [← G3.out, hF]) G1.out, by rw [G2.out]; exact hown5.wider hsz2, hbe⟩
                    · have t9 : (resE (A / 2 ^ t) != 0) = true := by simp [hE]
                      have G3 : Hid (false = shrB (num xs) (t : Int)) := by
                        show _ = _
                        rw [HA.out, E3.out, if_neg hE]
                      have G1 : Hid (resE (A / 2 ^ t) = shrE (num xs) (t : Int)) := by show _ = _; rw [HA.out]; exact E1.out.symm
                      have G2 : Hid (shrL (num xs) (t : Int) = []) := by
                        show _ = _
                        rw [HA.out, E2.out]
                        unfold resL
                        rw [if_neg]
                        intro h; apply hE; unfold resE; rw [if_pos h]
                      clear hE E1 E2 E3
                      go_wp2
                      go_ret3
                      exact ⟨_, ret_vbi G3.out G1.out, by rw [G2.out]; exact own_nil _ _ _ _, hbe⟩
              | false =>
                rw [Bool.false_or] at hF
                go_wp2
                go_loopw [13, 14, 15] (fun d i _ wr => ∃ (j : Nat) (fs : List Int), i = .int .i64 ((t / 16 + j : Nat) : Int) ∧ t / 16 + j ≤ n1 ∧ Own .i64 wr w1.heap.size 3 d fs ∧ ShrI ps f (t / 16) j fs ∧ Below w1.heap.size w1 wr) (fun _ i _ _ => n1 - (intOf i).toNat)
                case atStart => exact ⟨0, [], by go_num, by omega, own_nil _ _ _ _, hst, Below.refl _ _⟩
                case round =>
                  obtain ⟨j2, fs, rfl, hj2, hod, hinv, hnx⟩ := hrel
                  have hsz := hnx.size
                  have hel := hinv.2.1
                  clear hst
                  by_cases hlt : t / 16 + j2 < n1
                  · have hcy := (hnx.cell (p := ⟨b, off + (t / 16 + j2), none⟩) hb).trans (HC.out (t / 16 + j2) hlt)
                    have gy := dx.getAny (t / 16 + j2)
                    have gz := dx.getAny (t / 16 + j2 + 1)
                    have hnext := fun v hv e => sr_next (v := v) hinv (by rw [← HN.out]; exact hlt) hv e
                    by_cases hl2 : t / 16 + j2 + 1 < n1
                    · have hcz := (hnx.cell (p := ⟨b, off + (t / 16 + j2 + 1), none⟩) hb).trans (HC.out (t / 16 + j2 + 1) hl2)
                      generalize ps.getD (t / 16 + j2) 0 = y at *
                      generalize ps.getD (t / 16 + j2 + 1) 0 = z at *
                      obtain ⟨d1, d2, d3, d4, d5⟩ := pw_digit pw gy gz
                      have hst2 := hnext _ ⟨d3, d4⟩ d5
                      obtain ⟨gy0, gy1⟩ := gy
                      obtain ⟨gz0, gz1⟩ := gz
                      clear hnext hinv hbb d5 hcx
                      go_wp2
                      go_quiet (fail)
                      go_wp2_with (at_builtin; refine wpList_append_own _ rfl _ _ 71 rfl w1.heap.size 3 i_i64 (.int .i64 0) 1 8 Try.underlying71 hi_i64 hz0_i64 hz1_i64 hz2_i64 rfl (by decide) _ _ _ rfl (hod.row.alloc _) ⟨wr.heap.size, 0, none⟩ 1 1 [.int .i64 (y / f + z % f * (65536 / f))] rfl rfl one_new one_cell (by unfold maxLen; omega) (by omega) (by simp; omega) ?_)
                      intro v' w4 hown' hgrow _
                      have hb' := grow_below (wr := wr.drewN _) hsz hod.row (below_drewN hnx _) hgrow
                      have ho' := own_next hown' (by omega)
                      clear hown' hgrow hod hnx hcy hcz
                      go_wp2
                      go_roundw
                      case rel => exact ⟨j2 + 1, _, by go_num, by omega, ho', hst2, hb'⟩
                      case measure => simp [intOf]; omega
                    · have oz := getD_out (xs := ps) (k := t / 16 + j2 + 1) (by rw [← HN.out]; omega)
                      rw [oz] at hnext
                      generalize ps.getD (t / 16 + j2) 0 = y at *
                      obtain ⟨d1, d2, d3, d4, d5, d6, d7⟩ := pw_one pw gy
                      have hst2 := hnext (y / f) ⟨d1, d2⟩ (by rw [d3]; simp)
                      obtain ⟨gy0, gy1⟩ := gy
                      clear hnext hinv hbb d3 hcx oz gz
                      go_wp2_with (at_builtin; refine wpList_append_own _ rfl _ _ 71 rfl w1.heap.size 3 i_i64 (.int .i64 0) 1 8 Try.underlying71 hi_i64 hz0_i64 hz1_i64 hz2_i64 rfl (by decide) _ _ _ rfl (hod.row.alloc _) ⟨wr.heap.size, 0, none⟩ 1 1 [.int .i64 (y / f)] rfl rfl one_new one_cell (by unfold maxLen; omega) (by omega) (by simp; omega) ?_)
                      intro v' w4 hown' hgrow _
                      have hb' := grow_below hsz hod.row hnx hgrow
                      have ho' := own_next hown' (by omega)
                      clear hown' hgrow hod hnx hcy
                      go_wp2
                      go_roundw
                      case rel => exact ⟨j2 + 1, _, by go_num, by omega, ho', hst2, hb'⟩
                      case measure => simp [intOf]; omega
                  · have hv := sr_whole hinv (by rw [← HN.out]; omega) (by omega) (by rw [← HX.out]; exact hmod.out)
                    have HV2 : Hid (val 65536 fs = A / 2 ^ t) := by show _ = _; rw [HQ.out, HF0.out]; exact hv
                    have hfd := hinv.1
                    obtain ⟨a3, d3, rfl, q1, q2, r3⟩ := hod.reads
                    have hfl : fs.length ≤ 10000000 := by omega
                    have hbd := hbb.trans (hnx.mono hw1)
                    clear hv hinv hod hnx hbb hel hcx
                    go_wp2_with fail
                    refine (told_any r3 hfd hfl q1 q2).mono ?_
                    rintro e w5 ⟨v5, rfl, hown5, hb5⟩
                    have hbe := hbd.trans (hb5.mono hbd.size)
                    have hsz2 := hbd.size
                    rw [HV2.out] at hown5 ⊢
                    clear r3 hbd hb5
                    by_cases hE : resE (A / 2 ^ t) = 0
                    · have t9 : (resE (A / 2 ^ t) != 0) = false := by simp [hE]
                      have G3 : Hid (F = shrB (num xs) (t : Int)) := by
                        show _ = _
                        rw [HA.out, E3.out, if_pos hE]; exact HFin.out
                      have G1 : Hid (0 = shrE (num xs) (t : Int)) := by show _ = _; rw [HA.out, E1.out]; exact hE.symm
                      have G2 : Hid (shrL (num xs) (t : Int) = resL (A / 2 ^ t)) := by show _ = _; rw [HA.out]; exact E2.out
                      clear hE E1 E2 E3
                      go_wp2
                      go_ret3
                      exact ⟨_, ret_vbi (by rw [← G3.out, hF]) G1.out, by rw [G2.out]; exact hown5.wider hsz2, hbe⟩
                    · have t9 : (resE (A / 2 ^ t) != 0) = true := by simp [hE]
                      have G3 : Hid (false = shrB (num xs) (t : Int)) := by
                        show _ = _
                        rw [HA.out, E3.out, if_neg hE]
                      have G1 : Hid (resE (A / 2 ^ t) = shrE (num xs) (t : Int)) := by show _ = _; rw [HA.out]; exact E1.out.symm
                      have G2 : Hid (shrL (num xs) (t : Int) = []) := by
                        show _ = _
                        rw [HA.out, E2.out]
                        unfold resL
                        rw [if_neg]
                        intro h; apply hE; unfold resE; rw [if_pos h]
                      clear hE E1 E2 E3
                      go_wp2
                      go_ret3
                      exact ⟨_, ret_vbi G3.out G1.out, by rw [G2.out]; exact own_nil _ _ _ _, hbe⟩
end Go.Proofs.Ytbdljmboilapeab
