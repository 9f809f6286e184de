/- plumbref02: Shr. -/
import Derived.Test.YtbdljmboilapeaaRefZeros
namespace Go.Proofs.Ytbdljmboilapeaa
open Go.ChangeShapes Go.WideShapes Go.ChangeAt Go.RowKit
open Na
set_option linter.unusedVariables false

namespace Na
def shrE (N n : Int) : Int := if n < 0 then 22 else resE (N / 2 ^ n.toNat)
def shrL (N n : Int) : List Int := if n < 0 then [] else resL (N / 2 ^ n.toNat)
def shrB (N n : Int) : Bool := if n < 0 then false else if resE (N / 2 ^ n.toNat) = 0 then decide (N % 2 ^ n.toNat ≠ 0) else false
/-- the sixteen powers of two that a digit is shifted by -/
def Pw (f : Int) : Prop := f = 1 ∨ f = 2 ∨ f = 4 ∨ f = 8 ∨ f = 16 ∨ f = 32 ∨ f = 64 ∨ f = 128 ∨ f = 256 ∨ f = 512 ∨ f = 1024 ∨ f = 2048 ∨ f = 4096 ∨ f = 8192 ∨ f = 16384 ∨ f = 32768
theorem pw_of {k : Nat} (h : k ≤ 15) : Pw (2 ^ k) := by
  have : k = 0 ∨ k = 1 ∨ k = 2 ∨ k = 3 ∨ k = 4 ∨ k = 5 ∨ k = 6 ∨ k = 7 ∨ k = 8 ∨ k = 9 ∨ k = 10 ∨ k = 11 ∨ k = 12 ∨ k = 13 ∨ k = 14 ∨ k = 15 := by omega
  rcases this with rfl | rfl | rfl | rfl | rfl | rfl | rfl | rfl | rfl | rfl | rfl | rfl | rfl | rfl | rfl | rfl <;> unfold Pw <;> decide
theorem pw_digit {f x y : Int} (hf : Pw f) (hx : 0 ≤ x ∧ x ≤ 65535) (hy : 0 ≤ y ∧ y ≤ 65535) :
    0 ≤ y % f * (65536 / f) ∧ y % f * (65536 / f) ≤ 65535 ∧ 0 ≤ x / f + y % f * (65536 / f) ∧ x / f + y % f * (65536 / f) < 65536 ∧ f * (x / f + y % f * (65536 / f)) = x - x % f + 65536 * (y % f) := by
  rcases hf with rfl | rfl | rfl | rfl | rfl | rfl | rfl | rfl | rfl | rfl | rfl | rfl | rfl | rfl | rfl | rfl <;> simp <;> omega
theorem pw_one {f x : Int} (hf : Pw f) (hx : 0 ≤ x ∧ x ≤ 65535) : 0 ≤ x / f ∧ x / f < 65536 ∧ f * (x / f) = x - x % f ∧ 0 ≤ x % f ∧ x % f < f ∧ 1 ≤ f ∧ f ≤ 32768 := by
  rcases hf with rfl | rfl | rfl | rfl | rfl | rfl | rfl | rfl | rfl | rfl | rfl | rfl | rfl | rfl | rfl | rfl <;> omega
def ShrI (ps : List Int) (f : Int) (k j : Nat) (fs : List Int) : Prop := Dg 65536 fs ∧ fs.length = j ∧ f * val 65536 fs + ps.getD k 0 % f = val 65536 ((ps.drop k).take j) + 65536 ^ j * (ps.getD (k + j) 0 % f)
theorem sr_start (ps : List Int) (f : Int) (k : Nat) : ShrI ps f k 0 [] := ⟨Dg.nil _, rfl, by simp [val]⟩
theorem drop_take_val {ps : List Int} {k j : Nat} (h : k + j < ps.length) : val 65536 ((ps.drop k).take (j + 1)) = val 65536 ((ps.drop k).take j) + 65536 ^ j * ps.getD (k + j) 0 := by
  rw [take_val (by rw [List.length_drop]; omega)]
  have : (ps.drop k).getD j 0 = ps.getD (k + j) 0 := by simp [List.getD_eq_getElem?_getD, List.getElem?_drop]
  rw [this]
theorem sr_next {ps fs : List Int} {f v : Int} {k j : Nat} (h : ShrI ps f k j fs) (hlt : k + j < ps.length) (hv : 0 ≤ v ∧ v < 65536) (e : f * v = ps.getD (k + j) 0 - ps.getD (k + j) 0 % f + 65536 * (ps.getD (k + j + 1) 0 % f)) : ShrI ps f k (j + 1) (fs ++ [v]) := by
  obtain ⟨h1, h2, h3⟩ := h
  refine ⟨h1.append (Dg.one hv), by rw [List.length_append, h2]; rfl, ?_⟩
  rw [val_append, h2, drop_take_val hlt, Int.pow_succ, ← Nat.add_assoc]
  have e4 : val 65536 [v] = v := by simp [val]
  rw [e4, Int.mul_add]
  have e5 : f * (65536 ^ j * v) = 65536 ^ j * (f * v) := by grind
  rw [e5, e]
  generalize (65536 : Int) ^ j = P at *
  generalize ps.getD (k + j) 0 = x at *
  generalize x % f = r at *
  generalize ps.getD (k + j + 1) 0 % f = s at *
  generalize ps.getD k 0 % f = u at *
  generalize val 65536 ((ps.drop k).take j) = V at *
  have e6 : P * (x - r + 65536 * s) = P * x - P * r + P * 65536 * s := by grind
  rw [e6]
  have e7 : P * 65536 * s = P * 65536 * s := rfl
  generalize P * 65536 * s = Z at *
  generalize P * x = X at *
  generalize P * r = R at *
  omega
theorem sr_whole {ps fs : List Int} {f : Int} {k j : Nat} (h : ShrI ps f k j fs) (hj : k + j = ps.length) (hf : 0 < f) (hr : 0 ≤ ps.getD k 0 % f ∧ ps.getD k 0 % f < f) : val 65536 fs = val 65536 (ps.drop k) / f := by
  obtain ⟨h1, h2, h3⟩ := h
  rw [List.take_of_length_le (by rw [List.length_drop]; omega), getD_out (by omega : ps.length ≤ k + j)] at h3
  have e : val 65536 (ps.drop k) = f * val 65536 fs + ps.getD k 0 % f := by simpa using h3.symm
  rw [e, Int.add_comm, Int.add_mul_ediv_left _ _ (by omega), Int.ediv_eq_zero_of_lt hr.1 hr.2]
  omega
theorem sr_split {ps : List Int} {t : Nat} (hp : Dg 65536 ps) (h : t / 16 < ps.length) : val 65536 ps / 2 ^ t = val 65536 (ps.drop (t / 16)) / 2 ^ (t % 16) ∧
    val 65536 ps % 2 ^ t = val 65536 (ps.take (t / 16)) + 65536 ^ (t / 16) * (ps.getD (t / 16) 0 % 2 ^ (t % 16)) := by
  have e : (2 : Int) ^ t = 65536 ^ (t / 16) * 2 ^ (t % 16) := by
    rw [p16, ← Int.pow_add]
    congr 1; omega
  have v0 := val_nonneg (B := 65536) (by omega) (hp.take (t / 16))
  have v1 := val_lt (B := 65536) (by omega) (hp.take (t / 16))
  rw [List.length_take, Nat.min_eq_left (by omega)] at v1
  have p : 0 < (65536 : Int) ^ (t / 16) := Int.pow_pos (by omega)
  have q := p2pos (t % 16)
  have ev : val 65536 ps = val 65536 (ps.take (t / 16)) + 65536 ^ (t / 16) * val 65536 (ps.drop (t / 16)) := by
    rw [val_at h, val_drop h]
  have ed := val_drop (B := 65536) h
  have pw := pw_of (show t % 16 ≤ 15 by omega)
  have r : ∃ z : Int, (65536 : Int) = 2 ^ (t % 16) * z := by
    rcases pw with g | g | g | g | g | g | g | g | g | g | g | g | g | g | g | g <;> rw [g] <;> first | exact ⟨65536, rfl⟩ | exact ⟨32768, rfl⟩ | exact ⟨16384, rfl⟩ | exact ⟨8192, rfl⟩ | exact ⟨4096, rfl⟩ | exact ⟨2048, rfl⟩ | exact ⟨1024, rfl⟩ | exact ⟨512, rfl⟩ | exact ⟨256, rfl⟩ | exact ⟨128, rfl⟩ | exact ⟨64, rfl⟩ | exact ⟨32, rfl⟩ | exact ⟨16, rfl⟩ | exact ⟨8, rfl⟩ | exact ⟨4, rfl⟩ | exact ⟨2, rfl⟩
  obtain ⟨z, hz⟩ := r
  have em : val 65536 (ps.drop (t / 16)) % 2 ^ (t % 16) = ps.getD (t / 16) 0 % 2 ^ (t % 16) := by
    rw [ed]
    have : (65536 : Int) * val 65536 (ps.drop (t / 16 + 1)) = 2 ^ (t % 16) * (z * val 65536 (ps.drop (t / 16 + 1))) := by rw [← Int.mul_assoc, ← hz]
    rw [this, Int.add_mul_emod_self_left]
  constructor
  · rw [ev, e, ← Int.ediv_ediv_of_nonneg (by omega), Int.add_mul_ediv_left _ _ (by omega), Int.ediv_eq_zero_of_lt v0 v1, Int.zero_add]
  · rw [← em, e]
    have hD := Int.mul_ediv_add_emod (val 65536 (ps.drop (t / 16))) (2 ^ (t % 16))
    have m0 : 0 ≤ val 65536 (ps.drop (t / 16)) % 2 ^ (t % 16) := Int.emod_nonneg _ (by omega)
    have m1 : val 65536 (ps.drop (t / 16)) % 2 ^ (t % 16) < 2 ^ (t % 16) := Int.emod_lt_of_pos _ q
    have split : val 65536 ps = (val 65536 (ps.take (t / 16)) + 65536 ^ (t / 16) * (val 65536 (ps.drop (t / 16)) % 2 ^ (t % 16))) + 65536 ^ (t / 16) * 2 ^ (t % 16) * (val 65536 (ps.drop (t / 16)) / 2 ^ (t % 16)) := by
      rw [ev]
      generalize val 65536 (ps.drop (t / 16)) / 2 ^ (t % 16) = Y at *
      generalize val 65536 (ps.drop (t / 16)) % 2 ^ (t % 16) = Z at *
      generalize (2 : Int) ^ (t % 16) = F at *
      generalize (65536 : Int) ^ (t / 16) = P at *
      rw [← hD]; grind
    rw [split, Int.add_mul_emod_self_left]
    have up : (65536 : Int) ^ (t / 16) * (val 65536 (ps.drop (t / 16)) % 2 ^ (t % 16) + 1) ≤ 65536 ^ (t / 16) * 2 ^ (t % 16) := Int.mul_le_mul_of_nonneg_left (by omega) (by omega)
    have lo : 0 ≤ (65536 : Int) ^ (t / 16) * (val 65536 (ps.drop (t / 16)) % 2 ^ (t % 16)) := Int.mul_nonneg (by omega) m0
    rw [Int.mul_add, Int.mul_one] at up
    exact Int.emod_eq_of_lt (by omega) (by omega)
/-- is one of the first digits not 0? -/
def lostD (ps : List Int) (i : Nat) : Bool := decide (val 65536 (ps.take i) ≠ 0)
theorem lost_next {ps : List Int} {i : Nat} (hp : Dg 65536 ps) (h : i < ps.length) : lostD ps (i + 1) = (lostD ps i || (ps.getD i 0 != 0)) := by
  unfold lostD
  rw [take_val h, Bool.eq_iff_iff]
  have v0 := val_nonneg (B := 65536) (by omega) (hp.take i)
  have g := hp.getAny i
  have p : 0 < (65536 : Int) ^ i := Int.pow_pos (by omega)
  have q : 0 ≤ (65536 : Int) ^ i * ps.getD i 0 := Int.mul_nonneg (by omega) g.1
  have z : (65536 : Int) ^ i * ps.getD i 0 = 0 ↔ ps.getD i 0 = 0 := by
    constructor
    · intro h
      rcases Int.mul_eq_zero.mp h with h | h
      · omega
      · exact h
    · intro h; rw [h]; simp
  generalize (65536 : Int) ^ i * ps.getD i 0 = Z at *
  generalize ps.getD i 0 = x at *
  generalize val 65536 (ps.take i) = V at *
  simp
  omega
theorem lost_all {ps : List Int} {t : Nat} (hp : Dg 65536 ps) (h : t / 16 < ps.length) : decide (val 65536 ps % 2 ^ t ≠ 0) = (lostD ps (t / 16) || (ps.getD (t / 16) 0 % 2 ^ (t % 16) != 0)) := by
  rw [(sr_split hp h).2]
  unfold lostD
  rw [Bool.eq_iff_iff]
  have v0 := val_nonneg (B := 65536) (by omega) (hp.take (t / 16))
  have g := pw_one (pw_of (show t % 16 ≤ 15 by omega)) (hp.getAny (t / 16))
  have p : 0 < (65536 : Int) ^ (t / 16) := Int.pow_pos (by omega)
  have q : 0 ≤ (65536 : Int) ^ (t / 16) * (ps.getD (t / 16) 0 % 2 ^ (t % 16)) := Int.mul_nonneg (by omega) g.2.2.2.1
  have z : (65536 : Int) ^ (t / 16) * (ps.getD (t / 16) 0 % 2 ^ (t % 16)) = 0 ↔ ps.getD (t / 16) 0 % 2 ^ (t % 16) = 0 := by
    constructor
    · intro h
      rcases Int.mul_eq_zero.mp h with h | h
      · omega
      · exact h
    · intro h; rw [h]; simp
  generalize (65536 : Int) ^ (t / 16) * (ps.getD (t / 16) 0 % 2 ^ (t % 16)) = Z at *
  generalize ps.getD (t / 16) 0 % 2 ^ (t % 16) = x at *
  generalize val 65536 (ps.take (t / 16)) = V at *
  simp
  omega
theorem shr_out {N : Int} {L t : Nat} (h0 : 0 ≤ N) (h : N < 65536 ^ L) (ht : L ≤ t / 16) : N / 2 ^ t = 0 ∧ N % 2 ^ t = N := by
  refine ⟨bit_out h0 h ht, ?_⟩
  rw [p16] at h
  have l : 2 ^ (16 * L) ≤ 2 ^ t := Nat.pow_le_pow_right (by omega) (by omega)
  have l' := Int.ofNat_le.mpr l
  rw [p2cast, p2cast] at l'
  exact Int.emod_eq_of_lt h0 (by omega)
end Na

theorem ret_vbi {v : Value} {k : IntKind} {p q : Bool} {a b : Int} (h : p = q) (h' : a = b) : Ending.returned (.tuple #[v, .bool p, .int k a]) = .returned (.tuple #[v, .bool q, .int k b]) := by rw [h, h']
end Go.Proofs.Ytbdljmboilapeaa
