import Derived.Laws.CopyRow
import Derived.Laws.IdiomCopy
import Derived.Laws.IdiomRangeMap
import Derived.Deep.RegionWith
import Derived.Deep.QuietTactic
import Derived.BigQuiet
import Derived.Deep.DeepCutAuto
import Derived.Below
import Derived.ChangeOld
import Derived.Laws.BitsAllLaws
import Derived.OpenShut
import Derived.OwnWalk
import Derived.ProofKit
import Derived.ShutString
import Derived.WalkKit
import Derived.WalkLawsBesides
import Derived.WalkSpells
import Derived.Test.YtceecgklgkiffabGreatDoorXb2
/- Lists of words of 64 bits and their numbers: what package nat leans on. -/
namespace Go.Proofs.YtceecgklgkiffabGreatDoor
open Go.ChangeShapes Go.WideShapes Go.ChangeAt Go.RowKit
open Na
set_option linter.unusedVariables false
namespace Na
theorem take_valB {B : Int} {xs : List Int} {k : Nat} (h : k < xs.length) : val B (xs.take (k + 1)) = val B (xs.take k) + B ^ k * xs.getD k 0 := by
  rw [take_next h, val_append, List.length_take, Nat.min_eq_left (by omega)]
  simp [val]
theorem val_splitB (B : Int) (xs : List Int) {i : Nat} (h : i ≤ xs.length) : val B xs = val B (xs.take i) + B ^ i * val B (xs.drop i) := by
  have e := congrArg (val B) (List.take_append_drop i xs).symm
  rw [val_append, List.length_take, Nat.min_eq_left h] at e
  exact e
theorem val_atB {B : Int} {xs : List Int} {i : Nat} (h : i < xs.length) : val B xs = val B (xs.take i) + B ^ i * (xs.getD i 0 + B * val B (xs.drop (i + 1))) := by
  rw [val_splitB B xs (Nat.le_of_lt h), val_drop h]
theorem wpow_pos (k : Nat) : 0 < (18446744073709551616 : Int) ^ k := Int.pow_pos (by omega)
theorem wpow2 (k : Nat) : (18446744073709551616 : Int) ^ k = 2 ^ (64 * k) := by rw [Int.pow_mul]; rfl
theorem wpow_mono {a b : Nat} (h : a ≤ b) : (18446744073709551616 : Int) ^ a ≤ 18446744073709551616 ^ b := by
  have c1 : ((18446744073709551616 ^ a : Nat) : Int) = (18446744073709551616 : Int) ^ a := by simp
  have c2 : ((18446744073709551616 ^ b : Nat) : Int) = (18446744073709551616 : Int) ^ b := by simp
  have : 18446744073709551616 ^ a ≤ 18446744073709551616 ^ b := Nat.pow_le_pow_right (by omega) h
  omega
theorem p2mono {a b : Nat} (h : a ≤ b) : (2 : Int) ^ a ≤ 2 ^ b := by
  rw [← p2cast, ← p2cast]; exact Int.ofNat_le.mpr (Nat.pow_le_pow_right (by omega) h)
theorem num_bd {xs : List Int} (h : Ws xs) : num xs < 18446744073709551616 ^ xs.length := val_lt (by omega) h
theorem words_strip {xs : List Int} (h : Ws xs) : strip xs = words (num xs) := strip_dig (B := 18446744073709551616) (by omega) h
theorem words_short {N : Int} {k : Nat} (h0 : 0 ≤ N) (h : N < 18446744073709551616 ^ k) : (words N).length ≤ k := by
  refine dig_length (by omega) ?_
  have c : ((18446744073709551616 ^ k : Nat) : Int) = (18446744073709551616 : Int) ^ k := by simp
  omega
theorem words_le {xs : List Int} (h : Ws xs) : (words (num xs)).length ≤ xs.length := words_short (num_nonneg h) (num_bd h)
theorem num_words {N : Int} (h : 0 ≤ N) : num (words N) = N := val_words h
theorem strip_full {xs : List Int} (h : (strip xs).length = xs.length) : strip xs = xs := by
  induction xs with
  | nil => rfl
  | cons x xs ih =>
    unfold strip at h ⊢
    split at h
    · simp at h
    · rename_i hc
      rw [if_neg hc, ih (by simpa using h)]
theorem words_nil {N : Int} (h : 0 ≤ N) : (words N).length = 0 ↔ N = 0 := by
  rw [List.length_eq_zero_iff]
  unfold words
  rw [dig_nil (by omega)]
  omega
theorem words_last {N : Int} (h : 0 < N) : ∃ zs x, words N = zs ++ [x] ∧ x ≠ 0 := dig_last (B := 18446744073709551616) (by omega) N.toNat (by omega)
theorem words_ge {N : Int} (h : 0 < N) : (18446744073709551616 : Int) ^ ((words N).length - 1) ≤ N := by
  obtain ⟨zs, x, hz, hx⟩ := words_last h
  have dg := Dg_words N
  have v := val_words (N := N) (by omega)
  rw [hz] at dg v ⊢
  have gx := dg x (List.mem_append_right _ (by simp))
  have gz : Ws zs := fun y hy => dg y (List.mem_append_left _ hy)
  have v0 := val_nonneg (B := 18446744073709551616) (by omega) gz
  rw [val_append] at v
  have e : val 18446744073709551616 [x] = x := by simp [val]
  rw [e] at v
  have l : (zs ++ [x]).length - 1 = zs.length := by simp
  rw [l]
  have p := wpow_pos zs.length
  have m : (18446744073709551616 : Int) ^ zs.length * 1 ≤ 18446744073709551616 ^ zs.length * x := Int.mul_le_mul_of_nonneg_left (by omega) (by omega)
  omega
theorem words_lt {A B : Int} (hA : 0 ≤ A) (hB : 0 ≤ B) (h : (words A).length < (words B).length) : A < B := by
  have hb : 0 < B := by
    by_cases e : B = 0
    · have := (words_nil hB).mpr e; omega
    · omega
  have g := words_ge hb
  have l := num_bd (Dg_words A)
  rw [num_words hA] at l
  have m := wpow_mono (show (words A).length ≤ (words B).length - 1 by omega)
  omega
theorem word_lt {xs ys : List Int} {i : Nat} (hx : Ws xs) (hy : Ws ys) (h1 : i < xs.length) (h2 : i < ys.length) (hd : xs.drop (i + 1) = ys.drop (i + 1)) (h : xs.getD i 0 < ys.getD i 0) : num xs < num ys := by
  unfold num
  rw [val_atB h1, val_atB h2, hd]
  have a := val_lt (B := 18446744073709551616) (by omega) (hx.take i)
  rw [List.length_take, Nat.min_eq_left (by omega)] at a
  have b := val_nonneg (B := 18446744073709551616) (by omega) (hy.take i)
  have p := wpow_pos i
  generalize val 18446744073709551616 (ys.drop (i + 1)) = V
  have m : (18446744073709551616 : Int) ^ i * (xs.getD i 0 + 18446744073709551616 * V + 1) ≤ 18446744073709551616 ^ i * (ys.getD i 0 + 18446744073709551616 * V) := Int.mul_le_mul_of_nonneg_left (by omega) (by omega)
  rw [Int.mul_add, Int.mul_one] at m
  omega
theorem Dg.getAnyB {xs : List Int} (h : Ws xs) (k : Nat) : 0 ≤ xs.getD k 0 ∧ xs.getD k 0 < 18446744073709551616 := by
  by_cases hk : k < xs.length
  · have := h.get hk; omega
  · rw [getD_out (by omega)]; omega
/-- how many bits, told by two powers -/
theorem bits_some {N : Int} (h : 0 < N) : ∃ b : Nat, bitsN N = b + 1 ∧ 2 ^ b ≤ N ∧ N < 2 ^ (b + 1) := by
  refine ⟨N.toNat.log2, ?_, ?_, ?_⟩
  · unfold bitsN; rw [if_neg (by omega)]
  · have := Nat.log2_self_le (n := N.toNat) (by omega)
    rw [← p2cast]; omega
  · have := Nat.lt_log2_self (n := N.toNat)
    rw [← p2cast]; omega
theorem bits_none : bitsN 0 = 0 := rfl
theorem bits_nonneg (N : Int) : 0 ≤ bitsN N := by unfold bitsN; split <;> omega
theorem words_bits {N : Int} {b : Nat} (h1 : 2 ^ b ≤ N) (h2 : N < 2 ^ (b + 1)) : (words N).length = b / 64 + 1 := by
  have p := p2pos b
  have a : (words N).length ≤ b / 64 + 1 := by
    refine words_short (by omega) ?_
    rw [wpow2]
    have := p2mono (show b + 1 ≤ 64 * (b / 64 + 1) by omega)
    omega
  have c : b / 64 < (words N).length := by
    refine dig_len_ge ?_
    rw [wpow2]
    have := p2mono (show 64 * (b / 64) ≤ b by omega)
    omega
  omega
theorem bits_word {zs : List Int} {x : Int} {k : Nat} (hz : Ws zs) (h1 : 2 ^ k ≤ x) (h2 : x < 2 ^ (k + 1)) : bitsN (num (zs ++ [x])) = 64 * zs.length + k + 1 := by
  have e : num (zs ++ [x]) = num zs + 2 ^ (64 * zs.length) * x := by unfold num; rw [val_append, wpow2]; simp [val]
  rw [e]
  have v0 := num_nonneg hz
  have v1 := num_bd hz
  rw [wpow2] at v1
  have p := p2pos (64 * zs.length)
  have a : (2 : Int) ^ (64 * zs.length) * 2 ^ k ≤ 2 ^ (64 * zs.length) * x := Int.mul_le_mul_of_nonneg_left h1 (by omega)
  have b : (2 : Int) ^ (64 * zs.length) * (x + 1) ≤ 2 ^ (64 * zs.length) * 2 ^ (k + 1) := Int.mul_le_mul_of_nonneg_left (by omega) (by omega)
  rw [← Int.pow_add] at a b
  rw [Int.mul_add, Int.mul_one] at b
  have := bitsN_eq (N := num zs + 2 ^ (64 * zs.length) * x) (k := 64 * zs.length + k) (by omega) (by rw [Nat.add_assoc]; omega)
  rw [this]; omega
/-- the bits of a normal list -/
theorem bits_list {N : Int} {L : Nat} (h : 0 < N) (hl : (words N).length = L + 1) : 0 < (words N).getD L 0 ∧ bitsN N = (L : Int) * 64 + Ar.lenW ((words N).getD L 0) := by
  obtain ⟨zs, x, hz, hx⟩ := words_last h
  have dg := Dg_words N
  have v := num_words (N := N) (by omega)
  rw [hz] at dg v hl ⊢
  have gx := dg x (List.mem_append_right _ (by simp))
  have gz : Ws zs := fun y hy => dg y (List.mem_append_left _ hy)
  have l : zs.length = L := by simpa using hl
  subst l
  have e : (zs ++ [x]).getD zs.length 0 = x := by simp [List.getD_eq_getElem?_getD]
  rw [e]
  obtain ⟨k, hk, h1, h2, h3⟩ := Ar.lenW_pos (x := x) gx hx
  refine ⟨by omega, ?_⟩
  rw [← v, bits_word gz h2 h3, h1]
  omega
theorem zeros_word {xs : List Int} {i k : Nat} {m : Nat} (hx : Ws xs) (hi : i < xs.length) (hz : num (xs.take i) = 0) (hk : k < 64) (e : xs.getD i 0 = 2 ^ (k + 1) * m + 2 ^ k) : zerosN (num xs) = 64 * i + k := by
  have ev : num xs = 18446744073709551616 ^ i * (xs.getD i 0 + 18446744073709551616 * val 18446744073709551616 (xs.drop (i + 1))) := by
    have := val_atB (B := 18446744073709551616) hi
    have hz' : val 18446744073709551616 (xs.take i) = 0 := hz
    rw [hz', Int.zero_add] at this
    exact this
  have V0 := val_nonneg (B := 18446744073709551616) (by omega) (hx.drop (i + 1))
  generalize val 18446744073709551616 (xs.drop (i + 1)) = V at *
  have r : (18446744073709551616 : Int) = 2 ^ k * (2 * 2 ^ (63 - k)) := by
    have : (2 : Int) * 2 ^ (63 - k) = 2 ^ (64 - k) := by
      have : 64 - k = (63 - k) + 1 := by omega
      rw [this, Int.pow_succ, Int.mul_comm]
    rw [this, ← Int.pow_add]
    have : k + (64 - k) = 64 := by omega
    rw [this]; rfl
  have e2 : xs.getD i 0 + 18446744073709551616 * V = 2 ^ k * (2 * m + 1 + 2 * (2 ^ (63 - k) * V)) := by
    rw [e]
    have : (18446744073709551616 : Int) * V = 2 ^ k * (2 * 2 ^ (63 - k)) * V := by rw [← r]
    rw [this, Int.pow_succ]; grind
  rw [e2, wpow2, ← Int.mul_assoc, ← Int.pow_add] at ev
  have w0 : 0 ≤ (2 : Int) ^ (63 - k) * V := Int.mul_nonneg (Int.le_of_lt (p2pos _)) V0
  have := zerosN_eq ev (by omega) (by omega)
  rw [this]; omega
theorem zeros_skip {xs : List Int} {i : Nat} (hi : i < xs.length) (hz : num (xs.take i) = 0) (hx : xs.getD i 0 = 0) : num (xs.take (i + 1)) = 0 := by
  unfold num at *
  rw [take_valB hi, hz, hx]; simp
theorem word_bit {xs : List Int} {t : Nat} (hp : Ws xs) (h : t / 64 < xs.length) : num xs / 2 ^ t % 2 = xs.getD (t / 64) 0 / 2 ^ (t % 64) % 2 := by
  unfold num
  rw [val_atB h]
  have e : (2 : Int) ^ t = 18446744073709551616 ^ (t / 64) * 2 ^ (t % 64) := by
    rw [wpow2, ← Int.pow_add]
    congr 1; omega
  have v0 := val_nonneg (B := 18446744073709551616) (by omega) (hp.take (t / 64))
  have v1 := val_lt (B := 18446744073709551616) (by omega) (hp.take (t / 64))
  rw [List.length_take, Nat.min_eq_left (by omega)] at v1
  have p := wpow_pos (t / 64)
  rw [e, ← Int.ediv_ediv_of_nonneg (by omega), Int.add_mul_ediv_left _ _ (by omega), Int.ediv_eq_zero_of_lt v0 v1, Int.zero_add]
  have r : (18446744073709551616 : Int) = 2 ^ (t % 64) * (2 ^ (63 - t % 64) * 2) := by
    rw [← Int.pow_succ, ← Int.pow_add]
    have : t % 64 + (63 - t % 64 + 1) = 64 := by omega
    rw [Nat.succ_eq_add_one, this]; rfl
  have q := p2pos (t % 64)
  have e2 : xs.getD (t / 64) 0 + 18446744073709551616 * val 18446744073709551616 (xs.drop (t / 64 + 1)) = xs.getD (t / 64) 0 + 2 ^ (t % 64) * ((2 ^ (63 - t % 64) * 2) * val 18446744073709551616 (xs.drop (t / 64 + 1))) := by
    rw [← Int.mul_assoc, ← r]
  rw [e2, Int.add_mul_ediv_left _ _ (by omega)]
  have e3 : (2 : Int) ^ (63 - t % 64) * 2 * val 18446744073709551616 (xs.drop (t / 64 + 1)) = 2 * (2 ^ (63 - t % 64) * val 18446744073709551616 (xs.drop (t / 64 + 1))) := by grind
  rw [e3]
  omega
theorem word_bit_out {xs : List Int} {t : Nat} (hp : Ws xs) (h : xs.length ≤ t / 64) : num xs / 2 ^ t = 0 := by
  have h0 := num_nonneg hp
  have h1 := num_bd hp
  rw [wpow2] at h1
  have := p2mono (show 64 * xs.length ≤ t by omega)
  exact Int.ediv_eq_zero_of_lt h0 (by omega)
end Na
end Go.Proofs.YtceecgklgkiffabGreatDoor

/- package nat: trim, answer, Norm, From, Word. -/
namespace Go.Proofs.YtceecgklgkiffabGreatDoor
open Go.ChangeShapes Go.WideShapes Go.ChangeAt Go.RowKit
open Na
set_option linter.unusedVariables false

/-- a slice of words, with room that fits -/
def RowC (w : World) (a : Option Addr) (n cap : Nat) (xs : List Int) : Prop := RowAt .u64 w a n xs ∧ n ≤ cap ∧ cap ≤ maxLen
theorem RowC.later {w w' : World} {a : Option Addr} {n cap : Nat} {xs : List Int} (h : RowC w a n cap xs) (hb : Below w.heap.size w w') : RowC w' a n cap xs := ⟨h.1.later hb, h.2⟩
theorem Own.readsC {w : World} {base : Nat} {e : TypeId} {v : Value} {xs : List Int} (h : Own .u64 w base e v xs) : ∃ a cap, v = .slice a xs.length cap ∧ RowC w a xs.length cap xs := by
  obtain ⟨a, cap, hv, h1, h2, h3⟩ := h.reads
  exact ⟨a, cap, hv, h3, h1, h2⟩
theorem RowAt.cut {k : IntKind} {w : World} {a : Option Addr} {n : Nat} {xs : List Int} (h : RowAt k w a n xs) {m : Nat} (hm : m ≤ n) : RowAt k w a m (xs.take m) := by
  obtain ⟨h1, h2⟩ := h
  refine ⟨by rw [List.length_take]; omega, ?_⟩
  rcases h2 with h2 | ⟨b, off, ha, hlt, hc⟩
  · left; omega
  · refine Or.inr ⟨b, off, ha, hlt, fun i hi => ?_⟩
    rw [hc i (by omega)]
    have : (xs.take m).getD i 0 = xs.getD i 0 := by simp [List.getD_eq_getElem?_getD, List.getElem?_take_of_lt hi]
    rw [this]

namespace Na
theorem strip_take (xs : List Int) : ∃ m, m ≤ xs.length ∧ strip xs = xs.take m := by
  induction xs with
  | nil => exact ⟨0, Nat.le_refl _, rfl⟩
  | cons x xs ih =>
    obtain ⟨m, hm, hs⟩ := ih
    unfold strip
    split
    · exact ⟨0, Nat.zero_le _, rfl⟩
    · exact ⟨m + 1, by simp; omega, by rw [hs]; rfl⟩
theorem words_take {xs : List Int} (h : Ws xs) : xs.take (words (num xs)).length = words (num xs) := by
  obtain ⟨m, hm, hs⟩ := strip_take xs
  rw [words_strip h] at hs
  have : (words (num xs)).length = m := by rw [hs, List.length_take]; omega
  rw [this]; exact hs.symm
end Na
/-- the number's own words, in the memory of the list -/
theorem RowC.own_words {w : World} {a : Option Addr} {n cap : Nat} {xs : List Int} (h : RowC w a n cap xs) (hx : Ws xs) : RowAt .u64 w a (words (num xs)).length (words (num xs)) := by
  have := h.1.cut (m := (words (num xs)).length) (by have := words_le hx; have := h.1.1; omega)
  rw [words_take hx] at this
  exact this

theorem trim0_any {a : Option Addr} {n cap : Nat} {xs : List Int} {w : World} (hrow : RowAt .u64 w a n xs) (hn : n * 8 ≤ 140737488351232) (hcap : n ≤ cap) (hcap' : cap ≤ maxLen) :
    Calls Tryz.prog 66 #[.slice a n cap] w fun e w' => (∃ m : Nat, e = .returned (.slice a m cap) ∧ m ≤ n ∧ strip xs = xs.take m) ∧ w = w' := by
  have hlen := hrow.1
  unfold maxLen at hcap'
  go_enter Tryz.func66, Tryz.ntmps66
  go_wp2
  go_loop [3] (fun i => ∃ m : Nat, m ≤ n ∧ i = .int .i64 m ∧ Hid (strip xs = strip (xs.take m))) (fun i => (intOf i).toNat)
  case atStart => exact ⟨n, Nat.le_refl _, rfl, (by rw [List.take_of_length_le (by omega)] : strip xs = strip (xs.take n))⟩
  case round =>
    obtain ⟨m, hm, rfl, hs⟩ := hrel
    by_cases h0 : m = 0
    · subst h0
      have HF : Hid (strip xs = xs.take 0) := take_strip (Nat.zero_le _) hs.out (Or.inl rfl)
      go_wp2
      go_ret
      exact ⟨⟨0, rfl, Nat.zero_le _, HF.out⟩, rfl⟩
    · obtain ⟨b, off, rfl, hbB, hc⟩ := hrow.at (by omega)
      have hcx := hc (m - 1) (by omega)
      have hl : Hid (xs.take m = xs.take (m - 1) ++ [xs.getD (m - 1) 0]) := by
        have := take_next (xs := xs) (k := m - 1) (by omega)
        rw [Nat.sub_add_cancel (by omega)] at this
        exact this
      have HF := fun h => take_strip (xs := xs) (m := m) (by omega) hs.out (Or.inr h)
      obtain ⟨j, rfl⟩ : ∃ j, m = j + 1 := ⟨m - 1, by omega⟩
      simp only [Nat.add_sub_cancel] at hcx hl HF
      have hgo : xs.getD j 0 = 0 → strip xs = strip (xs.take j) := fun h => by rw [hs.out, hl.out, h, strip_zero_end]
      generalize xs.getD j 0 = x at *
      clear hc hrow hl hs
      by_cases hx : x = 0
      · have t : (x == 0) = true := by simp [hx]
        have HG : Hid (strip xs = strip (xs.take j)) := hgo hx
        clear HF hgo hx h0
        go_wp2
        go_round
        case rel => exact ⟨j, by omega, by go_num, HG⟩
        case measure => simp [intOf]
      · have t : (x == 0) = false := by simp [hx]
        have HF' : Hid (strip xs = xs.take (j + 1)) := HF hx
        clear HF hgo hx h0
        go_wp2
        go_ret
        exact ⟨⟨j + 1, rfl, by omega, HF'.out⟩, rfl⟩
/-- trim: the same memory, cut to the number's own words -/
theorem trimW_any {a : Option Addr} {n cap : Nat} {xs : List Int} {w : World} (hrow : RowC w a n cap xs) (hx : Ws xs) (hn : n ≤ 12000000) :
    Calls Tryz.prog 66 #[.slice a n cap] w fun e w' => e = .returned (.slice a (words (num xs)).length cap) ∧ RowC w a (words (num xs)).length cap (words (num xs)) ∧ xs.take (words (num xs)).length = words (num xs) ∧ (words (num xs)).length ≤ n ∧ w = w' := by
  have hl := hrow.1.1
  refine (trim0_any hrow.1 (by omega) hrow.2.1 hrow.2.2).mono ?_
  rintro e w' ⟨⟨m, rfl, hm, hs⟩, rfl⟩
  rw [words_strip hx] at hs
  have hm' : (words (num xs)).length = m := by rw [hs, List.length_take]; omega
  rw [hm']
  refine ⟨rfl, ⟨?_, Nat.le_trans hm hrow.2.1, hrow.2.2⟩, hs.symm, hm, rfl⟩
  rw [hs]; exact hrow.1.cut hm
theorem trim_any {a : Option Addr} {n cap : Nat} {xs : List Int} {w : World} (hrow : RowC w a n cap xs) (hx : Ws xs) (hn : n ≤ 4000000) :
    Calls Tryz.prog 66 #[.slice a n cap] w fun e w' => e = .returned (.slice a (words (num xs)).length cap) ∧ RowC w a (words (num xs)).length cap (words (num xs)) ∧ xs.take (words (num xs)).length = words (num xs) ∧ (words (num xs)).length ≤ n ∧ w = w' := trimW_any hrow hx (by omega)

theorem answer_any {a : Option Addr} {n cap base : Nat} {xs : List Int} {w : World} (hown : Own .u64 w base 22 (.slice a n cap) xs) (hl : n = xs.length) (hx : Ws xs) (hn : n ≤ 12000000) :
    Calls Tryz.prog 69 #[.slice a n cap] w fun e w' => ∃ v, e = .returned (.tuple #[v, .int .i64 (resE (num xs))]) ∧ Own .u64 w' base 22 v (resL (num xs)) ∧ w = w' := by
  subst hl
  obtain ⟨a2, cap2, hv, q1, q2, r⟩ := hown.reads
  simp only [Value.slice.injEq] at hv
  obtain ⟨ha, _, hc⟩ := hv
  rw [← ha] at r
  rw [← hc] at q1 q2
  have hs := words_strip hx
  have ht := fun (w : World) (r : RowAt .u64 w a xs.length xs) => trim0_any (cap := cap) r (by omega) q1 q2
  have hcut := fun (m : Nat) (h : m ≤ xs.length) => hown.cut h
  clear ha hc hown
  by_cases hb : (words (num xs)).length ≤ 4096
  · have E1 : Hid (resE (num xs) = 0) := by show _ = _; unfold resE; rw [if_pos hb]
    have E2 : Hid (resL (num xs) = words (num xs)) := by show _ = _; unfold resL; rw [if_pos hb]
    go_enter Tryz.func69, Tryz.ntmps69
    go_wp2_with fail
    refine (ht _ r).mono ?_
    rintro e w' ⟨⟨m, rfl, hm, hst⟩, rfl⟩
    have ho := hcut m hm
    rw [hs] at hst
    have hm4 : m ≤ 4096 := by
      have : (words (num xs)).length = m := by rw [hst, List.length_take]; omega
      omega
    rw [← hst] at ho
    clear hst hcut ht r hs hb q1 q2 hm
    go_wp2
    go_ret2
    exact ⟨_, by rw [E1.out]; rfl, by rw [E2.out]; exact ho, rfl⟩
  · have E1 : Hid (resE (num xs) = 21) := by show _ = _; unfold resE; rw [if_neg hb]
    have E2 : Hid (resL (num xs) = []) := by show _ = _; unfold resL; rw [if_neg hb]
    go_enter Tryz.func69, Tryz.ntmps69
    go_wp2_with fail
    refine (ht _ r).mono ?_
    rintro e w' ⟨⟨m, rfl, hm, hst⟩, rfl⟩
    rw [hs] at hst
    have hm4 : 4096 < m := by
      have : (words (num xs)).length = m := by rw [hst, List.length_take]; omega
      omega
    clear hst hcut ht r hs hb q1 q2 hm
    go_wp2
    go_ret2
    exact ⟨_, by rw [E1.out]; rfl, by rw [E2.out]; exact own_nil _ _ _ _, rfl⟩
end Go.Proofs.YtceecgklgkiffabGreatDoor

/- Writing in place: only one block turns. -/
namespace Go.Proofs.YtceecgklgkiffabGreatDoor
open Go.ChangeShapes Go.WideShapes Go.ChangeAt Go.RowKit
open Na
set_option linter.unusedVariables false

/-- only blocks from lo on and below hi may have turned (and new ones come) -/
structure In (lo hi : Nat) (w w' : World) : Prop where
  os : w'.os = w.os
  tape : w'.tape = w.tape
  output : w'.output = w.output
  size : w.heap.size ≤ w'.heap.size
  block : ∀ k, k < w.heap.size → (k < lo ∨ hi ≤ k) → w'.heap[k]? = w.heap[k]?
theorem In.refl (lo hi : Nat) (w : World) : In lo hi w w := ⟨rfl, rfl, rfl, Nat.le_refl _, fun _ _ _ => rfl⟩
theorem In.trans {lo hi : Nat} {a b c : World} (h : In lo hi a b) (k : In lo hi b c) : In lo hi a c :=
  ⟨k.os.trans h.os, k.tape.trans h.tape, k.output.trans h.output, Nat.le_trans h.size k.size, fun i hi' h' => (k.block i (Nat.lt_of_lt_of_le hi' h.size) h').trans (h.block i hi' h')⟩
theorem In.setCell {lo hi : Nat} {a w : World} (h : In lo hi a w) {g k : Nat} (h1 : lo ≤ g) (h2 : g < hi) (u : Value) : In lo hi a (w.setCell ⟨g, k, none⟩ u) :=
  h.trans ⟨rfl, rfl, rfl, by simp [World.setCell], fun i hi' h' => Below.heap_setCell _ _ _ _ (by simp only; omega)⟩
theorem In.set1 {g : Nat} {a w : World} (h : In g (g + 1) a w) (k : Nat) (u : Value) : In g (g + 1) a (w.setCell ⟨g, k, none⟩ u) := h.setCell (Nat.le_refl _) (by omega) u
theorem In.of_below {lo hi : Nat} {w w' : World} (h : Below w.heap.size w w') : In lo hi w w' := ⟨h.os, h.tape, h.output, h.size, fun k hk _ => h.block k hk⟩
theorem In.below {lo hi : Nat} {w w' : World} (h : In lo hi w w') (hlo : lo ≤ w.heap.size) : Below lo w w' := ⟨h.os, h.tape, h.output, h.size, fun k hk => h.block k (by omega) (Or.inl hk)⟩
theorem In.later {lo hi : Nat} {a w w' : World} (h : In lo hi a w) (h' : Below w.heap.size w w') : In lo hi a w' := h.trans (In.of_below h')
theorem In.wider {lo hi lo' hi' : Nat} {w w' : World} (h : In lo hi w w') (h1 : lo' ≤ lo) (h2 : hi ≤ hi') : In lo' hi' w w' := ⟨h.os, h.tape, h.output, h.size, fun k hk hh => h.block k hk (by omega)⟩
/-- blocks of a call's own are no elder one's -/
theorem below_inn {n lo hi : Nat} {a w w' : World} (h : Below n a w) (h' : In lo hi w w') (hn : n ≤ lo) (hs : n ≤ a.heap.size) : Below n a w' :=
  ⟨h'.os.trans h.os, h'.tape.trans h.tape, h'.output.trans h.output, Nat.le_trans h.size h'.size, fun k hk => (h'.block k (by have := h.size; omega) (Or.inl (by omega))).trans (h.block k hk)⟩
/-- the row's block is another one -/
def Off (a : Option Addr) (g : Nat) : Prop := ∀ b off, a = some ⟨b, off, none⟩ → b ≠ g
theorem RowAt.off {k : IntKind} {w : World} {a : Option Addr} {n : Nat} {xs : List Int} (h : RowAt k w a n xs) {g : Nat} (hn : 0 < n) (hg : w.heap.size ≤ g) : Off a g := by
  intro b off hab
  obtain ⟨b', off', ha, hlt, _⟩ := h.at hn
  rw [ha] at hab
  simp only [Option.some.injEq, Addr.mk.injEq] at hab
  omega
theorem off_of {b off g : Nat} (h : b ≠ g) : Off (some ⟨b, off, none⟩) g := by
  intro b' off' hb
  simp only [Option.some.injEq, Addr.mk.injEq] at hb
  omega
theorem RowAt.inn {k : IntKind} {w w' : World} {a : Option Addr} {n : Nat} {xs : List Int} (h : RowAt k w a n xs) {g : Nat} (hi : In g (g + 1) w w') (ho : 0 < n → Off a g) : RowAt k w' a n xs := by
  obtain ⟨h1, h2⟩ := h
  refine ⟨h1, ?_⟩
  by_cases hn : 0 < n
  · rcases h2 with h2 | ⟨b, off, ha, hlt, hc⟩
    · exact Or.inl h2
    · refine Or.inr ⟨b, off, ha, Nat.lt_of_lt_of_le hlt hi.size, fun i hi' => ?_⟩
      have hne := ho hn b off ha
      rw [← hc i hi']
      unfold World.cell?
      rw [hi.block b hlt (by omega)]
  · exact Or.inl (by omega)
theorem RowC.inn {w w' : World} {a : Option Addr} {n cap : Nat} {xs : List Int} (h : RowC w a n cap xs) {g : Nat} (hi : In g (g + 1) w w') (ho : 0 < n → Off a g) : RowC w' a n cap xs := ⟨h.1.inn hi ho, h.2⟩
theorem Own.inn {k : IntKind} {w w' : World} {base g g' n cap : Nat} {e : TypeId} {xs : List Int} (h : Own k w base e (.slice (some ⟨g', 0, none⟩) n cap) xs) (hi : In g (g + 1) w w') (hne : g' ≠ g) : Own k w' base e (.slice (some ⟨g', 0, none⟩) n cap) xs := by
  obtain ⟨h1, h2⟩ := h
  refine ⟨h1, ?_⟩
  rcases h2 with h2 | ⟨g2, c, cur, hv, hb, hc, r⟩
  · exact Or.inl h2
  · refine Or.inr ⟨g2, c, cur, hv, hb, ?_, r⟩
    have hlt : g2 < w.heap.size := by
      by_cases hlt : g2 < w.heap.size
      · exact hlt
      · simp [Array.getElem?_eq_none (Nat.le_of_not_lt hlt)] at hc
    simp only [Value.slice.injEq, Option.some.injEq, Addr.mk.injEq] at hv
    rw [hi.block g2 hlt (by omega)]; exact hc
theorem Own.rebase {k : IntKind} {w : World} {base base' g n cap : Nat} {e : TypeId} {xs : List Int} (h : Own k w base e (.slice (some ⟨g, 0, none⟩) n cap) xs) (hb : base' ≤ g) : Own k w base' e (.slice (some ⟨g, 0, none⟩) n cap) xs := by
  obtain ⟨h1, h2⟩ := h
  refine ⟨h1, ?_⟩
  rcases h2 with h2 | ⟨g2, c, cur, hv, hb2, r⟩
  · exact Or.inl h2
  · refine Or.inr ⟨g2, c, cur, hv, ?_, r⟩
    simp only [Value.slice.injEq, Option.some.injEq, Addr.mk.injEq] at hv
    omega
theorem Own.lt {k : IntKind} {w : World} {base g n cap : Nat} {e : TypeId} {xs : List Int} (h : Own k w base e (.slice (some ⟨g, 0, none⟩) n cap) xs) : g < w.heap.size := by
  obtain ⟨h1, h2⟩ := h
  rcases h2 with ⟨hv, _⟩ | ⟨g2, c, cur, hv, hb2, hc, r⟩
  · simp at hv
  · simp only [Value.slice.injEq, Option.some.injEq, Addr.mk.injEq] at hv
    by_cases hlt : g2 < w.heap.size
    · omega
    · simp [Array.getElem?_eq_none (Nat.le_of_not_lt hlt)] at hc
/-- an owned list reads as a row -/
theorem Own.rowC {w : World} {base g n cap : Nat} {e : TypeId} {xs : List Int} (h : Own .u64 w base e (.slice (some ⟨g, 0, none⟩) n cap) xs) (hn : n = xs.length) : RowC w (some ⟨g, 0, none⟩) n cap xs := by
  subst hn
  obtain ⟨a, c, hv, hr⟩ := h.readsC
  simp only [Value.slice.injEq] at hv
  obtain ⟨h1, _, h3⟩ := hv
  rw [← h1, ← h3] at hr
  exact hr
/-- a window of an owned list -/
theorem Own.win {w : World} {base g n cap : Nat} {e : TypeId} {xs : List Int} (h : Own .u64 w base e (.slice (some ⟨g, 0, none⟩) n cap) xs) (hn : n = xs.length) {o m : Nat} (hom : o + m ≤ n) : RowAt .u64 w (some ⟨g, o, none⟩) m ((xs.drop o).take m) := by
  refine ⟨by rw [List.length_take, List.length_drop]; omega, Or.inr ⟨g, o, rfl, h.lt, fun i hi => ?_⟩⟩
  rw [h.cellAt hn (by omega)]
  have : ((xs.drop o).take m).getD i 0 = xs.getD (o + i) 0 := by simp [List.getD_eq_getElem?_getD, List.getElem?_take_of_lt hi, List.getElem?_drop]
  rw [this]
namespace Na
/-- the window's number -/
def win (us : List Int) (o m : Nat) : Int := num ((us.drop o).take m)
theorem win_split {us : List Int} {o m : Nat} (h : o + m ≤ us.length) : num us = num (us.take o) + 18446744073709551616 ^ o * win us o m + 18446744073709551616 ^ (o + m) * num (us.drop (o + m)) := by
  unfold win num
  have e1 := val_splitB 18446744073709551616 us (i := o) (by omega)
  have e2 := val_splitB 18446744073709551616 (us.drop o) (i := m) (by rw [List.length_drop]; omega)
  rw [List.drop_drop] at e2
  rw [e1, e2, Int.pow_add, Int.mul_add, Int.mul_assoc, Int.add_assoc]
theorem Ws.win {us : List Int} (h : Ws us) (o m : Nat) : Ws ((us.drop o).take m) := (h.drop o).take m
theorem win_nonneg {us : List Int} (h : Ws us) (o m : Nat) : 0 ≤ Na.win us o m := num_nonneg (Ws.win h o m)
theorem win_lt {us : List Int} (h : Ws us) {o m : Nat} (hom : o + m ≤ us.length) : Na.win us o m < 18446744073709551616 ^ m := by
  have := num_bd (Ws.win h o m)
  rw [List.length_take, List.length_drop, Nat.min_eq_left (by omega)] at this
  exact this
theorem win_eq {us ts : List Int} {o m : Nat} {c P : Int} (hl : us.length = ts.length) (hom : o + m ≤ ts.length) (h1 : us.take o = ts.take o) (h2 : us.drop (o + m) = ts.drop (o + m))
    (h : num us + 18446744073709551616 ^ (o + m) * c = num ts + 18446744073709551616 ^ o * P) : Na.win us o m + 18446744073709551616 ^ m * c = Na.win ts o m + P := by
  rw [win_split (us := us) (o := o) (m := m) (by omega), win_split (us := ts) hom, h1, h2, Int.pow_add] at h
  have p := wpow_pos o
  generalize num (ts.take o) = T at h
  generalize num (ts.drop (o + m)) = D at h
  have e : 18446744073709551616 ^ o * (Na.win us o m + 18446744073709551616 ^ m * c) = 18446744073709551616 ^ o * (Na.win ts o m + P) := by grind
  exact Int.eq_of_mul_eq_mul_left (by omega) e
theorem win_all {us : List Int} {n : Nat} (h : us.length = n) : Na.win us 0 n = num us := by
  unfold Na.win; rw [List.drop_zero, List.take_of_length_le (by omega)]
end Na
end Go.Proofs.YtceecgklgkiffabGreatDoor

/- copy into memory that the call has made; stores into it. -/
namespace Go.Proofs.YtceecgklgkiffabGreatDoor
open Go.ChangeShapes Go.WideShapes Go.ChangeAt Go.RowKit
open Na
set_option linter.unusedVariables false

/-- ps laid over ds from off on -/
def over (ds ps : List Int) (off : Nat) : List Int := ds.take off ++ ps ++ ds.drop (off + ps.length)
theorem over_length {ds ps : List Int} {off : Nat} (h : off + ps.length ≤ ds.length) : (over ds ps off).length = ds.length := by unfold over; simp; omega
theorem copy_runI {P : Program} {w : World} (dT sT ty elem : TypeId) (hu : P.underlying dT = some (.slice elem)) (hsz : (P.info? elem).map (·.size) = some 1)
    (g off dLen dCap N cap base : Nat) (e : TypeId) (ds ps : List Int) (hown : Own .u64 w base e (.slice (some ⟨g, 0, none⟩) N cap) ds) (hN : N = ds.length)
    (sa : Option Addr) (n scap : Nat) (hr : RowAt .u64 w sa n ps) (hfit : n ≤ dLen) (hoff : off + dLen ≤ N) :
    ∃ w', (Builtin.copy_ #[dT, sT] ty #[.slice (some ⟨g, off, none⟩) dLen dCap, .slice sa n scap]).run P w = .ok (goInt n) w' ∧ Own .u64 w' base e (.slice (some ⟨g, 0, none⟩) N cap) (over ds ps off) ∧ In g (g + 1) w w' := by
  obtain ⟨hl, hcells⟩ := hr
  by_cases h0 : n = 0
  · have e0 : ps = [] := List.eq_nil_of_length_eq_zero (by omega)
    have hrun := run_copy_none (P := P) w dT sT ty elem (some ⟨g, off, none⟩) sa dLen dCap n scap hu hsz (by rw [h0]; exact Nat.zero_min _)
    subst h0
    exact ⟨w, hrun, by rw [e0]; unfold over; simpa using hown, In.refl _ _ _⟩
  · rcases hcells with hz | ⟨b, so, rfl, hb, hc⟩
    · omega
    · obtain ⟨h1, h2⟩ := hown
      rcases h2 with ⟨hv, _⟩ | ⟨g', cap', cur, hv, hbg, hg, hnc, hcm, hcs, hct⟩
      · simp at hv
      · simp only [Value.slice.injEq, Option.some.injEq, Addr.mk.injEq] at hv
        obtain ⟨⟨rfl, _, _⟩, rfl, rfl⟩ := hv
        simp only [Nat.mul_one] at hcs hct
        have hrun := run_copy_row (P := P) w dT sT ty elem g off dLen dCap ⟨b, so, none⟩ n scap cur e (ps.map (Value.int .u64)) hu hsz hg
          (by rw [List.length_map, hl]; exact (Nat.min_eq_left hfit).symm)
          (fun j v hj => by
            have hjl : j < ps.length := by
              by_cases q : j < ps.length
              · exact q
              · rw [List.getElem?_eq_none (by simp; omega)] at hj; simp at hj
            have := hc j (by omega)
            have ea : (⟨b, so, none⟩ : Addr).add j = ⟨b, so + j, none⟩ := by
              unfold Addr.add
              by_cases hi0 : j = 0
              · subst hi0; simp
              · simp [hi0]
            rw [ea, this, ← hj]
            simp [List.getElem?_eq_getElem hjl, List.getD_eq_getElem?_getD])
          (by rw [List.length_map]; omega)
          (fun v hv => by simp only [List.mem_map] at hv; obtain ⟨x, _, rfl⟩ := hv; rfl)
        have hgo : Own .u64 (w.setRow g (cur.toList.take off ++ ps.map (Value.int .u64) ++ cur.toList.drop (off + (ps.map (Value.int .u64)).length)).toArray) base e (.slice (some ⟨g, 0, none⟩) ds.length cap) (over ds ps off) := (by
            refine ⟨by simp [over_length (ds := ds) (ps := ps) (off := off) (by omega)], Or.inr ⟨g, cap, _, by rw [over_length (by omega), ← hN], hbg, setRow_heap w g _ _ e _ hg, by rw [over_length (by omega)]; omega, hcm, by simp; omega, ?_⟩⟩
            rw [over_length (by omega), ← hN, Nat.mul_one]
            have e1 : cur.toList.take off = (ds.take off).map (Value.int .u64) := by
              rw [List.map_take, ← hct, List.take_take, ← hN, Nat.min_eq_left (by omega)]
            have e2 : (cur.toList.drop (off + ps.length)).take (ds.length - (off + ps.length)) = (ds.drop (off + ps.length)).map (Value.int .u64) := by
              rw [List.map_drop, ← hct, ← hN, List.drop_take]
            simp only [List.length_map]
            unfold over
            rw [List.map_append, List.map_append, ← e1, ← e2]
            have e4 : (cur.toList.take off ++ ps.map (Value.int .u64)).length = off + ps.length := by
              rw [List.length_append, List.length_take, List.length_map, Array.length_toList, Nat.min_eq_left (by omega)]
            rw [List.take_append, e4, List.take_of_length_le (by omega)])
        rw [List.length_map, hl] at hrun hgo
        exact ⟨_, hrun, hgo, ⟨rfl, rfl, rfl, by simp [World.setRow], fun k hk hh => setRow_other w g k _ (by omega)⟩⟩
theorem copy_run {P : Program} {w : World} (dT sT ty elem : TypeId) (hu : P.underlying dT = some (.slice elem)) (hsz : (P.info? elem).map (·.size) = some 1)
    (g off dLen dCap N cap base : Nat) (e : TypeId) (ds ps : List Int) (hown : Own .u64 w base e (.slice (some ⟨g, 0, none⟩) N cap) ds) (hN : N = ds.length)
    (sa : Option Addr) (n scap : Nat) (hr : RowAt .u64 w sa n ps) (hfit : n ≤ dLen) (hoff : off + dLen ≤ N) :
    ∃ w', (Builtin.copy_ #[dT, sT] ty #[.slice (some ⟨g, off, none⟩) dLen dCap, .slice sa n scap]).run P w = .ok (goInt n) w' ∧ Own .u64 w' base e (.slice (some ⟨g, 0, none⟩) N cap) (over ds ps off) ∧ Below base w w' := by
  have hb := hown.base_le
  have hl := hown.lt
  obtain ⟨w', h1, h2, h3⟩ := copy_runI dT sT ty elem hu hsz g off dLen dCap N cap base e ds ps hown hN sa n scap hr hfit hoff
  exact ⟨w', h1, h2, (h3.wider hb (Nat.le_refl _)).below (by omega)⟩
theorem copy_wp {P : Program} {w : World} {o : Oper} {act : Act} {K : Act → World → Prop} {Q : Exit → Act → World → Prop} (d s : Operand) (dT sT : TypeId)
    (ho : o.op = .call { callee := .builtin .copy, args := #[d, s], argTypes := #[dT, sT] }) (elem : TypeId) (hu : P.underlying dT = some (.slice elem)) (hsz : (P.info? elem).map (·.size) = some 1)
    (g off dLen dCap N cap base : Nat) (e : TypeId) (ds ps : List Int) (hown : Own .u64 w base e (.slice (some ⟨g, 0, none⟩) N cap) ds) (hN : N = ds.length)
    (sa : Option Addr) (n scap : Nat) (hr : RowAt .u64 w sa n ps) (hd : act.eval d = .slice (some ⟨g, off, none⟩) dLen dCap) (hs : act.eval s = .slice sa n scap)
    (hfit : n ≤ dLen) (hoff : off + dLen ≤ N)
    (h : ∀ w', Own .u64 w' base e (.slice (some ⟨g, 0, none⟩) N cap) (over ds ps off) → Below base w w' → K (act.put o.dst (goInt n)) w') : Oper.wp P o act w K Q := by
  obtain ⟨w', hrun, ho', hb'⟩ := copy_run dT sT o.type elem hu hsz g off dLen dCap N cap base e ds ps hown hN sa n scap hr hfit hoff
  unfold Oper.wp
  simp [execOp, ho, resolve, invoke, builtin, hd, hs, hrun, Result.andThen]
  exact h w' ho' hb'
theorem copy_own {P : Program} {w : World} {ops : Array Oper} {rest : List Oper} {o : Oper} {act : Act} {Q : Exit → Act → World → Prop} (hgd : o.guard = none) (d s : Operand) (dT sT : TypeId)
    (ho : o.op = .call { callee := .builtin .copy, args := #[d, s], argTypes := #[dT, sT] }) (elem : TypeId) (hu : P.underlying dT = some (.slice elem)) (hsz : (P.info? elem).map (·.size) = some 1)
    (g off dLen dCap N cap base : Nat) (e : TypeId) (ds ps : List Int) (hown : Own .u64 w base e (.slice (some ⟨g, 0, none⟩) N cap) ds) (hN : N = ds.length)
    (sa : Option Addr) (n scap : Nat) (hr : RowAt .u64 w sa n ps) (hd : act.eval d = .slice (some ⟨g, off, none⟩) dLen dCap) (hs : act.eval s = .slice sa n scap)
    (hfit : n ≤ dLen) (hoff : off + dLen ≤ N)
    (h : ∀ w', Own .u64 w' base e (.slice (some ⟨g, 0, none⟩) N cap) (over ds ps off) → Below base w w' → wpList P ops Q rest (act.put o.dst (goInt n)) w') : wpList P ops Q (o :: rest) act w := by
  refine wpList_plain hgd fun K hK => ?_
  exact copy_wp d s dT sT ho elem hu hsz g off dLen dCap N cap base e ds ps hown hN sa n scap hr hd hs hfit hoff (fun w' h1 h2 => hK _ _ (h w' h1 h2))
end Go.Proofs.YtceecgklgkiffabGreatDoor

/- package nat: Norm, From, Word. -/
namespace Go.Proofs.YtceecgklgkiffabGreatDoor
open Go.ChangeShapes Go.WideShapes Go.ChangeAt Go.RowKit
open Na
set_option linter.unusedVariables false

/-- Norm, with the block that it has made -/
theorem norm_any {a : Option Addr} {n cap : Nat} {xs : List Int} {w : World} (hrow : RowC w a n cap xs) (hx : Ws xs) (hn : n ≤ 4000000) :
    Calls Tryz.prog 107 #[.slice a n cap] w fun e w' => ∃ g, e = .returned (.slice (some ⟨g, 0, none⟩) (words (num xs)).length (words (num xs)).length) ∧ Own .u64 w' w.heap.size 22 (.slice (some ⟨g, 0, none⟩) (words (num xs)).length (words (num xs)).length) (words (num xs)) ∧ Below w.heap.size w w' := by
  obtain ⟨i_u64, hi_u64, hz0_u64, hz1_u64, hz2_u64⟩ := info_parts info_u64
  have hsz : (Tryz.prog.info? 22).map (·.size) = some 1 := by rw [hi_u64]; simp [hz1_u64]
  go_enter Tryz.func107, Tryz.ntmps107
  go_wp2_with fail
  refine (trim_any hrow hx hn).mono ?_
  rintro e w' ⟨rfl, hr, ht, hl, rfl⟩
  obtain ⟨ps, hps⟩ : ∃ ps, ps = words (num xs) := ⟨_, rfl⟩
  rw [← hps] at hr hl ⊢
  have HP : Hid (words (num xs) = ps) := hps.symm
  obtain ⟨m, hm⟩ : ∃ m, m = ps.length := ⟨_, rfl⟩
  rw [← hm] at hr hl ⊢
  have HM : Hid (m = ps.length) := hm
  clear hrow ht hm hps
  go_wp2_with (at_make; refine wpList_make_full _ rfl _ _ 30 rfl w.heap.size 22 i_u64 (.int .u64 0) 1 Tryz.underlying30 hi_u64 hz0_u64 hz1_u64 .i64 .i64 _ _ m rfl rfl (by omega) (by omega) (by rw [hz2_u64]; omega) (by unfold maxLen; omega) (Nat.le_refl _) ?_)
  intro w3 hmade hgr
  have hown := own_zeros hmade
  have hb3 : Below w.heap.size w w3 := (Below.refl _ _).grown hgr (Nat.le_refl _) (fun k hk => by cases hk)
  have hr3 := hr.1.later hb3
  clear hmade hgr hr
  have hz : Hid (m = (List.replicate m (0 : Int)).length) := by show _ = _; simp
  go_wp2_with (refine copy_own rfl _ _ 30 30 rfl 22 Tryz.underlying30 hsz w.heap.size 0 m m m m w.heap.size 22 _ ps hown hz.out _ m _ hr3 rfl rfl (Nat.le_refl _) (by omega) ?_)
  intro w4 hown4 hb4
  have e : over (List.replicate m (0 : Int)) ps 0 = ps := by
    unfold over; rw [← HM.out]; simp
  rw [e] at hown4
  have hbb := hb3.trans hb4
  clear hown hr3 hz hb3 hb4 e
  go_wp2
  go_ret
  exact ⟨_, by rw [HP.out, ← HM.out]; rfl, by rw [HP.out, ← HM.out]; exact hown4, hbb⟩
theorem natNorm_any {a : Option Addr} {n cap : Nat} {xs : List Int} {w : World} (hrow : RowC w a n cap xs) (hx : Ws xs) (hn : n ≤ 4000000) :
    Calls Tryz.prog 107 #[.slice a n cap] w fun e w' => ∃ v, e = .returned v ∧ Own .u64 w' w.heap.size 22 v (Na.words (num xs)) ∧ Below w.heap.size w w' := by
  refine (norm_any hrow hx hn).mono ?_
  rintro e w' ⟨g, rfl, ho, hb⟩
  exact ⟨_, rfl, ho, hb⟩

theorem natFrom_any {v : Int} (hv : 0 ≤ v ∧ v < 18446744073709551616) (w : World) :
    Calls Tryz.prog 62 #[.int .u64 v] w fun e w' => ∃ r, e = .returned r ∧ Own .u64 w' w.heap.size 22 r (Na.words v) ∧ Below w.heap.size w w' := by
  have hd : Ws [v] := Dg.one hv
  have hnum : num [v] = v := by simp [num, val]
  have hown : Own .u64 (w.alloc (.cells #[.int .u64 v] 22)) w.heap.size 22 (.slice (some ⟨w.heap.size, 0, none⟩) [v].length 1) [v] := by
    refine ⟨rfl, Or.inr ⟨w.heap.size, 1, #[.int .u64 v], rfl, Nat.le_refl _, ?_, Nat.le_refl _, by decide, rfl, rfl⟩⟩
    exact heap_alloc_new _ _
  obtain ⟨a2, c2, hv2, hrc⟩ := hown.readsC
  simp only [Value.slice.injEq] at hv2
  obtain ⟨ha, _, hc⟩ := hv2
  rw [← ha, ← hc] at hrc
  clear ha hc
  have hcut := fun (m : Nat) (h : m ≤ [v].length) => hown.cut h
  have hb0 := alloc_below (w := w) (.cells #[.int .u64 v] 22)
  go_enter Tryz.func62, Tryz.ntmps62
  go_wp2_with fail
  refine (trim_any hrc hd (by simp)).mono ?_
  rintro e w' ⟨rfl, hr, ht, hl, rfl⟩
  have ho := hcut _ hl
  rw [ht] at ho
  rw [hnum] at ho ⊢
  clear hr hrc hcut ht hl hown
  go_wp2
  go_ret
  exact ⟨_, rfl, ho, hb0⟩

theorem natWord_any {a : Option Addr} {n cap : Nat} {xs : List Int} {w : World} (hrow : RowC w a n cap xs) (hx : Ws xs) (hn : n ≤ 4000000) :
    Calls Tryz.prog 130 #[.slice a n cap] w fun e w' => e = .returned (.tuple #[.int .u64 (wordV (num xs)), .bool (wordB (num xs))]) ∧ Below w.heap.size w w' := by
  have p := num_nonneg hx
  have ht := trim_any hrow hx hn
  clear hrow
  rcases words_cases p with ⟨h0, hw⟩ | ⟨h1, h2, hw⟩ | ⟨h1, hw⟩
  · have E1 : Hid (0 = wordV (num xs)) := by show _ = _; rw [h0]; rfl
    have E2 : Hid (true = wordB (num xs)) := by show _ = _; rw [h0]; rfl
    clear h0
    rw [hw] at ht
    go_enter Tryz.func130, Tryz.ntmps130
    go_wp2_with fail
    refine ht.mono ?_
    rintro e w' ⟨rfl, hr, _, hl, rfl⟩
    clear hr hl ht p
    go_wp2
    go_ret2
    exact ⟨ret_ib E1.out E2.out, Below.refl _ _⟩
  · have E1 : Hid (num xs = wordV (num xs)) := by show _ = _; unfold wordV; rw [if_pos h2]
    have E2 : Hid (true = wordB (num xs)) := by show _ = _; unfold wordB; rw [decide_eq_true h2]
    clear h1 h2
    rw [hw] at ht
    go_enter Tryz.func130, Tryz.ntmps130
    go_wp2_with fail
    refine ht.mono ?_
    rintro e w' ⟨rfl, hr, _, hl, rfl⟩
    obtain ⟨b, off, rfl, _, hc⟩ := hr.1.at (by simp)
    have hcx : w.cell? ⟨b, off, none⟩ = some (.int .u64 (num xs)) := by have := hc 0 (by simp); simpa using this
    clear hr hl ht p hc
    go_wp2
    go_ret2
    exact ⟨ret_ib E1.out E2.out, Below.refl _ _⟩
  · have hge : ¬ num xs < 18446744073709551616 := by omega
    have E1 : Hid (0 = wordV (num xs)) := by show _ = _; unfold wordV; rw [if_neg hge]
    have E2 : Hid (false = wordB (num xs)) := by show _ = _; unfold wordB; rw [decide_eq_false hge]
    clear h1 hge
    go_enter Tryz.func130, Tryz.ntmps130
    go_wp2_with fail
    refine ht.mono ?_
    rintro e w' ⟨rfl, hr, _, hl, rfl⟩
    generalize (words (num xs)).length = L at *
    have t2 : 1 < (L : Int) := by omega
    clear hr ht p
    go_wp2
    go_ret2
    exact ⟨ret_ib E1.out E2.out, Below.refl _ _⟩
end Go.Proofs.YtceecgklgkiffabGreatDoor

/- package words: AddTo, TakeFrom: in place, in a window of a list that the call may write. -/
namespace Go.Proofs.YtceecgklgkiffabGreatDoor
open Go.ChangeShapes Go.WideShapes Go.ChangeAt Go.RowKit
open Na Ar
set_option linter.unusedVariables false
namespace Na
theorem put_word {us : List Int} {j : Nat} {c p lo hi : Int} (hj : j < us.length) (e : us.getD j 0 + p + c = lo + 18446744073709551616 * hi) :
    num (us.set j lo) + 18446744073709551616 ^ (j + 1) * hi = num us + 18446744073709551616 ^ j * c + 18446744073709551616 ^ j * p := by
  unfold num
  rw [val_set _ hj, Int.pow_succ]
  generalize val 18446744073709551616 us = V
  generalize (18446744073709551616 : Int) ^ j = P
  generalize us.getD j 0 = u at *
  have : lo = u + p + c - 18446744073709551616 * hi := by omega
  subst this
  grind
def AddI (ts ps : List Int) (o m j : Nat) (c : Int) (us : List Int) : Prop := Ws us ∧ us.length = ts.length ∧ (c = 0 ∨ c = 1) ∧ us.take o = ts.take o ∧ us.drop (o + m) = ts.drop (o + m) ∧ num us + 18446744073709551616 ^ (o + j) * c = num ts + 18446744073709551616 ^ o * num (ps.take j)
theorem AddI.start {ts ps : List Int} {o m : Nat} (h : Ws ts) : AddI ts ps o m 0 0 ts := ⟨h, rfl, Or.inl rfl, rfl, rfl, by simp [num, val]⟩
theorem AddI.step {ts ps us : List Int} {o m j : Nat} {c : Int} (h : AddI ts ps o m j c us) (hj : o + j < us.length) (hjm : j < m) (hp : j < ps.length) (hw : Ws ps) :
    AddI ts ps o m (j + 1) (addHi (us.getD (o + j) 0) (ps.getD j 0) c) (us.set (o + j) (addLo (us.getD (o + j) 0) (ps.getD j 0) c)) := by
  obtain ⟨h1, h2, h3, h5, h6, h4⟩ := h
  have gu := h1.get hj
  have gp := hw.get hp
  have hc : c % 2 = c := by omega
  have e : us.getD (o + j) 0 + ps.getD j 0 + c = addLo (us.getD (o + j) 0) (ps.getD j 0) c + 18446744073709551616 * addHi (us.getD (o + j) 0) (ps.getD j 0) c := by unfold addLo addHi; rw [hc]; omega
  have hhi : addHi (us.getD (o + j) 0) (ps.getD j 0) c = 0 ∨ addHi (us.getD (o + j) 0) (ps.getD j 0) c = 1 := by unfold addHi; rw [hc]; omega
  refine ⟨h1.set _ (U_addLo _ _ _), by rw [List.length_set]; exact h2, hhi, by rw [List.take_set_of_le (by omega)]; exact h5, by rw [List.drop_set_of_lt (by omega)]; exact h6, ?_⟩
  rw [← Nat.add_assoc, put_word hj e, h4]
  have t : num (ps.take (j + 1)) = num (ps.take j) + 18446744073709551616 ^ j * ps.getD j 0 := take_valB hp
  rw [t, Int.mul_add, Int.pow_add, Int.mul_assoc]; omega
/-- beyond the shorter: nothing is added any more but the carry -/
theorem AddI.more {ts ps us : List Int} {o m j : Nat} {c : Int} (h : AddI ts ps o m j c us) (hj : o + j < us.length) (hjm : j < m) (hp : ps.length ≤ j) :
    AddI ts ps o m (j + 1) (addHi (us.getD (o + j) 0) 0 c) (us.set (o + j) (addLo (us.getD (o + j) 0) 0 c)) := by
  obtain ⟨h1, h2, h3, h5, h6, h4⟩ := h
  have gu := h1.get hj
  have hc : c % 2 = c := by omega
  have e : us.getD (o + j) 0 + 0 + c = addLo (us.getD (o + j) 0) 0 c + 18446744073709551616 * addHi (us.getD (o + j) 0) 0 c := by unfold addLo addHi; rw [hc]; omega
  have hhi : addHi (us.getD (o + j) 0) 0 c = 0 ∨ addHi (us.getD (o + j) 0) 0 c = 1 := by unfold addHi; rw [hc]; omega
  refine ⟨h1.set _ (U_addLo _ _ _), by rw [List.length_set]; exact h2, hhi, by rw [List.take_set_of_le (by omega)]; exact h5, by rw [List.drop_set_of_lt (by omega)]; exact h6, ?_⟩
  rw [← Nat.add_assoc, put_word hj e, List.take_of_length_le (by omega)]
  rw [List.take_of_length_le hp] at h4
  omega

theorem AddI.win {ts ps us : List Int} {o m : Nat} {c : Int} (h : AddI ts ps o m m c us) (hp : ps.length ≤ m) (hom : o + m ≤ ts.length) : Na.win us o m + 18446744073709551616 ^ m * c = Na.win ts o m + num ps := by
  obtain ⟨h1, h2, h3, h5, h6, h4⟩ := h
  rw [List.take_of_length_le hp] at h4
  exact win_eq h2 hom h5 h6 h4
/-- with no carry left the rest stays -/
theorem AddI.done {ts ps us : List Int} {o m j : Nat} {c : Int} (h : AddI ts ps o m j c us) (hp : ps.length ≤ j) (hj : j ≤ m) (hc : c = 0 ∨ j = m) : AddI ts ps o m m c us := by
  obtain ⟨h1, h2, h3, h5, h6, h4⟩ := h
  refine ⟨h1, h2, h3, h5, h6, ?_⟩
  rcases hc with hc | hc
  · subst hc
    rw [List.take_of_length_le hp] at h4
    rw [List.take_of_length_le (by omega)]
    rw [Int.mul_zero] at h4 ⊢
    exact h4
  · rw [← hc]; exact h4
end Na

set_option maxHeartbeats 1600000 in
set_option maxRecDepth 100000 in
theorem addTo_in {g cap N o m dcap base : Nat} {a : Option Addr} {m2 cap2 : Nat} {ts ps : List Int} {w : World} (hown : Own .u64 w base 22 (.slice (some ⟨g, 0, none⟩) N cap) ts) (hN : N = ts.length) (ht : Ws ts)
    (hr : RowAt .u64 w a m2 ps) (hoff : 0 < m2 → Off a g) (hp : Ws ps) (hm : m2 ≤ m) (hom : o + m ≤ N) (hN' : N ≤ 12000000) :
    Calls Tryz.prog 161 #[.slice (some ⟨g, o, none⟩) m dcap, .slice a m2 cap2] w fun e w' => ∃ c us, e = .returned (.int .u64 c) ∧ Own .u64 w' base 22 (.slice (some ⟨g, 0, none⟩) N cap) us ∧ AddI ts ps o m m c us ∧ In g (g + 1) w w' := by
  have hl := hr.1
  have HN : Hid (N = ts.length) := hN
  have hst := AddI.start (ps := ps) (o := o) (m := m) ht
  have hii := In.refl g (g + 1) w
  clear hN
  go_enter Tryz.func161, Tryz.ntmps161
  go_wp2
  go_loopw [5, 6, 7, 11] (fun c _ _ k wr => ∃ (j : Nat) (C : Int) (us : List Int), k = .int .i64 j ∧ c = .int .u64 C ∧ j ≤ m2 ∧ Own .u64 wr base 22 (.slice (some ⟨g, 0, none⟩) N cap) us ∧ AddI ts ps o m j C us ∧ In g (g + 1) w wr) (fun _ _ _ k _ => m2 - (intOf k).toNat)
  case atStart => exact ⟨0, 0, ts, rfl, rfl, by omega, hown, hst, hii⟩
  case round =>
    obtain ⟨j, C, us, rfl, rfl, hj, hou, hinv, hnx⟩ := hrel
    have hlu : N = us.length := by rw [hinv.2.1]; exact HN.out
    have hC := hinv.2.2.1
    by_cases hlt : j < m2
    · obtain ⟨b, off, rfl, hbB, hc⟩ := (hr.inn hnx hoff).at (by omega)
      have hcx := hc j hlt
      have hce := hou.cellAt hlu (j := o + j) (by omega)
      have hfz := hou.frozenAt hlu (o + j)
      have hset := fun x => hou.set hlu (o + j) x
      have gu := hinv.1.getAnyB (o + j)
      have gp := hp.getAnyB j
      have hstep := hinv.step (by omega) (by omega) (by omega) hp
      have hUC : U C := by unfold U; omega
      have hO := hset (addLo (us.getD (o + j) 0) (ps.getD j 0) C)
      generalize us.getD (o + j) 0 = u at *
      generalize ps.getD j 0 = p at *
      have hadd := fun w => add_any gu gp hUC w
      have hjN : o + j < N := by omega
      clear hc hr hset hinv hou hown hst hii gu gp hC hlu hoff
      go_wp2_with (go_at_call 100; refine (hadd _).mono ?_; rintro e w' ⟨_, _, rfl, rfl, rfl, rfl⟩)
      go_roundw
      case rel => exact ⟨j + 1, _, _, by go_num, rfl, by omega, hO, hstep, hnx.set1 _ _⟩
      case measure => simp [intOf]; omega
    · have hje : ps.length ≤ j := by omega
      have hj2 : j = m2 := by omega
      subst hj2
      clear hown hst hii hr hoff
      go_wp2
      go_loopw [5, 8] (fun c k w1 => ∃ (i : Nat) (D : Int) (vs : List Int), k = .int .i64 i ∧ c = .int .u64 D ∧ j ≤ i ∧ i ≤ m ∧ Own .u64 w1 base 22 (.slice (some ⟨g, 0, none⟩) N cap) vs ∧ AddI ts ps o m i D vs ∧ In g (g + 1) w w1) (fun _ k _ => m - (intOf k).toNat)
      case atStart => exact ⟨j, C, us, rfl, rfl, by omega, hm, hou, hinv, hnx⟩
      case round =>
        obtain ⟨i, D, vs, rfl, rfl, hji, hiN, hov, hinw, hnw⟩ := hrel
        clear hou hinv hnx hlu hC
        have hlv : N = vs.length := by rw [hinw.2.1]; exact HN.out
        have hD := hinw.2.2.1
        by_cases hd : D = 0 ∨ i = m
        · have hdone := hinw.done (by omega) hiN hd
          clear hinw hlv
          by_cases hd0 : D = 0
          · have t1 : (D != 0) = false := by simp [hd0]
            clear hD hd hd0
            go_wp2
            go_ret
            exact ⟨D, vs, rfl, hov, hdone, hnw⟩
          · have t1 : (D != 0) = true := by simp [hd0]
            have t2 : i = m := by omega
            subst t2
            clear hD hd hd0
            go_wp2
            go_ret
            exact ⟨D, vs, rfl, hov, hdone, hnw⟩
        · have hroom : i < m := by omega
          have hd : D ≠ 0 := by omega
          have hce := hov.cellAt hlv (j := o + i) (by omega)
          have hfz := hov.frozenAt hlv (o + i)
          have gu := hinw.1.getAnyB (o + i)
          have hstep := hinw.more (by omega) (by omega) (by omega)
          have hUC : U D := by unfold U; omega
          have hO := hov.set hlv (o + i) (addLo (vs.getD (o + i) 0) 0 D)
          generalize vs.getD (o + i) 0 = u at *
          have hadd := fun w => add_any gu U_zero hUC w
          have t1 : (D != 0) = true := by simp [hd]
          have hjN : o + i < N := by omega
          clear hinw hov gu hD hlv hd
          go_wp2_with (go_at_call 100; refine (hadd _).mono ?_; rintro e w' ⟨_, _, rfl, rfl, rfl, rfl⟩)
          go_roundw
          case rel => exact ⟨i + 1, _, _, by go_num, rfl, by omega, by omega, hO, hstep, hnw.set1 _ _⟩
          case measure => simp [intOf]; omega

namespace Na
theorem take_word {us : List Int} {j : Nat} {c p lo hi : Int} (hj : j < us.length) (e : us.getD j 0 - p - c = lo - 18446744073709551616 * hi) :
    num (us.set j lo) - 18446744073709551616 ^ (j + 1) * hi = num us - 18446744073709551616 ^ j * c - 18446744073709551616 ^ j * p := by
  have := put_word (us := us) (j := j) (c := -c) (p := -p) (lo := lo) (hi := -hi) hj (by omega)
  rw [Int.mul_neg, Int.mul_neg, Int.mul_neg] at this
  omega

def SubJ (ts ps : List Int) (o m j : Nat) (c : Int) (us : List Int) : Prop := Ws us ∧ us.length = ts.length ∧ (c = 0 ∨ c = 1) ∧ us.take o = ts.take o ∧ us.drop (o + m) = ts.drop (o + m) ∧ num us - 18446744073709551616 ^ (o + j) * c = num ts - 18446744073709551616 ^ o * num (ps.take j)
theorem SubJ.start {ts ps : List Int} {o m : Nat} (h : Ws ts) : SubJ ts ps o m 0 0 ts := ⟨h, rfl, Or.inl rfl, rfl, rfl, by simp [num, val]⟩
theorem SubJ.step {ts ps us : List Int} {o m j : Nat} {c : Int} (h : SubJ ts ps o m j c us) (hj : o + j < us.length) (hjm : j < m) (hp : j < ps.length) (hw : Ws ps) :
    SubJ ts ps o m (j + 1) (subHi (us.getD (o + j) 0) (ps.getD j 0) c) (us.set (o + j) (subLo (us.getD (o + j) 0) (ps.getD j 0) c)) := by
  obtain ⟨h1, h2, h3, h5, h6, h4⟩ := h
  have gu := h1.get hj
  have gp := hw.get hp
  have hc : c % 2 = c := by omega
  have e : us.getD (o + j) 0 - ps.getD j 0 - c = subLo (us.getD (o + j) 0) (ps.getD j 0) c - 18446744073709551616 * subHi (us.getD (o + j) 0) (ps.getD j 0) c := by unfold subLo subHi; rw [hc]; omega
  have hhi : subHi (us.getD (o + j) 0) (ps.getD j 0) c = 0 ∨ subHi (us.getD (o + j) 0) (ps.getD j 0) c = 1 := by unfold subHi; rw [hc]; omega
  refine ⟨h1.set _ (U_subLo _ _ _), by rw [List.length_set]; exact h2, hhi, by rw [List.take_set_of_le (by omega)]; exact h5, by rw [List.drop_set_of_lt (by omega)]; exact h6, ?_⟩
  rw [← Nat.add_assoc, take_word hj e, h4]
  have t : num (ps.take (j + 1)) = num (ps.take j) + 18446744073709551616 ^ j * ps.getD j 0 := take_valB hp
  rw [t, Int.mul_add, Int.pow_add, Int.mul_assoc]; omega
/-- beyond the shorter: nothing is added any more but the carry -/
theorem SubJ.more {ts ps us : List Int} {o m j : Nat} {c : Int} (h : SubJ ts ps o m j c us) (hj : o + j < us.length) (hjm : j < m) (hp : ps.length ≤ j) :
    SubJ ts ps o m (j + 1) (subHi (us.getD (o + j) 0) 0 c) (us.set (o + j) (subLo (us.getD (o + j) 0) 0 c)) := by
  obtain ⟨h1, h2, h3, h5, h6, h4⟩ := h
  have gu := h1.get hj
  have hc : c % 2 = c := by omega
  have e : us.getD (o + j) 0 - 0 - c = subLo (us.getD (o + j) 0) 0 c - 18446744073709551616 * subHi (us.getD (o + j) 0) 0 c := by unfold subLo subHi; rw [hc]; omega
  have hhi : subHi (us.getD (o + j) 0) 0 c = 0 ∨ subHi (us.getD (o + j) 0) 0 c = 1 := by unfold subHi; rw [hc]; omega
  refine ⟨h1.set _ (U_subLo _ _ _), by rw [List.length_set]; exact h2, hhi, by rw [List.take_set_of_le (by omega)]; exact h5, by rw [List.drop_set_of_lt (by omega)]; exact h6, ?_⟩
  rw [← Nat.add_assoc, take_word hj e, List.take_of_length_le (by omega)]
  rw [List.take_of_length_le hp] at h4
  omega

theorem SubJ.win {ts ps us : List Int} {o m j : Nat} {c : Int} (h : SubJ ts ps o m j c us) (hp : ps.length ≤ j) (hj : c = 0 ∨ j = m) (hom : o + m ≤ ts.length) : Na.win us o m - 18446744073709551616 ^ m * c = Na.win ts o m - num ps := by
  obtain ⟨h1, h2, h3, h5, h6, h4⟩ := h
  rw [List.take_of_length_le hp] at h4
  have e : 18446744073709551616 ^ (o + j) * c = 18446744073709551616 ^ (o + m) * c := by
    rcases hj with hj | hj
    · subst hj; simp
    · rw [hj]
  have := win_eq (us := us) (ts := ts) (o := o) (m := m) (c := -c) (P := -num ps) h2 hom h5 h6 (by rw [Int.mul_neg, Int.mul_neg, ← e]; omega)
  rw [Int.mul_neg] at this
  omega
theorem SubJ.room {ts ps us : List Int} {o m j : Nat} {c : Int} (h : SubJ ts ps o m j c us) (hp : ps.length ≤ j) (hc : c ≠ 0) (hom : o + m ≤ ts.length) (hj : j ≤ m) (hb : num ps ≤ Na.win ts o m) : j < m := by
  by_cases g : j < m
  · exact g
  · have w := h.win hp (Or.inr (by omega)) hom
    obtain ⟨h1, h2, h3, h5, h6, h4⟩ := h
    have c1 : c = 1 := by omega
    subst c1
    have := win_lt h1 (o := o) (m := m) (by omega)
    omega
end Na

set_option maxHeartbeats 1600000 in
set_option maxRecDepth 100000 in
theorem takeFrom_in {g cap N o m dcap base : Nat} {a : Option Addr} {m2 cap2 : Nat} {ts ps : List Int} {w : World} (hown : Own .u64 w base 22 (.slice (some ⟨g, 0, none⟩) N cap) ts) (hN : N = ts.length) (ht : Ws ts)
    (hr : RowAt .u64 w a m2 ps) (hoff : 0 < m2 → Off a g) (hp : Ws ps) (hm : m2 ≤ m) (hom : o + m ≤ N) (hN' : N ≤ 12000000) (hbd : num ps ≤ Na.win ts o m) :
    Calls Tryz.prog 108 #[.slice (some ⟨g, o, none⟩) m dcap, .slice a m2 cap2] w fun e w' => ∃ us, e = .returned (.tuple #[]) ∧ Own .u64 w' base 22 (.slice (some ⟨g, 0, none⟩) N cap) us ∧ Ws us ∧ us.length = N ∧ us.take o = ts.take o ∧ us.drop (o + m) = ts.drop (o + m) ∧ Na.win us o m = Na.win ts o m - num ps ∧ In g (g + 1) w w' := by
  have hl := hr.1
  have HN : Hid (N = ts.length) := hN
  have hst := SubJ.start (ps := ps) (o := o) (m := m) ht
  have hii := In.refl g (g + 1) w
  clear hN
  go_enter Tryz.func108, Tryz.ntmps108
  go_wp2
  go_loopw [4, 5, 6, 10] (fun c _ _ k wr => ∃ (j : Nat) (C : Int) (us : List Int), k = .int .i64 j ∧ c = .int .u64 C ∧ j ≤ m2 ∧ Own .u64 wr base 22 (.slice (some ⟨g, 0, none⟩) N cap) us ∧ SubJ ts ps o m j C us ∧ In g (g + 1) w wr) (fun _ _ _ k _ => m2 - (intOf k).toNat)
  case atStart => exact ⟨0, 0, ts, rfl, rfl, by omega, hown, hst, hii⟩
  case round =>
    obtain ⟨j, C, us, rfl, rfl, hj, hou, hinv, hnx⟩ := hrel
    have hlu : N = us.length := by rw [hinv.2.1]; exact HN.out
    have hC := hinv.2.2.1
    by_cases hlt : j < m2
    · obtain ⟨b, off, rfl, hbB, hc⟩ := (hr.inn hnx hoff).at (by omega)
      have hcx := hc j hlt
      have hce := hou.cellAt hlu (j := o + j) (by omega)
      have hfz := hou.frozenAt hlu (o + j)
      have hset := fun x => hou.set hlu (o + j) x
      have gu := hinv.1.getAnyB (o + j)
      have gp := hp.getAnyB j
      have hstep := hinv.step (by omega) (by omega) (by omega) hp
      have hUC : U C := by unfold U; omega
      have hO := hset (subLo (us.getD (o + j) 0) (ps.getD j 0) C)
      generalize us.getD (o + j) 0 = u at *
      generalize ps.getD j 0 = p at *
      have hadd := fun w => sub_any gu gp hUC w
      have hjN : o + j < N := by omega
      clear hc hr hset hinv hou hown hst hii gu gp hC hlu hoff
      go_wp2_with (go_at_call 133; refine (hadd _).mono ?_; rintro e w' ⟨_, _, rfl, rfl, rfl, rfl⟩)
      go_roundw
      case rel => exact ⟨j + 1, _, _, by go_num, rfl, by omega, hO, hstep, hnx.set1 _ _⟩
      case measure => simp [intOf]; omega
    · have hje : ps.length ≤ j := by omega
      have hj2 : j = m2 := by omega
      subst hj2
      clear hown hst hii hr hoff
      go_wp2
      go_loopw [4, 7] (fun c k w1 => ∃ (i : Nat) (D : Int) (vs : List Int), k = .int .i64 i ∧ c = .int .u64 D ∧ j ≤ i ∧ i ≤ m ∧ Own .u64 w1 base 22 (.slice (some ⟨g, 0, none⟩) N cap) vs ∧ SubJ ts ps o m i D vs ∧ In g (g + 1) w w1) (fun _ k _ => m - (intOf k).toNat)
      case atStart => exact ⟨j, C, us, rfl, rfl, by omega, hm, hou, hinv, hnx⟩
      case round =>
        obtain ⟨i, D, vs, rfl, rfl, hji, hiN, hov, hinw, hnw⟩ := hrel
        clear hou hinv hnx hlu hC
        have hlv : N = vs.length := by rw [hinw.2.1]; exact HN.out
        have hD := hinw.2.2.1
        by_cases hd : D = 0
        · subst hd
          have hdone := hinw.win (by omega) (Or.inl rfl) (by rw [← HN.out]; exact hom)
          rw [Int.mul_zero, Int.sub_zero] at hdone
          have HV : Hid (Na.win vs o m = Na.win ts o m - num ps) := hdone
          have hwv := hinw.1
          have HT : Hid (vs.take o = ts.take o) := hinw.2.2.2.1
          have HD : Hid (vs.drop (o + m) = ts.drop (o + m)) := hinw.2.2.2.2.1
          clear hdone hinw hD
          have HL : Hid (vs.length = N) := hlv.symm
          clear hlv
          go_wp2
          go_end0
          exact ⟨vs, rfl, hov, hwv, HL.out, HT.out, HD.out, HV.out, hnw⟩
        · have hroom := hinw.room (by omega) hd (by rw [← HN.out]; exact hom) hiN hbd
          have hce := hov.cellAt hlv (j := o + i) (by omega)
          have hfz := hov.frozenAt hlv (o + i)
          have gu := hinw.1.getAnyB (o + i)
          have hstep := hinw.more (by omega) (by omega) (by omega)
          have hUC : U D := by unfold U; omega
          have hO := hov.set hlv (o + i) (subLo (vs.getD (o + i) 0) 0 D)
          generalize vs.getD (o + i) 0 = u at *
          have hadd := fun w => sub_any gu U_zero hUC w
          have t1 : (D != 0) = true := by simp [hd]
          have hjN : o + i < N := by omega
          clear hinw hov gu hD hlv hd
          go_wp2_with (go_at_call 133; refine (hadd _).mono ?_; rintro e w' ⟨_, _, rfl, rfl, rfl, rfl⟩)
          go_roundw
          case rel => exact ⟨i + 1, _, _, by go_num, rfl, by omega, by omega, hO, hstep, hnw.set1 _ _⟩
          case measure => simp [intOf]; omega

/-- into a list that the call has made -/
theorem addTo_any {g cap N : Nat} {a : Option Addr} {m cap2 : Nat} {ts ps : List Int} {w0 w : World} (hown : Own .u64 w w0.heap.size 22 (.slice (some ⟨g, 0, none⟩) N cap) ts) (hN : N = ts.length) (ht : Ws ts)
    (hr : RowAt .u64 w0 a m ps) (hb : Below w0.heap.size w0 w) (hp : Ws ps) (hm : m ≤ N) (hN' : N ≤ 12000000) (hbd : num ts + num ps < 18446744073709551616 ^ N) :
    Calls Tryz.prog 161 #[.slice (some ⟨g, 0, none⟩) N cap, .slice a m cap2] w fun e w' => e = .returned (.int .u64 0) ∧ ∃ us, Own .u64 w' w0.heap.size 22 (.slice (some ⟨g, 0, none⟩) N cap) us ∧ us.length = N ∧ Ws us ∧ num us = num ts + num ps ∧ Below w0.heap.size w0 w' := by
  have hg := hown.base_le
  refine (addTo_in (o := 0) (m := N) (dcap := cap) hown hN ht (hr.later hb) (fun h => hr.off h hg) hp hm (by omega) hN').mono ?_
  rintro e w' ⟨c, us, rfl, ho, hi, hn⟩
  have hw := hi.win (by rw [hr.1]; exact hm) (by omega)
  rw [win_all (by rw [hi.2.1]; exact hN.symm), win_all hN.symm] at hw
  have n0 := num_nonneg hi.1
  have c0 : c = 0 := by
    rcases hi.2.2.1 with h | h
    · exact h
    · subst h; omega
  subst c0
  refine ⟨rfl, us, ho, by rw [hi.2.1]; exact hN.symm, hi.1, by omega, below_inn hb hn hg (Nat.le_refl _)⟩
theorem takeFrom_any {g cap N : Nat} {a : Option Addr} {m cap2 : Nat} {ts ps : List Int} {w0 w : World} (hown : Own .u64 w w0.heap.size 22 (.slice (some ⟨g, 0, none⟩) N cap) ts) (hN : N = ts.length) (ht : Ws ts)
    (hr : RowAt .u64 w0 a m ps) (hb : Below w0.heap.size w0 w) (hp : Ws ps) (hm : m ≤ N) (hN' : N ≤ 12000000) (hbd : num ps ≤ num ts) :
    Calls Tryz.prog 108 #[.slice (some ⟨g, 0, none⟩) N cap, .slice a m cap2] w fun e w' => e = .returned (.tuple #[]) ∧ ∃ us, Own .u64 w' w0.heap.size 22 (.slice (some ⟨g, 0, none⟩) N cap) us ∧ us.length = N ∧ Ws us ∧ num us = num ts - num ps ∧ Below w0.heap.size w0 w' := by
  have hg := hown.base_le
  refine (takeFrom_in (o := 0) (m := N) (dcap := cap) hown hN ht (hr.later hb) (fun h => hr.off h hg) hp hm (by omega) hN' (by rw [win_all hN.symm]; exact hbd)).mono ?_
  rintro e w' ⟨us, rfl, ho, hwu, hlu, _, _, hw, hn⟩
  rw [win_all hlu, win_all hN.symm] at hw
  exact ⟨rfl, us, ho, hlu, hwu, hw, below_inn hb hn hg (Nat.le_refl _)⟩
end Go.Proofs.YtceecgklgkiffabGreatDoor

/- package nat: Cmp. -/
namespace Go.Proofs.YtceecgklgkiffabGreatDoor
open Go.ChangeShapes Go.WideShapes Go.ChangeAt Go.RowKit
open Na
set_option linter.unusedVariables false

theorem isNaNI_any (a : Int) (w : World) : Calls Tryz.prog 77 #[.int .i64 a] w fun e w' => e = .returned (.bool false) ∧ w = w' := by
  have t : (a != a) = false := by simp
  go_enter Tryz.func77, Tryz.ntmps77
  go_wp2
  go_ret
  exact ⟨rfl, rfl⟩
theorem isNaNU_any (a : Int) (w : World) : Calls Tryz.prog 109 #[.int .u64 a] w fun e w' => e = .returned (.bool false) ∧ w = w' := by
  have t : (a != a) = false := by simp
  go_enter Tryz.func109, Tryz.ntmps109
  go_wp2
  go_ret
  exact ⟨rfl, rfl⟩
theorem compareI_any (a b : Int) (w : World) : Calls Tryz.prog 41 #[.int .i64 a, .int .i64 b] w fun e w' => e = .returned (.int .i64 (ordN a b)) ∧ w = w' := by
  by_cases h : a < b
  · have E : Hid (-1 = ordN a b) := (ordN_lt h).symm
    go_enter Tryz.func41, Tryz.ntmps41
    go_wp2_with (go_at_call 77; refine (isNaNI_any _ _).mono ?_; rintro e w' ⟨rfl, rfl⟩)
    go_ret
    exact ⟨ret_i E.out, rfl⟩
  · by_cases h2 : b < a
    · have E : Hid (1 = ordN a b) := (ordN_gt h2).symm
      go_enter Tryz.func41, Tryz.ntmps41
      go_wp2_with (go_at_call 77; refine (isNaNI_any _ _).mono ?_; rintro e w' ⟨rfl, rfl⟩)
      go_ret
      exact ⟨ret_i E.out, rfl⟩
    · have E : Hid (0 = ordN a b) := (ordN_eq (by omega)).symm
      go_enter Tryz.func41, Tryz.ntmps41
      go_wp2_with (go_at_call 77; refine (isNaNI_any _ _).mono ?_; rintro e w' ⟨rfl, rfl⟩)
      go_ret
      exact ⟨ret_i E.out, rfl⟩
theorem compareU_any (a b : Int) (w : World) : Calls Tryz.prog 78 #[.int .u64 a, .int .u64 b] w fun e w' => e = .returned (.int .i64 (ordN a b)) ∧ w = w' := by
  by_cases h : a < b
  · have E : Hid (-1 = ordN a b) := (ordN_lt h).symm
    go_enter Tryz.func78, Tryz.ntmps78
    go_wp2_with (go_at_call 109; refine (isNaNU_any _ _).mono ?_; rintro e w' ⟨rfl, rfl⟩)
    go_ret
    exact ⟨ret_i E.out, rfl⟩
  · by_cases h2 : b < a
    · have E : Hid (1 = ordN a b) := (ordN_gt h2).symm
      go_enter Tryz.func78, Tryz.ntmps78
      go_wp2_with (go_at_call 109; refine (isNaNU_any _ _).mono ?_; rintro e w' ⟨rfl, rfl⟩)
      go_ret
      exact ⟨ret_i E.out, rfl⟩
    · have E : Hid (0 = ordN a b) := (ordN_eq (by omega)).symm
      go_enter Tryz.func78, Tryz.ntmps78
      go_wp2_with (go_at_call 109; refine (isNaNU_any _ _).mono ?_; rintro e w' ⟨rfl, rfl⟩)
      go_ret
      exact ⟨ret_i E.out, rfl⟩
theorem compareU_same (a b : Int) (w : World) : Calls Tryz.prog 78 #[.int .u64 a, .int .u64 b] w fun e w' => e = .returned (.int .i64 (ordN a b)) ∧ w' = w :=
  (compareU_any a b w).mono fun _ _ h => ⟨h.1, h.2.symm⟩
namespace Na
theorem ord_len {A B : Int} (hA : 0 ≤ A) (hB : 0 ≤ B) (h : (words A).length ≠ (words B).length) : ordN ((words A).length : Int) ((words B).length : Int) = ordN A B := by
  by_cases g : (words A).length < (words B).length
  · rw [ordN_lt (by omega), ordN_lt (words_lt hA hB g)]
  · have g' : (words B).length < (words A).length := by omega
    rw [ordN_gt (by omega), ordN_gt (words_lt hB hA g')]
theorem ord_word {xs ys : List Int} {i : Nat} (hx : Ws xs) (hy : Ws ys) (h1 : i < xs.length) (h2 : i < ys.length) (hd : xs.drop (i + 1) = ys.drop (i + 1)) (h : xs.getD i 0 ≠ ys.getD i 0) : ordN (xs.getD i 0) (ys.getD i 0) = ordN (num xs) (num ys) := by
  by_cases g : xs.getD i 0 < ys.getD i 0
  · rw [ordN_lt g, ordN_lt (word_lt hx hy h1 h2 hd g)]
  · have g' : ys.getD i 0 < xs.getD i 0 := by omega
    rw [ordN_gt g', ordN_gt (word_lt hy hx h2 h1 hd.symm g')]
end Na

set_option maxHeartbeats 1600000 in
set_option maxRecDepth 100000 in
theorem natCmp_any {a b : Option Addr} {n m c1 c2 : Nat} {xs ys : List Int} {w : World} (hr1 : RowC w a n c1 xs) (hr2 : RowC w b m c2 ys) (hx : Ws xs) (hy : Ws ys) (hn : n ≤ 4000000) (hm : m ≤ 4000000) :
    Calls Tryz.prog 42 #[.slice a n c1, .slice b m c2] w fun e w' => e = .returned (.int .i64 (ordN (num xs) (num ys))) ∧ Below w.heap.size w w' := by
  have p1 := num_nonneg hx
  have p2 := num_nonneg hy
  have v1 : Hid (num (words (num xs)) = num xs) := num_words p1
  have v2 : Hid (num (words (num ys)) = num ys) := num_words p2
  have d1 := Dg_words (num xs)
  have d2 := Dg_words (num ys)
  have hol := ord_len p1 p2
  go_enter Tryz.func42, Tryz.ntmps42
  go_wp2_with fail
  refine (trim_any hr1 hx hn).mono ?_
  rintro e w' ⟨rfl, r1, _, l1, rfl⟩
  go_wp2_with fail
  refine (trim_any hr2 hy hm).mono ?_
  rintro e w' ⟨rfl, r2, _, l2, rfl⟩
  obtain ⟨ps, hps⟩ : ∃ ps, ps = words (num xs) := ⟨_, rfl⟩
  obtain ⟨qs, hqs⟩ : ∃ qs, qs = words (num ys) := ⟨_, rfl⟩
  rw [← hps] at r1 v1 d1 l1 hol ⊢
  rw [← hqs] at r2 v2 d2 l2 hol ⊢
  have h1 := r1.1
  have h2 := r2.1
  clear hr1 hr2 r1 r2 hps hqs
  obtain ⟨n1, hn1⟩ : ∃ n1, n1 = ps.length := ⟨_, rfl⟩
  obtain ⟨m1, hm1⟩ : ∃ m1, m1 = qs.length := ⟨_, rfl⟩
  rw [← hn1] at h1 l1 hol ⊢
  rw [← hm1] at h2 l2 hol ⊢
  have HN : Hid (n1 = ps.length) := hn1
  have HM : Hid (m1 = qs.length) := hm1
  clear hn1 hm1
  by_cases hnm : n1 = m1
  · have t : ((n1 : Int) != (m1 : Int)) = false := by simp [hnm]
    have hnm1 : n1 ≤ m1 := by omega
    have hnm2 : m1 ≤ n1 := by omega
    clear hnm hol
    go_wp2_with fail
    go_loopw [5] (fun i wr => ∃ (k : Nat) (I : Int), i = .int .i64 I ∧ I = (k : Int) - 1 ∧ k ≤ n1 ∧ Hid (ps.drop k = qs.drop k) ∧ Below w.heap.size w wr) (fun i _ => (intOf i + 1).toNat)
    case atStart => exact ⟨n1, _, rfl, rfl, Nat.le_refl _, (by rw [List.drop_of_length_le (by rw [← HN.out]; omega), List.drop_of_length_le (by rw [← HM.out]; omega)] : ps.drop n1 = qs.drop n1), Below.refl _ _⟩
    case round =>
      obtain ⟨k, I, rfl, hI, hk, hs, hnx⟩ := hrel
      cases k with
      | zero =>
        have hI' : I < 0 := by omega
        have HO : Hid (0 = ordN (num xs) (num ys)) := (ordN_eq (by
          have h := hs.out
          simp only [List.drop_zero] at h
          rw [← v1.out, ← v2.out, h])).symm
        clear hI
        go_wp2
        go_ret
        exact ⟨ret_i HO.out, hnx⟩
      | succ j =>
        have hI' : I = (j : Int) := by omega
        clear hI
        subst hI'
        obtain ⟨b1, o1, rfl, hb1, hc1⟩ := h1.at (by omega)
        obtain ⟨b2, o2, rfl, hb2, hc2⟩ := h2.at (by omega)
        have hx1 := (hnx.cell (p := ⟨b1, o1 + j, none⟩) hb1).trans (hc1 j (by omega))
        have hx2 := (hnx.cell (p := ⟨b2, o2 + j, none⟩) hb2).trans (hc2 j (by omega))
        have lp : j < ps.length := by rw [← HN.out]; omega
        have lq : j < qs.length := by rw [← HM.out]; omega
        have l1' := ord_word d1 d2 lp lq hs.out
        have l3 := drop_next lp lq hs.out
        rw [v1.out, v2.out] at l1'
        generalize ps.getD j 0 = x at *
        generalize qs.getD j 0 = y at *
        have hj1 : j < n1 := by omega
        have hj2 : j < m1 := by omega
        clear hc1 hc2 h1 h2 hs lp lq
        by_cases e : x = y
        · have t2 : (x != y) = false := by simp [e]
          have HS : Hid (ps.drop j = qs.drop j) := l3 e
          clear l1' l3 e
          go_wp2
          go_quiet (fail)
          go_wp2
          go_roundw
          case rel => exact ⟨j, _, rfl, rfl, by omega, HS, below_drewN hnx _⟩
          case measure => simp [intOf]
        · have t2 : (x != y) = true := by simp [e]
          have HO : Hid (ordN x y = ordN (num xs) (num ys)) := l1' e
          clear l1' l3 e
          go_wp2
          go_quiet (fail)
          go_wp2
          go_quiet ((go_at_call 78; exact (compareU_same _ _ _).mono (fun _ _ h => ⟨h.1, _, h.2⟩)))
          go_wp2
          go_ret
          exact ⟨ret_i HO.out, below_drewN (below_drewN hnx _) _⟩
  · have t : ((n1 : Int) != (m1 : Int)) = true := by simp; omega
    have HO : Hid (ordN (n1 : Int) (m1 : Int) = ordN (num xs) (num ys)) := hol hnm
    clear hol hnm
    go_wp2_with (go_at_call 41; refine (compareI_any _ _ _).mono ?_; rintro e w' ⟨rfl, rfl⟩)
    go_ret
    exact ⟨ret_i HO.out, Below.refl _ _⟩
end Go.Proofs.YtceecgklgkiffabGreatDoor

/- package nat: Bits, Bit, Zeros. -/
namespace Go.Proofs.YtceecgklgkiffabGreatDoor
open Go.ChangeShapes Go.WideShapes Go.ChangeAt Go.RowKit
open Na Ar
set_option linter.unusedVariables false

theorem bits0_any {a : Option Addr} {m c1 : Nat} {xs : List Int} {w : World} (hr1 : RowC w a m c1 xs) (hx : Ws xs) (hm : m ≤ 4000000) :
    Calls Tryz.prog 61 #[.slice a m c1] w fun e w' => e = .returned (.int .i64 (bitsN (num xs))) ∧ w = w' := by
  have p1 := num_nonneg hx
  have z1 := words_nil p1
  have hbl := fun L h0 h => bits_list (N := num xs) (L := L) h0 h
  have dg := Dg_words (num xs)
  go_enter Tryz.func61, Tryz.ntmps61
  go_wp2_with fail
  refine (trim_any hr1 hx hm).mono ?_
  rintro e w' ⟨rfl, r, _, l, rfl⟩
  have h1 := r.1
  clear hr1 r
  generalize words (num xs) = ps at *
  by_cases hz : ps.length = 0
  · have HE : Hid (0 = bitsN (num xs)) := by show _ = _; rw [z1.mp hz]; rfl
    have t1 : ((ps.length : Int) == 0) = true := by simp [hz]
    generalize ps.length = L at *
    clear z1 h1 hz hbl dg
    go_wp2
    go_ret
    exact ⟨ret_i HE.out, rfl⟩
  · obtain ⟨k, hk⟩ : ∃ k, ps.length = k + 1 := ⟨ps.length - 1, by omega⟩
    have A0 : 0 < num xs := by
      have : num xs ≠ 0 := fun h => hz (z1.mpr h)
      omega
    obtain ⟨g1, g2⟩ := hbl k A0 hk
    have gx := dg.getAnyB k
    have HE : Hid ((k : Int) * 64 + lenW (ps.getD k 0) = bitsN (num xs)) := g2.symm
    rw [hk] at h1 l ⊢
    obtain ⟨b, off, rfl, hb, hc⟩ := h1.at (by omega)
    have hcx := hc k (by omega)
    generalize ps.getD k 0 = x at *
    have hlen := fun w => len_any (x := x) gx w
    have bd := lenW_bd (x := x) gx
    generalize lenW x = y at *
    obtain ⟨bd0, bd1⟩ := bd
    have hk2 : k ≤ 4000000 := by omega
    clear z1 h1 hz hbl dg hc g2 gx hk A0 g1
    go_wp2_with (go_at_call 94; refine (hlen _).mono ?_; rintro e w' ⟨rfl, rfl⟩)
    go_ret
    exact ⟨ret_i HE.out, rfl⟩

theorem natBits_any {a : Option Addr} {m c1 : Nat} {xs : List Int} {w : World} (hr1 : RowC w a m c1 xs) (hx : Ws xs) (hm : m ≤ 4000000) :
    Calls Tryz.prog 61 #[.slice a m c1] w fun e w' => e = .returned (.int .i64 (bitsN (num xs))) ∧ Below w.heap.size w w' :=
  (bits0_any hr1 hx hm).mono fun _ _ h => ⟨h.1, h.2 ▸ Below.refl _ _⟩

theorem zeros0_any {a : Option Addr} {m c1 : Nat} {xs : List Int} {w : World} (hr1 : RowC w a m c1 xs) (hx : Ws xs) (hm : m ≤ 4000000) :
    Calls Tryz.prog 67 #[.slice a m c1] w fun e w' => e = .returned (.int .i64 (zerosN (num xs))) ∧ w = w' := by
  have h1 := hr1.1
  have hl := h1.1
  clear hr1
  have HL : Hid (xs.length = m) := hl
  clear hl
  go_enter Tryz.func67, Tryz.ntmps67
  go_wp2
  go_loop [3, 4, 7] (fun _ _ i => ∃ k : Nat, i = .int .i64 k ∧ k ≤ m ∧ Hid (num (xs.take k) = 0)) (fun _ _ i => m - (intOf i).toNat)
  case atStart => exact ⟨0, rfl, by omega, (by simp [num, val] : num (xs.take 0) = 0)⟩
  case round =>
    obtain ⟨i, rfl, hi, hz⟩ := hrel
    by_cases hlt : i < m
    · obtain ⟨b, off, rfl, hb, hc⟩ := h1.at (by omega)
      have hcx := hc i hlt
      have gx := hx.getAnyB i
      have hlt' : i < xs.length := by rw [HL.out]; exact hlt
      have hsk := zeros_skip hlt' hz.out
      have hen := fun k m hk e => zeros_word (k := k) (m := m) hx hlt' hz.out hk e
      have hpos := fun h0 => zerosW_pos (x := xs.getD i 0) gx h0
      have bd := zerosW_bd (x := xs.getD i 0) gx
      generalize xs.getD i 0 = x at *
      by_cases h0 : x = 0
      · have t1 : (x != 0) = false := by simp [h0]
        have HS : Hid (num (xs.take (i + 1)) = 0) := hsk h0
        clear hc h1 hsk hen hz h0 hlt' hpos bd gx
        go_wp2
        go_round
        case rel => exact ⟨i + 1, by go_num, by omega, HS⟩
        case measure => simp [intOf]; omega
      · have t1 : (x != 0) = true := by simp [h0]
        obtain ⟨k, q, hk, hzk, hxe, _⟩ := hpos h0
        have HE : Hid ((i : Int) * 64 + zerosW x = zerosN (num xs)) := by
          show _ = _
          rw [hen k q hk hxe, hzk]; omega
        have hze := fun w => zeros_any (x := x) gx w
        obtain ⟨bd0, bd1⟩ := bd
        clear hc h1 hsk hen hz h0 hlt' hpos hzk hxe gx
        generalize zerosW x = y at *
        go_wp2_with (go_at_call 98; refine (hze _).mono ?_; rintro e w' ⟨_, rfl, rfl, rfl⟩)
        go_ret
        exact ⟨ret_i HE.out, rfl⟩
    · have HE : Hid (0 = zerosN (num xs)) := by
        show _ = _
        have h := hz.out
        rw [List.take_of_length_le (by rw [HL.out]; omega)] at h
        rw [h, zerosN_zero]
      clear h1 hz
      go_wp2
      go_ret
      exact ⟨ret_i HE.out, rfl⟩

theorem natZeros_any {a : Option Addr} {m c1 : Nat} {xs : List Int} {w : World} (hr1 : RowC w a m c1 xs) (hx : Ws xs) (hm : m ≤ 4000000) :
    Calls Tryz.prog 67 #[.slice a m c1] w fun e w' => e = .returned (.int .i64 (zerosN (num xs))) ∧ Below w.heap.size w w' :=
  (zeros0_any hr1 hx hm).mono fun _ _ h => ⟨h.1, h.2 ▸ Below.refl _ _⟩

theorem natBit_any {a : Option Addr} {m c1 : Nat} {xs : List Int} {w : World} (hr1 : RowC w a m c1 xs) (hx : Ws xs) (hm : m ≤ 4000000) (n : Int) (hn9 : n ≤ 9223372036854775807) :
    Calls Tryz.prog 188 #[.slice a m c1, .int .i64 n] w fun e w' => e = .returned (.int .i64 (bitN (num xs) n)) ∧ Below w.heap.size w w' := by
  have h1 := hr1.1
  have hl := h1.1
  have HL : Hid (xs.length = m) := hl
  clear hr1 hl
  by_cases hneg : n < 0
  · have HE : Hid (0 = bitN (num xs) n) := by show _ = _; unfold bitN; rw [if_pos hneg]
    go_enter Tryz.func188, Tryz.ntmps188
    go_wp2
    go_ret
    exact ⟨ret_i HE.out, Below.refl _ _⟩
  · obtain ⟨t, rfl⟩ : ∃ t : Nat, n = (t : Int) := ⟨n.toNat, by omega⟩
    have HB : Hid (bitN (num xs) (t : Int) = num xs / 2 ^ t % 2) := by show _ = _; unfold bitN; rw [if_neg hneg]; simp
    clear hneg
    by_cases hlt : t / 64 < m
    · obtain ⟨b, off, rfl, hb, hc⟩ := h1.at (by omega)
      have hcx := hc (t / 64) hlt
      have gx := hx.getAnyB (t / 64)
      have hbi := word_bit (t := t) hx (by rw [HL.out]; exact hlt)
      generalize xs.getD (t / 64) 0 = x at *
      have HI : Hid (num xs / 2 ^ t % 2 = x / 2 ^ (t % 64) % 2) := hbi
      have hu : U (x / 2 ^ (t % 64)) := U_div_pow (x := x) gx _
      have HE : Hid (wrap64 (bits .and .u64 (x / 2 ^ (t % 64)) 1) = bitN (num xs) (t : Int)) := by
        show _ = _
        rw [HB.out, HI.out, and_one hu]
        unfold wrap64
        omega
      clear hc h1 hbi gx hu
      go_enter Tryz.func188, Tryz.ntmps188
      go_wp2
      go_ret
      exact ⟨ret_i HE.out, Below.refl _ _⟩
    · have HE : Hid (0 = bitN (num xs) (t : Int)) := by show _ = _; rw [HB.out, word_bit_out hx (by rw [HL.out]; omega)]; rfl
      clear h1
      go_enter Tryz.func188, Tryz.ntmps188
      go_wp2
      go_ret
      exact ⟨ret_i HE.out, Below.refl _ _⟩
end Go.Proofs.YtceecgklgkiffabGreatDoor

/- package nat: Sub. -/
namespace Go.Proofs.YtceecgklgkiffabGreatDoor
open Go.ChangeShapes Go.WideShapes Go.ChangeAt Go.RowKit
open Na Ar
set_option linter.unusedVariables false

/-- a slice of slices of words -/
def RowsC (w : World) (a : Option Addr) (n : Nat) (xss : List (List Int)) : Prop :=
  xss.length = n ∧ (n = 0 ∨ ∃ b off, a = some ⟨b, off, none⟩ ∧ b < w.heap.size ∧ ∀ i, i < n → ∃ ai ci, w.cell? ⟨b, off + i, none⟩ = some (.slice ai (xss.getD i []).length ci) ∧ RowC w ai (xss.getD i []).length ci (xss.getD i []))
theorem RowsC.rows {w : World} {a : Option Addr} {n : Nat} {xss : List (List Int)} (h : RowsC w a n xss) : RowsAt w a n xss := by
  obtain ⟨h1, h2⟩ := h
  refine ⟨h1, ?_⟩
  rcases h2 with h2 | ⟨b, off, ha, hb, hc⟩
  · exact Or.inl h2
  · refine Or.inr ⟨b, off, ha, hb, fun i hi => ?_⟩
    obtain ⟨ai, ci, g1, g2⟩ := hc i hi
    exact ⟨ai, ci, g1, g2.1⟩
theorem RowsC.later {w w' : World} {a : Option Addr} {n : Nat} {xss : List (List Int)} (h : RowsC w a n xss) (hb : Below w.heap.size w w') : RowsC w' a n xss := by
  obtain ⟨h1, h2⟩ := h
  refine ⟨h1, ?_⟩
  rcases h2 with h2 | ⟨b, off, ha, hlt, hc⟩
  · exact Or.inl h2
  · refine Or.inr ⟨b, off, ha, Nat.lt_of_lt_of_le hlt hb.size, fun i hi => ?_⟩
    obtain ⟨ai, ci, g1, g2⟩ := hc i hi
    exact ⟨ai, ci, (hb.cell (p := ⟨b, off + i, none⟩) hlt).trans g1, g2.later hb⟩

set_option maxHeartbeats 1600000 in
set_option maxRecDepth 100000 in
theorem natSub_any {a b : Option Addr} {n m c1 c2 : Nat} {xs ys : List Int} {w : World} (hr1 : RowC w a n c1 xs) (hr2 : RowC w b m c2 ys) (hx : Ws xs) (hy : Ws ys) (hn : n ≤ 4000000) (hm : m ≤ 4000000) :
    Calls Tryz.prog 76 #[.slice a n c1, .slice b m c2] w fun e w' => ∃ v, e = .returned (.tuple #[v, .int .i64 (subE (num xs) (num ys))]) ∧ Own .u64 w' w.heap.size 22 v (subL (num xs) (num ys)) ∧ Below w.heap.size w w' := by
  have p1 := num_nonneg hx
  have p2 := num_nonneg hy
  by_cases hlt : num xs < num ys
  · have ho := ordN_lt hlt
    have E1 : Hid (subE (num xs) (num ys) = 20) := if_pos hlt
    have E2 : Hid (subL (num xs) (num ys) = []) := if_pos hlt
    go_enter Tryz.func76, Tryz.ntmps76
    go_wp2_with fail
    refine (natCmp_any hr1 hr2 hx hy hn hm).mono ?_
    rintro e w1 ⟨rfl, hb1⟩
    clear hr1 hr2
    go_wp2
    go_ret2
    exact ⟨_, by rw [E1.out]; rfl, by rw [E2.out]; exact own_nil _ _ _ _, hb1⟩
  · have ho : ¬ ordN (num xs) (num ys) < 0 := by
      unfold ordN; rw [if_neg hlt]; split <;> omega
    have E1 : Hid (subE (num xs) (num ys) = resE (num xs - num ys)) := if_neg hlt
    have E2 : Hid (subL (num xs) (num ys) = resL (num xs - num ys)) := if_neg hlt
    have hle : Hid (num ys ≤ num xs) := (by omega : num ys ≤ num xs)
    have ll : (words (num ys)).length ≤ (words (num xs)).length := Nat.le_of_not_lt (fun g => by have := words_lt p1 p2 g; omega)
    have v1 := num_words p1
    have v2 := num_words p2
    have d1 := Dg_words (num xs)
    have d2 := Dg_words (num ys)
    have q1 := words_le hx
    have hl1 := hr1.1.1
    have b1 : (words (num xs)).length ≤ 12000000 := by omega
    clear hlt q1 hl1
    go_enter Tryz.func76, Tryz.ntmps76
    go_wp2_with fail
    refine (natCmp_any hr1 hr2 hx hy hn hm).mono ?_
    rintro e w1 ⟨rfl, hb1⟩
    have r1 := hr1.later hb1
    have r2 := hr2.later hb1
    clear hr1 hr2
    generalize ordN (num xs) (num ys) = o at *
    go_wp2_with fail
    refine (norm_any r1 hx hn).mono ?_
    rintro e w2 ⟨g, rfl, hown, hb2⟩
    have r2' := r2.later hb2
    clear r1
    go_wp2_with fail
    refine (trim_any r2' hy hm).mono ?_
    rintro e w3 ⟨rfl, r3, _, _, rfl⟩
    have r4 := r2.own_words hy
    clear r2 r2' r3
    have hle' : num (words (num ys)) ≤ num (words (num xs)) := by rw [v1, v2]; exact hle.out
    have HV : Hid (num (words (num xs)) - num (words (num ys)) = num xs - num ys) := by show _ = _; rw [v1, v2]
    generalize words (num xs) = ps at *
    generalize words (num ys) = qs at *
    obtain ⟨N, hN⟩ : ∃ N, N = ps.length := ⟨_, rfl⟩
    rw [← hN] at hown ll b1 ⊢
    have HN : Hid (N = ps.length) := hN
    clear v1 v2 hN
    go_wp2_with fail
    refine (takeFrom_any hown HN.out d1 r4 hb2 d2 ll b1 hle').mono ?_
    rintro e w5 ⟨rfl, us, hou, hul, hwu, hnu, hb5⟩
    have hbb := hb1.trans (hb5.mono hb1.size)
    have hou' := hou.wider hb1.size
    rw [HV.out] at hnu
    have HU : Hid (num us = num xs - num ys) := hnu
    have HUL : Hid (N = us.length) := hul.symm
    clear hou hul hnu r4 hown hb2 hb5 hb1 hle'
    go_wp2_with fail
    refine (answer_any hou' HUL.out hwu b1).mono ?_
    rintro e w6 ⟨v, rfl, ho6, rfl⟩
    rw [HU.out, ← E1.out]
    rw [HU.out, ← E2.out] at ho6
    clear hou'
    go_wp2
    go_ret2
    exact ⟨_, rfl, ho6, hbb⟩
end Go.Proofs.YtceecgklgkiffabGreatDoor

/- package nat: Sum, Add. -/
namespace Go.Proofs.YtceecgklgkiffabGreatDoor
open Go.ChangeShapes Go.WideShapes Go.ChangeAt Go.RowKit
open Na Ar
set_option linter.unusedVariables false

namespace Na
theorem words_mono {A B : Int} (hA : 0 ≤ A) (h : A ≤ B) : (words A).length ≤ (words B).length :=
  Nat.le_of_not_lt (fun g => by have := words_lt (A := B) (B := A) (by omega) hA g; omega)
/-- the most words of one of them -/
def maxL : List (List Int) → Nat
  | [] => 0
  | x :: xs => max (words (num x)).length (maxL xs)
theorem maxL_append (xs ys : List (List Int)) : maxL (xs ++ ys) = max (maxL xs) (maxL ys) := by
  induction xs with
  | nil => simp [maxL]
  | cons x xs ih => rw [List.cons_append, maxL, maxL, ih, Nat.max_assoc]
theorem maxL_next {xss : List (List Int)} {k : Nat} (h : k < xss.length) : maxL (xss.take (k + 1)) = max (maxL (xss.take k)) (words (num (xss.getD k []))).length := by
  rw [List.take_succ_eq_append_getElem h, maxL_append]
  simp [maxL, List.getD_eq_getElem?_getD, List.getElem?_eq_getElem h]
theorem sumN_cons (x : List Int) (xs : List (List Int)) : sumN (x :: xs) = num x + sumN xs := by simp [sumN]
theorem sumN_nonneg {xss : List (List Int)} (h : Wss xss) : 0 ≤ sumN xss := by
  induction xss with
  | nil => exact Int.le_refl _
  | cons x xs ih =>
    rw [sumN_cons]
    have a := num_nonneg (h x (by simp)).1
    have b := ih (fun y hy => h y (by simp [hy]))
    omega
theorem maxL_words {xss : List (List Int)} (h : Wss xss) : maxL xss ≤ (words (sumN xss)).length := by
  induction xss with
  | nil => exact Nat.zero_le _
  | cons x xs ih =>
    have a := num_nonneg (h x (by simp)).1
    have hx : Wss xs := fun y hy => h y (by simp [hy])
    have b := sumN_nonneg hx
    rw [sumN_cons, maxL]
    exact Nat.max_le.mpr ⟨words_mono a (by omega), Nat.le_trans (ih hx) (words_mono b (by omega))⟩
theorem maxL_bd {xss : List (List Int)} (h : Wss xss) : maxL xss ≤ 4000000 := by
  induction xss with
  | nil => exact Nat.zero_le _
  | cons x xs ih =>
    have a := words_le (h x (by simp)).1
    have a2 := (h x (by simp)).2
    have hx : Wss xs := fun y hy => h y (by simp [hy])
    rw [maxL]
    exact Nat.max_le.mpr ⟨by omega, ih hx⟩
theorem num_maxL {xss : List (List Int)} (h : Wss xss) {M : Nat} (hM : maxL xss ≤ M) : sumN xss ≤ xss.length * 18446744073709551616 ^ M := by
  induction xss with
  | nil => simp [sumN]
  | cons x xs ih =>
    have hx : Wss xs := fun y hy => h y (by simp [hy])
    rw [maxL] at hM
    have m1 := Nat.le_trans (Nat.le_max_left _ _) hM
    have m2 := Nat.le_trans (Nat.le_max_right _ _) hM
    have i := ih hx m2
    have n0 := num_nonneg (h x (by simp)).1
    have b := num_bd (Dg_words (num x))
    rw [num_words n0] at b
    have p := wpow_mono m1
    rw [sumN_cons, List.length_cons]
    have e : ((xs.length + 1 : Nat) : Int) * 18446744073709551616 ^ M = (xs.length : Int) * 18446744073709551616 ^ M + 18446744073709551616 ^ M := by
      rw [Int.natCast_add, Int.add_mul]; simp
    rw [e]
    omega
theorem Wss.take {xss : List (List Int)} (h : Wss xss) (k : Nat) : Wss (xss.take k) := fun y hy => h y (List.mem_of_mem_take hy)
theorem maxL_take (xss : List (List Int)) (k : Nat) : maxL (xss.take k) ≤ maxL xss := by
  have e : maxL xss = max (maxL (xss.take k)) (maxL (xss.drop k)) := by rw [← maxL_append, List.take_append_drop]
  rw [e]; exact Nat.le_max_left _ _
theorem word_maxL {xss : List (List Int)} {k : Nat} (h : k < xss.length) : (words (num (xss.getD k []))).length ≤ maxL xss := by
  refine Nat.le_trans ?_ (maxL_take xss (k + 1))
  rw [maxL_next h]; exact Nat.le_max_right _ _
theorem sum_room {xss : List (List Int)} (h : Wss xss) {k : Nat} (hk : k ≤ xss.length) (hn : xss.length ≤ 4000000) : sumN (xss.take k) < 18446744073709551616 ^ (maxL xss + 1) := by
  have a := num_maxL (h.take k) (maxL_take xss k)
  have p := wpow_pos (maxL xss)
  have l : (xss.take k).length ≤ 4000000 := by rw [List.length_take]; omega
  have b : ((xss.take k).length : Int) * 18446744073709551616 ^ maxL xss ≤ 4000000 * 18446744073709551616 ^ maxL xss := Int.mul_le_mul_of_nonneg_right (by omega) (by omega)
  rw [Int.pow_succ]
  omega
end Na

set_option maxHeartbeats 1600000 in
set_option maxRecDepth 100000 in
theorem natSum_any {a : Option Addr} {n cap : Nat} {xss : List (List Int)} {w : World} (hr : RowsC w a n xss) (hx : Wss xss) (hn : n ≤ 4000000) :
    Calls Tryz.prog 132 #[.slice a n cap] w fun e w' => ∃ v, e = .returned (.tuple #[v, .int .i64 (resE (sumN xss))]) ∧ Own .u64 w' w.heap.size 22 v (resL (sumN xss)) ∧ Below w.heap.size w w' := by
  obtain ⟨i_u64, hi_u64, hz0_u64, hz1_u64, hz2_u64⟩ := info_parts info_u64
  have HL : Hid (xss.length = n) := hr.1
  have hmb := maxL_bd hx
  go_enter Tryz.func132, Tryz.ntmps132
  go_wp2
  go_loop [4, 6, 12] (fun l _ i => ∃ k : Nat, i = .int .i64 k ∧ k ≤ n ∧ l = .int .i64 (maxL (xss.take k) : Int)) (fun _ _ i => n - (intOf i).toNat)
  case atStart => exact ⟨0, rfl, by omega, rfl⟩
  case round =>
    obtain ⟨k, rfl, hk, rfl⟩ := hrel
    by_cases hlt : k < n
    · have hkl : k < xss.length := by rw [HL.out]; exact hlt
      have hnext := maxL_next hkl
      have gk := hx.get hkl
      have hb1 := maxL_bd (hx.take k)
      rcases hr.2 with h0 | ⟨b, off, rfl, hb, hc⟩
      · omega
      · obtain ⟨ai, ci, hcx, hri⟩ := hc k hlt
        have htr := trim_any hri gk.1 gk.2
        have hwl := words_le gk.1
        generalize xss.getD k [] = xs at *
        have HN : Hid (maxL (xss.take (k + 1)) = max (maxL (xss.take k)) (words (num xs)).length) := hnext
        have hwl2 : (words (num xs)).length ≤ 4000000 := by have := gk.2; omega
        generalize maxL (xss.take k) = M at *
        generalize (words (num xs)).length = L at *
        clear hc hr hri hkl hnext gk hwl
        have HM : Hid ((if M < L then (L : Int) else (M : Int)) = ((maxL (xss.take (k + 1)) : Nat) : Int)) := by
          show _ = _
          rw [HN.out]
          split <;> omega
        go_wp2_with (go_at_call 66; refine htr.mono ?_; rintro e w' ⟨rfl, _, _, _, rfl⟩)
        go_round
        case rel => exact ⟨k + 1, by go_num, by omega, by rw [HM.out]⟩
        case measure => simp [intOf]; omega
    · have hkn : k = n := by omega
      have HT : Hid (xss.take k = xss) := List.take_of_length_le (by rw [HL.out]; omega)
      rw [HT.out]
      have hmw := maxL_words hx
      have hroom := fun (q : Nat) (h : q ≤ n) => sum_room hx (k := q) (by rw [HL.out]; exact h) (by rw [HL.out]; exact hn)
      have hword := fun (q : Nat) (h : q < n) => word_maxL (xss := xss) (k := q) (by rw [HL.out]; exact h)
      obtain ⟨M, hM⟩ : ∃ M, M = maxL xss := ⟨_, rfl⟩
      rw [← hM] at hmb hmw hroom hword ⊢
      clear hkn HT hM
      by_cases hbig : 4096 < M
      · have E := res_huge (N := sumN xss) (by omega)
        have E1 : Hid (resL (sumN xss) = []) := E.1
        have E2 : Hid (resE (sumN xss) = 21) := E.2
        clear E hmw hroom hword hr
        go_wp2
        go_ret2
        exact ⟨_, by rw [E2.out]; rfl, by rw [E1.out]; exact own_nil _ _ _ _, Below.refl _ _⟩
      · clear hmw
        go_wp2_with (at_make; refine wpList_make_full _ rfl _ _ 30 rfl w.heap.size 22 i_u64 (.int .u64 0) 1 Tryz.underlying30 hi_u64 hz0_u64 hz1_u64 .i64 .i64 _ _ (M + 1) rfl rfl (by omega) (by omega) (by rw [hz2_u64]; omega) (by unfold maxLen; omega) (Nat.le_refl _) ?_)
        intro w3 hmade hgr
        have hown := own_zeros hmade
        have hb3 : Below w.heap.size w w3 := (Below.refl _ _).grown hgr (Nat.le_refl _) (fun k hk => by cases hk)
        obtain ⟨g, hg⟩ : ∃ g, g = w.heap.size := ⟨_, rfl⟩
        have hown2 : Own .u64 w3 w.heap.size 22 (.slice (some ⟨g, 0, none⟩) (M + 1) (M + 1)) (List.replicate (M + 1) 0) := by rw [hg]; exact hown
        rw [← hg]
        clear hmade hgr hown hg
        go_wp2
        go_loopw [9, 29] (fun _ i wr => ∃ (q : Nat) (us : List Int), i = .int .i64 q ∧ q ≤ n ∧ Own .u64 wr w.heap.size 22 (.slice (some ⟨g, 0, none⟩) (M + 1) (M + 1)) us ∧ Hid (us.length = M + 1) ∧ Ws us ∧ Hid (num us = sumN (xss.take q)) ∧ Below w.heap.size w wr) (fun _ i _ => n - (intOf i).toNat)
        case atStart => exact ⟨0, _, rfl, by omega, hown2, (by simp : (List.replicate (M + 1) (0 : Int)).length = M + 1), Dg_zeros (by omega) _, (by unfold num; rw [val_zeros]; rfl : num (List.replicate (M + 1) 0) = sumN (xss.take 0)), hb3⟩
        case round =>
          obtain ⟨q, us, rfl, hq, hou, hul, hwu, hnu, hnx⟩ := hrel
          clear hown2 hb3
          by_cases hlt2 : q < n
          · have hkl : q < xss.length := by rw [HL.out]; exact hlt2
            have gk := hx.get hkl
            have hsn := sum_next hkl
            have hrm := hroom (q + 1) (by omega)
            have hwd := hword q hlt2
            rcases hr.2 with h0 | ⟨b, off, rfl, hb, hc⟩
            · omega
            · obtain ⟨ai, ci, hcx0, hri⟩ := hc q hlt2
              have hcx := (hnx.cell (p := ⟨b, off + q, none⟩) hb).trans hcx0
              have htr := trim_any (hri.later hnx) gk.1 gk.2
              have hrw := hri.own_words gk.1
              have v1 := num_words (num_nonneg gk.1)
              have dw := Dg_words (num (xss.getD q []))
              generalize xss.getD q [] = xs at *
              have hbd : num us + num (words (num xs)) < 18446744073709551616 ^ (M + 1) := by rw [v1, hnu.out, ← hsn]; exact hrm
              have HS : Hid (num us + num (words (num xs)) = sumN (xss.take (q + 1))) := by show _ = _; rw [v1, hnu.out, ← hsn]
              have hadd := addTo_any (cap2 := ci) hou hul.out.symm hwu hrw hnx dw (by omega) (by omega) hbd
              clear hc hr hri hkl hsn gk hrm hcx0 hrw v1 dw hbd hroom hword hou hnx
              generalize words (num xs) = ps at *
              obtain ⟨L, hL⟩ : ∃ L, L = ps.length := ⟨_, rfl⟩
              rw [← hL] at htr hadd hwd
              clear hL
              go_wp2_with (go_at_call 66; refine htr.mono ?_; rintro e w' ⟨rfl, _, _, _, rfl⟩)
              go_wp2_with fail
              refine hadd.mono ?_
              rintro e w5 ⟨rfl, vs, hov, hvl, hwv, hnv, hb5⟩
              have HVL : Hid (vs.length = M + 1) := hvl
              have HNV : Hid (num vs = sumN (xss.take (q + 1))) := by show _ = _; rw [hnv]; exact HS.out
              clear hvl hnv htr hadd
              go_wp2
              go_roundw
              case rel => exact ⟨q + 1, vs, by go_num, by omega, hov, HVL, hwv, HNV, hb5⟩
              case measure => simp [intOf]; omega
          · have HT : Hid (xss.take q = xss) := List.take_of_length_le (by rw [HL.out]; omega)
            have HNU : Hid (num us = sumN xss) := by have := hnu.out; rw [HT.out] at this; exact this
            clear hr hroom hword hnu HT
            go_wp2_with fail
            refine (answer_any hou hul.out.symm hwu (by omega)).mono ?_
            rintro e w6 ⟨v, rfl, ho6, rfl⟩
            rw [HNU.out]
            rw [HNU.out] at ho6
            clear hou
            go_wp2
            go_ret2
            exact ⟨_, rfl, ho6, hnx⟩

/-- two lists laid into one slice -/
theorem rows_two {w : World} {a b : Option Addr} {n m c1 c2 : Nat} {xs ys : List Int} (t : TypeId) (h1 : RowC w a n c1 xs) (h2 : RowC w b m c2 ys) :
    RowsC (w.alloc (.cells #[.slice a n c1, .slice b m c2] t)) (some ⟨w.heap.size, 0, none⟩) 2 [xs, ys] := by
  have hb : Below w.heap.size w (w.alloc (.cells #[.slice a n c1, .slice b m c2] t)) := (Below.refl _ _).alloc (Nat.le_refl _) _
  have e1 := h1.1.1
  have e2 := h2.1.1
  have g1 := h1.later hb
  have g2 := h2.later hb
  subst e1 e2
  refine ⟨rfl, Or.inr ⟨w.heap.size, 0, rfl, by simp, fun i hi => ?_⟩⟩
  have hi3 : i = 0 ∨ i = 1 := by omega
  rcases hi3 with rfl | rfl
  · exact ⟨a, c1, by simp, g1⟩
  · exact ⟨b, c2, by simp, g2⟩
theorem natAdd_any {a b : Option Addr} {n m c1 c2 : Nat} {xs ys : List Int} {w : World} (hr1 : RowC w a n c1 xs) (hr2 : RowC w b m c2 ys) (hx : Ws xs) (hy : Ws ys) (hn : n ≤ 4000000) (hm : m ≤ 4000000) :
    Calls Tryz.prog 106 #[.slice a n c1, .slice b m c2] w fun e w' => ∃ v, e = .returned (.tuple #[v, .int .i64 (resE (num xs + num ys))]) ∧ Own .u64 w' w.heap.size 22 v (resL (num xs + num ys)) ∧ Below w.heap.size w w' := by
  have hrows := rows_two 30 hr1 hr2
  have l1 := hr1.1.1
  have l2 := hr2.1.1
  have hw : Wss [xs, ys] := by
    intro q hq
    simp at hq
    rcases hq with e | e
    · rw [e]; exact ⟨hx, by omega⟩
    · rw [e]; exact ⟨hy, by omega⟩
  have hs : sumN [xs, ys] = num xs + num ys := by simp [sumN]
  have hb0 := alloc_below (w := w) (.cells #[.slice a n c1, .slice b m c2] 30)
  have hsum := natSum_any (cap := 2) hrows hw (by omega)
  rw [hs] at hsum
  clear hrows hr1 hr2 hs l1 l2
  go_enter Tryz.func106, Tryz.ntmps106
  go_wp2_with fail
  refine hsum.mono ?_
  rintro e w1 ⟨v, rfl, ho, hb⟩
  have hbb := hb0.trans (hb.mono hb0.size)
  have ho' := ho.wider hb0.size
  clear hsum ho hb hb0
  go_wp2
  go_ret2
  exact ⟨_, rfl, ho', hbb⟩
end Go.Proofs.YtceecgklgkiffabGreatDoor

/- package words: AddTimes, TakeTimes. -/
namespace Go.Proofs.YtceecgklgkiffabGreatDoor
open Go.ChangeShapes Go.WideShapes Go.ChangeAt Go.RowKit
open Na Ar
set_option linter.unusedVariables false

namespace Na
def timLo (y x u d : Int) : Int := (y * x + u + d) % 18446744073709551616
def timHi (y x u d : Int) : Int := (y * x + u + d) / 18446744073709551616
theorem tim_lo (y x u d : Int) : addLo (addLo (mulLo y x) u 0) d 0 = timLo y x u d := by
  unfold addLo mulLo timLo; omega
theorem tim_split {y x u d : Int} : y * x + u + d = timLo y x u d + 18446744073709551616 * timHi y x u d := by unfold timLo timHi; omega
theorem U_timLo (y x u d : Int) : U (timLo y x u d) := by unfold U timLo; omega
theorem U_timHi {y x u d : Int} (hy : U y) (hx : U x) (hu : U u) (hd : U d) : U (timHi y x u d) := by
  unfold U at *
  have m0 : 0 ≤ y * x := Int.mul_nonneg hy.1 hx.1
  have m1 : y * x ≤ 18446744073709551615 * 18446744073709551615 := Int.mul_le_mul (by omega) (by omega) hx.1 (by omega)
  unfold timHi
  generalize y * x = z at *
  omega
theorem tim_hi {y x u d : Int} (hy : U y) (hx : U x) (hu : U u) (hd : U d) : IntKind.u64.wrap (IntKind.u64.wrap (mulHi y x + addHi (mulLo y x) u 0) + addHi (addLo (mulLo y x) u 0) d 0) = timHi y x u d := by
  have h := U_timHi hy hx hu hd
  unfold U at *
  rw [IntKind.wrap_u64, IntKind.wrap_u64]
  unfold mulHi addHi addLo mulLo
  unfold timHi at *
  generalize y * x = z at *
  omega
def TimI (ds ys : List Int) (o : Nat) (x : Int) (k : Nat) (d : Int) (us : List Int) : Prop := Ws us ∧ us.length = ds.length ∧ U d ∧ us.drop (o + ys.length) = ds.drop (o + ys.length) ∧ us.take o = ds.take o ∧
  num us + 18446744073709551616 ^ (o + k) * d = num ds + 18446744073709551616 ^ o * (x * num (ys.take k))
theorem timI_start {ds ys : List Int} {o : Nat} {x : Int} (h : Ws ds) : TimI ds ys o x 0 0 ds := ⟨h, rfl, U_zero, rfl, rfl, by simp [num, val]⟩
theorem timI_step {ds ys us : List Int} {o k : Nat} {x d : Int} (h : TimI ds ys o x k d us) (hy : Ws ys) (hx : U x) (hk : k < ys.length) (ho : o + k < us.length) :
    TimI ds ys o x (k + 1) (timHi (ys.getD k 0) x (us.getD (o + k) 0) d) (us.set (o + k) (timLo (ys.getD k 0) x (us.getD (o + k) 0) d)) := by
  obtain ⟨h1, h2, h3, h4, h6, h5⟩ := h
  have gu : U (us.getD (o + k) 0) := h1.get ho
  have gy : U (ys.getD k 0) := hy.get hk
  refine ⟨h1.set _ (U_timLo _ _ _ _), by rw [List.length_set]; exact h2, U_timHi gy hx gu h3, ?_, ?_, ?_⟩
  · rw [List.drop_set_of_lt (by omega)]; exact h4
  · rw [List.take_set_of_le (by omega)]; exact h6
  · have e : us.getD (o + k) 0 + ys.getD k 0 * x + d = timLo (ys.getD k 0) x (us.getD (o + k) 0) d + 18446744073709551616 * timHi (ys.getD k 0) x (us.getD (o + k) 0) d := by
      rw [← tim_split]; omega
    have p := put_word (j := o + k) (c := d) (p := ys.getD k 0 * x) ho e
    rw [← Nat.add_assoc, p, h5]
    have t : num (ys.take (k + 1)) = num (ys.take k) + 18446744073709551616 ^ k * ys.getD k 0 := take_valB hk
    rw [t, Int.pow_add]
    generalize (18446744073709551616 : Int) ^ o = P
    generalize (18446744073709551616 : Int) ^ k = Q
    generalize num (ys.take k) = V
    generalize ys.getD k 0 = y
    grind
theorem timI_done {ds ys us : List Int} {o : Nat} {x d : Int} (h : TimI ds ys o x ys.length d us) : num us + 18446744073709551616 ^ (o + ys.length) * d = num ds + 18446744073709551616 ^ o * (x * num ys) := by
  have := h.2.2.2.2.2
  rw [List.take_of_length_le (Nat.le_refl _)] at this
  exact this
theorem TimI.win {ds ys us : List Int} {o : Nat} {x d : Int} (h : TimI ds ys o x ys.length d us) (hom : o + ys.length ≤ ds.length) : Na.win us o ys.length + 18446744073709551616 ^ ys.length * d = Na.win ds o ys.length + x * num ys :=
  win_eq h.2.1 hom h.2.2.2.2.1 h.2.2.2.1 (timI_done h)
def takLo (y x u d : Int) : Int := (u - y * x - d) % 18446744073709551616
def takHi (y x u d : Int) : Int := - ((u - y * x - d) / 18446744073709551616)
theorem tak_lo (y x u d : Int) : subLo u (addLo (mulLo y x) d 0) 0 = takLo y x u d := by
  unfold subLo addLo mulLo takLo
  generalize y * x = z
  omega
theorem U_takLo (y x u d : Int) : U (takLo y x u d) := by unfold U takLo; omega
theorem U_takHi {y x u d : Int} (hy : U y) (hx : U x) (hu : U u) (hd : U d) : U (takHi y x u d) := by
  unfold U at *
  have m0 : 0 ≤ y * x := Int.mul_nonneg hy.1 hx.1
  have m1 : y * x ≤ 18446744073709551615 * 18446744073709551615 := Int.mul_le_mul (by omega) (by omega) hx.1 (by omega)
  unfold takHi
  generalize y * x = z at *
  omega
theorem tak_hi {y x u d : Int} (hy : U y) (hx : U x) (hu : U u) (hd : U d) : IntKind.u64.wrap (IntKind.u64.wrap (mulHi y x + addHi (mulLo y x) d 0) + subHi u (addLo (mulLo y x) d 0) 0) = takHi y x u d := by
  have h := U_takHi hy hx hu hd
  unfold U at *
  have m0 : 0 ≤ y * x := Int.mul_nonneg hy.1 hx.1
  have m1 : y * x ≤ 18446744073709551615 * 18446744073709551615 := Int.mul_le_mul (by omega) (by omega) hx.1 (by omega)
  rw [IntKind.wrap_u64, IntKind.wrap_u64]
  unfold mulHi addHi subHi addLo mulLo
  unfold takHi at *
  generalize y * x = z at *
  omega
theorem tak_split {y x u d : Int} : u - y * x - d = takLo y x u d - 18446744073709551616 * takHi y x u d := by unfold takLo takHi; omega
def TakI (ds ys : List Int) (o : Nat) (x : Int) (k : Nat) (d : Int) (us : List Int) : Prop := Ws us ∧ us.length = ds.length ∧ U d ∧ us.drop (o + ys.length) = ds.drop (o + ys.length) ∧ us.take o = ds.take o ∧
  num us - 18446744073709551616 ^ (o + k) * d = num ds - 18446744073709551616 ^ o * (x * num (ys.take k))
theorem takI_start {ds ys : List Int} {o : Nat} {x : Int} (h : Ws ds) : TakI ds ys o x 0 0 ds := ⟨h, rfl, U_zero, rfl, rfl, by simp [num, val]⟩
theorem takI_step {ds ys us : List Int} {o k : Nat} {x d : Int} (h : TakI ds ys o x k d us) (hy : Ws ys) (hx : U x) (hk : k < ys.length) (ho : o + k < us.length) :
    TakI ds ys o x (k + 1) (takHi (ys.getD k 0) x (us.getD (o + k) 0) d) (us.set (o + k) (takLo (ys.getD k 0) x (us.getD (o + k) 0) d)) := by
  obtain ⟨h1, h2, h3, h4, h6, h5⟩ := h
  have gu : U (us.getD (o + k) 0) := h1.get ho
  have gy : U (ys.getD k 0) := hy.get hk
  refine ⟨h1.set _ (U_takLo _ _ _ _), by rw [List.length_set]; exact h2, U_takHi gy hx gu h3, ?_, ?_, ?_⟩
  · rw [List.drop_set_of_lt (by omega)]; exact h4
  · rw [List.take_set_of_le (by omega)]; exact h6
  · have e : us.getD (o + k) 0 - ys.getD k 0 * x - d = takLo (ys.getD k 0) x (us.getD (o + k) 0) d - 18446744073709551616 * takHi (ys.getD k 0) x (us.getD (o + k) 0) d := tak_split
    have p := take_word (j := o + k) (c := d) (p := ys.getD k 0 * x) ho e
    rw [← Nat.add_assoc, p, h5]
    have t : num (ys.take (k + 1)) = num (ys.take k) + 18446744073709551616 ^ k * ys.getD k 0 := take_valB hk
    rw [t, Int.pow_add]
    generalize (18446744073709551616 : Int) ^ o = P
    generalize (18446744073709551616 : Int) ^ k = Q
    generalize num (ys.take k) = V
    generalize ys.getD k 0 = y
    grind
theorem TakI.win {ds ys us : List Int} {o : Nat} {x d : Int} (h : TakI ds ys o x ys.length d us) (hom : o + ys.length ≤ ds.length) : Na.win us o ys.length - 18446744073709551616 ^ ys.length * d = Na.win ds o ys.length - x * num ys := by
  have e := h.2.2.2.2.2
  rw [List.take_of_length_le (Nat.le_refl _)] at e
  have := win_eq (us := us) (ts := ds) (o := o) (m := ys.length) (c := -d) (P := -(x * num ys)) h.2.1 hom h.2.2.2.2.1 h.2.2.2.1 (by rw [Int.mul_neg, Int.mul_neg]; omega)
  rw [Int.mul_neg] at this
  omega
end Na

set_option maxHeartbeats 1600000 in
set_option maxRecDepth 100000 in
theorem addTimes_in {g cap N o m M dcap base : Nat} {a : Option Addr} {cap2 : Nat} {ds ys : List Int} {x : Int} {w : World} (hown : Own .u64 w base 22 (.slice (some ⟨g, 0, none⟩) N cap) ds) (hN : N = ds.length) (hd : Ws ds)
    (hr : RowAt .u64 w a m ys) (hoff : 0 < m → Off a g) (hy : Ws ys) (hx : U x) (hM : m ≤ M) (ho : o + M ≤ N) (hN' : N ≤ 12000000) :
    Calls Tryz.prog 68 #[.slice (some ⟨g, o, none⟩) M dcap, .slice a m cap2, .int .u64 x] w fun e w' => ∃ d us, e = .returned (.int .u64 d) ∧ Own .u64 w' base 22 (.slice (some ⟨g, 0, none⟩) N cap) us ∧ TimI ds ys o x m d us ∧ In g (g + 1) w w' := by
  have HL : Hid (ys.length = m) := hr.1
  have HN : Hid (N = ds.length) := hN
  have hst := timI_start (ys := ys) (o := o) (x := x) hd
  have hii := In.refl g (g + 1) w
  clear hN
  go_enter Tryz.func68, Tryz.ntmps68
  go_wp2
  go_loopw [7, 8, 9, 10, 11, 14] (fun c _ _ _ _ k wr => ∃ (j : Nat) (D : Int) (us : List Int), k = .int .i64 j ∧ c = .int .u64 D ∧ j ≤ m ∧ Own .u64 wr base 22 (.slice (some ⟨g, 0, none⟩) N cap) us ∧ TimI ds ys o x j D us ∧ In g (g + 1) w wr) (fun _ _ _ _ _ k _ => m - (intOf k).toNat)
  case atStart => exact ⟨0, 0, ds, rfl, rfl, by omega, hown, hst, hii⟩
  case round =>
    obtain ⟨j, D, us, rfl, rfl, hj, hou, hinv, hnx⟩ := hrel
    clear hown hst hii
    by_cases hlt : j < m
    · obtain ⟨b, off, rfl, hbB, hc⟩ := (hr.inn hnx hoff).at (by omega)
      have hcx := hc j hlt
      have hlu : N = us.length := by rw [hinv.2.1]; exact HN.out
      have gy : U (ys.getD j 0) := hy.getAnyB j
      have gu : U (us.getD (o + j) 0) := hinv.1.getAnyB (o + j)
      have gd := hinv.2.2.1
      have hstep := timI_step hinv hy hx (by rw [HL.out]; exact hlt) (by omega)
      have hlo := tim_lo (ys.getD j 0) x (us.getD (o + j) 0) D
      have hhi := tim_hi gy hx gu gd
      generalize ys.getD j 0 = y at *
      clear hc hr hinv hoff
      go_wp2_with fail
      refine (mul_any gy hx _).mono ?_
      rintro e w1 ⟨_, _, rfl, hg1, rfl, rfl⟩
      have hou1 := hou.later hg1.2
      have hce := hou1.cellAt hlu (j := o + j) (by omega)
      have hfz := hou1.frozenAt hlu (o + j)
      have hO := hou1.set hlu (o + j) (timLo y x (us.getD (o + j) 0) D)
      have hnx1 := hnx.later hg1.2
      have um1 := U_mulLo y x
      have um2 := U_mulHi gy hx
      generalize us.getD (o + j) 0 = u at *
      have ua1 := U_addLo (mulLo y x) u 0
      have hlo' : Hid (addLo (addLo (mulLo y x) u 0) D 0 = timLo y x u D) := hlo
      have hhi' : Hid (IntKind.u64.wrap (IntKind.u64.wrap (mulHi y x + addHi (mulLo y x) u 0) + addHi (addLo (mulLo y x) u 0) D 0) = timHi y x u D) := hhi
      have HLU : Hid (N = us.length) := hlu
      have hjN : o + j < N := by omega
      clear hou hou1 hnx hg1 hlo hhi hcx hlu
      go_wp2_with fail
      refine (add_any um1 gu U_zero _).mono ?_
      rintro e w2 ⟨_, _, rfl, rfl, rfl, rfl⟩
      go_wp2_with fail
      refine (add_any ua1 gd U_zero _).mono ?_
      rintro e w2 ⟨_, _, rfl, rfl, rfl, rfl⟩
      rw [hlo'.out]
      go_wp2
      go_roundw
      case rel => exact ⟨j + 1, _, _, by go_num, by rw [hhi'.out], by omega, hO, hstep, hnx1.set1 _ _⟩
      case measure => simp [intOf]; omega
    · have hj2 : j = m := by omega
      subst hj2
      clear hr hoff
      go_wp2
      go_ret
      exact ⟨D, us, rfl, hou, hinv, hnx⟩

set_option maxHeartbeats 1600000 in
set_option maxRecDepth 100000 in
theorem takeTimes_in {g cap N o m M dcap base : Nat} {a : Option Addr} {cap2 : Nat} {ds ys : List Int} {x : Int} {w : World} (hown : Own .u64 w base 22 (.slice (some ⟨g, 0, none⟩) N cap) ds) (hN : N = ds.length) (hd : Ws ds)
    (hr : RowAt .u64 w a m ys) (hoff : 0 < m → Off a g) (hy : Ws ys) (hx : U x) (hM : m ≤ M) (ho : o + M ≤ N) (hN' : N ≤ 12000000) :
    Calls Tryz.prog 172 #[.slice (some ⟨g, o, none⟩) M dcap, .slice a m cap2, .int .u64 x] w fun e w' => ∃ d us, e = .returned (.int .u64 d) ∧ Own .u64 w' base 22 (.slice (some ⟨g, 0, none⟩) N cap) us ∧ TakI ds ys o x m d us ∧ In g (g + 1) w w' := by
  have HL : Hid (ys.length = m) := hr.1
  have HN : Hid (N = ds.length) := hN
  have hst := takI_start (ys := ys) (o := o) (x := x) hd
  have hii := In.refl g (g + 1) w
  clear hN
  go_enter Tryz.func172, Tryz.ntmps172
  go_wp2
  go_loopw [7, 8, 9, 10, 11, 12, 15] (fun c _ _ _ _ _ k wr => ∃ (j : Nat) (D : Int) (us : List Int), k = .int .i64 j ∧ c = .int .u64 D ∧ j ≤ m ∧ Own .u64 wr base 22 (.slice (some ⟨g, 0, none⟩) N cap) us ∧ TakI ds ys o x j D us ∧ In g (g + 1) w wr) (fun _ _ _ _ _ _ k _ => m - (intOf k).toNat)
  case atStart => exact ⟨0, 0, ds, rfl, rfl, by omega, hown, hst, hii⟩
  case round =>
    obtain ⟨j, D, us, rfl, rfl, hj, hou, hinv, hnx⟩ := hrel
    clear hown hst hii
    by_cases hlt : j < m
    · obtain ⟨b, off, rfl, hbB, hc⟩ := (hr.inn hnx hoff).at (by omega)
      have hcx := hc j hlt
      have hlu : N = us.length := by rw [hinv.2.1]; exact HN.out
      have gy : U (ys.getD j 0) := hy.getAnyB j
      have gu : U (us.getD (o + j) 0) := hinv.1.getAnyB (o + j)
      have gd := hinv.2.2.1
      have hstep := takI_step hinv hy hx (by rw [HL.out]; exact hlt) (by omega)
      have hlo := tak_lo (ys.getD j 0) x (us.getD (o + j) 0) D
      have hhi := tak_hi gy hx gu gd
      generalize ys.getD j 0 = y at *
      clear hc hr hinv hoff
      go_wp2_with fail
      refine (mul_any gy hx _).mono ?_
      rintro e w1 ⟨_, _, rfl, hg1, rfl, rfl⟩
      have hou1 := hou.later hg1.2
      have hce := hou1.cellAt hlu (j := o + j) (by omega)
      have hfz := hou1.frozenAt hlu (o + j)
      have hO := hou1.set hlu (o + j) (takLo y x (us.getD (o + j) 0) D)
      have hnx1 := hnx.later hg1.2
      have um1 := U_mulLo y x
      have um2 := U_mulHi gy hx
      generalize us.getD (o + j) 0 = u at *
      have ua1 := U_addLo (mulLo y x) D 0
      have hlo' : Hid (subLo u (addLo (mulLo y x) D 0) 0 = takLo y x u D) := hlo
      have hhi' : Hid (IntKind.u64.wrap (IntKind.u64.wrap (mulHi y x + addHi (mulLo y x) D 0) + subHi u (addLo (mulLo y x) D 0) 0) = takHi y x u D) := hhi
      have HLU : Hid (N = us.length) := hlu
      have hjN : o + j < N := by omega
      clear hou hou1 hnx hg1 hlo hhi hcx hlu
      go_wp2_with fail
      refine (add_any um1 gd U_zero _).mono ?_
      rintro e w2 ⟨_, _, rfl, rfl, rfl, rfl⟩
      go_wp2_with fail
      refine (sub_any gu ua1 U_zero _).mono ?_
      rintro e w2 ⟨_, _, rfl, rfl, rfl, rfl⟩
      rw [hlo'.out]
      go_wp2
      go_roundw
      case rel => exact ⟨j + 1, _, _, by go_num, by rw [hhi'.out], by omega, hO, hstep, hnx1.set1 _ _⟩
      case measure => simp [intOf]; omega
    · have hj2 : j = m := by omega
      subst hj2
      clear hr hoff
      go_wp2
      go_ret
      exact ⟨D, us, rfl, hou, hinv, hnx⟩


/-- into a list that the call has made -/
theorem addTimes_any {g cap N o m dcap : Nat} {a : Option Addr} {cap2 : Nat} {ds ys : List Int} {x : Int} {w0 w : World} (hown : Own .u64 w w0.heap.size 22 (.slice (some ⟨g, 0, none⟩) N cap) ds) (hN : N = ds.length) (hd : Ws ds)
    (hr : RowAt .u64 w0 a m ys) (hb : Below w0.heap.size w0 w) (hy : Ws ys) (hx : U x) (ho : o + m ≤ N) (hN' : N ≤ 12000000) :
    Calls Tryz.prog 68 #[.slice (some ⟨g, o, none⟩) m dcap, .slice a m cap2, .int .u64 x] w fun e w' => ∃ d us, e = .returned (.int .u64 d) ∧ Own .u64 w' w0.heap.size 22 (.slice (some ⟨g, 0, none⟩) N cap) us ∧ TimI ds ys o x m d us ∧ Below w0.heap.size w0 w' := by
  have hg := hown.base_le
  refine (addTimes_in (M := m) hown hN hd (hr.later hb) (fun h => hr.off h hg) hy hx (Nat.le_refl _) ho hN').mono ?_
  rintro e w' ⟨d, us, rfl, h1, h2, h3⟩
  exact ⟨d, us, rfl, h1, h2, below_inn hb h3 hg (Nat.le_refl _)⟩
end Go.Proofs.YtceecgklgkiffabGreatDoor

/- package nat: Mul. -/
namespace Go.Proofs.YtceecgklgkiffabGreatDoor
open Go.ChangeShapes Go.WideShapes Go.ChangeAt Go.RowKit
open Na Ar
set_option linter.unusedVariables false

namespace Na
theorem bits_le {N : Int} {k : Nat} (h0 : 0 ≤ N) (h : N < 18446744073709551616 ^ k) : bitsN N ≤ 64 * k := by
  by_cases e : N = 0
  · subst e; rw [bits_none]; omega
  · obtain ⟨b, hb, h1, h2⟩ := bits_some (N := N) (by omega)
    rw [wpow2] at h
    have : b < 64 * k := by
      by_cases g : b < 64 * k
      · exact g
      · have := p2mono (show 64 * k ≤ b by omega)
        omega
    omega
theorem mul_huge64 {A B : Int} (hA : 0 < A) (hB : 0 < B) (h : 262144 < bitsN A + bitsN B - 1) : 4096 < (words (A * B)).length := by
  obtain ⟨a, ha, a1, _⟩ := bits_some hA
  obtain ⟨b, hb, b1, _⟩ := bits_some hB
  refine dig_len_ge ?_
  rw [wpow2]
  have m : (2 : Int) ^ a * 2 ^ b ≤ A * B := Int.mul_le_mul a1 b1 (Int.le_of_lt (p2pos b)) (by omega)
  rw [← Int.pow_add] at m
  have := p2mono (show 64 * 4096 ≤ a + b by omega)
  exact Int.le_trans this m
theorem word_none {us : List Int} {k : Nat} (h : Ws us) (hb : num us < 18446744073709551616 ^ k) : us.getD k 0 = 0 := by
  by_cases hk : k < us.length
  · have e : num us = _ := val_atB (B := 18446744073709551616) hk
    have v0 := val_nonneg (B := 18446744073709551616) (by omega) (h.take k)
    have v1 := val_nonneg (B := 18446744073709551616) (by omega) (h.drop (k + 1))
    have g := h.getAnyB k
    have p := wpow_pos k
    by_cases z : us.getD k 0 = 0
    · exact z
    · have m : (18446744073709551616 : Int) ^ k * 1 ≤ 18446744073709551616 ^ k * (us.getD k 0 + 18446744073709551616 * val 18446744073709551616 (us.drop (k + 1))) := Int.mul_le_mul_of_nonneg_left (by omega) (by omega)
      omega
  · exact getD_out (by omega)
def MulJ (ps qs : List Int) (i : Nat) (us : List Int) : Prop := Ws us ∧ us.length = ps.length + qs.length ∧ num us = num (ps.take i) * num qs
theorem getD_drop {xs ys : List Int} {k : Nat} (h : xs.drop k = ys.drop k) : xs.getD k 0 = ys.getD k 0 := by
  have := congrArg (fun l => l.getD 0 0) h
  simpa [List.getD_eq_getElem?_getD, List.getElem?_drop] using this
theorem mulJ_step {ps qs us vs : List Int} {i : Nat} {d : Int} (hp : Ws ps) (hq : Ws qs) (h : MulJ ps qs i us) (hi : i < ps.length) (ht : TimI us qs i (ps.getD i 0) qs.length d vs) (hl : i + qs.length < vs.length) :
    MulJ ps qs (i + 1) (vs.set (i + qs.length) d) := by
  obtain ⟨h1, h2, h3⟩ := h
  have e := timI_done ht
  obtain ⟨t1, t2, t3, t4, _⟩ := ht
  have l1 := num_bd (hp.take i)
  rw [List.length_take, Nat.min_eq_left (by omega)] at l1
  have l2 := num_bd hq
  have n1 := num_nonneg (hp.take i)
  have n2 := num_nonneg hq
  have hb : num us < 18446744073709551616 ^ (i + qs.length) := by
    rw [h3, Int.pow_add]
    have p := wpow_pos i
    have p2 := wpow_pos qs.length
    have a := Int.mul_le_mul_of_nonneg_right (Int.le_of_lt l1) n2
    have b := Int.mul_lt_mul_of_pos_left l2 p
    omega
  have z := word_none h1 hb
  have z2 : vs.getD (i + qs.length) 0 = 0 := by rw [getD_drop t4]; exact z
  refine ⟨t1.set _ t3, by rw [List.length_set, t2, h2], ?_⟩
  have s : num (vs.set (i + qs.length) d) = num vs + 18446744073709551616 ^ (i + qs.length) * (d - vs.getD (i + qs.length) 0) := val_set d hl
  have t : num (ps.take (i + 1)) = num (ps.take i) + 18446744073709551616 ^ i * ps.getD i 0 := take_valB hi
  rw [s, z2, Int.sub_zero, e, h3, t]
  generalize (18446744073709551616 : Int) ^ i = P
  generalize num (ps.take i) = V
  generalize ps.getD i 0 = x
  generalize num qs = Z
  grind
theorem mulJ_done {ps qs us : List Int} (h : MulJ ps qs ps.length us) : num us = num ps * num qs := by
  have := h.2.2
  rw [List.take_of_length_le (Nat.le_refl _)] at this
  exact this
end Na

theorem RowC.drop {w : World} {b off n cap : Nat} {xs : List Int} (h : RowC w (some ⟨b, off, none⟩) n cap xs) {o : Nat} (ho : o < n) : RowC w (some ⟨b, off + o, none⟩) (n - o) (cap - o) (xs.drop o) := by
  obtain ⟨⟨h1, h2⟩, h3, h4⟩ := h
  refine ⟨⟨by rw [List.length_drop]; omega, Or.inr ⟨b, off + o, rfl, ?_, fun i hi => ?_⟩⟩, by omega, by omega⟩
  · rcases h2 with h2 | ⟨b', off', ha, hlt, hc⟩
    · omega
    · simp only [Option.some.injEq, Addr.mk.injEq] at ha
      omega
  · rcases h2 with h2 | ⟨b', off', ha, hlt, hc⟩
    · omega
    · simp only [Option.some.injEq, Addr.mk.injEq] at ha
      obtain ⟨rfl, rfl, _⟩ := ha
      have := hc (o + i) (by omega)
      have e : (xs.drop o).getD i 0 = xs.getD (o + i) 0 := by simp [List.getD_eq_getElem?_getD, List.getElem?_drop]
      rw [e, ← this, Nat.add_assoc]
namespace Na
theorem zeros_cut {A : Int} (hA : 0 < A) {t : Nat} (hz : zerosN A = t) : A % 18446744073709551616 ^ (t / 64) = 0 ∧ 18446744073709551616 ^ (t / 64) ≤ A := by
  obtain ⟨k, m, hk⟩ := odd_part A.toNat (by omega)
  have e : A = 2 ^ k * (2 * (m : Int) + 1) := by
    have : A = ((2 ^ (k + 1) * m + 2 ^ k : Nat) : Int) := by omega
    rw [this, Int.natCast_add, Int.natCast_mul, p2cast, p2cast, Int.pow_succ]
    grind
  have hz2 : zerosN A = k := zerosN_eq e (by omega) (by omega)
  have hkt : k = t := by rw [hz] at hz2; omega
  subst hkt
  have s : (2 : Int) ^ k = 2 ^ (64 * (k / 64)) * 2 ^ (k - 64 * (k / 64)) := by rw [← Int.pow_add]; congr 1; omega
  have p := p2pos (k - 64 * (k / 64))
  have q := p2pos (64 * (k / 64))
  rw [wpow2]
  refine ⟨?_, ?_⟩
  · rw [e, s, Int.mul_assoc]; exact Int.mul_emod_right _ _
  · have h1 : (2 : Int) ^ (64 * (k / 64)) * 1 ≤ 2 ^ (64 * (k / 64)) * (2 ^ (k - 64 * (k / 64)) * (2 * (m : Int) + 1)) := by
      refine Int.mul_le_mul_of_nonneg_left ?_ (Int.le_of_lt q)
      have : (1 : Int) * 1 ≤ 2 ^ (k - 64 * (k / 64)) * (2 * (m : Int) + 1) := Int.mul_le_mul (by omega) (by omega) (by omega) (by omega)
      omega
    rw [← Int.mul_assoc, ← s, ← e] at h1
    omega
theorem low_form {xs : List Int} (h : Ws xs) {o : Nat} (hz : num xs % 18446744073709551616 ^ o = 0) (hp : 18446744073709551616 ^ o ≤ num xs) : o < xs.length ∧ num xs = 18446744073709551616 ^ o * num (xs.drop o) := by
  have hb := num_bd h
  have ho : o < xs.length := by
    by_cases g : o < xs.length
    · exact g
    · exfalso
      have : (18446744073709551616 : Int) ^ xs.length ≤ 18446744073709551616 ^ o := by
        rw [wpow2, wpow2]; exact p2mono (by omega)
      omega
  refine ⟨ho, ?_⟩
  have s : num xs = num (xs.take o) + 18446744073709551616 ^ o * num (xs.drop o) := val_splitB 18446744073709551616 xs (Nat.le_of_lt ho)
  have v0 := num_nonneg (h.take o)
  have v1 := num_bd (h.take o)
  rw [List.length_take, Nat.min_eq_left (Nat.le_of_lt ho)] at v1
  have e : num xs % 18446744073709551616 ^ o = num (xs.take o) := by
    rw [s, Int.add_mul_emod_self_left, Int.emod_eq_of_lt v0 v1]
  rw [e] at hz
  rw [hz, Int.zero_add] at s
  exact s
theorem mulJ_low (low : Nat) (ps qs : List Int) : MulJ (List.replicate low 0 ++ ps) qs (low + 0) (List.replicate (low + ps.length + qs.length) 0) := by
  refine ⟨Dg_zeros (by omega) _, by simp, ?_⟩
  have e : (List.replicate low (0 : Int) ++ ps).take (low + 0) = List.replicate low 0 := by simp
  rw [e]
  unfold num
  rw [val_zeros, val_zeros]; simp
theorem getD_low (low : Nat) (ps : List Int) (k : Nat) : (List.replicate low (0 : Int) ++ ps).getD (low + k) 0 = ps.getD k 0 := by
  rw [List.getD_eq_getElem?_getD, List.getD_eq_getElem?_getD, List.getElem?_append_right (by simp)]
  simp
theorem num_low (low : Nat) (ps : List Int) : num (List.replicate low (0 : Int) ++ ps) = 18446744073709551616 ^ low * num ps := by
  unfold num
  rw [val_append, val_zeros]; simp
end Na

set_option maxHeartbeats 3200000 in
set_option maxRecDepth 100000 in
theorem natMul_any {a b : Option Addr} {n m c1 c2 : Nat} {xs ys : List Int} {w : World} (hr1 : RowC w a n c1 xs) (hr2 : RowC w b m c2 ys) (hx : Ws xs) (hy : Ws ys) (hn : n ≤ 4000000) (hm : m ≤ 4000000) :
    Calls Tryz.prog 31 #[.slice a n c1, .slice b m c2] w fun e w' => ∃ v, e = .returned (.tuple #[v, .int .i64 (resE (num xs * num ys))]) ∧ Own .u64 w' w.heap.size 22 v (resL (num xs * num ys)) ∧ Below w.heap.size w w' := by
  obtain ⟨i_u64, hi_u64, hz0_u64, hz1_u64, hz2_u64⟩ := info_parts info_u64
  have p1 := num_nonneg hx
  have p2 := num_nonneg hy
  have v1 := num_words p1
  have v2 := num_words p2
  have d1 := Dg_words (num xs)
  have d2 := Dg_words (num ys)
  have z1 := words_nil p1
  have z2 := words_nil p2
  have hh := fun h1 h2 h3 => mul_huge64 (A := num xs) (B := num ys) h1 h2 h3
  go_enter Tryz.func31, Tryz.ntmps31
  go_wp2_with fail
  refine (trim_any hr1 hx hn).mono ?_
  rintro e w' ⟨rfl, r1, _, l1, rfl⟩
  go_wp2_with fail
  refine (trim_any hr2 hy hm).mono ?_
  rintro e w' ⟨rfl, r2, _, l2, rfl⟩
  clear hr1 hr2
  obtain ⟨A, hA⟩ : ∃ A, A = num xs := ⟨_, rfl⟩
  obtain ⟨B, hB⟩ : ∃ B, B = num ys := ⟨_, rfl⟩
  have HA : Hid (num xs = A) := hA.symm
  have HB : Hid (num ys = B) := hB.symm
  rw [← hA] at v1 d1 z1 hh r1 p1 l1 ⊢
  rw [← hB] at v2 d2 z2 hh r2 p2 l2 ⊢
  clear hA hB
  generalize words A = ps at *
  generalize words B = qs at *
  have b1 := bits_le (N := A) (k := ps.length) p1 (by rw [← v1]; exact num_bd d1)
  have b2 := bits_le (N := B) (k := qs.length) p2 (by rw [← v2]; exact num_bd d2)
  have hbx := bits0_any r1 d1 (by omega)
  have hby := bits0_any r2 d2 (by omega)
  rw [v1] at hbx
  rw [v2] at hby
  have hzx := zeros0_any r1 d1 (by omega)
  have hzy := zeros0_any r2 d2 (by omega)
  rw [v1] at hzx
  rw [v2] at hzy
  have V1 : Hid (num ps = A) := v1
  have V2 : Hid (num qs = B) := v2
  obtain ⟨n1, hn1⟩ : ∃ n1, n1 = ps.length := ⟨_, rfl⟩
  obtain ⟨m1, hm1⟩ : ∃ m1, m1 = qs.length := ⟨_, rfl⟩
  rw [← hn1] at r1 z1 b1 hbx hzx l1 ⊢
  rw [← hm1] at r2 z2 b2 hby hzy l2 ⊢
  have HN : Hid (n1 = ps.length) := hn1
  have HM : Hid (m1 = qs.length) := hm1
  have nb1 := bits_nonneg A
  have nb2 := bits_nonneg B
  clear hn1 hm1 v1 v2
  by_cases hz : n1 = 0 ∨ m1 = 0
  · have hzero : A * B = 0 := by
      rcases hz with h | h
      · rw [z1.mp h]; simp
      · rw [z2.mp h]; simp
    have E := res_zero hzero
    have E1 : Hid (resL (num xs * num ys) = []) := by show _ = _; rw [HA.out, HB.out]; exact E.1
    have E2 : Hid (resE (num xs * num ys) = 0) := by show _ = _; rw [HA.out, HB.out]; exact E.2
    clear E hzero z1 z2 hh r1 r2 hbx hby hzx hzy
    by_cases h0 : n1 = 0
    · have t1 : ((n1 : Int) == 0) = true := by simp [h0]
      clear h0 hz
      go_wp2
      go_ret2
      exact ⟨_, by rw [E2.out]; rfl, by rw [E1.out]; exact own_nil _ _ _ _, Below.refl _ _⟩
    · have t1 : ((n1 : Int) == 0) = false := by simp; omega
      have t2 : ((m1 : Int) == 0) = true := by simp; omega
      clear h0 hz
      go_wp2
      go_ret2
      exact ⟨_, by rw [E2.out]; rfl, by rw [E1.out]; exact own_nil _ _ _ _, Below.refl _ _⟩
  · have t1 : ((n1 : Int) == 0) = false := by simp; omega
    have t2 : ((m1 : Int) == 0) = false := by simp; omega
    have pA : 0 < A := by
      have : A ≠ 0 := fun h => hz (Or.inl (z1.mpr h))
      omega
    have pB : 0 < B := by
      have : B ≠ 0 := fun h => hz (Or.inr (z2.mpr h))
      omega
    have hh' := hh pA pB
    generalize bitsN A = bA at *
    generalize bitsN B = bB at *
    obtain ⟨s1, hs1⟩ : ∃ s1 : Nat, zerosN A = (s1 : Int) := ⟨_, rfl⟩
    obtain ⟨s2, hs2⟩ : ∃ s2 : Nat, zerosN B = (s2 : Int) := ⟨_, rfl⟩
    obtain ⟨f1, f2⟩ := low_form d1 (o := s1 / 64) (by rw [V1.out]; exact (zeros_cut pA hs1).1) (by rw [V1.out]; exact (zeros_cut pA hs1).2)
    obtain ⟨g1, g2⟩ := low_form d2 (o := s2 / 64) (by rw [V2.out]; exact (zeros_cut pB hs2).1) (by rw [V2.out]; exact (zeros_cut pB hs2).2)
    rw [V1.out] at f2
    rw [V2.out] at g2
    rw [hs1] at hzx
    rw [hs2] at hzy
    rw [← HN.out] at f1
    rw [← HM.out] at g1
    have F2 : Hid (A = 18446744073709551616 ^ (s1 / 64) * num (ps.drop (s1 / 64))) := f2
    have G2 : Hid (B = 18446744073709551616 ^ (s2 / 64) * num (qs.drop (s2 / 64))) := g2
    clear z1 z2 pA pB p1 p2 hh hs1 hs2 f2 g2
    by_cases hbig : 262144 < bA + bB - 1
    · have E := res_huge (hh' hbig)
      have E1 : Hid (resL (num xs * num ys) = []) := by show _ = _; rw [HA.out, HB.out]; exact E.1
      have E2 : Hid (resE (num xs * num ys) = 21) := by show _ = _; rw [HA.out, HB.out]; exact E.2
      clear E hh' r1 r2 hz hzx hzy f1 g1
      go_wp2_with fail
      refine hbx.mono ?_
      rintro e w' ⟨rfl, rfl⟩
      go_wp2_with fail
      refine hby.mono ?_
      rintro e w' ⟨rfl, rfl⟩
      clear hbx hby
      go_wp2
      go_ret2
      exact ⟨_, by rw [E2.out]; rfl, by rw [E1.out]; exact own_nil _ _ _ _, Below.refl _ _⟩
    · clear hh'
      have hnn : 0 < n1 := by omega
      have hmm : 0 < m1 := by omega
      clear hz
      go_wp2_with fail
      refine hbx.mono ?_
      rintro e w' ⟨rfl, rfl⟩
      go_wp2_with fail
      refine hby.mono ?_
      rintro e w' ⟨rfl, rfl⟩
      clear hbx hby
      go_wp2_with fail
      refine hzx.mono ?_
      rintro e w' ⟨rfl, rfl⟩
      go_wp2_with fail
      refine hzy.mono ?_
      rintro e w' ⟨rfl, rfl⟩
      clear hzx hzy
      obtain ⟨x1, o1, rfl, hx1, _⟩ := r1.1.at hnn
      obtain ⟨x2, o2, rfl, hx2, _⟩ := r2.1.at hmm
      have r1d := r1.drop f1
      have r2d := r2.drop g1
      have hq1 : ((s1 : Int) / 64).toNat = s1 / 64 := by omega
      have hq2 : ((s2 : Int) / 64).toNat = s2 / 64 := by omega
      have j1 : (s1 : Int) / 64 ≤ (n1 : Int) := by omega
      have j2 : (s2 : Int) / 64 ≤ (m1 : Int) := by omega
      have j3 : ¬ (c1 = s1 / 64) := by have := r1.2.1; omega
      have j4 : ¬ (c2 = s2 / 64) := by have := r2.2.1; omega
      clear r1 r2 hx1 hx2
      go_upto_region 7 with fail
      go_quiet (fail)
      obtain ⟨wd, hwd⟩ : ∃ wd, wd = w.drewN nq := ⟨_, rfl⟩
      have hBd : Below w.heap.size w wd := by rw [hwd]; exact below_drewN (Below.refl _ _) _
      have r1e := r1d.later hBd
      have r2e := r2d.later hBd
      rw [← hwd]
      have HAB : Hid (num xs * num ys = 18446744073709551616 ^ (s1 / 64 + s2 / 64) * num (ps.drop (s1 / 64)) * num (qs.drop (s2 / 64))) := by
        show _ = _
        rw [HA.out, HB.out, F2.out, G2.out, Int.pow_add]
        generalize (18446744073709551616 : Int) ^ (s1 / 64) = P
        generalize (18446744073709551616 : Int) ^ (s2 / 64) = Q
        generalize num (List.drop (s1 / 64) ps) = V
        generalize num (List.drop (s2 / 64) qs) = Z
        grind
      have dp := d1.drop (s1 / 64)
      have dq := d2.drop (s2 / 64)
      obtain ⟨low, hlow⟩ : ∃ low, low = s1 / 64 + s2 / 64 := ⟨_, rfl⟩
      obtain ⟨n2, hn2⟩ : ∃ n2, n2 = n1 - s1 / 64 := ⟨_, rfl⟩
      obtain ⟨m2, hm2⟩ : ∃ m2, m2 = m1 - s2 / 64 := ⟨_, rfl⟩
      obtain ⟨d1', hd1'⟩ : ∃ d1', d1' = c1 - s1 / 64 := ⟨_, rfl⟩
      obtain ⟨d2', hd2'⟩ : ∃ d2', d2' = c2 - s2 / 64 := ⟨_, rfl⟩
      obtain ⟨q1, hq1'⟩ : ∃ q1, q1 = o1 + s1 / 64 := ⟨_, rfl⟩
      obtain ⟨q2, hq2'⟩ : ∃ q2, q2 = o2 + s2 / 64 := ⟨_, rfl⟩
      have lp : (ps.drop (s1 / 64)).length = n2 := by rw [List.length_drop, ← HN.out, hn2]
      have lq : (qs.drop (s2 / 64)).length = m2 := by rw [List.length_drop, ← HM.out, hm2]
      rw [← hlow] at HAB
      rw [← hn2, ← hd1', ← hq1'] at r1e
      rw [← hm2, ← hd2', ← hq2'] at r2e
      rw [← hn2, ← hm2, ← hd1', ← hd2', ← hq1', ← hq2']
      obtain ⟨e1, he1⟩ : ∃ e1, e1 = (s1 : Int) / 64 := ⟨_, rfl⟩
      obtain ⟨e2, he2⟩ : ∃ e2, e2 = (s2 : Int) / 64 := ⟨_, rfl⟩
      rw [← he1, ← he2]
      have ee : e1 + e2 = (low : Int) := by omega
      have e1p : 0 ≤ e1 := by omega
      have e2p : 0 ≤ e2 := by omega
      have lo8 : low ≤ 8000000 := by omega
      have lo9 : low + n2 + m2 ≤ 8000000 := by omega
      have n2p : 0 < n2 := by omega
      have m2p : 0 < m2 := by omega
      have n29 : n2 ≤ 4000000 := by omega
      have m29 : m2 ≤ 4000000 := by omega
      have d19 := r1e.2.1
      have d29 := r2e.2.1
      clear hwd r1d r2d hlow hn2 hm2 hd1' hd2' hq1' hq2' he1 he2 hq1 hq2 j1 j2 j3 j4 f1 g1 F2 G2 d1 d2 HA HB V1 V2 HN HM hnn hmm b1 b2 nb1 nb2 l1 l2 hn hm hbig t1 t2
      generalize List.drop (s1 / 64) ps = pd at *
      generalize List.drop (s2 / 64) qs = qd at *
      obtain ⟨L, hL⟩ : ∃ L, L = low + n2 + m2 := ⟨_, rfl⟩
      have eL : (low : Int) + (n2 : Int) + (m2 : Int) = (L : Int) := by omega
      have eL1 : IntKind.i64.wrap ((low : Int) + (n2 : Int)) = (low : Int) + (n2 : Int) := by rw [IntKind.wrap_i64]; omega
      have L9 : L ≤ 12000000 := by omega
      have HL : Hid (L = low + n2 + m2) := hL
      clear hL
      go_wp2_with (at_make; refine wpList_make_full _ rfl _ _ 30 rfl wd.heap.size 22 i_u64 (.int .u64 0) 1 Tryz.underlying30 hi_u64 hz0_u64 hz1_u64 .i64 .i64 _ _ L rfl rfl (by omega) (by omega) (by rw [hz2_u64]; omega) (by unfold maxLen; omega) (Nat.le_refl _) ?_)
      intro w3 hmade hgr
      have hown := own_zeros hmade
      have hb3 : Below wd.heap.size wd w3 := (Below.refl _ _).grown hgr (Nat.le_refl _) (fun k hk => by cases hk)
      have hst := mulJ_low low pd qd
      rw [lp, lq, ← HL.out] at hst
      obtain ⟨g, hg⟩ : ∃ g, g = wd.heap.size := ⟨_, rfl⟩
      have hown2 : Own .u64 w3 wd.heap.size 22 (.slice (some ⟨g, 0, none⟩) L L) (List.replicate L 0) := by rw [hg]; exact hown
      rw [← hg]
      have HP : Hid (pd.length = n2) := lp
      have HQ : Hid (qd.length = m2) := lq
      have dz : Ws (List.replicate low 0 ++ pd) := (Dg_zeros (by omega) _).append dp
      have lz : (List.replicate low (0 : Int) ++ pd).length = low + n2 := by simp [HP.out]
      have HZ : Hid ((List.replicate low (0 : Int) ++ pd).length = low + n2) := lz
      have gz := getD_low low pd
      have nz := num_low low pd
      generalize List.replicate low (0 : Int) ++ pd = pz at *
      have NZ : Hid (num pz = 18446744073709551616 ^ low * num pd) := nz
      clear hmade hgr hown hg lp lq lz nz
      go_wp2
      go_loopw [10, 11, 12, 57] (fun _ _ _ i wr => ∃ (k : Nat) (us : List Int), i = .int .i64 k ∧ k ≤ n2 ∧ Own .u64 wr wd.heap.size 22 (.slice (some ⟨g, 0, none⟩) L L) us ∧ MulJ pz qd (low + k) us ∧ Below wd.heap.size wd wr) (fun _ _ _ i _ => n2 - (intOf i).toNat)
      case atStart => exact ⟨0, _, rfl, by omega, hown2, hst, hb3⟩
      case round =>
        obtain ⟨k, us, rfl, hi, hou, hinv, hnx⟩ := hrel
        clear hown2 hst hb3
        have hlu : L = us.length := by rw [hinv.2.1, HZ.out, HQ.out, HL.out]
        by_cases hlt : k < n2
        · have hcx : wr.cell? ⟨x1, q1 + k, none⟩ = some (.int .u64 (pd.getD k 0)) := by
            obtain ⟨b', off', ea, hb', hc'⟩ := r1e.1.at n2p
            simp only [Option.some.injEq, Addr.mk.injEq] at ea
            obtain ⟨rfl, rfl, _⟩ := ea
            exact (hnx.cell (p := ⟨x1, q1 + k, none⟩) hb').trans (hc' k hlt)
          have gx : U (pd.getD k 0) := dp.getAnyB k
          obtain ⟨t, ht⟩ : ∃ t, t = low + k := ⟨_, rfl⟩
          rw [← ht] at hinv
          have ht0 : Hid (t = low + k) := ht
          have hstep := fun d vs ht hl => mulJ_step (d := d) (vs := vs) dz dq hinv (by rw [HZ.out, ht0.out]; omega) ht hl
          have gzk := gz k
          rw [← ht] at gzk
          rw [HQ.out, gzk] at hstep
          have hwu := hinv.1
          have hadd := addTimes_any (o := t) (dcap := L - t) (cap2 := d2') (x := pd.getD k 0) (w := wr) hou hlu hwu r2e.1 hnx dq gx (by have := HL.out; omega) (by omega)
          have HLU : Hid (L = us.length) := hlu
          generalize pd.getD k 0 = x at *
          obtain ⟨s, hs⟩ : ∃ s, s = t + m2 := ⟨_, rfl⟩
          have hL := HL.out
          have ht2 : (low : Int) + (k : Int) = (t : Int) := by omega
          have hw : IntKind.i64.wrap ((t : Int) + (m2 : Int)) = (s : Int) := by rw [IntKind.wrap_i64]; omega
          have k1 : (s : Int) ≤ (L : Int) := by omega
          have k2 : t ≤ s := by omega
          have k3 : ¬ (L = t) := by omega
          have k4 : s - t = m2 := by omega
          have k5 : s < L := by omega
          have k6 : (s : Int) < (L : Int) := by omega
          have k7 : (k : Int) < (n2 : Int) := by omega
          have t9 : t ≤ 12000000 := by omega
          rw [← hs] at hstep
          have hks : t + 1 = low + (k + 1) := by omega
          have HKS : Hid (t + 1 = low + (k + 1)) := hks
          clear hinv r1e r2e hou hnx hwu gx hlu gz gzk hs hL ht hks
          go_wp2_with fail
          refine hadd.mono ?_
          rintro e w' ⟨d, vs, rfl, hov, hti, hbx⟩
          have hce := hov.cellAt (Eq.trans HLU.out hti.2.1.symm) (j := s) k5
          have hfz := hov.frozenAt (Eq.trans HLU.out hti.2.1.symm) s
          have hvl : L = vs.length := HLU.out.trans hti.2.1.symm
          have hO := hov.set hvl s d
          have hJ := hstep d vs hti (by rw [← hvl]; exact k5)
          rw [HKS.out] at hJ
          have hgb := hov.base_le
          clear hstep hadd hov hti hvl
          go_wp2
          go_roundw
          case rel => exact ⟨k + 1, _, by go_num, by omega, hO, hJ, hbx.setCell hgb _⟩
          case measure => simp [intOf]; omega
        · have hin : low + k = pz.length := by rw [HZ.out]; omega
          rw [hin] at hinv
          have hv := mulJ_done hinv
          rw [NZ.out] at hv
          have HV : Hid (num us = num xs * num ys) := by show _ = _; rw [HAB.out]; exact hv
          have hwu := hinv.1
          have HLU : Hid (L = us.length) := hlu
          clear hv hinv hin r1e r2e hlu gz
          go_wp2_with fail
          refine (answer_any hou HLU.out hwu (by omega)).mono ?_
          rintro e w6 ⟨v, rfl, ho6, rfl⟩
          rw [HV.out]
          rw [HV.out] at ho6
          clear hou
          go_wp2
          go_ret2
          exact ⟨_, rfl, ho6.wider hBd.size, hBd.trans (hnx.mono hBd.size)⟩
end Go.Proofs.YtceecgklgkiffabGreatDoor

/- package nat: shiftUp, shiftDown. -/
namespace Go.Proofs.YtceecgklgkiffabGreatDoor
open Go.ChangeShapes Go.WideShapes Go.ChangeAt Go.RowKit
open Na Ar
set_option linter.unusedVariables false

namespace Na
/-- what leaves a word at its high end -/
def cup (r : Nat) (b : Int) : Int := b * 2 ^ r / 18446744073709551616
theorem cup_eq {r : Nat} (hr : r ≤ 63) (b : Int) : cup r b = b / 2 ^ (64 - r) := by
  unfold cup
  rw [← pow_split (show r ≤ 64 by omega)]
  exact Int.mul_ediv_mul_of_pos_left _ _ (p2pos r)
theorem cup_zero (r : Nat) : cup r 0 = 0 := by unfold cup; simp
theorem cup_nonneg {r : Nat} {b : Int} (h : 0 ≤ b) : 0 ≤ cup r b := by
  unfold cup
  exact Int.ediv_nonneg (Int.mul_nonneg h (Int.le_of_lt (p2pos r))) (by omega)
theorem up_word {w b : Int} {r : Nat} (hw : U w) (hb : U b) (hr : r ≤ 63) : w * 2 ^ r + cup r b = shHi w b r + 18446744073709551616 * cup r w := by
  have e : (w * 18446744073709551616 + b) * 2 ^ r / 18446744073709551616 = w * 2 ^ r + cup r b := by
    unfold cup
    have : (w * 18446744073709551616 + b) * 2 ^ r = b * 2 ^ r + 18446744073709551616 * (w * 2 ^ r) := by grind
    rw [this, Int.add_mul_ediv_left _ _ (by omega), Int.add_comm]
  unfold shHi
  rw [e, cup_eq hr, cup_eq hr]
  have s := pow_split (show r ≤ 64 by omega)
  have p := p2pos r
  have q := p2pos (64 - r)
  have d := Int.mul_ediv_add_emod w (2 ^ (64 - r))
  have m0 := Int.emod_nonneg w (show (2 : Int) ^ (64 - r) ≠ 0 by omega)
  have m1 := Int.emod_lt_of_pos w q
  have c0 : 0 ≤ b / 2 ^ (64 - r) := Int.ediv_nonneg hb.1 (by omega)
  have c1 : b / 2 ^ (64 - r) < 2 ^ r := by
    refine Int.ediv_lt_of_lt_mul q ?_
    rw [Int.mul_comm, s]; exact hb.2
  generalize b / 2 ^ (64 - r) = c at *
  generalize w / 2 ^ (64 - r) = h at *
  generalize w % 2 ^ (64 - r) = l at *
  generalize (2 : Int) ^ (64 - r) = Q at *
  generalize (2 : Int) ^ r = P at *
  have e1 : w * P + c = l * P + c + 18446744073709551616 * h := by rw [← d, ← s]; grind
  have b1 : l * P + c < 18446744073709551616 := by
    have : (l + 1) * P ≤ Q * P := Int.mul_le_mul_of_nonneg_right (by omega) (by omega)
    rw [s, Int.add_mul] at this
    omega
  have b0 : 0 ≤ l * P := Int.mul_nonneg m0 (by omega)
  rw [e1, Int.add_mul_emod_self_left, Int.emod_eq_of_lt (by omega) b1]
def UpI (ds : List Int) (o r k : Nat) (b : Int) (us : List Int) : Prop := Ws us ∧ us.length = ds.length ∧ U b ∧ us.drop (o + k) = ds.drop (o + k) ∧
  num us + 18446744073709551616 ^ (o + k) * cup r b = num ds + 18446744073709551616 ^ o * ((2 ^ r - 1) * num ((ds.drop o).take k))
theorem upI_start {ds : List Int} {o r : Nat} (h : Ws ds) : UpI ds o r 0 0 ds := ⟨h, rfl, U_zero, rfl, by rw [cup_zero]; simp [num, val]⟩
theorem upI_step {ds us : List Int} {o r k : Nat} {b : Int} (h : UpI ds o r k b us) (hr : r ≤ 63) (hk : o + k < us.length) :
    UpI ds o r (k + 1) (us.getD (o + k) 0) (us.set (o + k) (shHi (us.getD (o + k) 0) b r)) := by
  obtain ⟨h1, h2, h3, h4, h5⟩ := h
  have gu : U (us.getD (o + k) 0) := h1.get hk
  have ed : us.getD (o + k) 0 = ds.getD (o + k) 0 := getD_drop h4
  refine ⟨h1.set _ (U_shHi _ _ _), by rw [List.length_set]; exact h2, gu, ?_, ?_⟩
  · rw [List.drop_set_of_lt (by omega)]
    have := congrArg (List.drop 1) h4
    rw [List.drop_drop, List.drop_drop] at this
    exact this
  · have e : us.getD (o + k) 0 + (2 ^ r - 1) * us.getD (o + k) 0 + cup r b = shHi (us.getD (o + k) 0) b r + 18446744073709551616 * cup r (us.getD (o + k) 0) := by
      rw [← up_word gu h3 hr]; grind
    have p := put_word (j := o + k) (c := cup r b) (p := (2 ^ r - 1) * us.getD (o + k) 0) hk e
    rw [← Nat.add_assoc, p, h5]
    have t : num ((ds.drop o).take (k + 1)) = num ((ds.drop o).take k) + 18446744073709551616 ^ k * (ds.drop o).getD k 0 := take_valB (by rw [List.length_drop]; omega)
    have g : (ds.drop o).getD k 0 = ds.getD (o + k) 0 := by simp [List.getD_eq_getElem?_getD, List.getElem?_drop]
    rw [t, g, ← ed, Int.pow_add]
    generalize (18446744073709551616 : Int) ^ o = P
    generalize (18446744073709551616 : Int) ^ k = Q
    generalize num ((ds.drop o).take k) = V
    generalize us.getD (o + k) 0 = y
    generalize (2 : Int) ^ r - 1 = F
    grind
theorem dn_word {w a V : Int} {r : Nat} (hw : U w) (hr : r ≤ 63) (hm : a % 2 ^ r = V % 2 ^ r) : (w + 18446744073709551616 * V) / 2 ^ r = srLo a w r + 18446744073709551616 * (V / 2 ^ r) := by
  have e1 : (w + 18446744073709551616 * V) / 2 ^ r = V * 2 ^ (64 - r) + w / 2 ^ r := by
    have := shr_div (a := V) (b := w) (show r ≤ 64 by omega)
    rw [← this]; congr 1; omega
  unfold srLo
  rw [shr_div (show r ≤ 64 by omega), e1]
  have s := pow_split (show r ≤ 64 by omega)
  have p := p2pos r
  have q := p2pos (64 - r)
  have da := Int.mul_ediv_add_emod a (2 ^ r)
  have dv := Int.mul_ediv_add_emod V (2 ^ r)
  have m0 := Int.emod_nonneg V (show (2 : Int) ^ r ≠ 0 by omega)
  have m1 := Int.emod_lt_of_pos V p
  obtain ⟨c0, c1⟩ := div_lt_pow' hw (show r ≤ 64 by omega)
  rw [hm] at da
  generalize a / 2 ^ r = a' at *
  generalize V / 2 ^ r = v' at *
  generalize V % 2 ^ r = m at *
  generalize w / 2 ^ r = l at *
  generalize (2 : Int) ^ (64 - r) = Q at *
  generalize (2 : Int) ^ r = P at *
  have f1 : a * Q + l = m * Q + l + 18446744073709551616 * a' := by rw [← da, ← s]; grind
  have f2 : V * Q + l = m * Q + l + 18446744073709551616 * v' := by rw [← dv, ← s]; grind
  have b1 : m * Q + l < 18446744073709551616 := by
    have : (m + 1) * Q ≤ P * Q := Int.mul_le_mul_of_nonneg_right (by omega) (by omega)
    rw [Int.mul_comm P, s, Int.add_mul] at this
    omega
  have b0 : 0 ≤ m * Q := Int.mul_nonneg m0 (by omega)
  rw [f1, f2, Int.add_mul_emod_self_left, Int.emod_eq_of_lt (by omega) b1]
def DnI (ds : List Int) (r k : Nat) (a : Int) (us : List Int) : Prop := Ws us ∧ us.length = ds.length ∧ U a ∧ us.take k = ds.take k ∧ num (us.drop k) = num (ds.drop k) / 2 ^ r ∧ a % 2 ^ r = num (ds.drop k) % 2 ^ r
theorem dnI_start {ds : List Int} {r : Nat} (h : Ws ds) : DnI ds r ds.length 0 ds := by
  have e : num (ds.drop ds.length) = 0 := by rw [List.drop_of_length_le (Nat.le_refl _)]; rfl
  refine ⟨h, rfl, U_zero, rfl, ?_, ?_⟩
  · rw [e]; simp
  · rw [e]
theorem getD_take {xs ys : List Int} {k : Nat} (h : xs.take (k + 1) = ys.take (k + 1)) : xs.getD k 0 = ys.getD k 0 := by
  have := congrArg (fun l => l.getD k 0) h
  simpa [List.getD_eq_getElem?_getD, List.getElem?_take_of_lt (Nat.lt_succ_self k)] using this
theorem dnI_step {ds us : List Int} {r k : Nat} {a : Int} (h : DnI ds r (k + 1) a us) (hd : Ws ds) (hr : r ≤ 63) (hk : k < us.length) :
    DnI ds r k (us.getD k 0) (us.set k (srLo a (us.getD k 0) r)) := by
  obtain ⟨h1, h2, h3, h4, h5, h6⟩ := h
  have gu : U (us.getD k 0) := h1.get hk
  have ed : us.getD k 0 = ds.getD k 0 := getD_take h4
  have n0 := num_nonneg (hd.drop (k + 1))
  have vd : num (ds.drop k) = ds.getD k 0 + 18446744073709551616 * num (ds.drop (k + 1)) := val_drop (by omega)
  refine ⟨h1.set _ (U_srLo _ _ _), by rw [List.length_set]; exact h2, gu, ?_, ?_, ?_⟩
  · rw [List.take_set_of_le (Nat.le_refl _)]
    have := congrArg (List.take k) h4
    rw [List.take_take, List.take_take, Nat.min_eq_left (by omega)] at this
    exact this
  · have vu : num ((us.set k (srLo a (us.getD k 0) r)).drop k) = srLo a (us.getD k 0) r + 18446744073709551616 * num (us.drop (k + 1)) := by
      have := val_drop (B := 18446744073709551616) (xs := us.set k (srLo a (us.getD k 0) r)) (i := k) (by rw [List.length_set]; exact hk)
      rw [List.drop_set_of_lt (Nat.lt_succ_self k)] at this
      have e : (us.set k (srLo a (us.getD k 0) r)).getD k 0 = srLo a (us.getD k 0) r := by simp [List.getD_eq_getElem?_getD, hk]
      rw [e] at this
      exact this
    rw [vu, vd, h5, ← ed, dn_word gu hr h6]
  · rw [vd, ← ed]
    have s := pow_split (show r ≤ 64 by omega)
    have : (18446744073709551616 : Int) * num (ds.drop (k + 1)) = 2 ^ r * (2 ^ (64 - r) * num (ds.drop (k + 1))) := by rw [← s]; grind
    rw [this, Int.add_mul_emod_self_left]
theorem dnI_done {ds us : List Int} {r : Nat} {a : Int} (h : DnI ds r 0 a us) : num us = num ds / 2 ^ r := by
  have := h.2.2.2.2.1
  simpa using this
end Na

set_option maxHeartbeats 1600000 in
set_option maxRecDepth 100000 in
theorem shiftUp_in {g cap N o m dcap r base : Nat} {ds : List Int} {w : World} (hown : Own .u64 w base 22 (.slice (some ⟨g, 0, none⟩) N cap) ds) (hN : N = ds.length) (hd : Ws ds)
    (ho : o + m ≤ N) (hN' : N ≤ 12000000) (hr : r ≤ 63) :
    Calls Tryz.prog 127 #[.slice (some ⟨g, o, none⟩) m dcap, .int .i64 (r : Int)] w fun e w' => e = .returned (.tuple #[]) ∧ ∃ b us, Own .u64 w' base 22 (.slice (some ⟨g, 0, none⟩) N cap) us ∧ UpI ds o r m b us ∧ In g (g + 1) w w' := by
  have HN : Hid (N = ds.length) := hN
  have hst := upI_start (o := o) (r := r) hd
  have hcl : Hid (clampN (r : Int) = r) := clampN_of r (by omega)
  have hii := In.refl g (g + 1) w
  clear hN
  go_enter Tryz.func127, Tryz.ntmps127
  go_wp2
  go_loopw [4, 5, 6, 9] (fun c _ _ k wr => ∃ (j : Nat) (b : Int) (us : List Int), k = .int .i64 j ∧ c = .int .u64 b ∧ j ≤ m ∧ Own .u64 wr base 22 (.slice (some ⟨g, 0, none⟩) N cap) us ∧ UpI ds o r j b us ∧ In g (g + 1) w wr) (fun _ _ _ k _ => m - (intOf k).toNat)
  case atStart => exact ⟨0, 0, ds, rfl, rfl, by omega, hown, hst, hii⟩
  case round =>
    obtain ⟨j, b, us, rfl, rfl, hj, hou, hinv, hnx⟩ := hrel
    clear hown hst hii
    by_cases hlt : j < m
    · have hlu : N = us.length := by rw [hinv.2.1]; exact HN.out
      have gu : U (us.getD (o + j) 0) := hinv.1.getAnyB (o + j)
      have gb := hinv.2.2.1
      have hstep := upI_step hinv hr (by omega)
      have hce := hou.cellAt hlu (j := o + j) (by omega)
      have hsh := fun w => shl_any gu gb (r : Int) w
      rw [hcl.out] at hsh
      have HLU : Hid (N = us.length) := hlu
      have hO := fun (w1 : World) (hh : Below wr.heap.size wr w1) => (hou.later hh).set HLU.out (o + j) (shHi (us.getD (o + j) 0) b r)
      have hfz := fun (w1 : World) (hh : Below wr.heap.size wr w1) => (hou.later hh).frozenAt HLU.out (o + j)
      have hcz := fun (w1 : World) (hh : Below wr.heap.size wr w1) => (hou.later hh).cellAt HLU.out (j := o + j) (by omega)
      generalize us.getD (o + j) 0 = u at *
      have hjN : o + j < N := by omega
      clear hinv hou hlu
      go_wp2_with fail
      refine (hsh _).mono ?_
      rintro e w1 ⟨rfl, hg1⟩
      have hO1 := hO w1 hg1.2
      have hfz1 := hfz w1 hg1.2
      have hcz1 := hcz w1 hg1.2
      have hnx1 := hnx.later hg1.2
      clear hO hfz hcz hce hnx hg1 hsh
      go_wp2
      go_roundw
      case rel => exact ⟨j + 1, _, _, by go_num, rfl, by omega, hO1, hstep, hnx1.set1 _ _⟩
      case measure => simp [intOf]; omega
    · have hj2 : j = m := by omega
      subst hj2
      go_wp2
      go_end0
      exact ⟨rfl, b, us, hou, hinv, hnx⟩

set_option maxHeartbeats 1600000 in
set_option maxRecDepth 100000 in
theorem shiftDown_in {g cap N r base : Nat} {ds : List Int} {w : World} (hown : Own .u64 w base 22 (.slice (some ⟨g, 0, none⟩) N cap) ds) (hN : N = ds.length) (hd : Ws ds)
    (hN' : N ≤ 12000000) (hr : r ≤ 63) :
    Calls Tryz.prog 157 #[.slice (some ⟨g, 0, none⟩) N cap, .int .i64 (r : Int)] w fun e w' => e = .returned (.tuple #[]) ∧ ∃ us, Own .u64 w' base 22 (.slice (some ⟨g, 0, none⟩) N cap) us ∧ us.length = N ∧ Ws us ∧ num us = num ds / 2 ^ r ∧ In g (g + 1) w w' := by
  have hst := dnI_start (r := r) hd
  rw [← hN] at hst
  have HN : Hid (N = ds.length) := hN
  have hcl : Hid (clampN (r : Int) = r) := clampN_of r (by omega)
  have hii := In.refl g (g + 1) w
  clear hN
  go_enter Tryz.func157, Tryz.ntmps157
  go_wp2
  go_loopw [4, 5, 6] (fun c i _ wr => ∃ (k : Nat) (I b : Int) (us : List Int), i = .int .i64 I ∧ I = (k : Int) - 1 ∧ c = .int .u64 b ∧ k ≤ N ∧ Own .u64 wr base 22 (.slice (some ⟨g, 0, none⟩) N cap) us ∧ DnI ds r k b us ∧ In g (g + 1) w wr) (fun _ i _ _ => (intOf i + 1).toNat)
  case atStart => exact ⟨N, _, 0, ds, rfl, rfl, rfl, Nat.le_refl _, hown, hst, hii⟩
  case round =>
    obtain ⟨k, I, b, us, rfl, hI, rfl, hk, hou, hinv, hnx⟩ := hrel
    clear hown hst hii
    have hlu : N = us.length := by rw [hinv.2.1]; exact HN.out
    cases k with
    | zero =>
      have hI' : I < 0 := by omega
      have HV : Hid (num us = num ds / 2 ^ r) := dnI_done hinv
      have hwu := hinv.1
      have HL : Hid (us.length = N) := hlu.symm
      clear hI hinv hlu
      go_wp2
      go_end0
      exact ⟨rfl, us, hou, HL.out, hwu, HV.out, hnx⟩
    | succ j =>
      have hI' : I = (j : Int) := by omega
      clear hI
      subst hI'
      have gu : U (us.getD j 0) := hinv.1.getAnyB j
      have gb := hinv.2.2.1
      have hstep := dnI_step hinv hd hr (by omega)
      have hce := hou.cellAt hlu (j := j) (by omega)
      have hsh := fun w => shr_any gb gu (r : Int) w
      rw [hcl.out] at hsh
      have HLU : Hid (N = us.length) := hlu
      have hO := fun (w1 : World) (hh : Below wr.heap.size wr w1) => (hou.later hh).set HLU.out j (srLo b (us.getD j 0) r)
      have hfz := fun (w1 : World) (hh : Below wr.heap.size wr w1) => (hou.later hh).frozenAt HLU.out j
      have hcz := fun (w1 : World) (hh : Below wr.heap.size wr w1) => (hou.later hh).cellAt HLU.out (j := j) (by omega)
      generalize us.getD j 0 = u at *
      have hjN : j < N := by omega
      clear hinv hou hlu
      go_wp2_with fail
      refine (hsh _).mono ?_
      rintro e w1 ⟨rfl, hg1⟩
      have hO1 := hO w1 hg1.2
      have hfz1 := hfz w1 hg1.2
      have hcz1 := hcz w1 hg1.2
      have hnx1 := hnx.later hg1.2
      clear hO hfz hcz hce hnx hg1 hsh
      go_wp2
      go_roundw
      case rel => exact ⟨j, _, _, _, rfl, rfl, rfl, by omega, hO1, hstep, hnx1.set1 _ _⟩
      case measure => simp [intOf]

/-- in a list that the call has made -/
theorem shiftUp_any {g cap N o m dcap r : Nat} {ds : List Int} {w0 w : World} (hown : Own .u64 w w0.heap.size 22 (.slice (some ⟨g, 0, none⟩) N cap) ds) (hN : N = ds.length) (hd : Ws ds)
    (hb : Below w0.heap.size w0 w) (ho : o + m ≤ N) (hN' : N ≤ 12000000) (hr : r ≤ 63) :
    Calls Tryz.prog 127 #[.slice (some ⟨g, o, none⟩) m dcap, .int .i64 (r : Int)] w fun e w' => e = .returned (.tuple #[]) ∧ ∃ b us, Own .u64 w' w0.heap.size 22 (.slice (some ⟨g, 0, none⟩) N cap) us ∧ UpI ds o r m b us ∧ Below w0.heap.size w0 w' := by
  have hg := hown.base_le
  refine (shiftUp_in hown hN hd ho hN' hr).mono ?_
  rintro e w' ⟨rfl, b, us, h1, h2, h3⟩
  exact ⟨rfl, b, us, h1, h2, below_inn hb h3 hg (Nat.le_refl _)⟩
theorem shiftDown_any {g cap N r : Nat} {ds : List Int} {w0 w : World} (hown : Own .u64 w w0.heap.size 22 (.slice (some ⟨g, 0, none⟩) N cap) ds) (hN : N = ds.length) (hd : Ws ds)
    (hb : Below w0.heap.size w0 w) (hN' : N ≤ 12000000) (hr : r ≤ 63) :
    Calls Tryz.prog 157 #[.slice (some ⟨g, 0, none⟩) N cap, .int .i64 (r : Int)] w fun e w' => e = .returned (.tuple #[]) ∧ ∃ us, Own .u64 w' w0.heap.size 22 (.slice (some ⟨g, 0, none⟩) N cap) us ∧ us.length = N ∧ Ws us ∧ num us = num ds / 2 ^ r ∧ Below w0.heap.size w0 w' := by
  have hg := hown.base_le
  refine (shiftDown_in hown hN hd hN' hr).mono ?_
  rintro e w' ⟨rfl, us, h1, h2, h3, h4, h5⟩
  exact ⟨rfl, us, h1, h2, h3, h4, below_inn hb h5 hg (Nat.le_refl _)⟩
end Go.Proofs.YtceecgklgkiffabGreatDoor

/- package nat: Shl, Shr. -/
namespace Go.Proofs.YtceecgklgkiffabGreatDoor
open Go.ChangeShapes Go.WideShapes Go.ChangeAt Go.RowKit
open Na Ar
set_option linter.unusedVariables false

namespace Na
theorem shl_bits {A : Int} {b t : Nat} (h1 : 2 ^ b ≤ A) (h2 : A < 2 ^ (b + 1)) : (2 : Int) ^ (b + t) ≤ A * 2 ^ t ∧ A * 2 ^ t < 2 ^ (b + t + 1) := by
  have p := p2pos t
  constructor
  · rw [Int.pow_add]; exact Int.mul_le_mul_of_nonneg_right h1 (by omega)
  · have e : b + t + 1 = b + 1 + t := by omega
    rw [e, Int.pow_add]; exact Int.mul_lt_mul_of_pos_right h2 p
theorem res_fits {N : Int} (h : (words N).length ≤ 4096) : resL N = words N ∧ resE N = 0 := by
  unfold resL resE
  rw [if_pos h, if_pos h]
  exact ⟨rfl, rfl⟩
theorem over_drop {L o : Nat} {ps : List Int} (h : o + ps.length ≤ L) : (over (List.replicate L (0 : Int)) ps o).drop o = ps ++ List.replicate (L - (o + ps.length)) 0 := by
  unfold over
  rw [List.append_assoc, List.drop_append_of_le_length (by simp; omega), List.drop_of_length_le (by simp; omega)]
  simp
theorem over_num {L o : Nat} {ps : List Int} (h : o + ps.length ≤ L) : num (over (List.replicate L (0 : Int)) ps o) = 18446744073709551616 ^ o * num ps ∧ num ((over (List.replicate L (0 : Int)) ps o).drop o) = num ps := by
  have d := over_drop h
  have e : num (ps ++ List.replicate (L - (o + ps.length)) 0) = num ps := by
    unfold num; rw [val_append, val_zeros]; simp
  refine ⟨?_, by rw [d, e]⟩
  have s := val_splitB 18446744073709551616 (over (List.replicate L (0 : Int)) ps o) (i := o) (by rw [over_length (by simp; omega)]; simp; omega)
  have t : (over (List.replicate L (0 : Int)) ps o).take o = List.replicate o 0 := by
    unfold over
    rw [List.append_assoc, List.take_append_of_le_length (by simp; omega), List.take_take]
    simp; omega
  unfold num at *
  rw [s, t, val_zeros, d, e]; simp
theorem over_ws {L o : Nat} {ps : List Int} (hp : Ws ps) : Ws (over (List.replicate L (0 : Int)) ps o) := by
  unfold over
  exact (((Dg_zeros (by omega) _).take _).append hp).append ((Dg_zeros (by omega) _).drop _)
/-- behind the whole shift -/
theorem up_num {L o r t : Nat} {ps us : List Int} {b A : Int} (hA : num ps = A) (ho : o + ps.length ≤ L) (ht : t = 64 * o + r) (h : UpI (over (List.replicate L (0 : Int)) ps o) o r (L - o) b us)
    (lt : A * 2 ^ t < 18446744073709551616 ^ L) : num us = A * 2 ^ t ∧ Ws us ∧ us.length = L := by
  obtain ⟨h1, h2, h3, h4, h5⟩ := h
  have o1 := over_num ho
  have ol : (over (List.replicate L (0 : Int)) ps o).length = L := by rw [over_length (by simp; omega)]; simp
  rw [List.take_of_length_le (by rw [List.length_drop, ol]; omega), o1.1, o1.2, hA, Nat.add_sub_cancel' (by omega)] at h5
  have e : (2 : Int) ^ t = 18446744073709551616 ^ o * 2 ^ r := by rw [ht, wpow2, ← Int.pow_add]
  have e2 : 18446744073709551616 ^ o * A + 18446744073709551616 ^ o * ((2 ^ r - 1) * A) = A * 2 ^ t := by rw [e]; grind
  rw [e2] at h5
  have n0 := num_nonneg h1
  have c0 := cup_nonneg (r := r) h3.1
  have p := wpow_pos L
  have m0 : 0 ≤ (18446744073709551616 : Int) ^ L * cup r b := Int.mul_nonneg (by omega) c0
  have cz : cup r b = 0 := by
    by_cases g : cup r b = 0
    · exact g
    · have : (18446744073709551616 : Int) ^ L * 1 ≤ 18446744073709551616 ^ L * cup r b := Int.mul_le_mul_of_nonneg_left (by omega) (by omega)
      omega
  rw [cz, Int.mul_zero, Int.add_zero] at h5
  exact ⟨h5, h1, by rw [h2, ol]⟩
theorem up_room {A : Int} {l t : Nat} (h0 : 0 ≤ A) (h : A < 18446744073709551616 ^ l) : A * 2 ^ t < 18446744073709551616 ^ (t / 64 + l + 1) := by
  have p := p2pos t
  have q : (2 : Int) ^ t ≤ 18446744073709551616 ^ (t / 64 + 1) := by rw [wpow2]; exact p2mono (by omega)
  have a : A * 2 ^ t < 18446744073709551616 ^ l * 2 ^ t := Int.mul_lt_mul_of_pos_right h p
  have b : (18446744073709551616 : Int) ^ l * 2 ^ t ≤ 18446744073709551616 ^ l * 18446744073709551616 ^ (t / 64 + 1) := Int.mul_le_mul_of_nonneg_left q (Int.le_of_lt (wpow_pos l))
  rw [← Int.pow_add] at b
  have e : l + (t / 64 + 1) = t / 64 + l + 1 := by omega
  rw [e] at b
  omega
end Na

namespace Na
theorem num_drop {xs : List Int} (h : Ws xs) {o : Nat} (ho : o ≤ xs.length) : num (xs.drop o) = num xs / 18446744073709551616 ^ o := by
  have s := val_splitB 18446744073709551616 xs ho
  have v0 := val_nonneg (B := 18446744073709551616) (by omega) (h.take o)
  have v1 := val_lt (B := 18446744073709551616) (by omega) (h.take o)
  rw [List.length_take, Nat.min_eq_left ho] at v1
  have p := wpow_pos o
  unfold num
  rw [s, Int.add_mul_ediv_left _ _ (by omega), Int.ediv_eq_zero_of_lt v0 v1, Int.zero_add]
theorem div_shift (A : Int) (t : Nat) : A / 18446744073709551616 ^ (t / 64) / 2 ^ (t % 64) = A / 2 ^ t := by
  rw [wpow2, Int.ediv_ediv_of_nonneg (Int.le_of_lt (p2pos _)), ← Int.pow_add]
  congr 2; omega
theorem shr_bits {A : Int} {b t : Nat} (h1 : 2 ^ b ≤ A) (h2 : A < 2 ^ (b + 1)) (ht : t ≤ b) : (2 : Int) ^ (b - t) ≤ A / 2 ^ t ∧ A / 2 ^ t < 2 ^ (b - t + 1) := by
  have p := p2pos t
  constructor
  · rw [Int.le_ediv_iff_mul_le p, ← Int.pow_add, Nat.sub_add_cancel ht]; exact h1
  · refine Int.ediv_lt_of_lt_mul p ?_
    rw [← Int.pow_add]
    have : b - t + 1 + t = b + 1 := by omega
    rw [this]; exact h2
theorem zeros_lost {A : Int} (hA : 0 < A) (t : Nat) : decide (zerosN A < (t : Int)) = decide (A % 2 ^ t ≠ 0) := by
  obtain ⟨k, m, hk⟩ := odd_part A.toNat (by omega)
  have e : A = 2 ^ k * (2 * (m : Int) + 1) := by
    have : A = ((2 ^ (k + 1) * m + 2 ^ k : Nat) : Int) := by omega
    rw [this, Int.natCast_add, Int.natCast_mul, p2cast, p2cast, Int.pow_succ]
    grind
  have hz : zerosN A = k := zerosN_eq e (by omega) (by omega)
  rw [hz]
  by_cases g : k < t
  · rw [decide_eq_true (by omega), Eq.comm]
    refine decide_eq_true ?_
    intro h0
    have d := Int.dvd_of_emod_eq_zero h0
    have s : (2 : Int) ^ t = 2 ^ k * (2 * 2 ^ (t - k - 1)) := by
      have : t = k + (1 + (t - k - 1)) := by omega
      rw [this, Int.pow_add, Int.pow_add]
      simp
    rw [e, s] at d
    have d2 := Int.dvd_of_mul_dvd_mul_left (a := 2 ^ k) (by have := p2pos k; omega) d
    obtain ⟨z, hz2⟩ := d2
    rw [Int.mul_assoc] at hz2
    omega
  · rw [decide_eq_false (by omega), Eq.comm]
    refine decide_eq_false ?_
    intro h0
    apply h0
    have s : (2 : Int) ^ k = 2 ^ t * 2 ^ (k - t) := by rw [← Int.pow_add]; congr 1; omega
    rw [e, s, Int.mul_assoc]
    exact Int.mul_emod_right _ _
end Na


set_option maxHeartbeats 3200000 in
set_option maxRecDepth 100000 in
theorem up_any {a : Option Addr} {m c1 : Nat} {xs : List Int} {w : World} (hr1 : RowC w a m c1 xs) (hx : Ws xs) (hm : m ≤ 4000000) (t : Nat) (ht : t ≤ 400000000) :
    Calls Tryz.prog 97 #[.slice a m c1, .int .i64 (t : Int)] w fun e w' => ∃ v, e = .returned v ∧ Own .u64 w' w.heap.size 22 v (words (num xs * 2 ^ t)) ∧ Below w.heap.size w w' := by
  obtain ⟨i_u64, hi_u64, hz0_u64, hz1_u64, hz2_u64⟩ := info_parts info_u64
  have hsz : (Tryz.prog.info? 22).map (·.size) = some 1 := by rw [hi_u64]; simp [hz1_u64]
  have p1 := num_nonneg hx
  have hl := hr1.1.1
  have hwl := words_le hx
  have hnil := words_nil p1
  have hv := num_words p1
  have hd := Dg_words (num xs)
  have hbd := num_bd hd
  rw [hv] at hbd
  have hroom := up_room (t := t) p1 hbd
  have HZ : Hid (num xs = 0 → words (num xs * 2 ^ t) = []) := fun h => by rw [h, Int.zero_mul]; exact List.length_eq_zero_iff.mp ((words_nil (Int.le_refl _)).mpr rfl)
  go_enter Tryz.func97, Tryz.ntmps97
  go_wp2_with fail
  refine (trim_any hr1 hx hm).mono ?_
  rintro e w' ⟨rfl, r1, _, l1, rfl⟩
  obtain ⟨ps, hps⟩ : ∃ ps, ps = words (num xs) := ⟨_, rfl⟩
  rw [← hps] at r1 l1 hnil hv hd hroom ⊢
  obtain ⟨A, hA⟩ : ∃ A, A = num xs := ⟨_, rfl⟩
  rw [← hA] at hnil hv hroom HZ
  have HX : Hid (num xs = A) := hA.symm
  have HA : Hid (num ps = A) := hv
  obtain ⟨n, hn⟩ : ∃ n, n = ps.length := ⟨_, rfl⟩
  rw [← hn] at r1 l1 hnil hroom ⊢
  have HN : Hid (n = ps.length) := hn
  clear hr1 hps hA hv hn hbd hwl hl p1
  by_cases h0 : n = 0
  · have HE : Hid (words (A * 2 ^ t) = []) := HZ.out (hnil.mp h0)
    have t1 : ((n : Int) == 0) = true := by simp [h0]
    clear hnil HZ r1 hroom h0
    go_wp2
    go_ret
    exact ⟨_, rfl, by rw [HX.out, HE.out]; exact own_nil _ _ _ _, Below.refl _ _⟩
  · have t1 : ((n : Int) == 0) = false := by simp; omega
    obtain ⟨L, hL⟩ : ∃ L, L = t / 64 + n + 1 := ⟨_, rfl⟩
    rw [← hL] at hroom
    have hL1 : L ≤ 12000000 := by omega
    have hq : ((t : Int) / 64).toNat = t / 64 := by omega
    have hk4 : (t : Int) / 64 ≤ (L : Int) := by omega
    have cast2 : ((t % 64 : Nat) : Int) = (t : Int) % 64 := by omega
    have cast3 : (t : Int) / 64 + (n : Int) + 1 = (L : Int) := by omega
    have hLo : t / 64 + n ≤ L := by omega
    have hLm : t / 64 + (L - t / 64) ≤ L := by omega
    have hnL : n ≤ L - t / 64 := by omega
    have hlt : t / 64 < L := by omega
    clear hnil HZ h0 hL
    go_wp2_with (at_make; refine wpList_make_full _ rfl _ _ 30 rfl w.heap.size 22 i_u64 (.int .u64 0) 1 Tryz.underlying30 hi_u64 hz0_u64 hz1_u64 .i64 .i64 _ _ L rfl rfl (by omega) (by omega) (by rw [hz2_u64]; omega) (by unfold maxLen; omega) (Nat.le_refl _) ?_)
    intro w3 hmade hgr
    have hown := own_zeros hmade
    have hb3 : Below w.heap.size w w3 := (Below.refl _ _).grown hgr (Nat.le_refl _) (fun k hk => by cases hk)
    have hr3 := r1.1.later hb3
    obtain ⟨g, hg⟩ : ∃ g, g = w.heap.size := ⟨_, rfl⟩
    have hown2 : Own .u64 w3 w.heap.size 22 (.slice (some ⟨g, 0, none⟩) L L) (List.replicate L 0) := by rw [hg]; exact hown
    rw [← hg]
    clear hmade hgr r1 hown hg
    have hz : Hid (L = (List.replicate L (0 : Int)).length) := by show _ = _; simp
    have hcopy := fun (ops : Array Oper) (rest : List Oper) (o : Oper) (act : Act) (Q : Exit → Act → World → Prop) hgd d s ho hd hs h => copy_own (P := Tryz.prog) (w := w3) (ops := ops) (rest := rest) (o := o) (act := act) (Q := Q) hgd d s 30 30 ho 22 Tryz.underlying30 hsz g (t / 64) (L - t / 64) (L - t / 64) L L w.heap.size 22 _ ps hown2 hz.out a n c1 hr3 hd hs hnL hLm h
    have hk1 : ¬ (L = t / 64) := by omega
    have hk2 : ¬ (t / 64 = L) := by omega
    have hk3 : t / 64 ≤ L := by omega
    go_wp2_with (refine hcopy _ _ _ _ _ rfl _ _ rfl rfl rfl ?_)
    intro w4 hown4 hb4
    have hol : (over (List.replicate L (0 : Int)) ps (t / 64)).length = L := by rw [over_length (by rw [← HN.out]; simp; omega)]; simp
    have hb5 := hb3.trans hb4
    have hsu := shiftUp_any (w0 := w) (o := t / 64) (m := L - t / 64) (dcap := L - t / 64) (r := t % 64) hown4 hol.symm (over_ws hd) hb5 (by omega) (by omega) (by omega)
    rw [cast2] at hsu
    have hup := fun b us h => up_num (L := L) (o := t / 64) (r := t % 64) (t := t) (us := us) (b := b) HA.out (by rw [← HN.out]; exact hLo) (by omega) h hroom
    clear hol hown4 hb5 hd hcopy hown2 hr3 hb3 hb4 hz
    go_wp2_with fail
    refine hsu.mono ?_
    rintro e w5 ⟨rfl, b', us, hou, hui, hb6⟩
    obtain ⟨hnu, hwu, hlu⟩ := hup b' us hui
    rw [← hlu] at hou
    have hrc := hou.rowC rfl
    have htr := trimW_any hrc hwu (by omega)
    have hcut := hou.cut (words_le hwu)
    rw [words_take hwu] at hcut
    rw [hlu] at htr
    rw [hlu] at hcut
    rw [hnu] at htr hcut
    clear hsu hup hui hou hrc hnu hwu hlu hroom
    go_wp2_with fail
    refine htr.mono ?_
    rintro e w' ⟨rfl, _, _, _, rfl⟩
    clear htr
    go_wp2
    go_ret
    exact ⟨_, rfl, by rw [HX.out]; exact hcut, hb6⟩

set_option maxHeartbeats 3200000 in
set_option maxRecDepth 100000 in
theorem down_any {a : Option Addr} {m c1 : Nat} {xs : List Int} {w : World} (hr1 : RowC w a m c1 xs) (hx : Ws xs) (hm : m ≤ 4000000) (t : Nat) (ht : t ≤ 400000000) :
    Calls Tryz.prog 129 #[.slice a m c1, .int .i64 (t : Int)] w fun e w' => ∃ v, e = .returned v ∧ Own .u64 w' w.heap.size 22 v (words (num xs / 2 ^ t)) ∧ Below w.heap.size w w' := by
  obtain ⟨i_u64, hi_u64, hz0_u64, hz1_u64, hz2_u64⟩ := info_parts info_u64
  have hsz : (Tryz.prog.info? 22).map (·.size) = some 1 := by rw [hi_u64]; simp [hz1_u64]
  have p1 := num_nonneg hx
  have hv := num_words p1
  have hd := Dg_words (num xs)
  go_enter Tryz.func129, Tryz.ntmps129
  go_wp2_with fail
  refine (trim_any hr1 hx hm).mono ?_
  rintro e w' ⟨rfl, r1, _, l1, rfl⟩
  obtain ⟨ps, hps⟩ : ∃ ps, ps = words (num xs) := ⟨_, rfl⟩
  rw [← hps] at r1 l1 hv hd ⊢
  obtain ⟨A, hA⟩ : ∃ A, A = num xs := ⟨_, rfl⟩
  rw [← hA] at hv
  have HX : Hid (num xs = A) := hA.symm
  have hq : ((t : Int) / 64).toNat = t / 64 := by omega
  have cast2 : ((t % 64 : Nat) : Int) = (t : Int) % 64 := by omega
  obtain ⟨n, hn⟩ : ∃ n, n = ps.length := ⟨_, rfl⟩
  rw [← hn] at r1 l1 ⊢
  have HN : Hid (n = ps.length) := hn
  -- the lists behind the cut
  obtain ⟨o, qs, ho, hon, hqs⟩ : ∃ (o : Nat) (qs : List Int), (o : Int) = (if (n : Int) < (t : Int) / 64 then (n : Int) else (t : Int) / 64) ∧ o ≤ n ∧ qs = ps.drop o ∧ num qs / 2 ^ (t % 64) = A / 2 ^ t := by
    by_cases g : t / 64 ≤ n
    · refine ⟨t / 64, _, by rw [if_neg (by omega)]; omega, g, rfl, ?_⟩
      rw [num_drop hd (by omega), div_shift, hv]
    · refine ⟨n, _, by rw [if_pos (by omega)], Nat.le_refl _, rfl, ?_⟩
      rw [List.drop_of_length_le (by omega)]
      have b := num_bd hd
      rw [← hn, hv] at b
      have : A < 2 ^ t := by
        have := p2mono (show 64 * n ≤ t by omega)
        rw [wpow2] at b; omega
      rw [Int.ediv_eq_zero_of_lt (by rw [← hv]; exact num_nonneg hd) this]
      simp [num, val]
  obtain ⟨hqs, hdiv⟩ := hqs
  have hwq : Ws qs := by rw [hqs]; exact hd.drop _
  have hlq : qs.length = n - o := by rw [hqs, List.length_drop, ← hn]
  have HD : Hid (num qs / 2 ^ (t % 64) = A / 2 ^ t) := hdiv
  have HO : Hid ((o : Int) = (if (n : Int) < (t : Int) / 64 then (n : Int) else (t : Int) / 64)) := ho
  have hrq : ∀ a2 : Option Addr, (∀ b off, a = some ⟨b, off, none⟩ → o < n → a2 = some ⟨b, off + o, none⟩) → RowAt .u64 w a2 (n - o) qs := by
    intro a2 ha2
    by_cases g : o < n
    · obtain ⟨b, off, e1, _, _⟩ := r1.1.at (by omega)
      have := (show RowC w (some ⟨b, off, none⟩) n c1 ps by rw [← e1]; exact r1).drop g
      rw [ha2 b off e1 g, hqs]
      exact this.1
    · exact ⟨hlq, Or.inl (by omega)⟩
  clear hr1 hps hA hn hv hd hqs hdiv
  have hc1 := r1.2.1
  by_cases hle : (t : Int) / 64 ≤ (n : Int)
  · have ho2 : o = t / 64 := by rw [if_neg (by omega)] at ho; omega
    clear ho HO
    subst ho2
    by_cases hc : c1 = t / 64
    · have hc' : n - t / 64 = 0 := by omega
      have hc2 : c1 - t / 64 = 0 := by omega
      have hrw := hrq (a) (fun _ _ _ h => by omega)
      rw [hc'] at hrw hlq
      have hL1 : 0 ≤ 4000000 := by omega
      clear hrq
      go_wp2_with (at_make; refine wpList_make_full _ rfl _ _ 30 rfl w.heap.size 22 i_u64 (.int .u64 0) 1 Tryz.underlying30 hi_u64 hz0_u64 hz1_u64 .i64 .i64 _ _ 0 rfl rfl (by omega) (by omega) (by rw [hz2_u64]; omega) (by unfold maxLen; omega) (Nat.le_refl _) ?_)
      intro w3 hmade hgr
      have hown := own_zeros hmade
      have hb3 : Below w.heap.size w w3 := (Below.refl _ _).grown hgr (Nat.le_refl _) (fun k hk => by cases hk)
      have hr3 := hrw.later hb3
      obtain ⟨g, hg⟩ : ∃ g, g = w.heap.size := ⟨_, rfl⟩
      have hown2 : Own .u64 w3 w.heap.size 22 (.slice (some ⟨g, 0, none⟩) 0 0) (List.replicate 0 0) := by rw [hg]; exact hown
      rw [← hg]
      have hz : Hid (0 = (List.replicate 0 (0 : Int)).length) := by show _ = _; simp
      have HLQ : Hid (qs.length = 0) := hlq
      have hcopy := fun (ops : Array Oper) (rest : List Oper) (oo : Oper) (act : Act) (Q : Exit → Act → World → Prop) hgd d s ho hd hs h => copy_own (P := Tryz.prog) (w := w3) (ops := ops) (rest := rest) (o := oo) (act := act) (Q := Q) hgd d s 30 30 ho 22 Tryz.underlying30 hsz g 0 0 0 0 0 w.heap.size 22 _ qs hown2 hz.out (a) 0 0 hr3 hd hs (Nat.le_refl _) (by omega) h
      clear hmade hgr hown hg hrw hlq
      go_wp2_with (refine hcopy _ _ _ _ _ rfl _ _ rfl rfl rfl ?_)
      intro w4 hown4 hb4
      have e4 : over [] qs 0 = qs := by unfold over; rw [HLQ.out]; simp
      rw [e4] at hown4
      have hsd := shiftDown_any (w0 := w) (r := t % 64) hown4 HLQ.out.symm hwq (hb3.trans hb4) (by omega) (by omega)
      rw [cast2] at hsd
      clear hcopy hown2 hr3 hb3 hown4 hb4 e4 hz
      go_wp2_with fail
      refine hsd.mono ?_
      rintro e w5 ⟨rfl, us, hou, hlu, hwu, hnu, hb6⟩
      rw [HD.out] at hnu
      have hrc := hou.rowC hlu.symm
      have htr := trimW_any hrc hwu (by omega)
      rw [← hlu] at hou
      have hcut := hou.cut (words_le hwu)
      rw [words_take hwu] at hcut
      rw [hlu] at hcut
      rw [hnu] at htr hcut
      clear hsd hou hrc hnu hwu hlu
      go_wp2_with fail
      refine htr.mono ?_
      rintro e w' ⟨rfl, _, _, _, rfl⟩
      clear htr
      go_wp2
      go_ret
      exact ⟨_, rfl, by rw [HX.out]; exact hcut, hb6⟩
    · have hc2 : ¬ (c1 - t / 64 = 0) := by omega
      have hrw := hrq (Option.map (fun x => x.add (t / 64)) a) (fun b off e1 g => by rw [e1]; unfold Addr.add; by_cases hi0 : t / 64 = 0 <;> simp [hi0])
      skip
      have hL1 : (n - t / 64) ≤ 4000000 := by omega
      clear hrq
      go_wp2_with (at_make; refine wpList_make_full _ rfl _ _ 30 rfl w.heap.size 22 i_u64 (.int .u64 0) 1 Tryz.underlying30 hi_u64 hz0_u64 hz1_u64 .i64 .i64 _ _ (n - t / 64) rfl rfl (by omega) (by omega) (by rw [hz2_u64]; omega) (by unfold maxLen; omega) (Nat.le_refl _) ?_)
      intro w3 hmade hgr
      have hown := own_zeros hmade
      have hb3 : Below w.heap.size w w3 := (Below.refl _ _).grown hgr (Nat.le_refl _) (fun k hk => by cases hk)
      have hr3 := hrw.later hb3
      obtain ⟨g, hg⟩ : ∃ g, g = w.heap.size := ⟨_, rfl⟩
      have hown2 : Own .u64 w3 w.heap.size 22 (.slice (some ⟨g, 0, none⟩) (n - t / 64) (n - t / 64)) (List.replicate (n - t / 64) 0) := by rw [hg]; exact hown
      rw [← hg]
      have hz : Hid ((n - t / 64) = (List.replicate (n - t / 64) (0 : Int)).length) := by show _ = _; simp
      have HLQ : Hid (qs.length = (n - t / 64)) := hlq
      have hcopy := fun (ops : Array Oper) (rest : List Oper) (oo : Oper) (act : Act) (Q : Exit → Act → World → Prop) hgd d s ho hd hs h => copy_own (P := Tryz.prog) (w := w3) (ops := ops) (rest := rest) (o := oo) (act := act) (Q := Q) hgd d s 30 30 ho 22 Tryz.underlying30 hsz g 0 (n - t / 64) (n - t / 64) (n - t / 64) (n - t / 64) w.heap.size 22 _ qs hown2 hz.out (Option.map (fun x => x.add (t / 64)) a) (n - t / 64) (c1 - t / 64) hr3 hd hs (Nat.le_refl _) (by omega) h
      clear hmade hgr hown hg hrw hlq
      go_wp2_with (refine hcopy _ _ _ _ _ rfl _ _ rfl rfl rfl ?_)
      intro w4 hown4 hb4
      have e4 : over (List.replicate (n - t / 64) (0 : Int)) qs 0 = qs := by unfold over; rw [HLQ.out]; simp
      rw [e4] at hown4
      have hsd := shiftDown_any (w0 := w) (r := t % 64) hown4 HLQ.out.symm hwq (hb3.trans hb4) (by omega) (by omega)
      rw [cast2] at hsd
      clear hcopy hown2 hr3 hb3 hown4 hb4 e4 hz
      go_wp2_with fail
      refine hsd.mono ?_
      rintro e w5 ⟨rfl, us, hou, hlu, hwu, hnu, hb6⟩
      rw [HD.out] at hnu
      have hrc := hou.rowC hlu.symm
      have htr := trimW_any hrc hwu (by omega)
      rw [← hlu] at hou
      have hcut := hou.cut (words_le hwu)
      rw [words_take hwu] at hcut
      rw [hlu] at hcut
      rw [hnu] at htr hcut
      clear hsd hou hrc hnu hwu hlu
      go_wp2_with fail
      refine htr.mono ?_
      rintro e w' ⟨rfl, _, _, _, rfl⟩
      clear htr
      go_wp2
      go_ret
      exact ⟨_, rfl, by rw [HX.out]; exact hcut, hb6⟩
  · have ho2 : o = n := by rw [if_pos (by omega)] at ho; omega
    clear ho HO
    subst ho2
    have hc' : o - o = 0 := by omega
    by_cases hc : c1 = o
    · have hc2 : c1 - o = 0 := by omega
      have hrw := hrq (a) (fun _ _ _ h => by omega)
      rw [hc'] at hrw hlq
      have hL1 : 0 ≤ 4000000 := by omega
      clear hrq
      go_wp2_with (at_make; refine wpList_make_full _ rfl _ _ 30 rfl w.heap.size 22 i_u64 (.int .u64 0) 1 Tryz.underlying30 hi_u64 hz0_u64 hz1_u64 .i64 .i64 _ _ 0 rfl rfl (by omega) (by omega) (by rw [hz2_u64]; omega) (by unfold maxLen; omega) (Nat.le_refl _) ?_)
      intro w3 hmade hgr
      have hown := own_zeros hmade
      have hb3 : Below w.heap.size w w3 := (Below.refl _ _).grown hgr (Nat.le_refl _) (fun k hk => by cases hk)
      have hr3 := hrw.later hb3
      obtain ⟨g, hg⟩ : ∃ g, g = w.heap.size := ⟨_, rfl⟩
      have hown2 : Own .u64 w3 w.heap.size 22 (.slice (some ⟨g, 0, none⟩) 0 0) (List.replicate 0 0) := by rw [hg]; exact hown
      rw [← hg]
      have hz : Hid (0 = (List.replicate 0 (0 : Int)).length) := by show _ = _; simp
      have HLQ : Hid (qs.length = 0) := hlq
      have hcopy := fun (ops : Array Oper) (rest : List Oper) (oo : Oper) (act : Act) (Q : Exit → Act → World → Prop) hgd d s ho hd hs h => copy_own (P := Tryz.prog) (w := w3) (ops := ops) (rest := rest) (o := oo) (act := act) (Q := Q) hgd d s 30 30 ho 22 Tryz.underlying30 hsz g 0 0 0 0 0 w.heap.size 22 _ qs hown2 hz.out (a) 0 0 hr3 hd hs (Nat.le_refl _) (by omega) h
      clear hmade hgr hown hg hrw hlq
      go_wp2_with (refine hcopy _ _ _ _ _ rfl _ _ rfl rfl rfl ?_)
      intro w4 hown4 hb4
      have e4 : over [] qs 0 = qs := by unfold over; rw [HLQ.out]; simp
      rw [e4] at hown4
      have hsd := shiftDown_any (w0 := w) (r := t % 64) hown4 HLQ.out.symm hwq (hb3.trans hb4) (by omega) (by omega)
      rw [cast2] at hsd
      clear hcopy hown2 hr3 hb3 hown4 hb4 e4 hz
      go_wp2_with fail
      refine hsd.mono ?_
      rintro e w5 ⟨rfl, us, hou, hlu, hwu, hnu, hb6⟩
      rw [HD.out] at hnu
      have hrc := hou.rowC hlu.symm
      have htr := trimW_any hrc hwu (by omega)
      rw [← hlu] at hou
      have hcut := hou.cut (words_le hwu)
      rw [words_take hwu] at hcut
      rw [hlu] at hcut
      rw [hnu] at htr hcut
      clear hsd hou hrc hnu hwu hlu
      go_wp2_with fail
      refine htr.mono ?_
      rintro e w' ⟨rfl, _, _, _, rfl⟩
      clear htr
      go_wp2
      go_ret
      exact ⟨_, rfl, by rw [HX.out]; exact hcut, hb6⟩
    · have hc2 : ¬ (c1 - o = 0) := by omega
      have hrw := hrq (Option.map (fun x => x.add o) a) (fun _ _ _ h => by omega)
      rw [hc'] at hrw hlq
      have hL1 : 0 ≤ 4000000 := by omega
      clear hrq
      go_wp2_with (at_make; refine wpList_make_full _ rfl _ _ 30 rfl w.heap.size 22 i_u64 (.int .u64 0) 1 Tryz.underlying30 hi_u64 hz0_u64 hz1_u64 .i64 .i64 _ _ 0 rfl rfl (by omega) (by omega) (by rw [hz2_u64]; omega) (by unfold maxLen; omega) (Nat.le_refl _) ?_)
      intro w3 hmade hgr
      have hown := own_zeros hmade
      have hb3 : Below w.heap.size w w3 := (Below.refl _ _).grown hgr (Nat.le_refl _) (fun k hk => by cases hk)
      have hr3 := hrw.later hb3
      obtain ⟨g, hg⟩ : ∃ g, g = w.heap.size := ⟨_, rfl⟩
      have hown2 : Own .u64 w3 w.heap.size 22 (.slice (some ⟨g, 0, none⟩) 0 0) (List.replicate 0 0) := by rw [hg]; exact hown
      rw [← hg]
      have hz : Hid (0 = (List.replicate 0 (0 : Int)).length) := by show _ = _; simp
      have HLQ : Hid (qs.length = 0) := hlq
      have hcopy := fun (ops : Array Oper) (rest : List Oper) (oo : Oper) (act : Act) (Q : Exit → Act → World → Prop) hgd d s ho hd hs h => copy_own (P := Tryz.prog) (w := w3) (ops := ops) (rest := rest) (o := oo) (act := act) (Q := Q) hgd d s 30 30 ho 22 Tryz.underlying30 hsz g 0 0 0 0 0 w.heap.size 22 _ qs hown2 hz.out (Option.map (fun x => x.add o) a) 0 (c1 - o) hr3 hd hs (Nat.le_refl _) (by omega) h
      clear hmade hgr hown hg hrw hlq
      go_wp2_with (refine hcopy _ _ _ _ _ rfl _ _ rfl rfl rfl ?_)
      intro w4 hown4 hb4
      have e4 : over [] qs 0 = qs := by unfold over; rw [HLQ.out]; simp
      rw [e4] at hown4
      have hsd := shiftDown_any (w0 := w) (r := t % 64) hown4 HLQ.out.symm hwq (hb3.trans hb4) (by omega) (by omega)
      rw [cast2] at hsd
      clear hcopy hown2 hr3 hb3 hown4 hb4 e4 hz
      go_wp2_with fail
      refine hsd.mono ?_
      rintro e w5 ⟨rfl, us, hou, hlu, hwu, hnu, hb6⟩
      rw [HD.out] at hnu
      have hrc := hou.rowC hlu.symm
      have htr := trimW_any hrc hwu (by omega)
      rw [← hlu] at hou
      have hcut := hou.cut (words_le hwu)
      rw [words_take hwu] at hcut
      rw [hlu] at hcut
      rw [hnu] at htr hcut
      clear hsd hou hrc hnu hwu hlu
      go_wp2_with fail
      refine htr.mono ?_
      rintro e w' ⟨rfl, _, _, _, rfl⟩
      clear htr
      go_wp2
      go_ret
      exact ⟨_, rfl, by rw [HX.out]; exact hcut, hb6⟩
end Go.Proofs.YtceecgklgkiffabGreatDoor

/- package nat: Shl. -/
namespace Go.Proofs.YtceecgklgkiffabGreatDoor
open Go.ChangeShapes Go.WideShapes Go.ChangeAt Go.RowKit
open Na Ar
set_option linter.unusedVariables false

set_option maxHeartbeats 3200000 in
set_option maxRecDepth 100000 in
theorem natShl_any {a : Option Addr} {m c1 : Nat} {xs : List Int} {w : World} (hr1 : RowC w a m c1 xs) (hx : Ws xs) (hm : m ≤ 4000000) (n : Int) (hn9 : n ≤ 9223372036854775807) :
    Calls Tryz.prog 65 #[.slice a m c1, .int .i64 n] w fun e w' => ∃ v, e = .returned (.tuple #[v, .int .i64 (shlE (num xs) n)]) ∧ Own .u64 w' w.heap.size 22 v (shlL (num xs) n) ∧ Below w.heap.size w w' := by
  by_cases hneg : n < 0
  · have E1 : Hid (shlE (num xs) n = 22) := by show _ = _; unfold shlE; rw [if_pos hneg]
    have E2 : Hid (shlL (num xs) n = []) := by show _ = _; unfold shlL; rw [if_pos hneg]
    go_enter Tryz.func65, Tryz.ntmps65
    go_wp2
    go_ret2
    exact ⟨_, by rw [E1.out]; rfl, by rw [E2.out]; exact own_nil _ _ _ _, Below.refl _ _⟩
  · obtain ⟨t, rfl⟩ : ∃ t : Nat, n = (t : Int) := ⟨n.toNat, by omega⟩
    have E1 : Hid (shlE (num xs) (t : Int) = resE (num xs * 2 ^ t)) := by show _ = _; unfold shlE; rw [if_neg hneg]; simp
    have E2 : Hid (shlL (num xs) (t : Int) = resL (num xs * 2 ^ t)) := by show _ = _; unfold shlL; rw [if_neg hneg]; simp
    have p1 := num_nonneg hx
    have hbit := bits0_any hr1 hx hm
    have l1 := hr1.1.1
    have hble := bits_le (N := num xs) (k := xs.length) p1 (num_bd hx)
    have hbn := bits_nonneg (num xs)
    clear hneg
    by_cases hz : num xs = 0
    · have E := res_zero (N := num xs * 2 ^ t) (by rw [hz]; simp)
      have F1 : Hid (shlL (num xs) (t : Int) = []) := by show _ = _; rw [E2.out]; exact E.1
      have F2 : Hid (shlE (num xs) (t : Int) = 0) := by show _ = _; rw [E1.out]; exact E.2
      have hb0 : bitsN (num xs) = 0 := by rw [hz]; rfl
      rw [hb0] at hbit
      clear E hz hb0 hble hbn p1 hr1
      go_enter Tryz.func65, Tryz.ntmps65
      go_wp2_with fail
      refine hbit.mono ?_
      rintro e w' ⟨rfl, rfl⟩
      go_wp2
      go_ret2
      exact ⟨_, by rw [F2.out]; rfl, by rw [F1.out]; exact own_nil _ _ _ _, Below.refl _ _⟩
    · obtain ⟨b, hb, a1, a2⟩ := bits_some (N := num xs) (by omega)
      rw [hb] at hbit hble
      obtain ⟨q, hq⟩ : ∃ q : Nat, q = b + 1 := ⟨_, rfl⟩
      have hqb : (b : Int) + 1 = (q : Int) := by omega
      rw [hqb] at hbit hble
      have t1 : ((q : Int) == 0) = false := by simp; omega
      have hsb := shl_bits (t := t) a1 a2
      have hwl := words_bits hsb.1 hsb.2
      have hwx := words_bits a1 a2
      by_cases hbig : 262144 - (q : Int) < (t : Int)
      · have E := res_huge (N := num xs * 2 ^ t) (by omega)
        have F1 : Hid (shlL (num xs) (t : Int) = []) := by show _ = _; rw [E2.out]; exact E.1
        have F2 : Hid (shlE (num xs) (t : Int) = 21) := by show _ = _; rw [E1.out]; exact E.2
        have hq9 : q ≤ 256000000 := by omega
        clear E hz hbn p1 hr1 hwl hsb a1 a2 hb hwx hqb hq hble l1
        go_enter Tryz.func65, Tryz.ntmps65
        go_wp2_with fail
        refine hbit.mono ?_
        rintro e w' ⟨rfl, rfl⟩
        go_wp2
        go_ret2
        exact ⟨_, by rw [F2.out]; rfl, by rw [F1.out]; exact own_nil _ _ _ _, Below.refl _ _⟩
      · have ht : t ≤ 262144 := by omega
        have E := res_fits (N := num xs * 2 ^ t) (by omega)
        have F1 : Hid (shlL (num xs) (t : Int) = words (num xs * 2 ^ t)) := by show _ = _; rw [E2.out]; exact E.1
        have F2 : Hid (shlE (num xs) (t : Int) = 0) := by show _ = _; rw [E1.out]; exact E.2
        have hup := up_any hr1 hx hm t (by omega)
        have hq9 : q ≤ 262144 := by omega
        clear E hz hbn p1 hr1 hwl hsb a1 a2 hb hwx hqb hq hble l1
        go_enter Tryz.func65, Tryz.ntmps65
        go_wp2_with fail
        refine hbit.mono ?_
        rintro e w' ⟨rfl, rfl⟩
        clear hbit
        go_wp2_with fail
        refine hup.mono ?_
        rintro e w' ⟨v, rfl, hou, hb6⟩
        clear hup
        go_wp2
        go_ret2
        exact ⟨_, by rw [F2.out]; rfl, by rw [F1.out]; exact hou, hb6⟩
end Go.Proofs.YtceecgklgkiffabGreatDoor

/- package nat: Shr. -/
namespace Go.Proofs.YtceecgklgkiffabGreatDoor
open Go.ChangeShapes Go.WideShapes Go.ChangeAt Go.RowKit
open Na Ar
set_option linter.unusedVariables false

set_option maxHeartbeats 3200000 in
set_option maxRecDepth 100000 in
theorem natShr_any {a : Option Addr} {m c1 : Nat} {xs : List Int} {w : World} (hr1 : RowC w a m c1 xs) (hx : Ws xs) (hm : m ≤ 4000000) (n : Int) (hn9 : n ≤ 9223372036854775807) :
    Calls Tryz.prog 102 #[.slice a m c1, .int .i64 n] w fun e w' => ∃ v, e = .returned (.tuple #[v, .bool (shrB (num xs) n), .int .i64 (shrE (num xs) n)]) ∧ Own .u64 w' w.heap.size 22 v (shrL (num xs) n) ∧ Below w.heap.size w w' := by
  by_cases hneg : n < 0
  · have E1 : Hid (shrE (num xs) n = 22) := by show _ = _; unfold shrE; rw [if_pos hneg]
    have E2 : Hid (shrL (num xs) n = []) := by show _ = _; unfold shrL; rw [if_pos hneg]
    have E3 : Hid (shrB (num xs) n = false) := by show _ = _; unfold shrB; rw [if_pos hneg]
    go_enter Tryz.func102, Tryz.ntmps102
    go_wp2
    go_ret3
    exact ⟨_, ret_vbi E3.out.symm E1.out.symm, by rw [E2.out]; exact own_nil _ _ _ _, Below.refl _ _⟩
  · obtain ⟨t, rfl⟩ : ∃ t : Nat, n = (t : Int) := ⟨n.toNat, by omega⟩
    have E1 : Hid (shrE (num xs) (t : Int) = resE (num xs / 2 ^ t)) := by show _ = _; unfold shrE; rw [if_neg hneg]; simp
    have E2 : Hid (shrL (num xs) (t : Int) = resL (num xs / 2 ^ t)) := by show _ = _; unfold shrL; rw [if_neg hneg]; simp
    have E3 : Hid (shrB (num xs) (t : Int) = if resE (num xs / 2 ^ t) = 0 then decide (num xs % 2 ^ t ≠ 0) else false) := by show _ = _; unfold shrB; rw [if_neg hneg]; simp
    have p1 := num_nonneg hx
    have hbit := bits0_any hr1 hx hm
    have l1 := hr1.1.1
    have hble := bits_le (N := num xs) (k := xs.length) p1 (num_bd hx)
    have hbn := bits_nonneg (num xs)
    obtain ⟨q, hq⟩ : ∃ q : Nat, bitsN (num xs) = (q : Int) := ⟨(bitsN (num xs)).toNat, by omega⟩
    rw [hq] at hbit hble
    have hq9 : q ≤ 256000000 := by omega
    have hqz : q = 0 ↔ num xs = 0 := by
      constructor
      · intro h
        by_cases g : num xs = 0
        · exact g
        · obtain ⟨b, hb, _, _⟩ := bits_some (N := num xs) (by omega)
          omega
      · intro h; rw [h, bits_none] at hq; omega
    clear hneg hbn
    by_cases hle : q ≤ t
    · have hlt : num xs < 2 ^ t := by
        by_cases g : num xs = 0
        · rw [g]; exact p2pos t
        · obtain ⟨b, hb, _, h2⟩ := bits_some (N := num xs) (by omega)
          have := p2mono (show b + 1 ≤ t by omega)
          omega
      have o1 : num xs / 2 ^ t = 0 := Int.ediv_eq_zero_of_lt p1 hlt
      have o2 : num xs % 2 ^ t = num xs := Int.emod_eq_of_lt p1 hlt
      have E := res_zero o1
      have F2 : Hid (shrL (num xs) (t : Int) = []) := by show _ = _; rw [E2.out]; exact E.1
      have F1 : Hid (0 = shrE (num xs) (t : Int)) := by show _ = _; rw [E1.out]; exact E.2.symm
      have F3 : Hid (((q : Int) != 0) = shrB (num xs) (t : Int)) := by
        show _ = _
        rw [E3.out, E.2, if_pos rfl, o2, Bool.eq_iff_iff]
        simp
        omega
      clear E o1 o2 hlt hqz hq p1 hble l1 hr1 E1 E2 E3
      go_enter Tryz.func102, Tryz.ntmps102
      go_wp2_with fail
      refine hbit.mono ?_
      rintro e w' ⟨rfl, rfl⟩
      go_wp2
      go_ret3
      exact ⟨_, ret_vbi F3.out F1.out, by rw [F2.out]; exact own_nil _ _ _ _, Below.refl _ _⟩
    · have hA : 0 < num xs := by
        have : num xs ≠ 0 := fun h => by have := hqz.mpr h; omega
        omega
      obtain ⟨b, hb, a1, a2⟩ := bits_some hA
      have hsb := shr_bits (t := t) a1 a2 (by omega)
      have hwl := words_bits hsb.1 hsb.2
      by_cases hbig : 262144 < (q : Int) - (t : Int)
      · have E := res_huge (N := num xs / 2 ^ t) (by omega)
        have F2 : Hid (shrL (num xs) (t : Int) = []) := by show _ = _; rw [E2.out]; exact E.1
        have F1 : Hid (21 = shrE (num xs) (t : Int)) := by show _ = _; rw [E1.out]; exact E.2.symm
        have F3 : Hid (false = shrB (num xs) (t : Int)) := by
          show _ = _
          rw [E3.out, E.2, if_neg (by omega)]
        clear E hqz hq p1 hble l1 hr1 E1 E2 E3 hwl hsb a1 a2 hb hA
        go_enter Tryz.func102, Tryz.ntmps102
        go_wp2_with fail
        refine hbit.mono ?_
        rintro e w' ⟨rfl, rfl⟩
        go_wp2
        go_ret3
        exact ⟨_, ret_vbi F3.out F1.out, by rw [F2.out]; exact own_nil _ _ _ _, Below.refl _ _⟩
      · have E := res_fits (N := num xs / 2 ^ t) (by omega)
        have F2 : Hid (shrL (num xs) (t : Int) = words (num xs / 2 ^ t)) := by show _ = _; rw [E2.out]; exact E.1
        have F1 : Hid (0 = shrE (num xs) (t : Int)) := by show _ = _; rw [E1.out]; exact E.2.symm
        have F3 : Hid (decide (zerosN (num xs) < (t : Int)) = shrB (num xs) (t : Int)) := by
          show _ = _
          rw [E3.out, E.2, if_pos rfl, zeros_lost hA]
        have hdn := down_any hr1 hx hm t (by omega)
        have hzer := fun (w1 : World) (h : Below w.heap.size w w1) => zeros0_any (hr1.later h) hx hm
        have hqt : (t : Int) < (q : Int) := by omega
        clear E hqz hq p1 hble l1 hr1 E1 E2 E3 hwl hsb a1 a2 hb hA hle
        go_enter Tryz.func102, Tryz.ntmps102
        go_wp2_with fail
        refine hbit.mono ?_
        rintro e w' ⟨rfl, rfl⟩
        clear hbit
        go_wp2_with fail
        refine hdn.mono ?_
        rintro e w3 ⟨v, rfl, hcut, hb3⟩
        have hz3 := hzer w3 hb3
        clear hdn hzer
        go_wp2_with fail
        refine hz3.mono ?_
        rintro e w' ⟨rfl, rfl⟩
        clear hz3
        go_wp2
        go_ret3
        exact ⟨_, ret_vbi F3.out F1.out, by rw [F2.out]; exact hcut, hb3⟩
end Go.Proofs.YtceecgklgkiffabGreatDoor

/- plumblaw02's helpers of the outright statements: add, mul, normal, alive, into. -/
namespace Go.Proofs.YtceecgklgkiffabGreatDoor
open Go.ChangeShapes Go.WideShapes Go.ChangeAt Go.RowKit
open Na Ar
set_option linter.unusedVariables false

namespace Na
/-- a number of at most k words -/
def Lt (N : Int) (k : Nat) : Prop := 0 ≤ N ∧ N < 18446744073709551616 ^ k
theorem Lt.mono {N : Int} {k l : Nat} (h : Lt N k) (hl : k ≤ l) : Lt N l := ⟨h.1, Int.lt_of_lt_of_le h.2 (wpow_mono hl)⟩
theorem Lt.add {A B : Int} {k l : Nat} (h : Lt A k) (h' : Lt B l) : Lt (A + B) (k + l + 1) := by
  obtain ⟨a, b⟩ := h
  obtain ⟨c, d⟩ := h'
  have m1 := wpow_mono (show k ≤ k + l by omega)
  have m2 := wpow_mono (show l ≤ k + l by omega)
  have p := wpow_pos (k + l)
  refine ⟨by omega, ?_⟩
  rw [Int.pow_succ]
  omega
theorem Lt.mul {A B : Int} {k l : Nat} (h : Lt A k) (h' : Lt B l) : Lt (A * B) (k + l) := by
  obtain ⟨a, b⟩ := h
  obtain ⟨c, d⟩ := h'
  refine ⟨Int.mul_nonneg a c, ?_⟩
  rw [Int.pow_add]
  have p := wpow_pos k
  have x := Int.mul_le_mul_of_nonneg_right (Int.le_of_lt b) c
  have y := Int.mul_lt_mul_of_pos_left d p
  omega
theorem Lt.len {N : Int} {k : Nat} (h : Lt N k) : (words N).length ≤ k := words_short h.1 h.2
theorem Lt.fits {N : Int} {k : Nat} (h : Lt N k) (hk : k ≤ 4096) : resL N = words N ∧ resE N = 0 := res_fits (Nat.le_trans h.len hk)
theorem Lt.pow2 {A : Int} {k t : Nat} (h : Lt A k) : Lt (A * 2 ^ t) (k + (t / 64 + 1)) := by
  refine h.mul ⟨Int.le_of_lt (p2pos t), ?_⟩
  rw [wpow2]
  have e : (2 : Int) ^ t < 2 ^ (t + 1) := by rw [Int.pow_succ]; have := p2pos t; omega
  have := p2mono (show t + 1 ≤ 64 * (t / 64 + 1) by omega)
  omega
theorem Lt.le {A B : Int} {k : Nat} (h : Lt B k) (h0 : 0 ≤ A) (hl : A ≤ B) : Lt A k := ⟨h0, by have := h.2; omega⟩
/-- a list of words, its number, not too long for any of the calls -/
structure Nm (xs : List Int) (A : Int) : Prop where
  ws : Ws xs
  num : num xs = A
  len : xs.length ≤ 4000000
theorem Nm.nonneg {xs : List Int} {A : Int} (h : Nm xs A) : 0 ≤ A := by rw [← h.num]; exact num_nonneg h.ws
theorem Nm.lt {xs : List Int} {A : Int} (h : Nm xs A) {k : Nat} (hk : xs.length ≤ k) : Lt A k := by
  refine Lt.mono (k := xs.length) ⟨h.nonneg, ?_⟩ hk
  rw [← h.num]; exact num_bd h.ws
theorem Lt.nm {N : Int} {k : Nat} (h : Lt N k) (hk : k ≤ 4000000) : Nm (words N) N := ⟨Dg_words N, num_words h.1, Nat.le_trans h.len hk⟩
theorem Nm.nil : Nm [] 0 := ⟨Dg.nil _, rfl, by simp⟩
theorem Nm.one {x : Int} (h : 0 ≤ x ∧ x < 18446744073709551616) : Nm [x] x := ⟨Dg.one h, by simp [Na.num, val], by simp⟩
theorem Nm.two {x y : Int} (h : 0 ≤ x ∧ x < 18446744073709551616) (h' : 0 ≤ y ∧ y < 18446744073709551616) : Nm [x, y] (x + 18446744073709551616 * y) :=
  ⟨(Dg.one h).append (Dg.one h'), by simp [Na.num, val], by simp⟩
theorem lt_one : Lt 1 1 := ⟨by omega, by rw [Int.pow_succ, Int.pow_zero]; omega⟩
theorem Lt.word {x : Int} (h : 0 ≤ x ∧ x < 18446744073709551616) : Lt x 1 := ⟨h.1, by rw [Int.pow_succ, Int.pow_zero]; omega⟩
end Na

theorem rowC_one (w : World) (x : Int) (t : TypeId) : RowC (w.alloc (.cells #[.int .u64 x] t)) (some ⟨w.heap.size, 0, none⟩) 1 1 [x] := by
  refine ⟨⟨rfl, Or.inr ⟨w.heap.size, 0, rfl, by simp, fun i hi => ?_⟩⟩, Nat.le_refl _, by decide⟩
  have : i = 0 := by omega
  subst this
  simp
theorem RowC.cut {w : World} {a : Option Addr} {n cap : Nat} {xs : List Int} (h : RowC w a n cap xs) {m : Nat} (hm : m ≤ n) : RowC w a m cap (xs.take m) := ⟨h.1.cut hm, Nat.le_trans hm h.2.1, h.2.2⟩

section
variable {a b : Option Addr} {n m c1 c2 : Nat} {xs ys : List Int} {A B : Int} {w : World} {k : Nat}
theorem addN (hr1 : RowC w a n c1 xs) (hr2 : RowC w b m c2 ys) (h1 : Nm xs A) (h2 : Nm ys B) (hL : Lt (A + B) k) (hk : k ≤ 4096) :
    Calls Tryz.prog 106 #[.slice a n c1, .slice b m c2] w fun e w' => ∃ v, e = .returned (.tuple #[v, .int .i64 0]) ∧ Own .u64 w' w.heap.size 22 v (words (A + B)) ∧ Below w.heap.size w w' := by
  have l1 := hr1.1.1
  have l2 := hr2.1.1
  have h := natAdd_any hr1 hr2 h1.ws h2.ws (by have := h1.len; omega) (by have := h2.len; omega)
  rw [h1.num, h2.num, (hL.fits hk).1, (hL.fits hk).2] at h
  exact h
theorem mulN (hr1 : RowC w a n c1 xs) (hr2 : RowC w b m c2 ys) (h1 : Nm xs A) (h2 : Nm ys B) (hL : Lt (A * B) k) (hk : k ≤ 4096) :
    Calls Tryz.prog 31 #[.slice a n c1, .slice b m c2] w fun e w' => ∃ v, e = .returned (.tuple #[v, .int .i64 0]) ∧ Own .u64 w' w.heap.size 22 v (words (A * B)) ∧ Below w.heap.size w w' := by
  have l1 := hr1.1.1
  have l2 := hr2.1.1
  have h := natMul_any hr1 hr2 h1.ws h2.ws (by have := h1.len; omega) (by have := h2.len; omega)
  rw [h1.num, h2.num, (hL.fits hk).1, (hL.fits hk).2] at h
  exact h
theorem subN (hr1 : RowC w a n c1 xs) (hr2 : RowC w b m c2 ys) (h1 : Nm xs A) (h2 : Nm ys B) (hle : B ≤ A) (hL : Lt (A - B) k) (hk : k ≤ 4096) :
    Calls Tryz.prog 76 #[.slice a n c1, .slice b m c2] w fun e w' => ∃ v, e = .returned (.tuple #[v, .int .i64 0]) ∧ Own .u64 w' w.heap.size 22 v (words (A - B)) ∧ Below w.heap.size w w' := by
  have l1 := hr1.1.1
  have l2 := hr2.1.1
  have h := natSub_any hr1 hr2 h1.ws h2.ws (by have := h1.len; omega) (by have := h2.len; omega)
  have e1 : subE A B = 0 := by unfold subE; rw [if_neg (by omega), (hL.fits hk).2]
  have e2 : subL A B = words (A - B) := by unfold subL; rw [if_neg (by omega), (hL.fits hk).1]
  rw [h1.num, h2.num, e1, e2] at h
  exact h
theorem cmpN (hr1 : RowC w a n c1 xs) (hr2 : RowC w b m c2 ys) (h1 : Nm xs A) (h2 : Nm ys B) :
    Calls Tryz.prog 42 #[.slice a n c1, .slice b m c2] w fun e w' => e = .returned (.int .i64 (ordN A B)) ∧ Below w.heap.size w w' := by
  have l1 := hr1.1.1
  have l2 := hr2.1.1
  have h := natCmp_any hr1 hr2 h1.ws h2.ws (by have := h1.len; omega) (by have := h2.len; omega)
  rw [h1.num, h2.num] at h
  exact h
end

section
variable {a b : Option Addr} {n m c1 c2 : Nat} {xs ys : List Int} {A B : Int} {w : World} {k : Nat}
theorem Own.opens {N : Int} {base : Nat} {e : TypeId} {v : Value} (h : Own .u64 w base e v (words N)) (hL : Lt N k) (hk : k ≤ 4000000) : ∃ a n c l, v = .slice a n c ∧ RowC w a n c l ∧ Nm l N ∧ Hid (l = words N) := by
  obtain ⟨a, c, hv, r⟩ := h.readsC
  exact ⟨a, _, c, _, hv, r, hL.nm hk, rfl⟩
theorem addQ (hr1 : RowC w a n c1 xs) (hr2 : RowC w b m c2 ys) (h1 : Nm xs A) (h2 : Nm ys B) (hL : Lt (A + B) k) (hk : k ≤ 4096) :
    Calls Tryz.prog 106 #[.slice a n c1, .slice b m c2] w fun e w' => ∃ a' n' c' l', e = .returned (.tuple #[.slice a' n' c', .int .i64 0]) ∧ RowC w' a' n' c' l' ∧ Nm l' (A + B) ∧ Hid (l' = words (A + B)) ∧ Below w.heap.size w w' := by
  refine (addN hr1 hr2 h1 h2 hL hk).mono ?_
  rintro e w' ⟨v, rfl, ho, hb⟩
  obtain ⟨a', n', c', l', rfl, r, m, h⟩ := ho.opens hL (by omega)
  exact ⟨a', n', c', l', rfl, r, m, h, hb⟩
theorem mulQ (hr1 : RowC w a n c1 xs) (hr2 : RowC w b m c2 ys) (h1 : Nm xs A) (h2 : Nm ys B) (hL : Lt (A * B) k) (hk : k ≤ 4096) :
    Calls Tryz.prog 31 #[.slice a n c1, .slice b m c2] w fun e w' => ∃ a' n' c' l', e = .returned (.tuple #[.slice a' n' c', .int .i64 0]) ∧ RowC w' a' n' c' l' ∧ Nm l' (A * B) ∧ Hid (l' = words (A * B)) ∧ Below w.heap.size w w' := by
  refine (mulN hr1 hr2 h1 h2 hL hk).mono ?_
  rintro e w' ⟨v, rfl, ho, hb⟩
  obtain ⟨a', n', c', l', rfl, r, m, h⟩ := ho.opens hL (by omega)
  exact ⟨a', n', c', l', rfl, r, m, h, hb⟩
theorem subQ (hr1 : RowC w a n c1 xs) (hr2 : RowC w b m c2 ys) (h1 : Nm xs A) (h2 : Nm ys B) (hle : B ≤ A) (hL : Lt (A - B) k) (hk : k ≤ 4096) :
    Calls Tryz.prog 76 #[.slice a n c1, .slice b m c2] w fun e w' => ∃ a' n' c' l', e = .returned (.tuple #[.slice a' n' c', .int .i64 0]) ∧ RowC w' a' n' c' l' ∧ Nm l' (A - B) ∧ Hid (l' = words (A - B)) ∧ Below w.heap.size w w' := by
  refine (subN hr1 hr2 h1 h2 hle hL hk).mono ?_
  rintro e w' ⟨v, rfl, ho, hb⟩
  obtain ⟨a', n', c', l', rfl, r, m, h⟩ := ho.opens hL (by omega)
  exact ⟨a', n', c', l', rfl, r, m, h, hb⟩
theorem shrQ {S : Bool} (hr1 : RowC w a n c1 xs) (h1 : Nm xs A) (t : Nat) (ht : t ≤ 400000000) (hL : Lt A k) (hk : k ≤ 4096) (hS : decide (A % 2 ^ t ≠ 0) = S) :
    Calls Tryz.prog 102 #[.slice a n c1, .int .i64 (t : Int)] w fun e w' => ∃ a' n' c' l', e = .returned (.tuple #[.slice a' n' c', .bool S, .int .i64 0]) ∧ RowC w' a' n' c' l' ∧ Nm l' (A / 2 ^ t) ∧ Hid (l' = words (A / 2 ^ t)) ∧ Below w.heap.size w w' := by
  have l1 := hr1.1.1
  have h := natShr_any hr1 h1.ws (by have := h1.len; omega) (t : Int) (by omega)
  have hL2 : Lt (A / 2 ^ t) k := hL.le (Int.ediv_nonneg hL.1 (Int.le_of_lt (p2pos t))) (Int.ediv_le_self _ hL.1)
  have e0 : resE (A / 2 ^ t) = 0 := (hL2.fits hk).2
  have e1 : shrE A (t : Int) = 0 := by unfold shrE; rw [if_neg (by omega)]; simp; exact e0
  have e2 : shrL A (t : Int) = words (A / 2 ^ t) := by unfold shrL; rw [if_neg (by omega)]; simp; exact (hL2.fits hk).1
  have e3 : shrB A (t : Int) = S := by unfold shrB; rw [if_neg (by omega)]; simp only [Int.toNat_natCast]; rw [if_pos e0]; exact hS
  rw [h1.num, e1, e2, e3] at h
  refine h.mono ?_
  rintro e w' ⟨v, rfl, ho, hb⟩
  obtain ⟨a', n', c', l', rfl, r, m, h⟩ := ho.opens hL2 (by omega)
  exact ⟨a', n', c', l', rfl, r, m, h, hb⟩
theorem cmpK {K : Int} (hr1 : RowC w a n c1 xs) (hr2 : RowC w b m c2 ys) (h1 : Nm xs A) (h2 : Nm ys B) (hK : ordN A B = K) :
    Calls Tryz.prog 42 #[.slice a n c1, .slice b m c2] w fun e w' => e = .returned (.int .i64 K) ∧ Below w.heap.size w w' := by
  have h := cmpN hr1 hr2 h1 h2
  rw [hK] at h
  exact h
end

end Go.Proofs.YtceecgklgkiffabGreatDoor

/- Lists and where their blocks lie: what is written into one leaves the others as they were. -/
namespace Go.Proofs.YtceecgklgkiffabGreatDoor
open Go.ChangeShapes Go.WideShapes Go.ChangeAt Go.RowKit
open Na Ar
set_option linter.unusedVariables false
theorem own_blk {k : IntKind} {w : World} {base : Nat} {e : TypeId} {v : Value} {xs : List Int} (h : Own k w base e v xs) {g : Nat} (hg : v.ownBlock = some g) : base ≤ g ∧ g < w.heap.size := by
  rcases h.2 with ⟨hv, _⟩ | ⟨g', cap, cur, hv, hb, hc, _⟩
  · rw [hv] at hg; simp [Value.ownBlock] at hg
  · rw [hv] at hg
    simp only [Value.ownBlock, Option.some.injEq] at hg
    subst hg
    refine ⟨hb, ?_⟩
    by_cases hlt : g' < w.heap.size
    · exact hlt
    · simp [Array.getElem?_eq_none (Nat.le_of_not_lt hlt)] at hc
/-- blocks in which nothing has turned keep a list -/
theorem own_same {k : IntKind} {w w' : World} {base : Nat} {e : TypeId} {v : Value} {xs : List Int} (h : Own k w base e v xs) (hb : ∀ g, v.ownBlock = some g → w'.heap[g]? = w.heap[g]?) : Own k w' base e v xs := by
  obtain ⟨h1, h2⟩ := h
  refine ⟨h1, ?_⟩
  rcases h2 with h2 | ⟨g, c, cur, hv, hg, hc, r⟩
  · exact Or.inl h2
  · refine Or.inr ⟨g, c, cur, hv, hg, ?_, r⟩
    rw [hb g (by rw [hv]; rfl)]; exact hc
/-- a list of words whose block, if it has one, lies from lo on and below hi -/
def Ls (w : World) (lo hi : Nat) (v : Value) (xs : List Int) : Prop := Own .u64 w lo 22 v xs ∧ hi ≤ w.heap.size ∧ ∀ g, v.ownBlock = some g → g < hi
theorem Ls.inn {w w' : World} {lo hi a b : Nat} {v : Value} {xs : List Int} (h : Ls w lo hi v xs) (k : In a b w w') (hd : hi ≤ a ∨ b ≤ lo) : Ls w' lo hi v xs := by
  refine ⟨own_same h.1 fun g hg => ?_, Nat.le_trans h.2.1 k.size, h.2.2⟩
  have h1 := own_blk h.1 hg
  have h2 := h.2.2 g hg
  exact k.block g h1.2 (by omega)
theorem Ls.later {w w' : World} {lo hi : Nat} {v : Value} {xs : List Int} (h : Ls w lo hi v xs) (hb : Below w.heap.size w w') : Ls w' lo hi v xs := h.inn (a := 0) (b := 0) (In.of_below hb) (Or.inr (Nat.zero_le _))
theorem Ls.grown {w w' : World} {lo hi : Nat} {v : Value} {xs : List Int} {row : Option Nat} (h : Ls w lo hi v xs) (hg : w.grownBy w' row) (hne : ∀ g, v.ownBlock = some g → row ≠ some g) : Ls w' lo hi v xs := by
  refine ⟨own_same h.1 fun g hgb => ?_, Nat.le_trans h.2.1 hg.size, h.2.2⟩
  exact hg.block g (own_blk h.1 hgb).2 (fun q => hne g hgb q.symm)
theorem Ls.row {w : World} {lo hi : Nat} {v : Value} {xs : List Int} (h : Ls w lo hi v xs) : ∃ a c, v = .slice a xs.length c ∧ RowC w a xs.length c xs := h.1.readsC
theorem Ls.apart {w : World} {lo hi base k : Nat} {e' : TypeId} {v l : Value} {xs : List Int} {us : List Value} (h : Ls w lo hi v xs) (hl : w.ownsRow base e' 1 l k us) (he : 22 ≠ e') : ∀ g, v.ownBlock = some g → l.ownBlock ≠ some g := by
  intro g hg hlg
  rcases h.1.2 with ⟨h0, _⟩ | ⟨g1, c, cur, hv, _, hc, _⟩
  · rw [h0] at hg; simp [Value.ownBlock] at hg
  · rcases hl.2 with ⟨h0, _⟩ | ⟨g2, c', cur', hv', _, hc', _⟩
    · rw [h0] at hlg; simp [Value.ownBlock] at hlg
    · rw [hv] at hg
      rw [hv'] at hlg
      simp only [Value.ownBlock, Option.some.injEq] at hg hlg
      subst hg hlg
      rw [hc] at hc'
      simp only [Option.some.injEq, Obj.cells.injEq] at hc'
      exact he hc'.2.1
/-- n cells of a block -/
def Arr (w : World) (g n : Nat) (vs : Nat → Value) : Prop := g < w.heap.size ∧ ∀ j, j < n → w.cell? ⟨g, j, none⟩ = some (vs j)
theorem Arr.same {w w' : World} {g n : Nat} {vs : Nat → Value} (h : Arr w g n vs) (hs : w.heap.size ≤ w'.heap.size) (hb : w'.heap[g]? = w.heap[g]?) : Arr w' g n vs :=
  ⟨Nat.lt_of_lt_of_le h.1 hs, fun j hj => by rw [← h.2 j hj]; unfold World.cell?; rw [hb]⟩
theorem Arr.inn {w w' : World} {g n a b : Nat} {vs : Nat → Value} (h : Arr w g n vs) (k : In a b w w') (hd : g < a ∨ b ≤ g) : Arr w' g n vs := h.same k.size (k.block g h.1 hd)
theorem Arr.later {w w' : World} {g n : Nat} {vs : Nat → Value} (h : Arr w g n vs) (hb : Below w.heap.size w w') : Arr w' g n vs := h.same hb.size (hb.block g h.1)
theorem Arr.grown {w w' : World} {g n : Nat} {vs : Nat → Value} {row : Option Nat} (h : Arr w g n vs) (hg : w.grownBy w' row) (hne : row ≠ some g) : Arr w' g n vs := h.same hg.size (hg.block g h.1 (fun q => hne q.symm))
end Go.Proofs.YtceecgklgkiffabGreatDoor

/- NatBits: a number is the sum of its bits. -/
namespace Go.Proofs.YtceecgklgkiffabGreatDoor
open Go.ChangeShapes Go.WideShapes Go.ChangeAt Go.RowKit
open Na Ar
set_option linter.unusedVariables false
namespace Na
theorem pow_zeros (i : Nat) : zerosN (2 ^ i) = i := zerosN_eq (u := 1) (by simp) (by omega) (by omega)
end Na
section
variable {a : Option Addr} {n c1 : Nat} {xs : List Int} {A : Int} {w : World}
theorem zerosQ (hr1 : RowC w a n c1 xs) (h1 : Nm xs A) {b : Int} (hb : zerosN A = b) :
    Calls Tryz.prog 67 #[.slice a n c1] w fun e w' => e = .returned (.int .i64 b) ∧ Below w.heap.size w w' := by
  have l1 := hr1.1.1
  have h := natZeros_any hr1 h1.ws (by have := h1.len; omega)
  rw [h1.num, hb] at h
  exact h
end
end Go.Proofs.YtceecgklgkiffabGreatDoor

