import Derived.Test.YtalglldkjbinbaaGreatDoorBaseC
import Derived.Test.YtalglldkjbinbaaGreatDoorBaseB
import Derived.KernelRfl
import Derived.Laws.RangeAny
import Derived.Lib.OthersKept
import Derived.Lib.Strings
import Derived.Lib.TrimByte
import Derived.Lib.Walk
import Derived.Laws.Strings3
import Derived.WalkLawsBesides
import Derived.WalkSpells
import Derived.Deep.RegionWith
import Derived.Deep.DeepCutAuto
import Derived.Laws.IdiomStrings
/- package radix: Five, Ten. -/
namespace Go.Proofs.YtalglldkjbinbaaGreatDoor
open Go.ChangeShapes Go.WideShapes Go.ChangeAt Go.RowKit
open Na Ar
set_option linter.unusedVariables false
namespace Na
theorem five_most : Nat.blt ((5 : Nat) ^ 112899) ((18446744073709551616 : Nat) ^ 4096) = true := by kernel_rfl
theorem ten_most : Nat.blt ((10 : Nat) ^ 78913) ((18446744073709551616 : Nat) ^ 4096) = true := by kernel_rfl
theorem pow_lt {b m n K : Nat} (hb : 1 ≤ b) (h0 : Nat.blt (b ^ m) ((18446744073709551616 : Nat) ^ K) = true) (hn : n ≤ m) : Lt ((b : Int) ^ n) K := by
  refine ⟨Int.pow_nonneg (by omega), ?_⟩
  have h : b ^ m < 18446744073709551616 ^ K := Nat.blt_eq.mp h0
  have a : b ^ n ≤ b ^ m := Nat.pow_le_pow_right hb hn
  have c : ((b ^ n : Nat) : Int) < ((18446744073709551616 ^ K : Nat) : Int) := Int.ofNat_lt.mpr (Nat.lt_of_le_of_lt a h)
  rw [Int.natCast_pow, Int.natCast_pow] at c
  exact c
theorem five_lt {n : Nat} (hn : n ≤ 112899) : Lt ((5 : Int) ^ n) 4096 := pow_lt (b := 5) (by omega) five_most hn
theorem ten_lt {n : Nat} (hn : n ≤ 78913) : Lt ((10 : Int) ^ n) 4096 := pow_lt (b := 10) (by omega) ten_most hn
theorem five_two (n : Nat) : (5 : Int) ^ n * 2 ^ n = 10 ^ n := by rw [← Int.mul_pow]; rfl
end Na
/-- what Five and Ten answer -/
def pwE (M n : Int) : Int := if n < 0 then 31 else if M < n then 21 else 0
def pwL (b M n : Int) : List Int := if n < 0 then [] else if M < n then [] else words (b ^ n.toNat)
theorem five_any (n : Int) (h0 : -9223372036854775808 ≤ n) (h9 : n ≤ 9223372036854775807) (w : World) :
    Calls Tryz.prog 52 #[.int .i64 n] w fun e w' => ∃ v, e = .returned (.tuple #[v, .int .i64 (pwE 112899 n)]) ∧ Own .u64 w' w.heap.size 22 v (pwL 5 112899 n) ∧ Below w.heap.size w w' := by
  by_cases hbig : 112899 < n
  · have E1 : Hid (pwE 112899 n = 21) := by show _ = _; unfold pwE; rw [if_neg (by omega), if_pos hbig]
    have E2 : Hid (pwL 5 112899 n = []) := by show _ = _; unfold pwL; rw [if_neg (by omega), if_pos hbig]
    go_enter Tryz.func52, Tryz.ntmps52
    go_wp2
    go_ret2
    exact ⟨_, by rw [E1.out]; rfl, by rw [E2.out]; exact own_nil _ _ _ _, Below.refl _ _⟩
  · have hfr := natFrom_any (v := 5) (by omega) w
    have d5 := Dg_words 5
    have n5 := num_words (show (0 : Int) ≤ 5 by omega)
    have l5 := words_len1 (v := 5) (by omega)
    have E : Hid (powE 5 n = pwE 112899 n ∧ powL 5 n = pwL 5 112899 n) := by
      show _ ∧ _
      unfold powE powL pwE pwL
      by_cases hneg : n < 0
      · rw [if_pos hneg, if_pos hneg, if_pos hneg, if_pos hneg]; exact ⟨rfl, rfl⟩
      · rw [if_neg hneg, if_neg hneg, if_neg hneg, if_neg hneg, if_neg hbig, if_neg hbig]
        have f := (five_lt (n := n.toNat) (by omega)).fits (Nat.le_refl _)
        exact ⟨f.2, f.1⟩
    go_enter Tryz.func52, Tryz.ntmps52
    go_wp2_with fail
    refine hfr.mono ?_
    rintro e w1 ⟨o, rfl, ho, hb1⟩
    obtain ⟨oa, oc, rfl, hor⟩ := ho.readsC
    have hp := pow_any hor d5 (by omega) n h0 h9
    rw [n5, E.out.1, E.out.2] at hp
    generalize (words 5).length = l at *
    clear hfr ho
    go_wp2_with fail
    refine hp.mono ?_
    rintro e w2 ⟨v, rfl, hv, hb2⟩
    have hv2 := hv.wider hb1.size
    have hB := hb1.trans (hb2.mono hb1.size)
    clear hp hv
    go_wp2
    go_ret2
    exact ⟨_, rfl, hv2, hB⟩
theorem ten_any (n : Int) (h0 : -9223372036854775808 ≤ n) (h9 : n ≤ 9223372036854775807) (w : World) :
    Calls Tryz.prog 24 #[.int .i64 n] w fun e w' => ∃ v, e = .returned (.tuple #[v, .int .i64 (pwE 78913 n)]) ∧ Own .u64 w' w.heap.size 22 v (pwL 10 78913 n) ∧ Below w.heap.size w w' := by
  by_cases hbig : 78913 < n
  · have E1 : Hid (pwE 78913 n = 21) := by show _ = _; unfold pwE; rw [if_neg (by omega), if_pos hbig]
    have E2 : Hid (pwL 10 78913 n = []) := by show _ = _; unfold pwL; rw [if_neg (by omega), if_pos hbig]
    go_enter Tryz.func24, Tryz.ntmps24
    go_wp2
    go_ret2
    exact ⟨_, by rw [E1.out]; rfl, by rw [E2.out]; exact own_nil _ _ _ _, Below.refl _ _⟩
  · have hf := five_any n h0 h9 w
    by_cases hneg : n < 0
    · have E1 : Hid (pwE 78913 n = 31) := by show _ = _; unfold pwE; rw [if_pos hneg]
      have E2 : Hid (pwL 10 78913 n = []) := by show _ = _; unfold pwL; rw [if_pos hneg]
      have e3 : pwE 112899 n = 31 := by unfold pwE; rw [if_pos hneg]
      rw [e3] at hf
      clear e3
      go_enter Tryz.func24, Tryz.ntmps24
      go_wp2_with fail
      refine hf.mono ?_
      rintro e w1 ⟨o, rfl, ho, hb1⟩
      clear ho hf
      go_wp2
      go_ret2
      exact ⟨_, by rw [E1.out]; rfl, by rw [E2.out]; exact own_nil _ _ _ _, hb1⟩
    · obtain ⟨t, rfl⟩ : ∃ t : Nat, n = (t : Int) := ⟨n.toNat, by omega⟩
      have ht : t ≤ 78913 := by omega
      have E1 : Hid (pwE 78913 (t : Int) = 0) := by show _ = _; unfold pwE; rw [if_neg (by omega), if_neg (by omega)]
      have E2 : Hid (pwL 10 78913 (t : Int) = words (10 ^ t)) := by show _ = _; unfold pwL; rw [if_neg (by omega), if_neg (by omega)]; rfl
      have e3 : pwE 112899 (t : Int) = 0 := by unfold pwE; rw [if_neg (by omega), if_neg (by omega)]
      have e4 : pwL 5 112899 (t : Int) = words (5 ^ t) := by unfold pwL; rw [if_neg (by omega), if_neg (by omega)]; rfl
      rw [e3, e4] at hf
      have l5 := five_lt (n := t) (by omega)
      have l10 := ten_lt (n := t) ht
      have d5 := Dg_words ((5 : Int) ^ t)
      have n5 := num_words l5.1
      have w5 := l5.len
      generalize hF : (5 : Int) ^ t = F at *
      have hFT : F * 2 ^ t = 10 ^ t := by rw [← hF]; exact five_two t
      clear e3 e4 hneg hbig hF
      go_enter Tryz.func24, Tryz.ntmps24
      go_wp2_with fail
      refine hf.mono ?_
      rintro e w1 ⟨o, rfl, ho, hb1⟩
      obtain ⟨oa, oc, rfl, hor⟩ := ho.readsC
      have hs := natShl_any hor d5 (by omega) (t : Int) (by omega)
      have s1 : shlE F (t : Int) = 0 := by unfold shlE; rw [if_neg (by omega), Int.toNat_natCast, hFT]; exact (l10.fits (Nat.le_refl _)).2
      have s2 : shlL F (t : Int) = words (10 ^ t) := by unfold shlL; rw [if_neg (by omega), Int.toNat_natCast, hFT]; exact (l10.fits (Nat.le_refl _)).1
      rw [n5, s1, s2] at hs
      generalize (words F).length = l at *
      clear hf ho s1 s2 hFT
      go_wp2_with fail
      refine hs.mono ?_
      rintro e w2 ⟨v, rfl, hv, hb2⟩
      have hv2 := hv.wider hb1.size
      have hB := hb1.trans (hb2.mono hb1.size)
      clear hs hv
      go_wp2
      go_ret2
      exact ⟨_, by rw [E1.out]; rfl, by rw [E2.out]; exact hv2, hB⟩
end Go.Proofs.YtalglldkjbinbaaGreatDoor

/- package radix: what a digit stands for; known; step. -/
namespace Go.Proofs.YtalglldkjbinbaaGreatDoor
open Go.ChangeShapes Go.WideShapes Go.ChangeAt Go.RowKit
open Na Ar
set_option linter.unusedVariables false
namespace Na
/-- a rune's value as a digit; 36: it is none -/
def valN (r : Int) : Int := if 48 ≤ r ∧ r ≤ 57 then r - 48 else if 97 ≤ r ∧ r ≤ 122 then r - 87 else if 65 ≤ r ∧ r ≤ 90 then r - 55 else 36
theorem valN_bd (r : Int) : 0 ≤ valN r ∧ valN r ≤ 36 := by unfold valN; split <;> (try split) <;> (try split) <;> omega
theorem valN_high {r : Int} (h : 128 ≤ r) : valN r = 36 := by unfold valN; rw [if_neg (by omega), if_neg (by omega), if_neg (by omega)]
end Na
def knownB (b : Int) : Bool := decide (2 ≤ b ∧ b ≤ 36)
/-- the greatest power of the base that is a word -/
def IsStep (b : Int) (c : Nat) : Prop := 1 ≤ c ∧ c ≤ 64 ∧ b ^ c < 18446744073709551616 ∧ 18446744073709551616 ≤ b ^ (c + 1)
theorem step_small {b : Int} {c : Nat} (hb : 2 ≤ b) (h : b ^ c < 18446744073709551616) : c < 64 := by
  by_cases g : c < 64
  · exact g
  · have a : (2 : Int) ^ 64 ≤ 2 ^ c := p2mono (by omega)
    have e : (2 : Int) ^ c ≤ b ^ c := by
      induction c with
      | zero => simp
      | succ c _ =>
        have : ∀ k : Nat, (2 : Int) ^ k ≤ b ^ k := by
          intro k
          induction k with
          | zero => simp
          | succ k ih =>
            rw [Int.pow_succ, Int.pow_succ]
            exact Int.mul_le_mul ih hb (by omega) (Int.pow_nonneg (by omega))
        exact this _
    have f : (2 : Int) ^ 64 = 18446744073709551616 := by decide
    omega
end Go.Proofs.YtalglldkjbinbaaGreatDoor

/- package radix: wrong; strings.TrimLeft at one zero. -/
namespace Go.Proofs.YtalglldkjbinbaaGreatDoor
open Go.ChangeShapes Go.WideShapes Go.ChangeAt Go.RowKit
open Na Ar
set_option linter.unusedVariables false
namespace Na
/-- the value of byte i as a digit -/
def dgt (s : ByteArray) (i : Nat) : Int := valN ((s.get! i).toNat : Int)
theorem get_byte {s : ByteArray} {i : Nat} (h : i < s.size) : s.get! i = s[i]'h := get_at s i h
/-- where the first byte is that is no digit, and whether there is one -/
def WrongIs (s : ByteArray) (b : Int) (at' : Nat) (ok : Bool) : Prop :=
  (ok = true ∧ at' < s.size ∧ b ≤ dgt s at' ∧ ∀ i, i < at' → dgt s i < b) ∨ (ok = true ∧ s.size = 0 ∧ at' = 0) ∨ (ok = false ∧ 0 < s.size ∧ at' = 0 ∧ ∀ i, i < s.size → dgt s i < b)
end Na
/-- t is s from byte k on -/
def From (s t : ByteArray) (k : Nat) : Prop := t.data.toList = s.data.toList.drop k ∧ k ≤ s.size
theorem From.size {s t : ByteArray} {k : Nat} (h : From s t k) : t.size = s.size - k := by rw [Lib.size_eq, h.1, List.length_drop, ← Lib.size_eq]
theorem byte_list (s : ByteArray) (i : Nat) : s.get! i = s.data.toList.getD i 0 := by
  by_cases h : i < s.size
  · rw [get_byte h, List.getD_eq_getElem?_getD]
    have hl : i < s.data.toList.length := by rw [← Lib.size_eq]; exact h
    rw [List.getElem?_eq_getElem hl]
    rfl
  · have hl : ¬ i < s.data.toList.length := by rw [← Lib.size_eq]; exact h
    rw [List.getD_eq_getElem?_getD, List.getElem?_eq_none (by omega)]
    have : ¬ i < s.data.size := by simpa using hl
    show s.data[i]! = _
    rw [getElem!_neg s.data i this]; rfl
theorem From.byte {s t : ByteArray} {k : Nat} (h : From s t k) (i : Nat) : t.get! i = s.get! (k + i) := by
  rw [byte_list, byte_list, h.1]
  simp [List.getD_eq_getElem?_getD, List.getElem?_drop]
theorem From.next {s t : ByteArray} {k : Nat} (h : From s t k) (hk : k < s.size) : From s (t.extract 1 t.size) (k + 1) := by
  refine ⟨?_, by omega⟩
  have e : (t.extract 1 t.size).data.toList = (t.data.toList.drop 1) := by
    have := ByteArray.data_extract (a := t) (b := 1) (e := t.size)
    rw [this]
    simp
    rw [List.take_of_length_le]
    rw [List.length_tail, ← Lib.size_eq]
    exact Nat.le_refl _
  rw [e, h.1, List.drop_drop]
/-- t is s without the zeros ahead -/
def TrimIs (s t : ByteArray) : Prop := ∃ k, From s t k ∧ (∀ j, j < k → s.get! j = 48) ∧ (k < s.size → s.get! k ≠ 48)
end Go.Proofs.YtalglldkjbinbaaGreatDoor

/- words.Times, radix.behind. -/
namespace Go.Proofs.YtalglldkjbinbaaGreatDoor
open Go.ChangeShapes Go.WideShapes Go.ChangeAt Go.RowKit
open Na Ar
set_option linter.unusedVariables false
namespace Na
def tmLo (y x d : Int) : Int := (y * x + d) % 18446744073709551616
def tmHi (y x d : Int) : Int := (y * x + d) / 18446744073709551616
theorem tm_lo (y x d : Int) : addLo (mulLo y x) d 0 = tmLo y x d := by unfold addLo mulLo tmLo; omega
theorem U_tmHi {y x d : Int} (hy : U y) (hx : U x) (hd : U d) : U (tmHi y x d) := by
  unfold U at *
  have m0 : 0 ≤ y * x := Int.mul_nonneg hy.1 hx.1
  have m1 : y * x ≤ 18446744073709551615 * 18446744073709551615 := Int.mul_le_mul (by omega) (by omega) hx.1 (by omega)
  unfold tmHi
  generalize y * x = z at *
  omega
theorem tm_hi {y x d : Int} (hy : U y) (hx : U x) (hd : U d) : IntKind.u64.wrap (mulHi y x + addHi (mulLo y x) d 0) = tmHi y x d := by
  have h := U_tmHi hy hx hd
  unfold U at *
  rw [IntKind.wrap_u64]
  unfold mulHi addHi mulLo
  unfold tmHi at *
  generalize y * x = z at *
  omega
/-- k words are multiplied -/
def TmI (ds : List Int) (x c0 : Int) (k : Nat) (d : Int) (us : List Int) : Prop := Ws us ∧ us.length = ds.length ∧ U d ∧ us.drop k = ds.drop k ∧
  num us + 18446744073709551616 ^ k * d = num ds + (x - 1) * num (ds.take k) + c0
theorem tmI_start {ds : List Int} {x c0 : Int} (h : Ws ds) (hc : U c0) : TmI ds x c0 0 c0 ds := ⟨h, rfl, hc, rfl, by simp [num, val]⟩
theorem tmI_step {ds us : List Int} {x c0 d : Int} {k : Nat} (h : TmI ds x c0 k d us) (hx : U x) (hk : k < us.length) : TmI ds x c0 (k + 1) (tmHi (us.getD k 0) x d) (us.set k (tmLo (us.getD k 0) x d)) := by
  obtain ⟨h1, h2, h3, h4, h5⟩ := h
  have gu : U (us.getD k 0) := h1.get hk
  have ed : us.getD k 0 = ds.getD k 0 := getD_drop h4
  refine ⟨h1.set _ (by unfold tmLo; omega), by rw [List.length_set]; exact h2, U_tmHi gu hx h3, ?_, ?_⟩
  · rw [List.drop_set_of_lt (by omega)]
    have := congrArg (List.drop 1) h4
    rw [List.drop_drop, List.drop_drop] at this
    exact this
  · have e : us.getD k 0 + (x - 1) * us.getD k 0 + d = tmLo (us.getD k 0) x d + 18446744073709551616 * tmHi (us.getD k 0) x d := by
      have q : us.getD k 0 + (x - 1) * us.getD k 0 = us.getD k 0 * x := by grind
      rw [q]
      unfold tmLo tmHi
      generalize us.getD k 0 * x = z
      omega
    have p := put_word (j := k) (c := d) (p := (x - 1) * us.getD k 0) hk e
    have t : num (ds.take (k + 1)) = num (ds.take k) + 18446744073709551616 ^ k * ds.getD k 0 := take_valB (by omega)
    rw [p, h5, t, ed]
    generalize (18446744073709551616 : Int) ^ k = P
    generalize ds.getD k 0 = y
    generalize num (ds.take k) = V
    grind
theorem tmI_done {ds us : List Int} {x c0 d : Int} (h : TmI ds x c0 ds.length d us) : num us + 18446744073709551616 ^ ds.length * d = num ds * x + c0 := by
  have e := h.2.2.2.2
  rw [List.take_of_length_le (Nat.le_refl _)] at e
  rw [e]
  generalize num ds = N
  grind
/-- what is normal stays so -/
theorem behind_list {T x c d : Int} {us : List Int} (hT : 0 ≤ T) (hx : 1 ≤ x) (hc : 0 ≤ c) (h : TmI (words T) x c (words T).length d us) : (d = 0 → us = words (T * x + c)) ∧ (d ≠ 0 → us ++ [d] = words (T * x + c)) := by
  have e := tmI_done h
  rw [num_words hT] at e
  have hU := h.2.2.1
  have hm : T ≤ T * x + c := by
    have := Int.mul_le_mul_of_nonneg_left hx hT
    omega
  constructor
  · intro h0
    rw [h0, Int.mul_zero, Int.add_zero] at e
    have s := words_strip h.1
    rw [e] at s
    have l1 := words_mono hT hm
    have l2 := strip_length us
    rw [s] at l2
    have f := strip_full (xs := us) (by rw [s, h.2.1]; have := h.2.1; omega)
    rw [← s, f]
  · intro h0
    have n : num (us ++ [d]) = T * x + c := by
      show val _ _ = _
      rw [val_append, h.2.1]
      have : val 18446744073709551616 us = num us := rfl
      rw [this, ← e]
      simp [val]
    have w : Ws (us ++ [d]) := h.1.append (Dg.one hU)
    have s := words_strip w
    rw [n, strip_end us d h0] at s
    exact s
end Na
end Go.Proofs.YtalglldkjbinbaaGreatDoor

/- radix.behind, radix.number. -/
namespace Go.Proofs.YtalglldkjbinbaaGreatDoor
open Go.ChangeShapes Go.WideShapes Go.ChangeAt Go.RowKit
open Na Ar
open Go.Lib
set_option linter.unusedVariables false
namespace Na
/-- the number that the first i bytes say -/
def numB (s : ByteArray) (b : Int) : Nat → Int
  | 0 => 0
  | i + 1 => numB s b i * b + dgt s i
theorem ipow_monoB {b : Int} (h : 1 ≤ b) {m n : Nat} (hmn : m ≤ n) : b ^ m ≤ b ^ n := by
  obtain ⟨k, rfl⟩ : ∃ k, n = m + k := ⟨n - m, by omega⟩
  rw [Int.pow_add]
  have p : 0 ≤ b ^ m := Int.pow_nonneg (by omega)
  have q : 1 ≤ b ^ k := by have : 0 < b ^ k := Int.pow_pos (by omega); omega
  have := Int.mul_le_mul_of_nonneg_left q p
  omega
theorem dgt_bd (s : ByteArray) (i : Nat) : 0 ≤ dgt s i ∧ dgt s i ≤ 36 := valN_bd _
theorem numB_nonneg {s : ByteArray} {b : Int} (hb : 0 ≤ b) (i : Nat) : 0 ≤ numB s b i := by
  induction i with
  | zero => exact Int.le_refl _
  | succ i ih =>
    have := dgt_bd s i
    have m := Int.mul_nonneg ih hb
    show 0 ≤ numB s b i * b + dgt s i
    omega
theorem numB_lt {s : ByteArray} {b : Int} (hb : 2 ≤ b) {n : Nat} (h : ∀ i, i < n → dgt s i < b) : numB s b n < b ^ n := by
  induction n with
  | zero => simp [numB]
  | succ n ih =>
    have a := ih (fun i hi => h i (by omega))
    have c := h n (by omega)
    show numB s b n * b + dgt s n < b ^ (n + 1)
    rw [Int.pow_succ]
    have m := Int.mul_le_mul_of_nonneg_right (show numB s b n + 1 ≤ b ^ n by omega) (show 0 ≤ b by omega)
    rw [Int.add_mul] at m
    omega
theorem numB_len {s : ByteArray} {b : Int} (hb : 2 ≤ b) (hb9 : b ≤ 36) {n : Nat} (h : ∀ i, i < n → dgt s i < b) : (words (numB s b n)).length ≤ n := by
  have l : Lt (numB s b n) n := by
    refine ⟨numB_nonneg (by omega) n, Int.lt_of_lt_of_le (numB_lt hb h) ?_⟩
    have : ∀ k : Nat, b ^ k ≤ (18446744073709551616 : Int) ^ k := by
      intro k
      induction k with
      | zero => simp
      | succ k ih =>
        rw [Int.pow_succ, Int.pow_succ]
        exact Int.mul_le_mul ih (by omega) (by omega) (Int.pow_nonneg (by omega))
    exact this n
  exact l.len
/-- what is read, in its parts: c digits stand by themselves -/
def NuI (s : ByteArray) (b : Int) (pos c : Nat) (T P : Int) : Prop := 0 ≤ T ∧ 0 ≤ P ∧ P < b ^ c ∧ T * b ^ c + P = numB s b pos
theorem nuI_next {s : ByteArray} {b : Int} {pos c : Nat} {T P : Int} (h : NuI s b pos c T P) (hb : 2 ≤ b) (hd : dgt s pos < b) : NuI s b (pos + 1) (c + 1) T (P * b + dgt s pos) := by
  obtain ⟨h1, h2, h3, h4⟩ := h
  have d := dgt_bd s pos
  have m := Int.mul_nonneg h2 (show 0 ≤ b by omega)
  refine ⟨h1, by omega, ?_, ?_⟩
  · rw [Int.pow_succ]
    have m := Int.mul_le_mul_of_nonneg_right (show P + 1 ≤ b ^ c by omega) (show 0 ≤ b by omega)
    rw [Int.add_mul] at m
    omega
  · show _ = numB s b pos * b + dgt s pos
    rw [← h4, Int.pow_succ]; grind
theorem nuI_flush {s : ByteArray} {b : Int} {pos c : Nat} {T P : Int} (h : NuI s b pos c T P) : NuI s b pos 0 (T * b ^ c + P) 0 := by
  obtain ⟨h1, h2, h3, h4⟩ := h
  have p : 0 ≤ T * b ^ c := Int.mul_nonneg h1 (by omega)
  exact ⟨by omega, by omega, by simp, by simp; exact h4⟩
theorem nuI_le {s : ByteArray} {b : Int} {pos c : Nat} {T P : Int} (h : NuI s b pos c T P) (hb : 2 ≤ b) : T ≤ numB s b pos := by
  obtain ⟨h1, h2, h3, h4⟩ := h
  have p : 0 < b ^ c := Int.pow_pos (by omega)
  have := Int.mul_le_mul_of_nonneg_left (show 1 ≤ b ^ c by omega) h1
  omega
end Na
theorem Own.iterAt {w : World} {g k : Nat} {e : TypeId} {v : Value} {xs : List Int} (h : Own .u64 w (g + 1) e v xs) (s : ByteArray) (pos : Nat) : Own .u64 (w.iterAt g s pos) (g + 1) e v xs := by
  obtain ⟨h1, h2⟩ := h
  refine ⟨h1, ?_⟩
  rcases h2 with h2 | ⟨g2, c, cur, hv, hb2, hc, r⟩
  · exact Or.inl h2
  · refine Or.inr ⟨g2, c, cur, hv, hb2, ?_, r⟩
    rw [iterAt_other w g g2 s pos (by omega)]; exact hc
theorem iterPos_of {w : World} {g : Nat} {s : ByteArray} {p : Nat} (h : w.heap[g]? = some (.stringIter s p)) : w.iterPos g = p := by
  unfold World.iterPos
  rw [h]
theorem dgt_ascii {s : ByteArray} {i : Nat} {b : Int} (hi : i < s.size) (hb : b ≤ 36) (h : dgt s i < b) : (s[i]'hi).toNat < 128 := by
  by_cases g : (s[i]'hi).toNat < 128
  · exact g
  · exfalso
    unfold dgt at h
    rw [get_byte hi, valN_high (by omega)] at h
    omega
end Go.Proofs.YtalglldkjbinbaaGreatDoor

/- radix.surelyHuge, api.Wrap, radix.Parse. -/
namespace Go.Proofs.YtalglldkjbinbaaGreatDoor
open Go.ChangeShapes Go.WideShapes Go.ChangeAt Go.RowKit
open Na Ar
open Go.Lib
set_option linter.unusedVariables false
namespace Na
theorem sure_huge {b X : Int} {n K β : Nat} (hb : 2 ≤ b) (h2 : (2 : Int) ^ β ≤ b ^ K) (hq : 262144 ≤ n / K * β) (hX : b ^ n ≤ X) : 4096 < (words X).length := by
  refine dig_len_ge ?_
  rw [wpow2]
  have e : 64 * 4096 = 262144 := by omega
  rw [e]
  have a1 : (2 : Int) ^ 262144 ≤ 2 ^ (n / K * β) := p2mono hq
  have a2 : (2 : Int) ^ (n / K * β) ≤ b ^ (K * (n / K)) := by
    rw [Nat.mul_comm, Int.pow_mul, Int.pow_mul]
    exact ipow_base (Int.le_of_lt (p2pos β)) h2 _
  have a3 : b ^ (K * (n / K)) ≤ b ^ n := ipow_monoB (by omega) (Nat.mul_div_le n K)
  omega
end Na
namespace Na
theorem dgt_zero {s : ByteArray} {i : Nat} (h : s.get! i = 48) : dgt s i = 0 := by unfold dgt; rw [h]; rfl
theorem dgt_pos {s : ByteArray} {i : Nat} (h : s.get! i ≠ 48) : 1 ≤ dgt s i := by
  unfold dgt
  have q : ((s.get! i).toNat : Int) ≠ 48 := by
    intro e
    exact h (UInt8.toNat_inj.1 (by show (s.get! i).toNat = 48; omega))
  generalize ((s.get! i).toNat : Int) = r at *
  unfold valN
  split
  · omega
  · split
    · omega
    · split <;> omega
theorem from_dgt {s t : ByteArray} {k : Nat} (h : From s t k) (i : Nat) : dgt t i = dgt s (k + i) := by unfold dgt; rw [h.byte]
theorem numB_zeros {s : ByteArray} {b : Int} {k : Nat} (h : ∀ j, j < k → s.get! j = 48) : numB s b k = 0 := by
  induction k with
  | zero => rfl
  | succ k ih =>
    show numB s b k * b + dgt s k = 0
    rw [ih (fun j hj => h j (by omega)), dgt_zero (h k (by omega))]; simp
theorem numB_from {s t : ByteArray} {b : Int} {k : Nat} (h : From s t k) (hz : ∀ j, j < k → s.get! j = 48) (i : Nat) : numB t b i = numB s b (k + i) := by
  induction i with
  | zero => rw [Nat.add_zero, numB_zeros hz]; rfl
  | succ i ih =>
    show numB t b i * b + dgt t i = numB s b (k + i) * b + dgt s (k + i)
    rw [ih, from_dgt h]
theorem numB_ge {s : ByteArray} {b : Int} (hb : 2 ≤ b) (h0 : 1 ≤ dgt s 0) (n : Nat) : b ^ n ≤ numB s b (n + 1) := by
  induction n with
  | zero => show b ^ 0 ≤ 0 * b + dgt s 0; simp; omega
  | succ n ih =>
    show b ^ (n + 1) ≤ numB s b (n + 1) * b + dgt s (n + 1)
    have d := dgt_bd s (n + 1)
    have m := Int.mul_le_mul_of_nonneg_right ih (show 0 ≤ b by omega)
    rw [Int.pow_succ]
    omega
end Na
/-- what Parse gives of digits that say T -/
def ParsePost (w : World) (T : Int) (e : Ending) (w' : World) : Prop :=
  ((words T).length ≤ 4096 ∧ ∃ v, e = .returned (.tuple #[v, .nilIface]) ∧ Own .u64 w' w.heap.size 22 v (words T) ∧ Below w.heap.size w w') ∨
  (4096 < (words T).length ∧ ∃ t a, e = .returned (.tuple #[.slice none 0 0, .iface t (.pointer (some a))]) ∧ Below w.heap.size w w')
end Go.Proofs.YtalglldkjbinbaaGreatDoor

/- radix.layWord: digits, laid into bytes. -/
namespace Go.Proofs.YtalglldkjbinbaaGreatDoor
open Go.ChangeShapes Go.WideShapes Go.ChangeAt Go.RowKit
open Na Ar
set_option linter.unusedVariables false
theorem info_u8 : (Tryz.prog.info? 5).map (fun i => (i.zero, i.size, i.bytes)) = some (some (.int .u8 0), 1, 1) := by kernel_rfl
namespace Na
/-- a digit's byte -/
def dch (d : Int) : Int := if d < 10 then 48 + d else 87 + d
/-- the lowest m digits, the highest first -/
def laidD (b : Int) : Nat → Int → List Int
  | 0, _ => []
  | m + 1, X => laidD b m (X / b) ++ [dch (X % b)]
theorem laidD_length (b : Int) (m : Nat) (X : Int) : (laidD b m X).length = m := by
  induction m generalizing X with
  | zero => rfl
  | succ m ih => simp [laidD, ih]
theorem laidD_cons {b : Int} (hb : 2 ≤ b) (m : Nat) (X : Int) : laidD b (m + 1) X = dch (X / b ^ m % b) :: laidD b m X := by
  induction m generalizing X with
  | zero => simp [laidD]
  | succ m ih =>
    have e : laidD b (m + 1 + 1) X = laidD b (m + 1) (X / b) ++ [dch (X % b)] := rfl
    rw [e, ih (X / b)]
    have d : X / b / b ^ m = X / b ^ (m + 1) := by rw [Int.ediv_ediv_of_nonneg (by omega), Int.pow_succ, Int.mul_comm]
    rw [d]
    rfl
theorem laidD_split {b : Int} (hb : 2 ≤ b) (m k : Nat) (X : Int) : laidD b (m + k) X = laidD b m (X / b ^ k) ++ laidD b k X := by
  induction k generalizing X with
  | zero => simp [laidD]
  | succ k ih =>
    have e : laidD b (m + (k + 1)) X = laidD b (m + k) (X / b) ++ [dch (X % b)] := rfl
    rw [e, ih (X / b)]
    have d : X / b / b ^ k = X / b ^ (k + 1) := by rw [Int.ediv_ediv_of_nonneg (by omega), Int.pow_succ, Int.mul_comm]
    rw [d, List.append_assoc]
    rfl
theorem laidD_mod {b : Int} (hb : 2 ≤ b) (k : Nat) (X : Int) : laidD b k (X % b ^ k) = laidD b k X := by
  induction k generalizing X with
  | zero => rfl
  | succ k ih =>
    have e1 : laidD b (k + 1) (X % b ^ (k + 1)) = laidD b k (X % b ^ (k + 1) / b) ++ [dch (X % b ^ (k + 1) % b)] := rfl
    have e2 : laidD b (k + 1) X = laidD b k (X / b) ++ [dch (X % b)] := rfl
    have p : 0 < b ^ k := Int.pow_pos (by omega)
    have f1 : X % b ^ (k + 1) % b = X % b := by
      rw [Int.pow_succ, Int.mul_comm]
      exact Int.emod_emod_of_dvd X (Int.dvd_mul_right b (b ^ k))
    have f2 : X % b ^ (k + 1) / b = X / b % b ^ k := by
      rw [Int.pow_succ]
      have d := Int.mul_ediv_add_emod X b
      have d2 := Int.mul_ediv_add_emod (X / b) (b ^ k)
      have m0 := Int.emod_nonneg X (show b ≠ 0 by omega)
      have m1 := Int.emod_lt_of_pos X (show 0 < b by omega)
      have n0 := Int.emod_nonneg (X / b) (show b ^ k ≠ 0 by omega)
      have n1 := Int.emod_lt_of_pos (X / b) p
      generalize X / b / b ^ k = Q at *
      generalize X / b % b ^ k = R at *
      generalize X % b = r at *
      generalize b ^ k = P at *
      have e : X = (r + b * R) + P * b * Q := by rw [← d, ← d2]; grind
      rw [e, Int.add_mul_emod_self_left]
      have lt : r + b * R < P * b := by
        have := Int.mul_le_mul_of_nonneg_left (show R + 1 ≤ P by omega) (show 0 ≤ b by omega)
        rw [Int.mul_comm P b]
        rw [Int.mul_add] at this
        omega
      have nn : 0 ≤ b * R := Int.mul_nonneg (by omega) n0
      rw [Int.emod_eq_of_lt (by omega) lt, Int.add_mul_ediv_left _ _ (by omega), Int.ediv_eq_zero_of_lt m0 m1]
      omega
    rw [e1, e2, f1, f2, ih]
theorem over_set {ds ps : List Int} {p : Nat} (h : p + 1 + ps.length ≤ ds.length) (x : Int) : (over ds ps (p + 1)).set p x = over ds (x :: ps) p := by
  unfold over
  have e : ds.take (p + 1) = ds.take p ++ [ds.getD p 0] := take_next (by omega)
  rw [e]
  have l : (ds.take p).length = p := by rw [List.length_take]; omega
  rw [List.append_assoc, List.append_assoc, List.set_append_right _ _ (by omega), l, Nat.sub_self]
  simp
  congr 1
  omega
theorem over_over {ds A B : List Int} {o : Nat} (h : o + A.length + B.length ≤ ds.length) : over (over ds A o) B (o + A.length) = over ds (A ++ B) o := by
  unfold over
  have l : (ds.take o).length = o := by rw [List.length_take]; omega
  have t : (ds.take o ++ A ++ ds.drop (o + A.length)).take (o + A.length) = ds.take o ++ A := by
    rw [List.take_append_of_le_length (by simp [l])]
    rw [List.take_of_length_le (by simp [l])]
  have d : (ds.take o ++ A ++ ds.drop (o + A.length)).drop (o + A.length + B.length) = ds.drop (o + A.length + B.length) := by
    rw [List.drop_append, List.drop_of_length_le (by simp [l] <;> omega), List.nil_append, List.drop_drop]
    congr 1
    simp [l] <;> omega
  rw [t, d]
  simp <;> (congr 1; omega)
theorem dig_all : ∀ d : Fin 36, ((#[48, 49, 50, 51, 52, 53, 54, 55, 56, 57, 97, 98, 99, 100, 101, 102, 103, 104, 105, 106, 107, 108, 109, 110, 111, 112, 113, 114, 115, 116, 117, 118, 119, 120, 121, 122] : Array UInt8)[d.val]!).toNat = (if d.val < 10 then 48 + d.val else 87 + d.val) := by decide
theorem dig_nat (k : Nat) (hk : k < 36) (h : k < (⟨#[48, 49, 50, 51, 52, 53, 54, 55, 56, 57, 97, 98, 99, 100, 101, 102, 103, 104, 105, 106, 107, 108, 109, 110, 111, 112, 113, 114, 115, 116, 117, 118, 119, 120, 121, 122]⟩ : ByteArray).size) : (((⟨#[48, 49, 50, 51, 52, 53, 54, 55, 56, 57, 97, 98, 99, 100, 101, 102, 103, 104, 105, 106, 107, 108, 109, 110, 111, 112, 113, 114, 115, 116, 117, 118, 119, 120, 121, 122]⟩ : ByteArray)[k]'h).toNat : Int) = dch (k : Int) := by
  have a : ((#[48, 49, 50, 51, 52, 53, 54, 55, 56, 57, 97, 98, 99, 100, 101, 102, 103, 104, 105, 106, 107, 108, 109, 110, 111, 112, 113, 114, 115, 116, 117, 118, 119, 120, 121, 122] : Array UInt8)[k]!).toNat = (if k < 10 then 48 + k else 87 + k) := dig_all ⟨k, hk⟩
  have e : (⟨#[48, 49, 50, 51, 52, 53, 54, 55, 56, 57, 97, 98, 99, 100, 101, 102, 103, 104, 105, 106, 107, 108, 109, 110, 111, 112, 113, 114, 115, 116, 117, 118, 119, 120, 121, 122]⟩ : ByteArray)[k]'h = (#[48, 49, 50, 51, 52, 53, 54, 55, 56, 57, 97, 98, 99, 100, 101, 102, 103, 104, 105, 106, 107, 108, 109, 110, 111, 112, 113, 114, 115, 116, 117, 118, 119, 120, 121, 122] : Array UInt8)[k]! := by
    rw [getElem!_pos _ k (show k < 36 from hk)]
    rfl
  rw [e, a]
  unfold dch
  by_cases q : k < 10
  · rw [if_pos q, if_pos (by omega)]; omega
  · rw [if_neg q, if_neg (by omega)]; omega
theorem dig_byte {d : Int} (h0 : 0 ≤ d) (h1 : d < 36) (h : d.toNat < (⟨#[48, 49, 50, 51, 52, 53, 54, 55, 56, 57, 97, 98, 99, 100, 101, 102, 103, 104, 105, 106, 107, 108, 109, 110, 111, 112, 113, 114, 115, 116, 117, 118, 119, 120, 121, 122]⟩ : ByteArray).size) : (((⟨#[48, 49, 50, 51, 52, 53, 54, 55, 56, 57, 97, 98, 99, 100, 101, 102, 103, 104, 105, 106, 107, 108, 109, 110, 111, 112, 113, 114, 115, 116, 117, 118, 119, 120, 121, 122]⟩ : ByteArray)[d.toNat]'h).toNat : Int) = dch d := by
  rw [dig_nat d.toNat (by omega) h]
  congr 1
  omega
theorem over_nil (ds : List Int) {o : Nat} (h : o ≤ ds.length) : over ds [] o = ds := by unfold over; simp
end Na
end Go.Proofs.YtalglldkjbinbaaGreatDoor

/- radix.lay: by halves. -/
namespace Go.Proofs.YtalglldkjbinbaaGreatDoor
open Go.ChangeShapes Go.WideShapes Go.ChangeAt Go.RowKit
open Na Ar
set_option linter.unusedVariables false
theorem Own.off {w : World} {base : Nat} {e : TypeId} {a : Option Addr} {n c : Nat} {xs : List Int} (h : Own .u64 w base e (.slice a n c) xs) {g : Nat} (hg : g < base) : Off a g := by
  rcases h.2 with ⟨hv, _⟩ | ⟨g', cap, cur, hv, hb, _⟩
  · simp only [Value.slice.injEq] at hv
    rw [hv.1]
    intro b o h
    simp at h
  · simp only [Value.slice.injEq] at hv
    rw [hv.1]
    exact off_of (by omega)
namespace Na
theorem half_pow (c r : Nat) : c * 2 ^ (r + 1) / 2 = c * 2 ^ r ∧ c * 2 ^ (r + 1) = c * 2 ^ r + c * 2 ^ r := by
  have e : c * 2 ^ (r + 1) = c * 2 ^ r + c * 2 ^ r := by rw [Nat.pow_succ, ← Nat.mul_assoc]; omega
  omega
end Na
end Go.Proofs.YtalglldkjbinbaaGreatDoor

/- radix.ladder: squares of squares. -/
namespace Go.Proofs.YtalglldkjbinbaaGreatDoor
open Go.ChangeShapes Go.WideShapes Go.ChangeAt Go.RowKit
open Na Ar
set_option linter.unusedVariables false
theorem Own.rowS {w : World} {base : Nat} {e : TypeId} {a : Option Addr} {n c : Nat} {xs : List Int} (h : Own .u64 w base e (.slice a n c) xs) : RowC w a n c xs := by
  obtain ⟨a', c', hv, hr⟩ := h.readsC
  simp only [Value.slice.injEq] at hv
  obtain ⟨rfl, rfl, rfl⟩ := hv
  exact hr
theorem info_su2 : (Tryz.prog.info? 24).map (fun i => (i.zero, i.size, i.bytes)) = some (some (.slice none 0 0), 1, 24) := by kernel_rfl
theorem one_list2 {a : Option Addr} {n c : Nat} : ∀ u ∈ [Value.slice a n c], u.oneCell' = true := by
  intro u hu; simp at hu; subst hu; rfl
theorem Own.keptT {w w' : World} {base : Nat} {e : TypeId} {v : Value} {xs : List Int} {row : Option Nat} (h : Own .u64 w base e v xs) (hg : w.grownBy w' row) (hne : v.ownBlock = none ∨ v.ownBlock ≠ row) : Own .u64 w' base e v xs := World.ownsRow.kept h hg hne
theorem Own.apartT {w : World} {base base' : Nat} {e e' : TypeId} {v l : Value} {xs : List Int} {k : Nat} {us : List Value} (h : Own .u64 w base e v xs) (hl : w.ownsRow base' e' 1 l k us) (he : e ≠ e') : v.ownBlock = none ∨ v.ownBlock ≠ l.ownBlock := by
  rcases h.2 with ⟨h0, _⟩ | ⟨g, c, cur, hv, _, hc, _⟩
  · left; rw [h0]; rfl
  · right
    rcases hl.2 with ⟨h0, _⟩ | ⟨g', c', cur', hv', _, hc', _⟩
    · rw [hv, h0]; simp [Value.ownBlock]
    · rw [hv, hv']
      simp only [Value.ownBlock, ne_eq, Option.some.injEq]
      intro hh
      subst hh
      rw [hc] at hc'
      simp only [Option.some.injEq, Obj.cells.injEq] at hc'
      exact he hc'.2.1
/-- r lists: S and its squares, one of the other -/
def Rungs (w : World) (lo : Nat) (S : Int) (v : Value) (r : Nat) : Prop := ∃ vs : List Value, vs.length = r ∧ w.ownsRow lo 24 1 v r vs ∧ ∀ j, j < r → ∃ u, vs[j]? = some u ∧ Own .u64 w lo 22 u (words (S ^ (2 ^ j)))
theorem rungs_nil (w : World) (lo : Nat) (S : Int) : Rungs w lo S (.slice none 0 0) 0 := ⟨[], rfl, World.ownsRow_nil w lo _ 1, fun j hj => by omega⟩
theorem Rungs.later {w w' : World} {lo : Nat} {S : Int} {v : Value} {r : Nat} (h : Rungs w lo S v r) (hb : Below w.heap.size w w') : Rungs w' lo S v r := by
  obtain ⟨vs, h1, h2, h3⟩ := h
  refine ⟨vs, h1, ?_, fun j hj => ?_⟩
  · refine ⟨h2.1, ?_⟩
    rcases h2.2 with q | ⟨g, c, cur, hv, hb2, hc, rest⟩
    · exact Or.inl q
    · refine Or.inr ⟨g, c, cur, hv, hb2, ?_, rest⟩
      have hlt : g < w.heap.size := by
        by_cases q : g < w.heap.size
        · exact q
        · simp [Array.getElem?_eq_none (Nat.le_of_not_lt q)] at hc
      rw [hb.block g hlt]; exact hc
  · obtain ⟨u, a1, a2⟩ := h3 j hj
    exact ⟨u, a1, a2.later hb⟩
theorem rungs_rows {w : World} {lo : Nat} {S : Int} {v : Value} {r : Nat} (h : Rungs w lo S v r) : ∃ a rc, v = .slice a r rc ∧ r ≤ rc ∧ rc ≤ maxLen ∧ RowsC w a r ((List.range r).map fun i => words (S ^ (2 ^ i))) := by
  obtain ⟨vs, h1, h2, h3⟩ := h
  rcases h2.2 with ⟨hv, hn⟩ | ⟨g, c, cur, hv, hb2, hc, q1, q2, q3, q4⟩
  · subst hn
    exact ⟨none, 0, hv, Nat.le_refl _, Nat.zero_le _, by simp, Or.inl rfl⟩
  · refine ⟨some ⟨g, 0, none⟩, c, hv, q1, q2, by simp, Or.inr ⟨g, 0, rfl, ?_, fun i hi => ?_⟩⟩
    · by_cases q : g < w.heap.size
      · exact q
      · simp [Array.getElem?_eq_none (Nat.le_of_not_lt q)] at hc
    · obtain ⟨u, a1, a2⟩ := h3 i hi
      have e : ((List.range r).map fun i => words (S ^ (2 ^ i))).getD i [] = words (S ^ (2 ^ i)) := by
        simp [List.getD_eq_getElem?_getD, hi]
      rw [e]
      obtain ⟨ai, ci, hu, hrow⟩ := a2.readsC
      have hcell := World.ownsRow.cells h2 (show v.ownBlock = some g by rw [hv]; rfl) i u a1
      have ea : (⟨g, 0, none⟩ : Addr).add i = ⟨g, 0 + i, none⟩ := by
        unfold Addr.add
        by_cases hi0 : i = 0
        · subst hi0; simp
        · simp [hi0]
      rw [ea, hu] at hcell
      exact ⟨ai, ci, hcell, hrow⟩
theorem Rungs.next {wr w1 : World} {lo : Nat} {S : Int} {v v' p : Value} {i : Nat} {o : Obj} (h : Rungs wr lo S v i) (hp : Own .u64 wr lo 22 p (words (S ^ (2 ^ i)))) {vs : List Value} (hvl : vs.length = i) (hvo : wr.ownsRow lo 24 1 v i vs) (hvs : ∀ j, j < i → ∃ u, vs[j]? = some u ∧ Own .u64 wr lo 22 u (words (S ^ (2 ^ j))))
    (hown' : w1.ownsRow lo 24 1 v' (i + 1) (vs ++ [p])) (hg : (wr.alloc o).grownBy w1 v.ownBlock) : Rungs w1 lo S v' (i + 1) ∧ Own .u64 w1 lo 22 p (words (S ^ (2 ^ i))) := by
  have hal : Below wr.heap.size wr (wr.alloc o) := (Below.refl _ _).alloc (Nat.le_refl _) o
  have key : ∀ {u : Value} {l : List Int}, Own .u64 wr lo 22 u l → Own .u64 w1 lo 22 u l := fun {u l} hu => by
    have ap := hu.apartT hvo (by decide)
    exact (hu.later hal).keptT hg ap
  refine ⟨⟨vs ++ [p], by simp [hvl], hown', fun j hj => ?_⟩, key hp⟩
  by_cases hlt : j < i
  · obtain ⟨u, a1, a2⟩ := hvs j hlt
    exact ⟨u, by rw [List.getElem?_append_left (by omega)]; exact a1, key a2⟩
  · have : j = i := by omega
    subst this
    exact ⟨p, by rw [List.getElem?_append_right (by omega), hvl]; simp, key hp⟩
namespace Na
/-- two to the 262144: the first number too long -/
def topB : Int := 2 ^ 262144
theorem topB_ge {k : Nat} (h : k ≤ 262144) : (2 : Int) ^ k ≤ topB := p2mono h
theorem sq_next' (S : Int) (i : Nat) : S ^ (2 ^ i) * S ^ (2 ^ i) = S ^ (2 ^ (i + 1)) := by rw [← Int.pow_add]; congr 1; rw [Nat.pow_succ]; omega
theorem rung_few {S : Int} {i β : Nat} (hS : 2 ≤ S) (h : S ^ (2 ^ i) < 2 ^ (β + 1)) (hβ : β + 1 ≤ 262144) : i ≤ 17 := by
  have a : (2 : Int) ^ (2 ^ i) ≤ S ^ (2 ^ i) := ipow_base (by omega) hS _
  have b : 2 ^ i < β + 1 := by
    by_cases g : 2 ^ i < β + 1
    · exact g
    · have : (2 : Int) ^ (β + 1) ≤ 2 ^ (2 ^ i) := p2mono (by omega)
      omega
  by_cases g : i ≤ 17
  · exact g
  · have : 2 ^ 18 ≤ 2 ^ i := Nat.pow_le_pow_right (by omega) (by omega)
    omega
theorem bits_words {P : Int} {β : Nat} (h0 : 0 ≤ P) (h : P < 2 ^ β) (hβ : β ≤ 262144) : (words P).length ≤ 4096 := by
  have l : Lt P 4096 := by
    refine ⟨h0, Int.lt_of_lt_of_le h ?_⟩
    rw [wpow2]
    exact p2mono (by omega)
  exact l.len
end Na
end Go.Proofs.YtalglldkjbinbaaGreatDoor

/- radix.Text. -/
namespace Go.Proofs.YtalglldkjbinbaaGreatDoor
open Go.ChangeShapes Go.WideShapes Go.ChangeAt Go.RowKit
open Na Ar
set_option linter.unusedVariables false
namespace Na
theorem dch_bd {d : Int} (h0 : 0 ≤ d) (h1 : d < 36) : 48 ≤ dch d ∧ dch d ≤ 122 := by unfold dch; split <;> omega
theorem laidD_bd {b : Int} (hb : 2 ≤ b) (hb9 : b ≤ 36) (m : Nat) (X : Int) : ∀ x ∈ laidD b m X, 48 ≤ x ∧ x ≤ 122 := by
  induction m generalizing X with
  | zero => intro x hx; simp [laidD] at hx
  | succ m ih =>
    intro x hx
    have e : laidD b (m + 1) X = laidD b m (X / b) ++ [dch (X % b)] := rfl
    rw [e] at hx
    rcases List.mem_append.mp hx with h | h
    · exact ih _ x h
    · simp at h
      subst h
      have a := Int.emod_nonneg X (show b ≠ 0 by omega)
      have c := Int.emod_lt_of_pos X (show 0 < b by omega)
      exact dch_bd a (by omega)
/-- bytes of numbers -/
def bytesOf (zs : List Int) : List UInt8 := zs.map fun z => UInt8.ofNat z.toNat
theorem bytes_back {zs : List Int} (h : ∀ x ∈ zs, 48 ≤ x ∧ x ≤ 122) : (bytesOf zs).map (fun u => Value.int .u8 (u.toNat : Int)) = zs.map (Value.int .u8) := by
  unfold bytesOf
  rw [List.map_map]
  refine List.map_congr_left fun x hx => ?_
  have := h x hx
  simp only [Function.comp]
  congr 1
  rw [UInt8.toNat_ofNat']
  omega
/-- the text of a number: its digits, highest first, the zeros ahead left out -/
def TextIs (X b : Int) (t : ByteArray) : Prop := ∃ (m : Nat) (u : ByteArray), 1 ≤ m ∧ X < b ^ m ∧ u.data.toList = bytesOf (laidD b m X) ∧ TrimIs u t
theorem rung_digits {b : Int} (hb : 2 ≤ b) {k : Nat} (h : b ^ k < topB) : k < 262144 := by
  by_cases g : k < 262144
  · exact g
  · have a : (2 : Int) ^ 262144 ≤ 2 ^ k := p2mono (by omega)
    have c : (2 : Int) ^ k ≤ b ^ k := ipow_base (by omega) hb k
    have e : topB = 2 ^ 262144 := rfl
    omega
end Na
end Go.Proofs.YtalglldkjbinbaaGreatDoor

/- the text of a number is one. -/
namespace Go.Proofs.YtalglldkjbinbaaGreatDoor
open Go.ChangeShapes Go.WideShapes Go.ChangeAt Go.RowKit
open Na Ar
set_option linter.unusedVariables false
namespace Na
theorem laidD_zero {b : Int} (hb : 2 ≤ b) (m : Nat) : laidD b m 0 = List.replicate m 48 := by
  induction m with
  | zero => rfl
  | succ m ih =>
    have e : laidD b (m + 1) 0 = laidD b m (0 / b) ++ [dch (0 % b)] := rfl
    rw [e, Int.zero_ediv, Int.zero_emod, ih, List.replicate_succ']
    rfl
theorem laidD_pad {b X : Int} (hb : 2 ≤ b) {j d : Nat} (h0 : 0 ≤ X) (h : X < b ^ d) : laidD b (j + d) X = List.replicate j 48 ++ laidD b d X := by
  rw [laidD_split hb, Int.ediv_eq_zero_of_lt h0 h, laidD_zero hb]
theorem dch_ne {x : Int} (h0 : 1 ≤ x) (h1 : x < 36) : UInt8.ofNat (dch x).toNat ≠ 48 := by
  intro e
  have a := congrArg UInt8.toNat e
  rw [UInt8.toNat_ofNat'] at a
  have b := dch_bd (d := x) (by omega) h1
  have c : dch x ≠ 48 := by unfold dch; split <;> omega
  have f : (48 : UInt8).toNat = 48 := rfl
  rw [f] at a
  omega
theorem text_bytes {X b : Int} {t : ByteArray} {d : Nat} (h : TextIs X b t) (hb : 2 ≤ b) (hb9 : b ≤ 36) (h1 : b ^ d ≤ X) (h2 : X < b ^ (d + 1)) : t.data.toList = bytesOf (laidD b (d + 1) X) := by
  obtain ⟨m, u, hm, hX, hu, k, hF, hz, hnz⟩ := h
  have hpos : 0 < b ^ d := Int.pow_pos (by omega)
  have hmd : d < m := by
    by_cases g : d < m
    · exact g
    · have := ipow_monoB (b := b) (by omega) (show m ≤ d by omega)
      omega
  obtain ⟨j, rfl⟩ : ∃ j, m = j + (d + 1) := ⟨m - (d + 1), by omega⟩
  rw [laidD_pad hb (by omega) h2] at hu
  have hcons := laidD_cons hb d X
  have q1 : 1 ≤ X / b ^ d := Int.le_ediv_of_mul_le hpos (by omega)
  have q2 : X / b ^ d < b := by
    refine Int.ediv_lt_of_lt_mul hpos ?_
    rw [Int.pow_succ] at h2
    rw [Int.mul_comm]; exact h2
  have q3 : X / b ^ d % b = X / b ^ d := Int.emod_eq_of_lt (by omega) q2
  rw [q3] at hcons
  have hul : u.data.toList = List.replicate j 48 ++ bytesOf (laidD b (d + 1) X) := by
    rw [hu]
    unfold bytesOf
    rw [List.map_append, List.map_replicate]
    rfl
  have hlen : u.size = j + (d + 1) := by rw [Lib.size_eq, hul]; unfold bytesOf; simp [laidD_length]
  have hat : u.get! j ≠ 48 := by
    rw [byte_list, hul, List.getD_eq_getElem?_getD, List.getElem?_append_right (by simp)]
    rw [hcons]
    unfold bytesOf
    simp
    exact dch_ne q1 (by omega)
  have hkj : k = j := by
    rcases Nat.lt_trichotomy k j with g | g | g
    · exfalso
      refine hnz (by omega) ?_
      rw [byte_list, hul, List.getD_eq_getElem?_getD, List.getElem?_append_left (by simpa using g)]
      simp [g]
    · exact g
    · exact absurd (hz j g) hat
  rw [hF.1, hul, hkj]
  simp
end Na
end Go.Proofs.YtalglldkjbinbaaGreatDoor

/- plumblaw04.alive. -/
namespace Go.Proofs.YtalglldkjbinbaaGreatDoor
open Go.ChangeShapes Go.WideShapes Go.ChangeAt Go.RowKit
open Na Ar
set_option linter.unusedVariables false
namespace Na
def litP : ByteArray := ⟨#[49, 56, 52, 52, 54, 55, 52, 52, 48, 55, 51, 55, 48, 57, 53, 53, 49, 54, 49, 54]⟩
def litT : ByteArray := ⟨#[49, 48, 48, 48, 48, 48, 48, 48, 48, 48, 48, 48, 48, 48, 48, 48, 48]⟩
theorem litP_size : litP.size = 20 := rfl
theorem litP_num : numB litP 10 20 = 18446744073709551616 := by decide
theorem litP_dig : ∀ i, i < 20 → dgt litP i < 10 := by decide
theorem two_words {x y : Int} (hx : U x) (hy : U y) (h : y ≠ 0) : words (x + 18446744073709551616 * y) = [x, y] := by
  have w : Ws [x, y] := (Dg.one hx).append (Dg.one hy)
  have s := words_strip w
  have n : num [x, y] = x + 18446744073709551616 * y := by simp [num, val]
  rw [n] at s
  rw [← s]
  exact strip_end [x] y h
theorem alive_w1 : words 18446744073709551616 = [0, 1] := by
  have := two_words (x := 0) (y := 1) (by unfold U; omega) (by unfold U; omega) (by omega)
  simpa using this
theorem alive_w2 : words ((10 : Int) ^ 20) = [7766279631452241920, 5] := by
  have := two_words (x := 7766279631452241920) (y := 5) (by unfold U; omega) (by unfold U; omega) (by omega)
  have e : (10 : Int) ^ 20 = 7766279631452241920 + 18446744073709551616 * 5 := by decide
  rw [e]; exact this
theorem alive_t : bytesOf (laidD 16 17 18446744073709551616) = litT.data.toList := by decide
end Na
end Go.Proofs.YtalglldkjbinbaaGreatDoor

/- radix.Parse of any text; one text behind another. -/
namespace Go.Proofs.YtalglldkjbinbaaGreatDoor
open Go.ChangeShapes Go.WideShapes Go.ChangeAt Go.RowKit
open Na Ar
set_option linter.unusedVariables false
/-- digits of the base, one at least -/
def Good (s : ByteArray) (b : Int) : Prop := 2 ≤ b ∧ b ≤ 36 ∧ 0 < s.size ∧ ∀ i, i < s.size → dgt s i < b
def ParseAll (w : World) (s : ByteArray) (b : Int) (e : Ending) (w' : World) : Prop :=
  ((Good s b ∧ (words (numB s b s.size)).length ≤ 4096) ∧ ∃ v, e = .returned (.tuple #[v, .nilIface]) ∧ Own .u64 w' w.heap.size 22 v (words (numB s b s.size)) ∧ Below w.heap.size w w') ∨
  (¬ (Good s b ∧ (words (numB s b s.size)).length ≤ 4096) ∧ ∃ t a, e = .returned (.tuple #[.slice none 0 0, .iface t (.pointer (some a))]) ∧ Below w.heap.size w w')
namespace Na
theorem app_byte (s t : ByteArray) (i : Nat) : (s ++ t).get! i = if i < s.size then s.get! i else t.get! (i - s.size) := by
  have e : (s ++ t).data.toList = s.data.toList ++ t.data.toList := by simp [ByteArray.data_append]
  rw [byte_list, byte_list, byte_list, e, List.getD_eq_getElem?_getD, List.getD_eq_getElem?_getD, List.getD_eq_getElem?_getD]
  by_cases h : i < s.size
  · rw [if_pos h, List.getElem?_append_left (by rw [← Lib.size_eq]; exact h)]
  · rw [if_neg h, List.getElem?_append_right (by rw [← Lib.size_eq]; omega), ← Lib.size_eq]
theorem app_size (s t : ByteArray) : (s ++ t).size = s.size + t.size := by simp
theorem app_left (s t : ByteArray) {i : Nat} (h : i < s.size) : dgt (s ++ t) i = dgt s i := by unfold dgt; rw [app_byte, if_pos h]
theorem app_right (s t : ByteArray) (i : Nat) : dgt (s ++ t) (s.size + i) = dgt t i := by
  unfold dgt
  rw [app_byte, if_neg (by omega), Nat.add_sub_cancel_left]
theorem app_num1 (s t : ByteArray) (b : Int) {i : Nat} (h : i ≤ s.size) : numB (s ++ t) b i = numB s b i := by
  induction i with
  | zero => rfl
  | succ i ih =>
    show numB (s ++ t) b i * b + dgt (s ++ t) i = numB s b i * b + dgt s i
    rw [ih (by omega), app_left s t (by omega)]
theorem app_num2 (s t : ByteArray) (b : Int) (i : Nat) : numB (s ++ t) b (s.size + i) = numB s b s.size * b ^ i + numB t b i := by
  induction i with
  | zero => rw [Nat.add_zero, app_num1 s t b (Nat.le_refl _)]; simp [numB]
  | succ i ih =>
    show numB (s ++ t) b (s.size + i) * b + dgt (s ++ t) (s.size + i) = _
    rw [ih, app_right]
    show _ = numB s b s.size * b ^ (i + 1) + (numB t b i * b + dgt t i)
    rw [Int.pow_succ]; grind
theorem app_num (s t : ByteArray) (b : Int) : numB (s ++ t) b (s ++ t).size = numB s b s.size * b ^ t.size + numB t b t.size := by
  rw [app_size]; exact app_num2 s t b t.size
end Na
end Go.Proofs.YtalglldkjbinbaaGreatDoor

/- a number's text, read back. -/
namespace Go.Proofs.YtalglldkjbinbaaGreatDoor
open Go.ChangeShapes Go.WideShapes Go.ChangeAt Go.RowKit
open Na Ar
set_option linter.unusedVariables false
namespace Na
theorem val_dch {d : Int} (h0 : 0 ≤ d) (h1 : d < 36) : valN (dch d) = d := by
  unfold valN dch
  split
  · rw [if_pos (by omega)]; omega
  · rw [if_neg (by omega), if_pos (by omega)]; omega
/-- a capital for a small letter -/
def upc (z : Int) : Int := if 97 ≤ z ∧ z ≤ 122 then z - 32 else z
theorem val_upc {d : Int} (h0 : 0 ≤ d) (h1 : d < 36) : valN (upc (dch d)) = d := by
  unfold upc dch
  by_cases g : d < 10
  · rw [if_pos g, if_neg (by omega)]
    unfold valN
    rw [if_pos (by omega)]; omega
  · rw [if_neg g, if_pos (by omega)]
    unfold valN
    rw [if_neg (by omega), if_neg (by omega), if_pos (by omega)]; omega
theorem laid_get {b : Int} (hb : 2 ≤ b) (X : Int) (m : Nat) : ∀ i, i < m → (laidD b m X).getD i 0 = dch (X / b ^ (m - 1 - i) % b) := by
  induction m with
  | zero => intro i hi; omega
  | succ m ih =>
    intro i hi
    rw [laidD_cons hb]
    cases i with
    | zero => simp
    | succ i =>
      have := ih i (by omega)
      rw [List.getD_cons_succ, this, show m + 1 - 1 - (i + 1) = m - 1 - i by omega]
theorem bytes_dgt {s : ByteArray} {D : List Int} (h : s.data.toList = bytesOf D) (hD : ∀ x ∈ D, 48 ≤ x ∧ x ≤ 122) {i : Nat} (hi : i < D.length) : dgt s i = valN (D.getD i 0) := by
  unfold dgt
  rw [byte_list, h]
  have hm := hD (D.getD i 0) (by rw [List.getD_eq_getElem?_getD, List.getElem?_eq_getElem hi]; exact List.getElem_mem hi)
  have e : (bytesOf D).getD i 0 = UInt8.ofNat (D.getD i 0).toNat := by
    unfold bytesOf
    simp [List.getD_eq_getElem?_getD, List.getElem?_eq_getElem hi]
  rw [e, UInt8.toNat_ofNat']
  congr 1
  omega
theorem bytes_size {s : ByteArray} {D : List Int} (h : s.data.toList = bytesOf D) : s.size = D.length := by rw [Lib.size_eq, h]; unfold bytesOf; simp
/-- a text whose digits are X's -/
theorem digits_num {s : ByteArray} {X b : Int} {m : Nat} (hb : 2 ≤ b) (h0 : 0 ≤ X) (hX : X < b ^ m) (hd : ∀ i, i < m → dgt s i = X / b ^ (m - 1 - i) % b) : numB s b m = X := by
  have key : ∀ i, i ≤ m → numB s b i = X / b ^ (m - i) := by
    intro i
    induction i with
    | zero => intro _; rw [Nat.sub_zero, Int.ediv_eq_zero_of_lt h0 hX]; rfl
    | succ i ih =>
      intro hi
      show numB s b i * b + dgt s i = _
      rw [ih (by omega), hd i (by omega)]
      have e1 : m - i = (m - 1 - i) + 1 := by omega
      have e2 : m - (i + 1) = m - 1 - i := by omega
      rw [e1, e2, Int.pow_succ, ← Int.ediv_ediv_of_nonneg (Int.pow_nonneg (by omega))]
      generalize X / b ^ (m - 1 - i) = Y
      have := Int.mul_ediv_add_emod Y b
      rw [Int.mul_comm] at this
      exact this
  have := key m (Nat.le_refl _)
  rw [Nat.sub_self, Int.pow_zero, Int.ediv_one] at this
  exact this
theorem has_log {b X : Int} (hb : 2 ≤ b) (hX : 0 < X) : ∃ d : Nat, b ^ d ≤ X ∧ X < b ^ (d + 1) := by
  have ex : ∃ n : Nat, X < b ^ n := by
    refine ⟨X.toNat, ?_⟩
    have : ∀ n : Nat, (n : Int) < b ^ n := by
      intro n
      induction n with
      | zero => simp
      | succ n ih =>
        rw [Int.pow_succ]
        have := Int.mul_le_mul_of_nonneg_left hb (show 0 ≤ b ^ n by omega)
        omega
    have := this X.toNat
    omega
  obtain ⟨n, hn⟩ := ex
  induction n with
  | zero => simp at hn; omega
  | succ n ih =>
    by_cases g : X < b ^ n
    · exact ih g
    · exact ⟨n, by omega, hn⟩
theorem words_bits4096 {X : Int} (h : 0 ≤ X) : (words X).length ≤ 4096 ↔ bitsN X ≤ 262144 := by
  constructor
  · intro g
    have := bits_le (N := X) (k := 4096) h (by have := val_lt (B := 18446744073709551616) (by omega) (Dg_words X); rw [val_words h] at this; exact Int.lt_of_lt_of_le this (wpow_mono g))
    omega
  · intro g
    by_cases hz : X = 0
    · rw [hz]
      have z : words 0 = [] := dig_zero _
      rw [z]; simp
    · obtain ⟨β, hβ, b1, b2⟩ := bits_some (show 0 < X by omega)
      exact bits_words h b2 (by omega)
/-- what the text of X is, as digits -/
structure Digs (X b : Int) (D : List Int) : Prop where
  one : 1 ≤ D.length
  bd : ∀ x ∈ D, 48 ≤ x ∧ x ≤ 122
  lt : X < b ^ D.length
  get : ∀ i, i < D.length → D.getD i 0 = dch (X / b ^ (D.length - 1 - i) % b)
  top : D.getD 0 0 ≠ 48 ∨ D = [48]
theorem digs_laid {X b : Int} {d : Nat} (hb : 2 ≤ b) (hb9 : b ≤ 36) (h1 : b ^ d ≤ X) (h2 : X < b ^ (d + 1)) : Digs X b (laidD b (d + 1) X) := by
  have l := laidD_length b (d + 1) X
  have hpos : 0 < b ^ d := Int.pow_pos (by omega)
  refine ⟨by omega, laidD_bd hb hb9 _ _, by rw [l]; exact h2, fun i hi => ?_, Or.inl ?_⟩
  · rw [l] at hi ⊢; exact laid_get hb X (d + 1) i hi
  · rw [laid_get hb X (d + 1) 0 (by omega)]
    have e : d + 1 - 1 - 0 = d := by omega
    have q1 : 1 ≤ X / b ^ d := Int.le_ediv_of_mul_le hpos (by omega)
    have q2 : X / b ^ d < b := by
      refine Int.ediv_lt_of_lt_mul hpos ?_
      rw [Int.pow_succ] at h2
      rw [Int.mul_comm]; exact h2
    rw [e, Int.emod_eq_of_lt (by omega) q2]
    unfold dch
    split <;> omega
theorem digs_zero {b : Int} (hb : 2 ≤ b) : Digs 0 b [48] := by
  refine ⟨by simp, by simp, Int.pow_pos (by omega), fun i hi => ?_, Or.inr rfl⟩
  have : i = 0 := by simpa using hi
  subst this
  simp
  rfl
theorem digs_good {X b : Int} {D : List Int} {s : ByteArray} (h : Digs X b D) (hb : 2 ≤ b) (hb9 : b ≤ 36) (h0 : 0 ≤ X) (hs : s.data.toList = bytesOf D) : Good s b ∧ numB s b s.size = X ∧ s.size = D.length := by
  have hz := bytes_size hs
  have hd : ∀ i, i < D.length → dgt s i = X / b ^ (D.length - 1 - i) % b := fun i hi => by
    rw [bytes_dgt hs h.bd hi, h.get i hi]
    exact val_dch (Int.emod_nonneg _ (by omega)) (by have := Int.emod_lt_of_pos (X / b ^ (D.length - 1 - i)) (show 0 < b by omega); omega)
  refine ⟨⟨hb, hb9, by have := h.one; omega, fun i hi => ?_⟩, ?_, hz⟩
  · rw [hd i (by omega)]
    exact Int.emod_lt_of_pos _ (by omega)
  · rw [hz]; exact digits_num hb h0 h.lt hd
theorem digs_upper {X b : Int} {D : List Int} {s : ByteArray} (h : Digs X b D) (hb : 2 ≤ b) (hb9 : b ≤ 36) (h0 : 0 ≤ X) (hs : s.data.toList = bytesOf (D.map upc)) : (∀ i, i < s.size → dgt s i < b) ∧ numB s b s.size = X ∧ s.size = D.length := by
  have hz := bytes_size hs
  rw [List.length_map] at hz
  have hbd : ∀ x ∈ D.map upc, 48 ≤ x ∧ x ≤ 122 := by
    intro x hx
    obtain ⟨y, hy, rfl⟩ := List.mem_map.mp hx
    have := h.bd y hy
    unfold upc
    split <;> omega
  have hd : ∀ i, i < D.length → dgt s i = X / b ^ (D.length - 1 - i) % b := fun i hi => by
    have m := Int.emod_lt_of_pos (X / b ^ (D.length - 1 - i)) (show 0 < b by omega)
    rw [bytes_dgt hs hbd (by rw [List.length_map]; exact hi)]
    have e : (D.map upc).getD i 0 = upc (D.getD i 0) := by simp [List.getD_eq_getElem?_getD, List.getElem?_eq_getElem hi]
    rw [e, h.get i hi]
    exact val_upc (Int.emod_nonneg _ (by omega)) (by omega)
  refine ⟨fun i hi => ?_, ?_, hz⟩
  · rw [hd i (by omega)]
    exact Int.emod_lt_of_pos _ (by omega)
  · rw [hz]; exact digits_num hb h0 h.lt hd
theorem zeros_num {s : ByteArray} {b : Int} {k : Nat} (hb : 2 ≤ b) (hs : s.data.toList = bytesOf (List.replicate k 48)) : (∀ i, i < s.size → dgt s i < b) ∧ numB s b s.size = 0 ∧ s.size = k := by
  have hz := bytes_size hs
  rw [List.length_replicate] at hz
  have hb4 : ∀ j, j < k → s.get! j = 48 := fun j hj => by
    rw [byte_list, hs]
    unfold bytesOf
    simp [List.getD_eq_getElem?_getD, hj]
  refine ⟨fun i hi => ?_, ?_, hz⟩
  · rw [dgt_zero (hb4 i (by omega))]; omega
  · rw [hz]; exact numB_zeros hb4
theorem app_good {z u : ByteArray} {b X : Int} {k : Nat} (hb : 2 ≤ b) (hb9 : b ≤ 36) (hz : (∀ i, i < z.size → dgt z i < b) ∧ numB z b z.size = 0 ∧ z.size = k) (hu : (∀ i, i < u.size → dgt u i < b) ∧ numB u b u.size = X) (hpos : 0 < u.size) : Good (z ++ u) b ∧ numB (z ++ u) b (z ++ u).size = X := by
  refine ⟨⟨hb, hb9, by rw [app_size]; omega, fun i hi => ?_⟩, ?_⟩
  · rw [app_size] at hi
    by_cases g : i < z.size
    · rw [app_left z u g]; exact hz.1 i g
    · have := app_right z u (i - z.size)
      rw [show z.size + (i - z.size) = i by omega] at this
      rw [this]; exact hu.1 _ (by omega)
  · rw [app_num, hz.2.1, hu.2]; simp
end Na
end Go.Proofs.YtalglldkjbinbaaGreatDoor

/- plumbref04: put, cut, words, Power; plumblaw04.rest. -/
namespace Go.Proofs.YtalglldkjbinbaaGreatDoor
open Go.ChangeShapes Go.WideShapes Go.ChangeAt Go.RowKit
open Na Ar
set_option linter.unusedVariables false
theorem own_lit (w : World) (x : Int) : Own .u64 (w.alloc (.cells #[.int .u64 x] 22)) w.heap.size 22 (.slice (some ⟨w.heap.size, 0, none⟩) 1 1) [x] :=
  ⟨by simp, Or.inr ⟨w.heap.size, 1, #[.int .u64 x], by simp, Nat.le_refl _, heap_alloc_new _ _, by simp, by unfold maxLen; omega, by simp, by simp⟩⟩
namespace Na
theorem val_set32 {us : List Int} {j : Nat} {c p lo hi : Int} (hj : j < us.length) (e : us.getD j 0 + p + c = lo + 4294967296 * hi) :
    val 4294967296 (us.set j lo) + 4294967296 ^ (j + 1) * hi = val 4294967296 us + 4294967296 ^ j * c + 4294967296 ^ j * p := by
  rw [val_set _ hj, Int.pow_succ]
  generalize val 4294967296 us = V
  generalize (4294967296 : Int) ^ j = P
  generalize us.getD j 0 = u at *
  have : lo = u + p + c - 4294967296 * hi := by omega
  subst this
  grind
/-- k limbs are multiplied -/
def PuI (ds : List Int) (x c0 : Int) (k : Nat) (d : Int) (us : List Int) : Prop := Dg 4294967296 us ∧ us.length = ds.length ∧ (0 ≤ d ∧ d < 4294967296) ∧ us.drop k = ds.drop k ∧
  val 4294967296 us + 4294967296 ^ k * d = val 4294967296 ds + (x - 1) * val 4294967296 (ds.take k) + c0
theorem puI_start {ds : List Int} {x c0 : Int} (h : Dg 4294967296 ds) (hc : 0 ≤ c0 ∧ c0 < 4294967296) : PuI ds x c0 0 c0 ds := ⟨h, rfl, hc, rfl, by simp [val]⟩
theorem pu_bd {y x d : Int} (hy : 0 ≤ y ∧ y < 4294967296) (hx : 0 ≤ x ∧ x < 4294967296) (hd : 0 ≤ d ∧ d < 4294967296) : 0 ≤ y * x ∧ y * x + d < 18446744073709551616 ∧ (0 ≤ (y * x + d) / 4294967296 ∧ (y * x + d) / 4294967296 < 4294967296) := by
  have m0 : 0 ≤ y * x := Int.mul_nonneg hy.1 hx.1
  have m1 : y * x ≤ 4294967295 * 4294967295 := Int.mul_le_mul (by omega) (by omega) hx.1 (by omega)
  generalize y * x = z at *
  omega
theorem puI_step {ds us : List Int} {x c0 d : Int} {k : Nat} (h : PuI ds x c0 k d us) (hx : 0 ≤ x ∧ x < 4294967296) (hk : k < us.length) : PuI ds x c0 (k + 1) ((us.getD k 0 * x + d) / 4294967296) (us.set k ((us.getD k 0 * x + d) % 4294967296)) := by
  obtain ⟨h1, h2, h3, h4, h5⟩ := h
  have gu := h1.get hk
  have ed : us.getD k 0 = ds.getD k 0 := getD_drop h4
  have bd := pu_bd ⟨gu.1, gu.2⟩ hx h3
  refine ⟨h1.set _ (by omega), by rw [List.length_set]; exact h2, bd.2.2, ?_, ?_⟩
  · rw [List.drop_set_of_lt (by omega)]
    have := congrArg (List.drop 1) h4
    rw [List.drop_drop, List.drop_drop] at this
    exact this
  · have e : us.getD k 0 + (x - 1) * us.getD k 0 + d = (us.getD k 0 * x + d) % 4294967296 + 4294967296 * ((us.getD k 0 * x + d) / 4294967296) := by
      have q : us.getD k 0 + (x - 1) * us.getD k 0 = us.getD k 0 * x := by grind
      rw [q]
      generalize us.getD k 0 * x = z
      omega
    have p := val_set32 (j := k) (c := d) (p := (x - 1) * us.getD k 0) hk e
    have t : val 4294967296 (ds.take (k + 1)) = val 4294967296 (ds.take k) + 4294967296 ^ k * ds.getD k 0 := take_valB (by omega)
    rw [p, h5, t, ed]
    generalize (4294967296 : Int) ^ k = P
    generalize ds.getD k 0 = y
    generalize val 4294967296 (ds.take k) = V
    grind
theorem puI_done {ds us : List Int} {x c0 d : Int} (h : PuI ds x c0 ds.length d us) : (d = 0 → val 4294967296 us = val 4294967296 ds * x + c0) ∧ val 4294967296 (us ++ [d]) = val 4294967296 ds * x + c0 := by
  have e := h.2.2.2.2
  rw [List.take_of_length_le (Nat.le_refl _)] at e
  have e2 : val 4294967296 us + 4294967296 ^ ds.length * d = val 4294967296 ds * x + c0 := by
    rw [e]
    generalize val 4294967296 ds = N
    grind
  refine ⟨fun h0 => by rw [h0] at e2; simpa using e2, ?_⟩
  rw [val_append, h.2.1, ← e2]
  simp [val]
theorem take_any (ds : List Int) (k : Nat) : val 4294967296 (ds.take (k + 1)) = val 4294967296 (ds.take k) + 4294967296 ^ k * ds.getD k 0 := by
  by_cases h : k < ds.length
  · exact take_valB h
  · rw [List.take_of_length_le (by omega), List.take_of_length_le (by omega)]
    have : ds.getD k 0 = 0 := by rw [List.getD_eq_getElem?_getD, List.getElem?_eq_none (by omega)]; rfl
    rw [this]; simp
/-- limbs laid together to words -/
def jnW (ds : List Int) : Nat → List Int
  | 0 => []
  | k + 1 => jnW ds k ++ [ds.getD (2 * k) 0 + 4294967296 * ds.getD (2 * k + 1) 0]
theorem jnW_length (ds : List Int) (k : Nat) : (jnW ds k).length = k := by
  induction k with
  | zero => rfl
  | succ k ih => simp [jnW, ih]
theorem dg_any {ds : List Int} (h : Dg 4294967296 ds) (k : Nat) : 0 ≤ ds.getD k 0 ∧ ds.getD k 0 < 4294967296 := by
  by_cases hk : k < ds.length
  · exact h.get hk
  · have e : ds.getD k 0 = 0 := by rw [List.getD_eq_getElem?_getD, List.getElem?_eq_none (by omega)]; rfl
    rw [e]; omega
theorem jnW_ws {ds : List Int} (h : Dg 4294967296 ds) (k : Nat) : Ws (jnW ds k) := by
  induction k with
  | zero => exact Dg.nil _
  | succ k ih =>
    have a := dg_any h (2 * k)
    have b := dg_any h (2 * k + 1)
    refine ih.append ?_
    intro y hy
    rw [List.mem_singleton] at hy
    subst hy
    omega
theorem jnW_num (ds : List Int) (k : Nat) : num (jnW ds k) = val 4294967296 (ds.take (2 * k)) := by
  induction k with
  | zero => simp [jnW, num, val]
  | succ k ih =>
    have e : num (jnW ds (k + 1)) = num (jnW ds k) + 18446744073709551616 ^ (jnW ds k).length * (ds.getD (2 * k) 0 + 4294967296 * ds.getD (2 * k + 1) 0) := by
      show val _ (jnW ds k ++ [_]) = _
      rw [val_append]; simp [val]; rfl
    rw [e, jnW_length, ih, show 2 * (k + 1) = 2 * k + 1 + 1 by omega, take_any, take_any]
    have p : (18446744073709551616 : Int) ^ k = 4294967296 ^ (2 * k) := by rw [Int.pow_mul]; rfl
    rw [p, Int.pow_succ]
    grind
theorem or_joinY {x y : Int} (hy : 0 ≤ y ∧ y < 4294967296) (hx : 0 ≤ x ∧ x < 4294967296) : bits .or .u64 y (IntKind.u64.wrap (x * 4294967296)) = y + 4294967296 * x := by
  rw [wrapU, u64_or _ _ (by omega) (by omega) (by omega) (by omega), Nat.or_comm]
  have e : x * 4294967296 % 18446744073709551616 = x * 4294967296 := by omega
  rw [e]
  have : ((x * 4294967296).toNat ||| y.toNat) = (x * 4294967296).toNat + y.toNat := nat_join 32 _ _ (by omega) (by omega)
  rw [this]; omega
end Na
/-- limbs that say V -/
def LimbsIs (w : World) (base : Nat) (v : Value) (n : Nat) (V : Int) : Prop := ∃ us, Own .u64 w base 22 v us ∧ Dg 4294967296 us ∧ us.length ≤ n ∧ val 4294967296 us = V
def sLen : Value → Nat
  | .slice _ n _ => n
  | _ => 0
end Go.Proofs.YtalglldkjbinbaaGreatDoor
