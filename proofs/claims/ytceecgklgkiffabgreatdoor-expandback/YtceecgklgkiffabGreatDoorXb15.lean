import Derived.KernelRfl
import Derived.Laws.RangeAny
import Derived.Lib.OthersKept
import Derived.Lib.Strings
import Derived.Lib.TrimByte
import Derived.Lib.Walk
import Derived.Laws.Strings3
import Derived.WalkLawsBesides
import Derived.WalkSpells
import Derived.Deep.RegionWith
import Derived.Deep.DeepCutAuto
import Derived.Laws.IdiomStrings
import Derived.Below
import Derived.BigQuiet
import Derived.ChangeOld
import Derived.Deep.QuietTactic
import Derived.Laws.BitsAllLaws
import Derived.Laws.CopyRow
import Derived.Laws.IdiomCopy
import Derived.Laws.IdiomRangeMap
import Derived.OpenShut
import Derived.OwnWalk
import Derived.ProofKit
import Derived.Scope
import Derived.ShutString
import Derived.WalkKit
import Derived.WalkMore
import Derived.Test.YtceecgklgkiffabGreatDoorXb3
import Derived.Test.YtceecgklgkiffabGreatDoorXb6
/- package radix: Five, Ten. -/
namespace Go.Proofs.YtceecgklgkiffabGreatDoor
open Go.ChangeShapes Go.WideShapes Go.ChangeAt Go.RowKit
open Na Ar
set_option linter.unusedVariables false
namespace Na
theorem five_most : Nat.blt ((5 : Nat) ^ 112899) ((18446744073709551616 : Nat) ^ 4096) = true := by kernel_rfl
theorem ten_most : Nat.blt ((10 : Nat) ^ 78913) ((18446744073709551616 : Nat) ^ 4096) = true := by kernel_rfl
theorem pow_lt {b m n K : Nat} (hb : 1 ≤ b) (h0 : Nat.blt (b ^ m) ((18446744073709551616 : Nat) ^ K) = true) (hn : n ≤ m) : Lt ((b : Int) ^ n) K := by
  refine ⟨Int.pow_nonneg (by omega), ?_⟩
  have h : b ^ m < 18446744073709551616 ^ K := Nat.blt_eq.mp h0
  have a : b ^ n ≤ b ^ m := Nat.pow_le_pow_right hb hn
  have c : ((b ^ n : Nat) : Int) < ((18446744073709551616 ^ K : Nat) : Int) := Int.ofNat_lt.mpr (Nat.lt_of_le_of_lt a h)
  rw [Int.natCast_pow, Int.natCast_pow] at c
  exact c
theorem five_lt {n : Nat} (hn : n ≤ 112899) : Lt ((5 : Int) ^ n) 4096 := pow_lt (b := 5) (by omega) five_most hn
theorem ten_lt {n : Nat} (hn : n ≤ 78913) : Lt ((10 : Int) ^ n) 4096 := pow_lt (b := 10) (by omega) ten_most hn
theorem five_two (n : Nat) : (5 : Int) ^ n * 2 ^ n = 10 ^ n := by rw [← Int.mul_pow]; rfl
end Na
/-- what Five and Ten answer -/
def pwE (M n : Int) : Int := if n < 0 then 31 else if M < n then 21 else 0
def pwL (b M n : Int) : List Int := if n < 0 then [] else if M < n then [] else words (b ^ n.toNat)
theorem five_any (n : Int) (h0 : -9223372036854775808 ≤ n) (h9 : n ≤ 9223372036854775807) (w : World) :
    Calls Tryz.prog 64 #[.int .i64 n] w fun e w' => ∃ v, e = .returned (.tuple #[v, .int .i64 (pwE 112899 n)]) ∧ Own .u64 w' w.heap.size 22 v (pwL 5 112899 n) ∧ Below w.heap.size w w' := by
  by_cases hbig : 112899 < n
  · have E1 : Hid (pwE 112899 n = 21) := by show _ = _; unfold pwE; rw [if_neg (by omega), if_pos hbig]
    have E2 : Hid (pwL 5 112899 n = []) := by show _ = _; unfold pwL; rw [if_neg (by omega), if_pos hbig]
    go_enter Tryz.func64, Tryz.ntmps64
    go_wp2
    go_ret2
    exact ⟨_, by rw [E1.out]; rfl, by rw [E2.out]; exact own_nil _ _ _ _, Below.refl _ _⟩
  · have hfr := natFrom_any (v := 5) (by omega) w
    have d5 := Dg_words 5
    have n5 := num_words (show (0 : Int) ≤ 5 by omega)
    have l5 := words_len1 (v := 5) (by omega)
    have E : Hid (powE 5 n = pwE 112899 n ∧ powL 5 n = pwL 5 112899 n) := by
      show _ ∧ _
      unfold powE powL pwE pwL
      by_cases hneg : n < 0
      · rw [if_pos hneg, if_pos hneg, if_pos hneg, if_pos hneg]; exact ⟨rfl, rfl⟩
      · rw [if_neg hneg, if_neg hneg, if_neg hneg, if_neg hneg, if_neg hbig, if_neg hbig]
        have f := (five_lt (n := n.toNat) (by omega)).fits (Nat.le_refl _)
        exact ⟨f.2, f.1⟩
    go_enter Tryz.func64, Tryz.ntmps64
    go_wp2_with fail
    refine hfr.mono ?_
    rintro e w1 ⟨o, rfl, ho, hb1⟩
    obtain ⟨oa, oc, rfl, hor⟩ := ho.readsC
    have hp := pow_any hor d5 (by omega) n h0 h9
    rw [n5, E.out.1, E.out.2] at hp
    generalize (words 5).length = l at *
    clear hfr ho
    go_wp2_with fail
    refine hp.mono ?_
    rintro e w2 ⟨v, rfl, hv, hb2⟩
    have hv2 := hv.wider hb1.size
    have hB := hb1.trans (hb2.mono hb1.size)
    clear hp hv
    go_wp2
    go_ret2
    exact ⟨_, rfl, hv2, hB⟩
theorem ten_any (n : Int) (h0 : -9223372036854775808 ≤ n) (h9 : n ≤ 9223372036854775807) (w : World) :
    Calls Tryz.prog 30 #[.int .i64 n] w fun e w' => ∃ v, e = .returned (.tuple #[v, .int .i64 (pwE 78913 n)]) ∧ Own .u64 w' w.heap.size 22 v (pwL 10 78913 n) ∧ Below w.heap.size w w' := by
  by_cases hbig : 78913 < n
  · have E1 : Hid (pwE 78913 n = 21) := by show _ = _; unfold pwE; rw [if_neg (by omega), if_pos hbig]
    have E2 : Hid (pwL 10 78913 n = []) := by show _ = _; unfold pwL; rw [if_neg (by omega), if_pos hbig]
    go_enter Tryz.func30, Tryz.ntmps30
    go_wp2
    go_ret2
    exact ⟨_, by rw [E1.out]; rfl, by rw [E2.out]; exact own_nil _ _ _ _, Below.refl _ _⟩
  · have hf := five_any n h0 h9 w
    by_cases hneg : n < 0
    · have E1 : Hid (pwE 78913 n = 31) := by show _ = _; unfold pwE; rw [if_pos hneg]
      have E2 : Hid (pwL 10 78913 n = []) := by show _ = _; unfold pwL; rw [if_pos hneg]
      have e3 : pwE 112899 n = 31 := by unfold pwE; rw [if_pos hneg]
      rw [e3] at hf
      clear e3
      go_enter Tryz.func30, Tryz.ntmps30
      go_wp2_with fail
      refine hf.mono ?_
      rintro e w1 ⟨o, rfl, ho, hb1⟩
      clear ho hf
      go_wp2
      go_ret2
      exact ⟨_, by rw [E1.out]; rfl, by rw [E2.out]; exact own_nil _ _ _ _, hb1⟩
    · obtain ⟨t, rfl⟩ : ∃ t : Nat, n = (t : Int) := ⟨n.toNat, by omega⟩
      have ht : t ≤ 78913 := by omega
      have E1 : Hid (pwE 78913 (t : Int) = 0) := by show _ = _; unfold pwE; rw [if_neg (by omega), if_neg (by omega)]
      have E2 : Hid (pwL 10 78913 (t : Int) = words (10 ^ t)) := by show _ = _; unfold pwL; rw [if_neg (by omega), if_neg (by omega)]; rfl
      have e3 : pwE 112899 (t : Int) = 0 := by unfold pwE; rw [if_neg (by omega), if_neg (by omega)]
      have e4 : pwL 5 112899 (t : Int) = words (5 ^ t) := by unfold pwL; rw [if_neg (by omega), if_neg (by omega)]; rfl
      rw [e3, e4] at hf
      have l5 := five_lt (n := t) (by omega)
      have l10 := ten_lt (n := t) ht
      have d5 := Dg_words ((5 : Int) ^ t)
      have n5 := num_words l5.1
      have w5 := l5.len
      generalize hF : (5 : Int) ^ t = F at *
      have hFT : F * 2 ^ t = 10 ^ t := by rw [← hF]; exact five_two t
      clear e3 e4 hneg hbig hF
      go_enter Tryz.func30, Tryz.ntmps30
      go_wp2_with fail
      refine hf.mono ?_
      rintro e w1 ⟨o, rfl, ho, hb1⟩
      obtain ⟨oa, oc, rfl, hor⟩ := ho.readsC
      have hs := natShl_any hor d5 (by omega) (t : Int) (by omega)
      have s1 : shlE F (t : Int) = 0 := by unfold shlE; rw [if_neg (by omega), Int.toNat_natCast, hFT]; exact (l10.fits (Nat.le_refl _)).2
      have s2 : shlL F (t : Int) = words (10 ^ t) := by unfold shlL; rw [if_neg (by omega), Int.toNat_natCast, hFT]; exact (l10.fits (Nat.le_refl _)).1
      rw [n5, s1, s2] at hs
      generalize (words F).length = l at *
      clear hf ho s1 s2 hFT
      go_wp2_with fail
      refine hs.mono ?_
      rintro e w2 ⟨v, rfl, hv, hb2⟩
      have hv2 := hv.wider hb1.size
      have hB := hb1.trans (hb2.mono hb1.size)
      clear hs hv
      go_wp2
      go_ret2
      exact ⟨_, by rw [E1.out]; rfl, by rw [E2.out]; exact hv2, hB⟩
end Go.Proofs.YtceecgklgkiffabGreatDoor

/- package radix: what a digit stands for; known; step. -/
namespace Go.Proofs.YtceecgklgkiffabGreatDoor
open Go.ChangeShapes Go.WideShapes Go.ChangeAt Go.RowKit
open Na Ar
set_option linter.unusedVariables false
namespace Na
/-- a rune's value as a digit; 36: it is none -/
def valN (r : Int) : Int := if 48 ≤ r ∧ r ≤ 57 then r - 48 else if 97 ≤ r ∧ r ≤ 122 then r - 87 else if 65 ≤ r ∧ r ≤ 90 then r - 55 else 36
theorem valN_bd (r : Int) : 0 ≤ valN r ∧ valN r ≤ 36 := by unfold valN; split <;> (try split) <;> (try split) <;> omega
theorem valN_high {r : Int} (h : 128 ≤ r) : valN r = 36 := by unfold valN; rw [if_neg (by omega), if_neg (by omega), if_neg (by omega)]
end Na
theorem value_any (r : Int) (h0 : 0 ≤ r) (h1 : r ≤ 2147483647) (w : World) :
    Calls Tryz.prog 55 #[.int .i32 r] w fun e w' => e = .returned (.int .i64 (valN r)) ∧ w = w' := by
  by_cases a1 : 48 ≤ r
  · by_cases a2 : r ≤ 57
    · have HE : Hid (r - 48 = valN r) := by show _ = _; unfold valN; rw [if_pos ⟨a1, a2⟩]
      go_enter Tryz.func55, Tryz.ntmps55
      go_wp2
      go_ret
      exact ⟨ret_int HE.out, rfl⟩
    · by_cases a3 : 97 ≤ r
      · by_cases a4 : r ≤ 122
        · have HE : Hid (r - 97 + 10 = valN r) := by show _ = _; unfold valN; rw [if_neg (by omega), if_pos ⟨a3, a4⟩]; omega
          go_enter Tryz.func55, Tryz.ntmps55
          go_wp2
          go_ret
          exact ⟨ret_int HE.out, rfl⟩
        · have HE : Hid (36 = valN r) := by show _ = _; unfold valN; rw [if_neg (by omega), if_neg (by omega), if_neg (by omega)]
          have a5 : 65 ≤ r := by omega
          have a6 : ¬ r ≤ 90 := by omega
          go_enter Tryz.func55, Tryz.ntmps55
          go_wp2
          go_ret
          exact ⟨ret_int HE.out, rfl⟩
      · by_cases a5 : 65 ≤ r
        · by_cases a6 : r ≤ 90
          · have HE : Hid (r - 65 + 10 = valN r) := by show _ = _; unfold valN; rw [if_neg (by omega), if_neg (by omega), if_pos ⟨a5, a6⟩]; omega
            go_enter Tryz.func55, Tryz.ntmps55
            go_wp2
            go_ret
            exact ⟨ret_int HE.out, rfl⟩
          · have HE : Hid (36 = valN r) := by show _ = _; unfold valN; rw [if_neg (by omega), if_neg (by omega), if_neg (by omega)]
            go_enter Tryz.func55, Tryz.ntmps55
            go_wp2
            go_ret
            exact ⟨ret_int HE.out, rfl⟩
        · have HE : Hid (36 = valN r) := by show _ = _; unfold valN; rw [if_neg (by omega), if_neg (by omega), if_neg (by omega)]
          go_enter Tryz.func55, Tryz.ntmps55
          go_wp2
          go_ret
          exact ⟨ret_int HE.out, rfl⟩
  · have HE : Hid (36 = valN r) := by show _ = _; unfold valN; rw [if_neg (by omega), if_neg (by omega), if_neg (by omega)]
    have a3 : ¬ 97 ≤ r := by omega
    have a5 : ¬ 65 ≤ r := by omega
    go_enter Tryz.func55, Tryz.ntmps55
    go_wp2
    go_ret
    exact ⟨ret_int HE.out, rfl⟩
def knownB (b : Int) : Bool := decide (2 ≤ b ∧ b ≤ 36)
theorem known_any (b : Int) (w : World) :
    Calls Tryz.prog 24 #[.int .i64 b] w fun e w' => e = .returned (.bool (knownB b)) ∧ w = w' := by
  by_cases a1 : 2 ≤ b
  · by_cases a2 : b ≤ 36
    · have HE : Hid (knownB b = true) := by show _ = _; unfold knownB; simp [a1, a2]
      go_enter Tryz.func24, Tryz.ntmps24
      go_wp2
      go_ret
      exact ⟨by rw [HE.out]; rfl, rfl⟩
    · have HE : Hid (knownB b = false) := by show _ = _; unfold knownB; simp [a2]
      go_enter Tryz.func24, Tryz.ntmps24
      go_wp2
      go_ret
      exact ⟨by rw [HE.out]; rfl, rfl⟩
  · have HE : Hid (knownB b = false) := by show _ = _; unfold knownB; simp [a1]
    go_enter Tryz.func24, Tryz.ntmps24
    go_wp2
    go_ret
    exact ⟨by rw [HE.out]; rfl, rfl⟩
/-- the greatest power of the base that is a word -/
def IsStep (b : Int) (c : Nat) : Prop := 1 ≤ c ∧ c ≤ 64 ∧ b ^ c < 18446744073709551616 ∧ 18446744073709551616 ≤ b ^ (c + 1)
theorem step_small {b : Int} {c : Nat} (hb : 2 ≤ b) (h : b ^ c < 18446744073709551616) : c < 64 := by
  by_cases g : c < 64
  · exact g
  · have a : (2 : Int) ^ 64 ≤ 2 ^ c := p2mono (by omega)
    have e : (2 : Int) ^ c ≤ b ^ c := by
      induction c with
      | zero => simp
      | succ c _ =>
        have : ∀ k : Nat, (2 : Int) ^ k ≤ b ^ k := by
          intro k
          induction k with
          | zero => simp
          | succ k ih =>
            rw [Int.pow_succ, Int.pow_succ]
            exact Int.mul_le_mul ih hb (by omega) (Int.pow_nonneg (by omega))
        exact this _
    have f : (2 : Int) ^ 64 = 18446744073709551616 := by decide
    omega
set_option maxHeartbeats 1600000 in
set_option maxRecDepth 100000 in
theorem step_any (b : Int) (hb : 2 ≤ b) (hb9 : b ≤ 36) (w : World) :
    Calls Tryz.prog 60 #[.int .i64 b] w fun e w' => ∃ c : Nat, e = .returned (.tuple #[.int .u64 (b ^ c), .int .i64 (c : Int)]) ∧ IsStep b c ∧ w = w' := by
  go_enter Tryz.func60, Tryz.ntmps60
  have hb1 : b ^ 1 = b := Int.pow_one b
  have hwb : IntKind.u64.wrap b = b := by rw [wrapU]; omega
  have hbz : (b == 0) = false := by simp; omega
  go_wp2
  go_loop [4, 5] (fun s c => ∃ k : Nat, s = .int .u64 (b ^ k) ∧ c = .int .i64 (k : Int) ∧ 1 ≤ k ∧ k < 64 ∧ b ^ k < 18446744073709551616) (fun _ c => 64 - (intOf c).toNat)
  case atStart => exact ⟨1, by rw [hb1], rfl, by omega, by omega, by rw [hb1]; omega⟩
  case round =>
    obtain ⟨k, rfl, rfl, hk1, hk2, hkB⟩ := hrel
    have hp : 0 < b ^ k := Int.pow_pos (by omega)
    have hs : b ^ (k + 1) = b ^ k * b := Int.pow_succ ..
    have hsm := step_small (b := b) (c := k + 1) hb
    clear hb1
    by_cases hle : b ^ k ≤ 18446744073709551615 / b
    · have hlt : b ^ k * b < 18446744073709551616 := by
        have := Int.mul_le_mul_of_nonneg_right hle (show 0 ≤ b by omega)
        have d := Int.ediv_mul_le 18446744073709551615 (show b ≠ 0 by omega)
        omega
      have h64 := hsm (by rw [hs]; exact hlt)
      have hmn : 0 ≤ b ^ k * b := Int.mul_nonneg (by omega) (by omega)
      have HS : Hid (b ^ (k + 1) = b ^ k * b) := hs
      clear hs hsm
      generalize b ^ k = P at *
      go_wp2
      go_round
      case rel => exact ⟨k + 1, by rw [HS.out], by go_num, by omega, h64, by rw [HS.out]; exact hlt⟩
      case measure => simp [intOf]; omega
    · have hge : 18446744073709551616 ≤ b ^ (k + 1) := by
        rw [hs]
        have d := Int.lt_ediv_add_one_mul_self 18446744073709551615 (show 0 < b by omega)
        have := Int.mul_le_mul_of_nonneg_right (show 18446744073709551615 / b + 1 ≤ b ^ k by omega) (show 0 ≤ b by omega)
        omega
      have HI : IsStep b k := ⟨hk1, by omega, hkB, hge⟩
      clear hs hsm hge
      go_wp2
      go_ret2
      exact ⟨k, rfl, HI, rfl⟩
end Go.Proofs.YtceecgklgkiffabGreatDoor

/- package radix: wrong; strings.TrimLeft at one zero. -/
namespace Go.Proofs.YtceecgklgkiffabGreatDoor
open Go.ChangeShapes Go.WideShapes Go.ChangeAt Go.RowKit
open Na Ar
set_option linter.unusedVariables false
namespace Na
/-- the value of byte i as a digit -/
def dgt (s : ByteArray) (i : Nat) : Int := valN ((s.get! i).toNat : Int)
theorem get_byte {s : ByteArray} {i : Nat} (h : i < s.size) : s.get! i = s[i]'h := get_at s i h
/-- where the first byte is that is no digit, and whether there is one -/
def WrongIs (s : ByteArray) (b : Int) (at' : Nat) (ok : Bool) : Prop :=
  (ok = true ∧ at' < s.size ∧ b ≤ dgt s at' ∧ ∀ i, i < at' → dgt s i < b) ∨ (ok = true ∧ s.size = 0 ∧ at' = 0) ∨ (ok = false ∧ 0 < s.size ∧ at' = 0 ∧ ∀ i, i < s.size → dgt s i < b)
end Na
set_option maxHeartbeats 1600000 in
set_option maxRecDepth 100000 in
theorem wrong_any (s : ByteArray) (b : Int) (hb : 2 ≤ b) (hb9 : b ≤ 36) (hs : s.size ≤ maxLen) (w : World) :
    Calls Tryz.prog 26 #[.string s, .int .i64 b] w fun e w' => ∃ (at' : Nat) (ok : Bool), e = .returned (.tuple #[.int .i64 (at' : Int), .bool ok]) ∧ WrongIs s b at' ok ∧ Below w.heap.size w w' := by
  have hbel := fun pos => (World.iter_extends w s pos)
  have hB : ∀ pos, Below w.heap.size w (w.iter s pos) := fun pos => (Below.refl _ _).alloc (Nat.le_refl _) _
  go_enter Tryz.func26, Tryz.ntmps26
  go_wp2
  go_loopw [6, 7] (fun _ _ wr => ∃ pos : Nat, pos ≤ s.size ∧ wr = w.iter s pos ∧ Hid (∀ i, i < pos → dgt s i < b)) (fun _ _ wr => s.size - wr.iterPos w.heap.size)
  case atStart => exact ⟨0, Nat.zero_le _, rfl, fun i hi => by omega⟩
  case round =>
    obtain ⟨pos, hp, rfl, hg⟩ := hrel
    by_cases hlt : pos < s.size
    · have hdg : dgt s pos = valN ((s[pos]'hlt).toNat : Int) := by unfold dgt; rw [get_byte hlt]
      by_cases ha : (s[pos]'hlt).toNat < 128
      · have hn := fun ty => run_next_ascii (P := Tryz.prog) w s pos ty hlt ha
        have hv := value_any ((s[pos]'hlt).toNat : Int) (by omega) (by omega) (w.iter s (pos + 1))
        rw [← hdg] at hv
        generalize ((s[pos]'hlt).toNat : Int) = r at *
        have hd0 := valN_bd r
        by_cases hbad : b ≤ dgt s pos
        · have HW : WrongIs s b pos true := Or.inl ⟨rfl, hlt, hbad, hg.out⟩
          clear hg hdg
          generalize dgt s pos = D at *
          go_wp2_with fail
          refine hv.mono ?_
          rintro e w' ⟨rfl, rfl⟩
          clear hv hn
          go_wp2
          go_ret2
          exact ⟨pos, true, rfl, HW, hB _⟩
        · have HG : Hid (∀ i, i < pos + 1 → dgt s i < b) := fun i hi => by
            by_cases q : i < pos
            · exact hg.out i q
            · have : i = pos := by omega
              rw [this]; omega
          clear hg hdg
          generalize dgt s pos = D at *
          go_wp2_with fail
          refine hv.mono ?_
          rintro e w' ⟨rfl, rfl⟩
          clear hv hn
          go_wp2
          go_roundw
          case rel => exact ⟨pos + 1, by omega, rfl, HG⟩
          case measure => simp; omega
      · have hn := fun ty => run_next_any (P := Tryz.prog) w s pos ty hlt
        have hh := decode_high s pos hlt (by omega)
        have hl := decode_le s pos
        have hv := value_any ((Utf8.decode s pos).1 : Int) (by omega) (by omega) (w.iter s (pos + (Utf8.decode s pos).2))
        rw [valN_high (by omega)] at hv
        have hbad : b ≤ dgt s pos := by rw [hdg, valN_high (by omega)]; exact hb9
        have HW : WrongIs s b pos true := Or.inl ⟨rfl, hlt, hbad, hg.out⟩
        clear hg hdg hbad
        generalize ((Utf8.decode s pos).1 : Int) = r at *
        generalize pos + (Utf8.decode s pos).2 = pos2 at *
        go_wp2_with fail
        refine hv.mono ?_
        rintro e w' ⟨rfl, rfl⟩
        clear hv hn
        go_wp2
        go_ret2
        exact ⟨pos, true, rfl, HW, hB _⟩
    · have hn := fun ty => run_next_end (P := Tryz.prog) w s pos ty hlt
      have HW : WrongIs s b 0 s.toList.isEmpty := by
        by_cases h0 : s.size = 0
        · have e : s.toList.isEmpty = true := by
            rw [Lib.toList_data]
            have := Lib.size_eq s
            rw [List.isEmpty_iff_length_eq_zero]; omega
          rw [e]; exact Or.inr (Or.inl ⟨rfl, h0, rfl⟩)
        · have e : s.toList.isEmpty = false := by
            rw [Lib.toList_data]
            have := Lib.size_eq s
            rw [← Bool.not_eq_true, List.isEmpty_iff_length_eq_zero]; omega
          rw [e]
          refine Or.inr (Or.inr ⟨rfl, by omega, rfl, fun i hi => hg.out i (by omega)⟩)
      clear hg
      go_wp2
      go_ret2
      exact ⟨0, _, rfl, HW, hB _⟩
/-- t is s from byte k on -/
def From (s t : ByteArray) (k : Nat) : Prop := t.data.toList = s.data.toList.drop k ∧ k ≤ s.size
theorem From.size {s t : ByteArray} {k : Nat} (h : From s t k) : t.size = s.size - k := by rw [Lib.size_eq, h.1, List.length_drop, ← Lib.size_eq]
theorem byte_list (s : ByteArray) (i : Nat) : s.get! i = s.data.toList.getD i 0 := by
  by_cases h : i < s.size
  · rw [get_byte h, List.getD_eq_getElem?_getD]
    have hl : i < s.data.toList.length := by rw [← Lib.size_eq]; exact h
    rw [List.getElem?_eq_getElem hl]
    rfl
  · have hl : ¬ i < s.data.toList.length := by rw [← Lib.size_eq]; exact h
    rw [List.getD_eq_getElem?_getD, List.getElem?_eq_none (by omega)]
    have : ¬ i < s.data.size := by simpa using hl
    show s.data[i]! = _
    rw [getElem!_neg s.data i this]; rfl
theorem From.byte {s t : ByteArray} {k : Nat} (h : From s t k) (i : Nat) : t.get! i = s.get! (k + i) := by
  rw [byte_list, byte_list, h.1]
  simp [List.getD_eq_getElem?_getD, List.getElem?_drop]
theorem From.next {s t : ByteArray} {k : Nat} (h : From s t k) (hk : k < s.size) : From s (t.extract 1 t.size) (k + 1) := by
  refine ⟨?_, by omega⟩
  have e : (t.extract 1 t.size).data.toList = (t.data.toList.drop 1) := by
    have := ByteArray.data_extract (a := t) (b := 1) (e := t.size)
    rw [this]
    simp
    rw [List.take_of_length_le]
    rw [List.length_tail, ← Lib.size_eq]
    exact Nat.le_refl _
  rw [e, h.1, List.drop_drop]
/-- t is s without the zeros ahead -/
def TrimIs (s t : ByteArray) : Prop := ∃ k, From s t k ∧ (∀ j, j < k → s.get! j = 48) ∧ (k < s.size → s.get! k ≠ 48)
set_option maxHeartbeats 1600000 in
set_option maxRecDepth 100000 in
theorem trimByte_any (s : ByteArray) (w : World) :
    Calls Tryz.prog 56 #[.string s, .int .u8 48] w fun e w' => ∃ t : ByteArray, e = .returned (.string t) ∧ TrimIs s t ∧ w = w' := by
  go_enter Tryz.func56, Tryz.ntmps56
  go_wp2
  go_loop [0] (fun v => ∃ (t : ByteArray) (k : Nat), v = .string t ∧ From s t k ∧ Hid (∀ j, j < k → s.get! j = 48)) (fun v => Lib.strSize v)
  case atStart => exact ⟨s, 0, rfl, ⟨by simp, Nat.zero_le _⟩, fun j hj => by omega⟩
  case round =>
    obtain ⟨t, k, rfl, hF, hz⟩ := hrel
    have hsz := hF.size
    by_cases h0 : 0 < t.size
    · have hb := hF.byte 0
      rw [get_byte h0, Nat.add_zero] at hb
      by_cases heq : t[0]'h0 = 48
      · have heq' : ((t[0]'h0).toNat : Int) = 48 := by rw [heq]; rfl
        have hN := hF.next (by omega)
        have HZ : Hid (∀ j, j < k + 1 → s.get! j = 48) := fun j hj => by
          by_cases q : j < k
          · exact hz.out j q
          · have : j = k := by omega
            rw [this, ← hb]; exact heq
        have HS : Hid ((t.extract 1 t.size).size < t.size) := by show _ < _; rw [hN.size]; omega
        clear hb heq hz hF hsz
        go_wp2
        go_round
        case rel => exact ⟨_, k + 1, rfl, hN, HZ⟩
        case measure => exact HS.out
      · have hne' : ¬ ((t[0]'h0).toNat : Int) = 48 := by
          intro e
          exact heq (UInt8.toNat_inj.1 (by show (t[0]'h0).toNat = 48; omega))
        have hbeq : (((t[0]'h0).toNat : Int) == 48) = false := by simpa using hne'
        have HK : Hid (k < s.size → s.get! k ≠ 48) := fun _ => by rw [← hb]; exact heq
        clear hb heq hsz
        go_wp2
        go_ret
        exact ⟨t, rfl, ⟨k, hF, hz.out, HK.out⟩, rfl⟩
    · have HK : Hid (k < s.size → s.get! k ≠ 48) := fun q => by omega
      have h1 : ¬ (0 : Int) < (t.size : Int) := by omega
      clear hsz
      go_wp2
      go_ret
      exact ⟨t, rfl, ⟨k, hF, hz.out, HK.out⟩, rfl⟩
set_option maxHeartbeats 1600000 in
set_option maxRecDepth 100000 in
theorem trimLeft_any (s : ByteArray) (w : World) :
    Calls Tryz.prog 27 #[.string s, .string ⟨#[48]⟩] w fun e w' => ∃ t : ByteArray, e = .returned (.string t) ∧ TrimIs s t ∧ w = w' := by
  have hc := trimByte_any s w
  by_cases h0 : s.size = 0
  · have e : s.toList.isEmpty = true := by
      rw [Lib.toList_data]
      have := Lib.size_eq s
      rw [List.isEmpty_iff_length_eq_zero]; omega
    clear hc
    go_enter Tryz.func27, Tryz.ntmps27
    go_wp2
    go_ret
    exact ⟨s, rfl, ⟨0, ⟨by simp, by omega⟩, fun j hj => by omega, fun q => by omega⟩, rfl⟩
  · have e : s.toList.isEmpty = false := by
      rw [Lib.toList_data]
      have := Lib.size_eq s
      rw [← Bool.not_eq_true, List.isEmpty_iff_length_eq_zero]; omega
    go_enter Tryz.func27, Tryz.ntmps27
    go_wp2_with fail
    refine hc.mono ?_
    rintro e w' ⟨t, rfl, ht, rfl⟩
    clear hc
    go_wp2
    go_ret
    exact ⟨t, rfl, ht, rfl⟩
end Go.Proofs.YtceecgklgkiffabGreatDoor

/- words.Times, radix.behind. -/
namespace Go.Proofs.YtceecgklgkiffabGreatDoor
open Go.ChangeShapes Go.WideShapes Go.ChangeAt Go.RowKit
open Na Ar
set_option linter.unusedVariables false
namespace Na
def tmLo (y x d : Int) : Int := (y * x + d) % 18446744073709551616
def tmHi (y x d : Int) : Int := (y * x + d) / 18446744073709551616
theorem tm_lo (y x d : Int) : addLo (mulLo y x) d 0 = tmLo y x d := by unfold addLo mulLo tmLo; omega
theorem U_tmHi {y x d : Int} (hy : U y) (hx : U x) (hd : U d) : U (tmHi y x d) := by
  unfold U at *
  have m0 : 0 ≤ y * x := Int.mul_nonneg hy.1 hx.1
  have m1 : y * x ≤ 18446744073709551615 * 18446744073709551615 := Int.mul_le_mul (by omega) (by omega) hx.1 (by omega)
  unfold tmHi
  generalize y * x = z at *
  omega
theorem tm_hi {y x d : Int} (hy : U y) (hx : U x) (hd : U d) : IntKind.u64.wrap (mulHi y x + addHi (mulLo y x) d 0) = tmHi y x d := by
  have h := U_tmHi hy hx hd
  unfold U at *
  rw [IntKind.wrap_u64]
  unfold mulHi addHi mulLo
  unfold tmHi at *
  generalize y * x = z at *
  omega
/-- k words are multiplied -/
def TmI (ds : List Int) (x c0 : Int) (k : Nat) (d : Int) (us : List Int) : Prop := Ws us ∧ us.length = ds.length ∧ U d ∧ us.drop k = ds.drop k ∧
  num us + 18446744073709551616 ^ k * d = num ds + (x - 1) * num (ds.take k) + c0
theorem tmI_start {ds : List Int} {x c0 : Int} (h : Ws ds) (hc : U c0) : TmI ds x c0 0 c0 ds := ⟨h, rfl, hc, rfl, by simp [num, val]⟩
theorem tmI_step {ds us : List Int} {x c0 d : Int} {k : Nat} (h : TmI ds x c0 k d us) (hx : U x) (hk : k < us.length) : TmI ds x c0 (k + 1) (tmHi (us.getD k 0) x d) (us.set k (tmLo (us.getD k 0) x d)) := by
  obtain ⟨h1, h2, h3, h4, h5⟩ := h
  have gu : U (us.getD k 0) := h1.get hk
  have ed : us.getD k 0 = ds.getD k 0 := getD_drop h4
  refine ⟨h1.set _ (by unfold tmLo; omega), by rw [List.length_set]; exact h2, U_tmHi gu hx h3, ?_, ?_⟩
  · rw [List.drop_set_of_lt (by omega)]
    have := congrArg (List.drop 1) h4
    rw [List.drop_drop, List.drop_drop] at this
    exact this
  · have e : us.getD k 0 + (x - 1) * us.getD k 0 + d = tmLo (us.getD k 0) x d + 18446744073709551616 * tmHi (us.getD k 0) x d := by
      have q : us.getD k 0 + (x - 1) * us.getD k 0 = us.getD k 0 * x := by grind
      rw [q]
      unfold tmLo tmHi
      generalize us.getD k 0 * x = z
      omega
    have p := put_word (j := k) (c := d) (p := (x - 1) * us.getD k 0) hk e
    have t : num (ds.take (k + 1)) = num (ds.take k) + 18446744073709551616 ^ k * ds.getD k 0 := take_valB (by omega)
    rw [p, h5, t, ed]
    generalize (18446744073709551616 : Int) ^ k = P
    generalize ds.getD k 0 = y
    generalize num (ds.take k) = V
    grind
theorem tmI_done {ds us : List Int} {x c0 d : Int} (h : TmI ds x c0 ds.length d us) : num us + 18446744073709551616 ^ ds.length * d = num ds * x + c0 := by
  have e := h.2.2.2.2
  rw [List.take_of_length_le (Nat.le_refl _)] at e
  rw [e]
  generalize num ds = N
  grind
/-- what is normal stays so -/
theorem behind_list {T x c d : Int} {us : List Int} (hT : 0 ≤ T) (hx : 1 ≤ x) (hc : 0 ≤ c) (h : TmI (words T) x c (words T).length d us) : (d = 0 → us = words (T * x + c)) ∧ (d ≠ 0 → us ++ [d] = words (T * x + c)) := by
  have e := tmI_done h
  rw [num_words hT] at e
  have hU := h.2.2.1
  have hm : T ≤ T * x + c := by
    have := Int.mul_le_mul_of_nonneg_left hx hT
    omega
  constructor
  · intro h0
    rw [h0, Int.mul_zero, Int.add_zero] at e
    have s := words_strip h.1
    rw [e] at s
    have l1 := words_mono hT hm
    have l2 := strip_length us
    rw [s] at l2
    have f := strip_full (xs := us) (by rw [s, h.2.1]; have := h.2.1; omega)
    rw [← s, f]
  · intro h0
    have n : num (us ++ [d]) = T * x + c := by
      show val _ _ = _
      rw [val_append, h.2.1]
      have : val 18446744073709551616 us = num us := rfl
      rw [this, ← e]
      simp [val]
    have w : Ws (us ++ [d]) := h.1.append (Dg.one hU)
    have s := words_strip w
    rw [n, strip_end us d h0] at s
    exact s
end Na
set_option maxHeartbeats 1600000 in
set_option maxRecDepth 100000 in
theorem times_in {g cap N base : Nat} {ds : List Int} {x c0 : Int} {w : World} (hown : Own .u64 w base 22 (.slice (some ⟨g, 0, none⟩) N cap) ds) (hN : N = ds.length) (hd : Ws ds) (hx : U x) (hc : U c0) (hN' : N ≤ 12000000) :
    Calls Tryz.prog 95 #[.slice (some ⟨g, 0, none⟩) N cap, .int .u64 x, .int .u64 c0] w fun e w' => ∃ d us, e = .returned (.int .u64 d) ∧ Own .u64 w' base 22 (.slice (some ⟨g, 0, none⟩) N cap) us ∧ TmI ds x c0 N d us ∧ In g (g + 1) w w' := by
  have HN : Hid (N = ds.length) := hN
  have hst := tmI_start (x := x) hd hc
  have hii := In.refl g (g + 1) w
  clear hN
  go_enter Tryz.func95, Tryz.ntmps95
  go_wp2
  go_loopw [2, 7, 8, 9, 10, 13] (fun c _ _ _ _ k wr => ∃ (j : Nat) (D : Int) (us : List Int), k = .int .i64 j ∧ c = .int .u64 D ∧ j ≤ N ∧ Own .u64 wr base 22 (.slice (some ⟨g, 0, none⟩) N cap) us ∧ TmI ds x c0 j D us ∧ In g (g + 1) w wr) (fun _ _ _ _ _ k _ => N - (intOf k).toNat)
  case atStart => exact ⟨0, c0, ds, rfl, rfl, by omega, hown, hst, hii⟩
  case round =>
    obtain ⟨j, D, us, rfl, rfl, hj, hou, hinv, hnx⟩ := hrel
    clear hown hst hii
    by_cases hlt : j < N
    · have hlu : N = us.length := by rw [hinv.2.1]; exact HN.out
      have gu : U (us.getD j 0) := hinv.1.getAnyB j
      have gd := hinv.2.2.1
      have hstep := tmI_step hinv hx (by omega)
      have hlo := tm_lo (us.getD j 0) x D
      have hhi := tm_hi gu hx gd
      have hce := hou.cellAt hlu (j := j) hlt
      clear hinv
      generalize us.getD j 0 = y at *
      go_wp2_with fail
      refine (mul_any gu hx _).mono ?_
      rintro e w1 ⟨_, _, rfl, hg1, rfl, rfl⟩
      have hou1 := hou.later hg1.2
      have hce1 := hou1.cellAt hlu (j := j) hlt
      have hfz := hou1.frozenAt hlu j
      have hO := hou1.set hlu j (tmLo y x D)
      have hnx1 := hnx.later hg1.2
      have um1 := U_mulLo y x
      have um2 := U_mulHi gu hx
      have hlo' : Hid (addLo (mulLo y x) D 0 = tmLo y x D) := hlo
      have hhi' : Hid (IntKind.u64.wrap (mulHi y x + addHi (mulLo y x) D 0) = tmHi y x D) := hhi
      clear hou hou1 hnx hg1 hlo hhi hlu hce
      go_wp2_with fail
      refine (add_any um1 gd U_zero _).mono ?_
      rintro e w2 ⟨_, _, rfl, rfl, rfl, rfl⟩
      rw [hlo'.out]
      go_wp2
      go_roundw
      case rel => exact ⟨j + 1, _, _, by go_num, by rw [hhi'.out], by omega, hO, hstep, hnx1.set1 _ _⟩
      case measure => simp [intOf]; omega
    · have hj2 : j = N := by omega
      subst hj2
      go_wp2
      go_ret
      exact ⟨D, us, rfl, hou, hinv, hnx⟩
set_option maxHeartbeats 1600000 in
set_option maxRecDepth 100000 in
theorem times_nil {x c0 : Int} (w : World) :
    Calls Tryz.prog 95 #[.slice none 0 0, .int .u64 x, .int .u64 c0] w fun e w' => e = .returned (.int .u64 c0) ∧ w = w' := by
  go_enter Tryz.func95, Tryz.ntmps95
  go_wp2
  go_loop [2, 7, 8, 9, 10, 13] (fun c _ _ _ _ k => c = .int .u64 c0 ∧ k = .int .i64 0) (fun _ _ _ _ _ _ => 0)
  case atStart => exact ⟨rfl, rfl⟩
  case round =>
    obtain ⟨rfl, rfl⟩ := hrel
    go_wp2
    go_ret
    exact ⟨rfl, rfl⟩
end Go.Proofs.YtceecgklgkiffabGreatDoor

/- radix.behind, radix.number. -/
namespace Go.Proofs.YtceecgklgkiffabGreatDoor
open Go.ChangeShapes Go.WideShapes Go.ChangeAt Go.RowKit
open Na Ar
open Go.Lib
set_option linter.unusedVariables false
theorem times_own {base : Nat} {v : Value} {ds : List Int} {x c0 : Int} {w : World} (hown : Own .u64 w base 22 v ds) (hd : Ws ds) (hx : U x) (hc : U c0) (hl : ds.length ≤ 12000000) :
    Calls Tryz.prog 95 #[v, .int .u64 x, .int .u64 c0] w fun e w' => ∃ d us, e = .returned (.int .u64 d) ∧ Own .u64 w' base 22 v us ∧ TmI ds x c0 ds.length d us ∧ Below base w w' := by
  rcases hown.2 with ⟨hv, _⟩ | ⟨g, cap, cur, hv, hb, _⟩
  · have hl0 : ds = [] := by
      rw [hv] at hown
      obtain ⟨a, c, e, _⟩ := hown.readsC
      simp only [Value.slice.injEq] at e
      exact List.eq_nil_of_length_eq_zero e.2.1.symm
    subst hv
    subst hl0
    refine (times_nil w).mono ?_
    rintro e w' ⟨rfl, rfl⟩
    exact ⟨c0, [], rfl, own_nil _ _ _ _, tmI_start (Dg.nil _) hc, Below.refl _ _⟩
  · subst hv
    refine (times_in hown rfl hd hx hc hl).mono ?_
    rintro e w' ⟨d, us, rfl, ho, ht, hi⟩
    refine ⟨d, us, rfl, ho, ht, ?_⟩
    have hlt := hown.lt
    have hbs : Below g w w' := hi.below (Nat.le_of_lt hlt)
    exact hbs.mono hb
set_option maxHeartbeats 1600000 in
set_option maxRecDepth 100000 in
theorem behind_any {base : Nat} {v : Value} {T x c0 : Int} {w : World} (hown : Own .u64 w base 22 v (words T)) (hT : 0 ≤ T) (hx : U x) (hx1 : 1 ≤ x) (hc : U c0) (hl : (words T).length ≤ 12000000) (hbase : base ≤ w.heap.size) :
    Calls Tryz.prog 63 #[v, .int .u64 x, .int .u64 c0] w fun e w' => ∃ v', e = .returned v' ∧ Own .u64 w' base 22 v' (words (T * x + c0)) ∧ Below base w w' := by
  obtain ⟨i_u64, hi_u64, hz0_u64, hz1_u64, hz2_u64⟩ := info_parts info_u64
  have ht := times_own hown (Dg_words T) hx hc hl
  go_enter Tryz.func63, Tryz.ntmps63
  go_wp2_with fail
  refine ht.mono ?_
  rintro e w1 ⟨d, us, rfl, hou, htm, hb1⟩
  have hbl := behind_list hT hx1 hc.1 htm
  have hul := htm.2.1
  have hsz : base ≤ w1.heap.size := Nat.le_trans hbase hb1.size
  clear ht hown htm
  by_cases h0 : d = 0
  · have t0 : (d == 0) = true := beq_of h0
    have e := hbl.1 h0
    rw [e] at hou
    clear hbl h0
    go_wp2
    go_ret
    exact ⟨_, rfl, hou, hb1⟩
  · have t0 : (d == 0) = false := beq_no h0
    have HE : Hid (us ++ [d] = words (T * x + c0)) := hbl.2 h0
    clear hbl h0
    go_wp2_with (at_builtin; refine wpList_append_own _ rfl _ _ 30 rfl base 22 i_u64 (.int .u64 0) 1 8 Tryz.underlying30 hi_u64 hz0_u64 hz1_u64 hz2_u64 rfl (by decide) _ _ _ rfl (hou.row.alloc _) ⟨w1.heap.size, 0, none⟩ 1 1 [.int .u64 d] rfl rfl one_new one_cell (by unfold maxLen; omega) (by omega) (by simp; omega) ?_)
    intro v' w2 hown' hgrow _
    have hb' := grow_below hsz hou.row hb1 hgrow
    have ho' := own_next hown' (by omega)
    rw [HE.out] at ho'
    clear hown' hgrow hou
    go_wp2
    go_ret
    exact ⟨_, rfl, ho', hb'⟩
namespace Na
/-- the number that the first i bytes say -/
def numB (s : ByteArray) (b : Int) : Nat → Int
  | 0 => 0
  | i + 1 => numB s b i * b + dgt s i
theorem ipow_monoB {b : Int} (h : 1 ≤ b) {m n : Nat} (hmn : m ≤ n) : b ^ m ≤ b ^ n := by
  obtain ⟨k, rfl⟩ : ∃ k, n = m + k := ⟨n - m, by omega⟩
  rw [Int.pow_add]
  have p : 0 ≤ b ^ m := Int.pow_nonneg (by omega)
  have q : 1 ≤ b ^ k := by have : 0 < b ^ k := Int.pow_pos (by omega); omega
  have := Int.mul_le_mul_of_nonneg_left q p
  omega
theorem dgt_bd (s : ByteArray) (i : Nat) : 0 ≤ dgt s i ∧ dgt s i ≤ 36 := valN_bd _
theorem numB_nonneg {s : ByteArray} {b : Int} (hb : 0 ≤ b) (i : Nat) : 0 ≤ numB s b i := by
  induction i with
  | zero => exact Int.le_refl _
  | succ i ih =>
    have := dgt_bd s i
    have m := Int.mul_nonneg ih hb
    show 0 ≤ numB s b i * b + dgt s i
    omega
theorem numB_lt {s : ByteArray} {b : Int} (hb : 2 ≤ b) {n : Nat} (h : ∀ i, i < n → dgt s i < b) : numB s b n < b ^ n := by
  induction n with
  | zero => simp [numB]
  | succ n ih =>
    have a := ih (fun i hi => h i (by omega))
    have c := h n (by omega)
    show numB s b n * b + dgt s n < b ^ (n + 1)
    rw [Int.pow_succ]
    have m := Int.mul_le_mul_of_nonneg_right (show numB s b n + 1 ≤ b ^ n by omega) (show 0 ≤ b by omega)
    rw [Int.add_mul] at m
    omega
theorem numB_len {s : ByteArray} {b : Int} (hb : 2 ≤ b) (hb9 : b ≤ 36) {n : Nat} (h : ∀ i, i < n → dgt s i < b) : (words (numB s b n)).length ≤ n := by
  have l : Lt (numB s b n) n := by
    refine ⟨numB_nonneg (by omega) n, Int.lt_of_lt_of_le (numB_lt hb h) ?_⟩
    have : ∀ k : Nat, b ^ k ≤ (18446744073709551616 : Int) ^ k := by
      intro k
      induction k with
      | zero => simp
      | succ k ih =>
        rw [Int.pow_succ, Int.pow_succ]
        exact Int.mul_le_mul ih (by omega) (by omega) (Int.pow_nonneg (by omega))
    exact this n
  exact l.len
/-- what is read, in its parts: c digits stand by themselves -/
def NuI (s : ByteArray) (b : Int) (pos c : Nat) (T P : Int) : Prop := 0 ≤ T ∧ 0 ≤ P ∧ P < b ^ c ∧ T * b ^ c + P = numB s b pos
theorem nuI_next {s : ByteArray} {b : Int} {pos c : Nat} {T P : Int} (h : NuI s b pos c T P) (hb : 2 ≤ b) (hd : dgt s pos < b) : NuI s b (pos + 1) (c + 1) T (P * b + dgt s pos) := by
  obtain ⟨h1, h2, h3, h4⟩ := h
  have d := dgt_bd s pos
  have m := Int.mul_nonneg h2 (show 0 ≤ b by omega)
  refine ⟨h1, by omega, ?_, ?_⟩
  · rw [Int.pow_succ]
    have m := Int.mul_le_mul_of_nonneg_right (show P + 1 ≤ b ^ c by omega) (show 0 ≤ b by omega)
    rw [Int.add_mul] at m
    omega
  · show _ = numB s b pos * b + dgt s pos
    rw [← h4, Int.pow_succ]; grind
theorem nuI_flush {s : ByteArray} {b : Int} {pos c : Nat} {T P : Int} (h : NuI s b pos c T P) : NuI s b pos 0 (T * b ^ c + P) 0 := by
  obtain ⟨h1, h2, h3, h4⟩ := h
  have p : 0 ≤ T * b ^ c := Int.mul_nonneg h1 (by omega)
  exact ⟨by omega, by omega, by simp, by simp; exact h4⟩
theorem nuI_le {s : ByteArray} {b : Int} {pos c : Nat} {T P : Int} (h : NuI s b pos c T P) (hb : 2 ≤ b) : T ≤ numB s b pos := by
  obtain ⟨h1, h2, h3, h4⟩ := h
  have p : 0 < b ^ c := Int.pow_pos (by omega)
  have := Int.mul_le_mul_of_nonneg_left (show 1 ≤ b ^ c by omega) h1
  omega
end Na
theorem Own.iterAt {w : World} {g k : Nat} {e : TypeId} {v : Value} {xs : List Int} (h : Own .u64 w (g + 1) e v xs) (s : ByteArray) (pos : Nat) : Own .u64 (w.iterAt g s pos) (g + 1) e v xs := by
  obtain ⟨h1, h2⟩ := h
  refine ⟨h1, ?_⟩
  rcases h2 with h2 | ⟨g2, c, cur, hv, hb2, hc, r⟩
  · exact Or.inl h2
  · refine Or.inr ⟨g2, c, cur, hv, hb2, ?_, r⟩
    rw [iterAt_other w g g2 s pos (by omega)]; exact hc
theorem iterPos_of {w : World} {g : Nat} {s : ByteArray} {p : Nat} (h : w.heap[g]? = some (.stringIter s p)) : w.iterPos g = p := by
  unfold World.iterPos
  rw [h]
theorem dgt_ascii {s : ByteArray} {i : Nat} {b : Int} (hi : i < s.size) (hb : b ≤ 36) (h : dgt s i < b) : (s[i]'hi).toNat < 128 := by
  by_cases g : (s[i]'hi).toNat < 128
  · exact g
  · exfalso
    unfold dgt at h
    rw [get_byte hi, valN_high (by omega)] at h
    omega
set_option maxHeartbeats 3200000 in
set_option maxRecDepth 100000 in
theorem number_any (s : ByteArray) (b : Int) (hb : 2 ≤ b) (hb9 : b ≤ 36) (hs : s.size ≤ 11000000) (hd : ∀ i, i < s.size → dgt s i < b) (w : World) :
    Calls Tryz.prog 29 #[.string s, .int .i64 b] w fun e w' => ∃ v, e = .returned v ∧ Own .u64 w' w.heap.size 22 v (words (numB s b s.size)) ∧ Below w.heap.size w w' := by
  have hwb : IntKind.u64.wrap b = b := by rw [wrapU]; omega
  go_enter Tryz.func29, Tryz.ntmps29
  go_wp2_with fail
  refine (step_any b hb hb9 w).mono ?_
  rintro e w' ⟨K, rfl, hst, rfl⟩
  obtain ⟨k1, k2, k3, k4⟩ := hst
  have k0 : 1 ≤ b ^ K := by have : 0 < b ^ K := Int.pow_pos (by omega); omega
  obtain ⟨M, hM⟩ : ∃ M, M = b ^ K := ⟨_, rfl⟩
  have HM : Hid (M = b ^ K) := hM
  rw [← hM] at k0 k3 ⊢
  obtain ⟨g, hg⟩ : ∃ g, g = w.heap.size := ⟨_, rfl⟩
  have hit : (w.iter s 0).heap[g]? = some (.stringIter s 0) := by rw [hg]; exact World.iter_heap w s 0
  have hB0 : Below g w (w.iter s 0) := by rw [hg]; exact (Below.refl _ _).alloc (Nat.le_refl _) _
  have hsz0 : g + 1 ≤ (w.iter s 0).heap.size := by rw [hg]; show _ ≤ (w.heap.push _).size; simp
  have hn0 : NuI s b 0 0 0 0 := ⟨by omega, by omega, by simp, by simp [numB]⟩
  have hz : words 0 = [] := dig_zero _
  clear hM
  go_wp2
  rw [← hg]
  generalize w.iter s 0 = w0 at *
  have HG : Hid (g = w.heap.size) := hg
  clear hg
  go_loopw [5, 8, 9, 11] (fun v p z _ wr => ∃ (pos c : Nat) (T P : Int), p = .int .u64 P ∧ z = .int .u64 (b ^ c) ∧ pos ≤ s.size ∧ c ≤ K ∧ wr.heap[g]? = some (.stringIter s pos) ∧ Own .u64 wr (g + 1) 22 v (words T) ∧ NuI s b pos c T P ∧ g + 1 ≤ wr.heap.size ∧ Below g w wr) (fun _ _ _ _ wr => s.size - wr.iterPos g)
  case atStart => exact ⟨0, 0, 0, 0, rfl, by simp, Nat.zero_le _, Nat.zero_le _, hit, by rw [hz]; exact own_nil _ _ _ _, hn0, hsz0, hB0⟩
  case round =>
    obtain ⟨pos, c, T, P, rfl, rfl, hp, hcK, hit', hov, hinv, hsz, hnx⟩ := hrel
    clear hit hB0 hsz0 hn0
    have hT0 := hinv.1
    have hP0 := hinv.2.1
    have hPc := hinv.2.2.1
    have hbc : 0 < b ^ c := Int.pow_pos (by omega)
    have hcM : b ^ c ≤ M := by rw [HM.out]; exact ipow_monoB (by omega) hcK
    have hlen : (words T).length ≤ 12000000 := by
      have a := words_mono hT0 (nuI_le hinv hb)
      have c := numB_len (s := s) hb hb9 (n := pos) (fun i hi => hd i (by omega))
      omega
    have uz : U (b ^ c) := by unfold U; omega
    have uP : U P := by unfold U; omega
    by_cases hlt : pos < s.size
    · have hda := hd pos hlt
      have hd0 := dgt_bd s pos
      have ha := dgt_ascii hlt hb9 hda
      have hn := fun ty => run_next_ascii_at (P := Tryz.prog) wr g s pos ty hit' hlt ha
      have hit1 := iterAt_heap wr g s pos (pos + 1) hit'
      have hov1 := Own.iterAt (k := 0) hov s (pos + 1)
      have hsz1 : g + 1 ≤ (wr.iterAt g s (pos + 1)).heap.size := by rw [iterAt_size]; exact hsz
      have hB1 := below_iterAt hnx (Nat.le_refl g) s (pos + 1)
      have hdg : dgt s pos = valN ((s[pos]'hlt).toNat : Int) := by unfold dgt; rw [get_byte hlt]
      have hv := fun w => value_any ((s[pos]'hlt).toNat : Int) (by omega) (by omega) w
      rw [← hdg] at hv
      have hip := iterPos_of hit'
      clear hdg hit' hov hsz hnx
      generalize ((s[pos]'hlt).toNat : Int) = r at *
      obtain ⟨w1, hw1⟩ : ∃ w1, w1 = wr.iterAt g s (pos + 1) := ⟨_, rfl⟩
      rw [← hw1] at hn hit1 hov1 hsz1 hB1
      clear hw1
      by_cases hc : c = K
      · have hq : (b ^ c == M) = true := by rw [hc, ← HM.out]; simp
        have hbh := behind_any hov1 hT0 uz (by omega) uP hlen hsz1
        have hfl := nuI_next (nuI_flush hinv) hb hda
        have e1 : b ^ (0 + 1) = b := by rw [Nat.zero_add, Int.pow_one]
        have e2 : (0 : Int) * b + dgt s pos = dgt s pos := by simp
        rw [e2] at hfl
        have HF : Hid (NuI s b (pos + 1) (0 + 1) (T * b ^ c + P) (dgt s pos)) := hfl
        have hdU : dgt s pos ≤ 36 := hd0.2
        have hdN : 0 ≤ dgt s pos := hd0.1
        clear hinv hfl hd0 hda e2 hc hcM
        generalize dgt s pos = D at *
        generalize b ^ c = Z at *
        go_wp2_with fail
        refine hbh.mono ?_
        rintro e w2 ⟨v2, rfl, hv2, hb2⟩
        have hit2 : w2.heap[g]? = some (.stringIter s (pos + 1)) := by rw [hb2.block g (by omega)]; exact hit1
        have hsz2 := Nat.le_trans hsz1 hb2.size
        have hB2 := hB1.trans (hb2.mono (by omega))
        have hip2 := iterPos_of hit2
        clear hbh hov1 hit1
        go_wp2_with fail
        refine (hv _).mono ?_
        rintro e w' ⟨rfl, rfl⟩
        clear hv hn
        go_wp2
        go_roundw
        case rel => exact ⟨pos + 1, 0 + 1, _, D, rfl, by rw [e1], by omega, by omega, hit2, hv2, HF.out, hsz2, hB2⟩
        case measure => rw [hip, hip2]; omega
      · have hcK2 : c + 1 ≤ K := by omega
        have hq : (b ^ c == M) = false := by
          have : b ^ c < M := by
            rw [HM.out]
            have a := ipow_monoB (b := b) (by omega) hcK2
            rw [Int.pow_succ] at a
            have := Int.mul_le_mul_of_nonneg_left hb (show 0 ≤ b ^ c by omega)
            omega
          simp; omega
        have hnx2 := nuI_next hinv hb hda
        have hsM : b ^ (c + 1) ≤ M := by rw [HM.out]; exact ipow_monoB (by omega) hcK2
        have hlt3 := hnx2.2.2.1
        have hnn3 := hnx2.2.1
        have hPb : 0 ≤ P * b := Int.mul_nonneg hP0 (by omega)
        have hzb : 0 ≤ b ^ c * b := Int.mul_nonneg (by omega) (by omega)
        have hzM : b ^ c * b ≤ M := by rw [← Int.pow_succ]; exact hsM
        have HZ : Hid (b ^ (c + 1) = b ^ c * b) := Int.pow_succ ..
        have HF : Hid (NuI s b (pos + 1) (c + 1) T (P * b + dgt s pos)) := hnx2
        have hPd : P * b + dgt s pos < 18446744073709551616 := by omega
        have hdU : dgt s pos ≤ 36 := hd0.2
        have hdN : 0 ≤ dgt s pos := hd0.1
        have hip1 := iterPos_of hit1
        clear hinv hnx2 hd0 hda hsM hlt3 hnn3 hc
        generalize dgt s pos = D at *
        generalize b ^ c = Z at *
        have hw1 : IntKind.u64.wrap (P * b) = P * b := by rw [wrapU]; exact Int.emod_eq_of_lt hPb (by omega)
        have hw2 : IntKind.u64.wrap (P * b + D) = P * b + D := by rw [wrapU]; exact Int.emod_eq_of_lt (by omega) hPd
        have hw3 : IntKind.u64.wrap (Z * b) = Z * b := by rw [wrapU]; exact Int.emod_eq_of_lt hzb (by omega)
        go_wp2_with fail
        refine (hv _).mono ?_
        rintro e w' ⟨rfl, rfl⟩
        clear hv hn
        go_wp2
        go_roundw
        case rel => exact ⟨pos + 1, c + 1, T, _, rfl, by rw [HZ.out], by omega, hcK2, hit1, hov1, HF.out, hsz1, hB1⟩
        case measure => rw [hip, hip1]; omega
    · have hn := fun ty => run_next_end_at (P := Tryz.prog) wr g s pos ty hit' hlt
      have he : pos = s.size := by omega
      have hbh := behind_any hov hT0 uz (by omega) uP hlen hsz
      have e4 := hinv.2.2.2
      rw [e4, he] at hbh
      have hgw : w.heap.size ≤ g + 1 := by rw [← HG.out]; omega
      have hB1 : Below w.heap.size w wr := by rw [← HG.out]; exact hnx
      have hgs : w.heap.size ≤ g + 1 := hgw
      clear hinv e4 he hit' hov
      generalize b ^ c = Z at *
      go_wp2_with fail
      refine hbh.mono ?_
      rintro e w2 ⟨v2, rfl, hv2, hb2⟩
      have hv3 := hv2.wider hgs
      have hB2 := hB1.trans (hb2.mono hgs)
      clear hbh hv2
      go_wp2
      go_ret
      exact ⟨_, rfl, hv3, hB2⟩
end Go.Proofs.YtceecgklgkiffabGreatDoor

/- radix.surelyHuge, api.Wrap, radix.Parse. -/
namespace Go.Proofs.YtceecgklgkiffabGreatDoor
open Go.ChangeShapes Go.WideShapes Go.ChangeAt Go.RowKit
open Na Ar
open Go.Lib
set_option linter.unusedVariables false
namespace Na
theorem sure_huge {b X : Int} {n K β : Nat} (hb : 2 ≤ b) (h2 : (2 : Int) ^ β ≤ b ^ K) (hq : 262144 ≤ n / K * β) (hX : b ^ n ≤ X) : 4096 < (words X).length := by
  refine dig_len_ge ?_
  rw [wpow2]
  have e : 64 * 4096 = 262144 := by omega
  rw [e]
  have a1 : (2 : Int) ^ 262144 ≤ 2 ^ (n / K * β) := p2mono hq
  have a2 : (2 : Int) ^ (n / K * β) ≤ b ^ (K * (n / K)) := by
    rw [Nat.mul_comm, Int.pow_mul, Int.pow_mul]
    exact ipow_base (Int.le_of_lt (p2pos β)) h2 _
  have a3 : b ^ (K * (n / K)) ≤ b ^ n := ipow_monoB (by omega) (Nat.mul_div_le n K)
  omega
end Na
set_option maxHeartbeats 1600000 in
set_option maxRecDepth 100000 in
theorem surelyHuge_any (n : Nat) (b : Int) (hb : 2 ≤ b) (hb9 : b ≤ 36) (hn : n ≤ 11000000) (w : World) :
    Calls Tryz.prog 28 #[.int .i64 (n : Int), .int .i64 b] w fun e w' => ∃ H : Bool, e = .returned (.bool H) ∧ (H = true → 1 ≤ n ∧ ∀ X, b ^ (n - 1) ≤ X → 4096 < (words X).length) ∧ Below w.heap.size w w' := by
  go_enter Tryz.func28, Tryz.ntmps28
  go_wp2_with fail
  refine (step_any b hb hb9 w).mono ?_
  rintro e w' ⟨K, rfl, hst, rfl⟩
  obtain ⟨k1, k2, k3, k4⟩ := hst
  have k0 : 0 < b ^ K := Int.pow_pos (by omega)
  obtain ⟨β, hβ, p1, p2⟩ := bits_some k0
  have hsh := fun X (hq : 262144 ≤ (n - 1) / K * β) (hX : b ^ (n - 1) ≤ X) => sure_huge hb p1 hq hX
  have hβ64 : β < 64 := by
    by_cases g : β < 64
    · exact g
    · have : (2 : Int) ^ 64 ≤ 2 ^ β := p2mono (by omega)
      have e : (2 : Int) ^ 64 = 18446744073709551616 := by decide
      omega
  have hfr := fun w => natFrom_any (v := b ^ K) ⟨by omega, k3⟩ w
  have dz := Dg_words (b ^ K)
  have nz := num_words (show 0 ≤ b ^ K by omega)
  have lz := words_len1 (v := b ^ K) ⟨by omega, k3⟩
  clear k4 p1 p2
  generalize b ^ K = M at *
  go_wp2_with fail
  refine (hfr _).mono ?_
  rintro e w1 ⟨o, rfl, ho, hb1⟩
  obtain ⟨oa, oc, rfl, hor⟩ := ho.readsC
  have hbt := natBits_any hor dz (by omega)
  rw [nz, hβ] at hbt
  generalize (words M).length = l at *
  clear hfr ho hβ
  go_wp2_with fail
  refine hbt.mono ?_
  rintro e w2 ⟨rfl, hb2⟩
  have hB := hb1.trans (hb2.mono hb1.size)
  clear hbt hor
  have c1 : (β : Int) + 1 - 1 = (β : Int) := by omega
  have kz : ((K : Int) == 0) = false := by simp; omega
  by_cases hn0 : n = 0
  · subst hn0
    have q0 : Int.tdiv 1 (K : Int) = 0 ∨ Int.tdiv 1 (K : Int) = 1 := by
      rw [Int.tdiv_eq_ediv_of_nonneg (by omega)]
      have a := Int.ediv_nonneg (show (0 : Int) ≤ 1 by omega) (show (0 : Int) ≤ (K : Int) by omega)
      have b := Int.ediv_le_self (a := 1) (K : Int) (by omega)
      omega
    have HQ : Hid (Int.tdiv 1 (K : Int) = 0 ∨ Int.tdiv 1 (K : Int) = 1) := q0
    clear q0 hsh
    go_wp2
    go_ret
    refine ⟨_, rfl, fun h => ?_, hB⟩
    exfalso
    have h2 := of_decide_eq_true h
    unfold wrap64 at h2
    rcases HQ.out with q | q
    · rw [q] at h2
      simp at h2
    · rw [q] at h2
      omega
  · obtain ⟨m, rfl⟩ : ∃ m, n = m + 1 := ⟨n - 1, by omega⟩
    have hq1 : ((m / K : Nat) : Int) = (m : Int) / (K : Int) := by simp
    have hq2 : m / K ≤ m := Nat.div_le_self m K
    have hw : wrap64 (wrap64 ((m : Int) / (K : Int)) * (β : Int)) = ((m / K * β : Nat) : Int) := by
      rw [← hq1]
      clear hq1 hsh
      generalize m / K = Q at *
      have a : wrap64 (Q : Int) = (Q : Int) := by unfold wrap64; omega
      rw [a, Int.natCast_mul]
      have hm : Q * β ≤ 11000000 * 64 := Nat.mul_le_mul (by omega) (by omega)
      have b : (Q : Int) * (β : Int) ≤ 704000000 := by
        have : ((Q * β : Nat) : Int) ≤ 704000000 := by omega
        rwa [Int.natCast_mul] at this
      have c : 0 ≤ (Q : Int) * (β : Int) := Int.mul_nonneg (by omega) (by omega)
      unfold wrap64
      omega
    have HW : Hid (wrap64 (wrap64 ((m : Int) / (K : Int)) * (β : Int)) = ((m / K * β : Nat) : Int)) := hw
    have HS : Hid (∀ X, 262144 ≤ (m + 1 - 1) / K * β → b ^ (m + 1 - 1) ≤ X → 4096 < (words X).length) := hsh
    clear hw hq1 hq2 hsh
    go_wp2
    go_ret
    refine ⟨_, rfl, fun h => ⟨by omega, fun X hX => HS.out X ?_ hX⟩, hB⟩
    have h2 := of_decide_eq_true h
    rw [HW.out] at h2
    have e : m + 1 - 1 = m := by omega
    rw [e]
    omega
/-- an error with its place -/
theorem wrap_any (p c : Int) (w : World) :
    Calls Tryz.prog 25 #[.int .i64 p, .int .i64 c] w fun e w' => ∃ t a, e = .returned (.iface t (.pointer (some a))) ∧ Below w.heap.size w w' := by
  go_enter Tryz.func25, Tryz.ntmps25
  go_wp2
  go_ret
  exact ⟨_, _, rfl, (Below.refl _ _).alloc (Nat.le_refl _) _⟩
namespace Na
theorem dgt_zero {s : ByteArray} {i : Nat} (h : s.get! i = 48) : dgt s i = 0 := by unfold dgt; rw [h]; rfl
theorem dgt_pos {s : ByteArray} {i : Nat} (h : s.get! i ≠ 48) : 1 ≤ dgt s i := by
  unfold dgt
  have q : ((s.get! i).toNat : Int) ≠ 48 := by
    intro e
    exact h (UInt8.toNat_inj.1 (by show (s.get! i).toNat = 48; omega))
  generalize ((s.get! i).toNat : Int) = r at *
  unfold valN
  split
  · omega
  · split
    · omega
    · split <;> omega
theorem from_dgt {s t : ByteArray} {k : Nat} (h : From s t k) (i : Nat) : dgt t i = dgt s (k + i) := by unfold dgt; rw [h.byte]
theorem numB_zeros {s : ByteArray} {b : Int} {k : Nat} (h : ∀ j, j < k → s.get! j = 48) : numB s b k = 0 := by
  induction k with
  | zero => rfl
  | succ k ih =>
    show numB s b k * b + dgt s k = 0
    rw [ih (fun j hj => h j (by omega)), dgt_zero (h k (by omega))]; simp
theorem numB_from {s t : ByteArray} {b : Int} {k : Nat} (h : From s t k) (hz : ∀ j, j < k → s.get! j = 48) (i : Nat) : numB t b i = numB s b (k + i) := by
  induction i with
  | zero => rw [Nat.add_zero, numB_zeros hz]; rfl
  | succ i ih =>
    show numB t b i * b + dgt t i = numB s b (k + i) * b + dgt s (k + i)
    rw [ih, from_dgt h]
theorem numB_ge {s : ByteArray} {b : Int} (hb : 2 ≤ b) (h0 : 1 ≤ dgt s 0) (n : Nat) : b ^ n ≤ numB s b (n + 1) := by
  induction n with
  | zero => show b ^ 0 ≤ 0 * b + dgt s 0; simp; omega
  | succ n ih =>
    show b ^ (n + 1) ≤ numB s b (n + 1) * b + dgt s (n + 1)
    have d := dgt_bd s (n + 1)
    have m := Int.mul_le_mul_of_nonneg_right ih (show 0 ≤ b by omega)
    rw [Int.pow_succ]
    omega
end Na
/-- what Parse gives of digits that say T -/
def ParsePost (w : World) (T : Int) (e : Ending) (w' : World) : Prop :=
  ((words T).length ≤ 4096 ∧ ∃ v, e = .returned (.tuple #[v, .nilIface]) ∧ Own .u64 w' w.heap.size 22 v (words T) ∧ Below w.heap.size w w') ∨
  (4096 < (words T).length ∧ ∃ t a, e = .returned (.tuple #[.slice none 0 0, .iface t (.pointer (some a))]) ∧ Below w.heap.size w w')
set_option maxHeartbeats 3200000 in
set_option maxRecDepth 100000 in
theorem parse_good (s : ByteArray) (b : Int) (hb : 2 ≤ b) (hb9 : b ≤ 36) (hs : s.size ≤ 10000000) (h0 : 0 < s.size) (hd : ∀ i, i < s.size → dgt s i < b) (w : World) :
    Calls Tryz.prog 9 #[.string s, .int .i64 b] w (ParsePost w (numB s b s.size)) := by
  have hk : knownB b = true := by unfold knownB; simp; omega
  have kc := known_any b w
  rw [hk] at kc
  have wc := wrong_any s b hb hb9 (by unfold maxLen; omega) w
  go_enter Tryz.func9, Tryz.ntmps9
  go_wp2_with fail
  refine kc.mono ?_
  rintro e w' ⟨rfl, rfl⟩
  go_wp2_with fail
  refine wc.mono ?_
  rintro e w1 ⟨at', ok, rfl, hwr, hb1⟩
  have hok : ok = false := by
    rcases hwr with ⟨_, q1, q2, _⟩ | ⟨_, q1, _⟩ | ⟨q, _⟩
    · have := hd at' q1; omega
    · omega
    · exact q
  subst hok
  clear kc wc hk hwr
  go_wp2_with fail
  refine (trimLeft_any s w1).mono ?_
  rintro e w' ⟨t, rfl, ⟨k, hF, hz, hnz⟩, rfl⟩
  have hts := hF.size
  have hkk := hF.2
  have hT : Hid (numB t b t.size = numB s b s.size) := by
    show _ = _
    rw [numB_from hF hz, hts]
    congr 1; omega
  have htd : ∀ i, i < t.size → dgt t i < b := fun i hi => by rw [from_dgt hF]; exact hd _ (by omega)
  have htp : Hid (1 ≤ t.size → b ^ (t.size - 1) ≤ numB t b t.size) := fun q => by
    have p0 : 1 ≤ dgt t 0 := by
      rw [from_dgt hF, Nat.add_zero]
      exact dgt_pos (hnz (by omega))
    have := numB_ge hb p0 (t.size - 1)
    rw [show t.size - 1 + 1 = t.size by omega] at this
    exact this
  have hsz : t.size ≤ 10000000 := by omega
  clear hF hz hnz hts hkk hd
  have hsh := surelyHuge_any t.size b hb hb9 (by omega) w1
  go_wp2_with fail
  refine hsh.mono ?_
  rintro e w2 ⟨H, rfl, hH, hb2⟩
  have hB2 := hb1.trans (hb2.mono hb1.size)
  clear hsh
  cases H with
  | true =>
    obtain ⟨q1, q2⟩ := hH rfl
    have hbig := q2 _ (htp.out q1)
    rw [hT.out] at hbig
    clear q2 htp hT hH
    go_wp2_with fail
    refine (wrap_any 0 21 w2).mono ?_
    rintro e w3 ⟨ty, ad, rfl, hb3⟩
    have hB3 := hB2.trans (hb3.mono hB2.size)
    go_wp2
    go_ret2
    exact Or.inr ⟨hbig, _, _, rfl, hB3⟩
  | false =>
    clear hH htp
    have hnm := number_any t b hb hb9 (by omega) htd w2
    rw [hT.out] at hnm
    go_wp2_with fail
    refine hnm.mono ?_
    rintro e w3 ⟨v, rfl, hv, hb3⟩
    have hB3 := hB2.trans (hb3.mono hB2.size)
    have hv3 := hv.wider hB2.size
    obtain ⟨va, vc, rfl, hvr⟩ := hv.readsC
    clear hnm hvr hv
    by_cases hbig : 4096 < (words (numB s b s.size)).length
    · have HB : Hid (4096 < (words (numB s b s.size)).length) := hbig
      clear hv3
      generalize hl : (words (numB s b s.size)).length = l at *
      have HL : Hid ((words (numB s b s.size)).length = l) := hl
      clear hl
      go_wp2_with fail
      refine (wrap_any 0 21 w3).mono ?_
      rintro e w4 ⟨ty, ad, rfl, hb4⟩
      have hB4 := hB3.trans (hb4.mono hB3.size)
      go_wp2
      go_ret2
      exact Or.inr ⟨by rw [HL.out]; exact HB.out, _, _, rfl, hB4⟩
    · have HB : Hid ((words (numB s b s.size)).length ≤ 4096) := by show _ ≤ _; omega
      have HV : Hid (Own .u64 w3 w.heap.size 22 (.slice va (words (numB s b s.size)).length vc) (words (numB s b s.size))) := hv3
      clear hv3
      generalize hl : (words (numB s b s.size)).length = l at *
      have HL : Hid ((words (numB s b s.size)).length = l) := hl
      clear hl
      go_wp2
      go_ret2
      exact Or.inl ⟨by rw [HL.out]; exact HB.out, _, rfl, by exact HV.out, hB3⟩
end Go.Proofs.YtceecgklgkiffabGreatDoor

/- radix.layWord: digits, laid into bytes. -/
namespace Go.Proofs.YtceecgklgkiffabGreatDoor
open Go.ChangeShapes Go.WideShapes Go.ChangeAt Go.RowKit
open Na Ar
set_option linter.unusedVariables false
theorem info_u8 : (Tryz.prog.info? 5).map (fun i => (i.zero, i.size, i.bytes)) = some (some (.int .u8 0), 1, 1) := by kernel_rfl
namespace Na
/-- a digit's byte -/
def dch (d : Int) : Int := if d < 10 then 48 + d else 87 + d
/-- the lowest m digits, the highest first -/
def laidD (b : Int) : Nat → Int → List Int
  | 0, _ => []
  | m + 1, X => laidD b m (X / b) ++ [dch (X % b)]
theorem laidD_length (b : Int) (m : Nat) (X : Int) : (laidD b m X).length = m := by
  induction m generalizing X with
  | zero => rfl
  | succ m ih => simp [laidD, ih]
theorem laidD_cons {b : Int} (hb : 2 ≤ b) (m : Nat) (X : Int) : laidD b (m + 1) X = dch (X / b ^ m % b) :: laidD b m X := by
  induction m generalizing X with
  | zero => simp [laidD]
  | succ m ih =>
    have e : laidD b (m + 1 + 1) X = laidD b (m + 1) (X / b) ++ [dch (X % b)] := rfl
    rw [e, ih (X / b)]
    have d : X / b / b ^ m = X / b ^ (m + 1) := by rw [Int.ediv_ediv_of_nonneg (by omega), Int.pow_succ, Int.mul_comm]
    rw [d]
    rfl
theorem laidD_split {b : Int} (hb : 2 ≤ b) (m k : Nat) (X : Int) : laidD b (m + k) X = laidD b m (X / b ^ k) ++ laidD b k X := by
  induction k generalizing X with
  | zero => simp [laidD]
  | succ k ih =>
    have e : laidD b (m + (k + 1)) X = laidD b (m + k) (X / b) ++ [dch (X % b)] := rfl
    rw [e, ih (X / b)]
    have d : X / b / b ^ k = X / b ^ (k + 1) := by rw [Int.ediv_ediv_of_nonneg (by omega), Int.pow_succ, Int.mul_comm]
    rw [d, List.append_assoc]
    rfl
theorem laidD_mod {b : Int} (hb : 2 ≤ b) (k : Nat) (X : Int) : laidD b k (X % b ^ k) = laidD b k X := by
  induction k generalizing X with
  | zero => rfl
  | succ k ih =>
    have e1 : laidD b (k + 1) (X % b ^ (k + 1)) = laidD b k (X % b ^ (k + 1) / b) ++ [dch (X % b ^ (k + 1) % b)] := rfl
    have e2 : laidD b (k + 1) X = laidD b k (X / b) ++ [dch (X % b)] := rfl
    have p : 0 < b ^ k := Int.pow_pos (by omega)
    have f1 : X % b ^ (k + 1) % b = X % b := by
      rw [Int.pow_succ, Int.mul_comm]
      exact Int.emod_emod_of_dvd X (Int.dvd_mul_right b (b ^ k))
    have f2 : X % b ^ (k + 1) / b = X / b % b ^ k := by
      rw [Int.pow_succ]
      have d := Int.mul_ediv_add_emod X b
      have d2 := Int.mul_ediv_add_emod (X / b) (b ^ k)
      have m0 := Int.emod_nonneg X (show b ≠ 0 by omega)
      have m1 := Int.emod_lt_of_pos X (show 0 < b by omega)
      have n0 := Int.emod_nonneg (X / b) (show b ^ k ≠ 0 by omega)
      have n1 := Int.emod_lt_of_pos (X / b) p
      generalize X / b / b ^ k = Q at *
      generalize X / b % b ^ k = R at *
      generalize X % b = r at *
      generalize b ^ k = P at *
      have e : X = (r + b * R) + P * b * Q := by rw [← d, ← d2]; grind
      rw [e, Int.add_mul_emod_self_left]
      have lt : r + b * R < P * b := by
        have := Int.mul_le_mul_of_nonneg_left (show R + 1 ≤ P by omega) (show 0 ≤ b by omega)
        rw [Int.mul_comm P b]
        rw [Int.mul_add] at this
        omega
      have nn : 0 ≤ b * R := Int.mul_nonneg (by omega) n0
      rw [Int.emod_eq_of_lt (by omega) lt, Int.add_mul_ediv_left _ _ (by omega), Int.ediv_eq_zero_of_lt m0 m1]
      omega
    rw [e1, e2, f1, f2, ih]
theorem over_set {ds ps : List Int} {p : Nat} (h : p + 1 + ps.length ≤ ds.length) (x : Int) : (over ds ps (p + 1)).set p x = over ds (x :: ps) p := by
  unfold over
  have e : ds.take (p + 1) = ds.take p ++ [ds.getD p 0] := take_next (by omega)
  rw [e]
  have l : (ds.take p).length = p := by rw [List.length_take]; omega
  rw [List.append_assoc, List.append_assoc, List.set_append_right _ _ (by omega), l, Nat.sub_self]
  simp
  congr 1
  omega
theorem over_over {ds A B : List Int} {o : Nat} (h : o + A.length + B.length ≤ ds.length) : over (over ds A o) B (o + A.length) = over ds (A ++ B) o := by
  unfold over
  have l : (ds.take o).length = o := by rw [List.length_take]; omega
  have t : (ds.take o ++ A ++ ds.drop (o + A.length)).take (o + A.length) = ds.take o ++ A := by
    rw [List.take_append_of_le_length (by simp [l])]
    rw [List.take_of_length_le (by simp [l])]
  have d : (ds.take o ++ A ++ ds.drop (o + A.length)).drop (o + A.length + B.length) = ds.drop (o + A.length + B.length) := by
    rw [List.drop_append, List.drop_of_length_le (by simp [l] <;> omega), List.nil_append, List.drop_drop]
    congr 1
    simp [l] <;> omega
  rw [t, d]
  simp <;> (congr 1; omega)
theorem dig_all : ∀ d : Fin 36, ((#[48, 49, 50, 51, 52, 53, 54, 55, 56, 57, 97, 98, 99, 100, 101, 102, 103, 104, 105, 106, 107, 108, 109, 110, 111, 112, 113, 114, 115, 116, 117, 118, 119, 120, 121, 122] : Array UInt8)[d.val]!).toNat = (if d.val < 10 then 48 + d.val else 87 + d.val) := by decide
theorem dig_nat (k : Nat) (hk : k < 36) (h : k < (⟨#[48, 49, 50, 51, 52, 53, 54, 55, 56, 57, 97, 98, 99, 100, 101, 102, 103, 104, 105, 106, 107, 108, 109, 110, 111, 112, 113, 114, 115, 116, 117, 118, 119, 120, 121, 122]⟩ : ByteArray).size) : (((⟨#[48, 49, 50, 51, 52, 53, 54, 55, 56, 57, 97, 98, 99, 100, 101, 102, 103, 104, 105, 106, 107, 108, 109, 110, 111, 112, 113, 114, 115, 116, 117, 118, 119, 120, 121, 122]⟩ : ByteArray)[k]'h).toNat : Int) = dch (k : Int) := by
  have a : ((#[48, 49, 50, 51, 52, 53, 54, 55, 56, 57, 97, 98, 99, 100, 101, 102, 103, 104, 105, 106, 107, 108, 109, 110, 111, 112, 113, 114, 115, 116, 117, 118, 119, 120, 121, 122] : Array UInt8)[k]!).toNat = (if k < 10 then 48 + k else 87 + k) := dig_all ⟨k, hk⟩
  have e : (⟨#[48, 49, 50, 51, 52, 53, 54, 55, 56, 57, 97, 98, 99, 100, 101, 102, 103, 104, 105, 106, 107, 108, 109, 110, 111, 112, 113, 114, 115, 116, 117, 118, 119, 120, 121, 122]⟩ : ByteArray)[k]'h = (#[48, 49, 50, 51, 52, 53, 54, 55, 56, 57, 97, 98, 99, 100, 101, 102, 103, 104, 105, 106, 107, 108, 109, 110, 111, 112, 113, 114, 115, 116, 117, 118, 119, 120, 121, 122] : Array UInt8)[k]! := by
    rw [getElem!_pos _ k (show k < 36 from hk)]
    rfl
  rw [e, a]
  unfold dch
  by_cases q : k < 10
  · rw [if_pos q, if_pos (by omega)]; omega
  · rw [if_neg q, if_neg (by omega)]; omega
theorem dig_byte {d : Int} (h0 : 0 ≤ d) (h1 : d < 36) (h : d.toNat < (⟨#[48, 49, 50, 51, 52, 53, 54, 55, 56, 57, 97, 98, 99, 100, 101, 102, 103, 104, 105, 106, 107, 108, 109, 110, 111, 112, 113, 114, 115, 116, 117, 118, 119, 120, 121, 122]⟩ : ByteArray).size) : (((⟨#[48, 49, 50, 51, 52, 53, 54, 55, 56, 57, 97, 98, 99, 100, 101, 102, 103, 104, 105, 106, 107, 108, 109, 110, 111, 112, 113, 114, 115, 116, 117, 118, 119, 120, 121, 122]⟩ : ByteArray)[d.toNat]'h).toNat : Int) = dch d := by
  rw [dig_nat d.toNat (by omega) h]
  congr 1
  omega
theorem over_nil (ds : List Int) {o : Nat} (h : o ≤ ds.length) : over ds [] o = ds := by unfold over; simp
end Na
set_option maxHeartbeats 1600000 in
set_option maxRecDepth 100000 in
theorem layWord_in {g cap N o m dcap base : Nat} {ds : List Int} {X b : Int} {w : World} (hown : Own .u8 w base 5 (.slice (some ⟨g, 0, none⟩) N cap) ds) (hN : N = ds.length) (ho : o + m ≤ N) (hN' : N ≤ 12000000) (hX : U X) (hb : 2 ≤ b) (hb9 : b ≤ 36) :
    Calls Tryz.prog 149 #[.slice (some ⟨g, o, none⟩) m dcap, .int .u64 X, .int .u64 b] w fun e w' => e = .returned (.tuple #[]) ∧ Own .u8 w' base 5 (.slice (some ⟨g, 0, none⟩) N cap) (over ds (laidD b m X) o) ∧ In g (g + 1) w w' := by
  have HN : Hid (N = ds.length) := hN
  have hii := In.refl g (g + 1) w
  have hst : Own .u8 w base 5 (.slice (some ⟨g, 0, none⟩) N cap) (over ds (laidD b (m - m) X) (o + m)) := by
    rw [Nat.sub_self]
    have : laidD b 0 X = [] := rfl
    rw [this, over_nil ds (by omega)]; exact hown
  have hbz : (b == 0) = false := by simp; omega
  clear hN
  go_enter Tryz.func149, Tryz.ntmps149
  go_wp2
  go_loopw [1, 6] (fun x i wr => ∃ (j : Nat) (I W : Int), i = .int .i64 I ∧ I = (j : Int) - 1 ∧ x = .int .u64 W ∧ Hid (W = X / b ^ (m - j)) ∧ j ≤ m ∧ Own .u8 wr base 5 (.slice (some ⟨g, 0, none⟩) N cap) (over ds (laidD b (m - j) X) (o + j)) ∧ In g (g + 1) w wr) (fun _ i _ => (RowKit.intOf i + 1).toNat)
  case atStart => exact ⟨m, _, X, rfl, rfl, rfl, (by rw [Nat.sub_self]; simp : X = X / b ^ (m - m)), Nat.le_refl _, hst, hii⟩
  case round =>
    obtain ⟨j, I, W, rfl, hI, rfl, hW, hj, hou, hnx⟩ := hrel
    clear hown hst hii
    cases j with
    | zero =>
      have hneg : I < 0 := by omega
      rw [Nat.sub_zero, Nat.add_zero] at hou
      clear hI
      go_wp2
      go_end0
      exact ⟨rfl, hou, hnx⟩
    | succ k =>
      have hI' : I = (k : Int) := by omega
      clear hI
      subst hI'
      have hlu : N = (over ds (laidD b (m - (k + 1)) X) (o + (k + 1))).length := by
        rw [over_length (by rw [laidD_length, ← HN.out]; omega)]; exact HN.out
      have hce := hou.cellAt hlu (j := o + k) (by omega)
      have hfz := hou.frozenAt hlu (o + k)
      have hset := hou.set hlu (o + k) (dch (W % b))
      have e1 : m - k = m - (k + 1) + 1 := by omega
      have hW0 : 0 ≤ W := by rw [hW.out]; exact Int.ediv_nonneg hX.1 (Int.pow_nonneg (by omega))
      have hWU : W < 18446744073709551616 := by
        rw [hW.out]
        have := Int.ediv_le_self (b ^ (m - (k + 1))) hX.1
        have := hX.2
        omega
      have HL : Hid ((over ds (laidD b (m - (k + 1)) X) (o + (k + 1))).set (o + k) (dch (W % b)) = over ds (laidD b (m - k) X) (o + k)) := by
        show _ = _
        rw [e1, laidD_cons hb, ← hW.out]
        exact over_set (ds := ds) (ps := laidD b (m - (k + 1)) X) (p := o + k) (by rw [laidD_length, ← HN.out]; omega) _
      rw [HL.out] at hset
      have HW2 : Hid (W / b = X / b ^ (m - k)) := by
        show _ = _
        rw [hW.out, e1, Int.pow_succ, ← Int.ediv_ediv_of_nonneg (Int.pow_nonneg (by omega))]
      have r0 := Int.emod_nonneg W (show b ≠ 0 by omega)
      have r1 := Int.emod_lt_of_pos W (show 0 < b by omega)
      have q0 : 0 ≤ W / b := Int.ediv_nonneg hW0 (by omega)
      have q1 : W / b ≤ W := Int.ediv_le_self b hW0
      have hgb := hou.base_le
      have hdig := fun h => dig_byte r0 (show W % b < 36 by omega) h
      have HW0 : Hid (0 ≤ W) := hW0
      clear hou hlu HL e1 hW
      go_wp2
      go_roundw
      case rel => exact ⟨k, _, _, rfl, rfl, rfl, HW2.out, by omega, hset, hnx.set1 _ _⟩
      case measure => simp [RowKit.intOf]
end Go.Proofs.YtceecgklgkiffabGreatDoor

/- radix.lay: by halves. -/
namespace Go.Proofs.YtceecgklgkiffabGreatDoor
open Go.ChangeShapes Go.WideShapes Go.ChangeAt Go.RowKit
open Na Ar
set_option linter.unusedVariables false
theorem Own.off {w : World} {base : Nat} {e : TypeId} {a : Option Addr} {n c : Nat} {xs : List Int} (h : Own .u64 w base e (.slice a n c) xs) {g : Nat} (hg : g < base) : Off a g := by
  rcases h.2 with ⟨hv, _⟩ | ⟨g', cap, cur, hv, hb, _⟩
  · simp only [Value.slice.injEq] at hv
    rw [hv.1]
    intro b o h
    simp at h
  · simp only [Value.slice.injEq] at hv
    rw [hv.1]
    exact off_of (by omega)
namespace Na
theorem half_pow (c r : Nat) : c * 2 ^ (r + 1) / 2 = c * 2 ^ r ∧ c * 2 ^ (r + 1) = c * 2 ^ r + c * 2 ^ r := by
  have e : c * 2 ^ (r + 1) = c * 2 ^ r + c * 2 ^ r := by rw [Nat.pow_succ, ← Nat.mul_assoc]; omega
  omega
end Na
set_option maxHeartbeats 6400000 in
set_option maxRecDepth 100000 in
theorem lay_any {b : Int} (hb : 2 ≤ b) (hb9 : b ≤ 36) {c : Nat} (hc1 : 1 ≤ c) (hc : b ^ c < 18446744073709551616) {g cap N base R : Nat} {w0 : World} (hg0 : w0.heap.size ≤ g) (hN' : N ≤ 12000000) (hR6 : R ≤ 60) {ra : Option Addr} {xss : List (List Int)} (hR : RowsC w0 ra R xss) (hX : ∀ i, i < R → xss.getD i [] = words (b ^ (c * 2 ^ i)) ∧ (words (b ^ (c * 2 ^ i))).length ≤ 5000) (r : Nat) :
    ∀ {rc o dcap : Nat} {ds : List Int} {X : Int} {xa : Option Addr} {xn xc : Nat} {w : World}, r ≤ R → r ≤ rc →
      Own .u8 w base 5 (.slice (some ⟨g, 0, none⟩) N cap) ds → N = ds.length → o + c * 2 ^ r ≤ N → c * 2 ^ r ≤ dcap → dcap ≤ maxLen → 0 ≤ X → X < b ^ (c * 2 ^ r) → RowC w xa xn xc (words X) → xn ≤ 5000 → Off xa g → Below w0.heap.size w0 w →
      Calls Tryz.prog 120 #[.slice (some ⟨g, o, none⟩) (c * 2 ^ r) dcap, .slice xa xn xc, .slice ra r rc, .int .i64 b] w fun e w' => e = .returned (.tuple #[]) ∧ Own .u8 w' base 5 (.slice (some ⟨g, 0, none⟩) N cap) (over ds (laidD b (c * 2 ^ r) X) o) ∧ In g (g + 1) w w' := by
  have hwb : IntKind.u64.wrap b = b := by rw [wrapU]; omega
  induction r with
  | zero =>
    intro rc o dcap ds X xa xn xc w hrR hrc hown hNd ho hdc hdm hX0 hXb hxr hxn hoff hb0
    rw [Nat.pow_zero, Nat.mul_one] at ho hdc hXb ⊢
    have uX : U X := by unfold U; omega
    have dX := Dg_words X
    have nX := num_words hX0
    have hw := natWord_any hxr dX (by omega)
    have e1 : wordV X = X := by unfold wordV; rw [if_pos uX.2]
    rw [nX, e1] at hw
    generalize wordB X = B at *
    clear e1
    go_enter Tryz.func120, Tryz.ntmps120
    go_wp2_with fail
    refine hw.mono ?_
    rintro e w1 ⟨rfl, hb1⟩
    have hown1 := hown.later hb1
    have hl := layWord_in (o := o) (m := c) (dcap := dcap) hown1 hNd ho hN' uX hb hb9
    clear hw hown hown1
    go_wp2_with fail
    refine hl.mono ?_
    rintro e w2 ⟨rfl, ho2, hi2⟩
    have hI := (In.of_below (lo := g) (hi := g + 1) hb1).trans hi2
    clear hl
    go_wp2
    (try simp only [Exit.inBlock, Exit.then])
    refine bodyPost_ret (results_none rfl _ _ _) rfl ?_
    exact ⟨rfl, ho2, hI⟩
  | succ r ih =>
    intro rc o dcap ds X xa xn xc w hrR hrc hown hNd ho hdc hdm hX0 hXb hxr hxn hoff hb0
    obtain ⟨hh1, hh2⟩ := half_pow c r
    obtain ⟨hx1, hx2⟩ := hX r (by omega)
    obtain ⟨rb, ro, hra, hrb, hcell⟩ := hR.2.resolve_left (by omega)
    obtain ⟨ai, ci, hcl, hrow⟩ := hcell r (by omega)
    rw [hx1] at hcl hrow
    have hcl1 := (hb0.cell (p := ⟨rb, ro + r, none⟩) hrb).trans hcl
    have hrow1 := hrow.later hb0
    obtain ⟨D, hD⟩ : ∃ D, D = b ^ (c * 2 ^ r) := ⟨_, rfl⟩
    have HD : Hid (D = b ^ (c * 2 ^ r)) := hD
    have hD0 : 0 < D := by rw [hD]; exact Int.pow_pos (by omega)
    rw [← hD] at hcl1 hrow1 hx2
    have hXD : X < D * D := by rw [hD, ← Int.pow_add, ← hh2]; exact hXb
    have hdm1 := divMod_any hxr hrow1 (Dg_words X) (Dg_words D) (by omega) (by omega) (by rw [num_words (by omega)]; exact hD0)
    rw [num_words hX0, num_words (by omega)] at hdm1
    have q0 : 0 ≤ X / D := Int.ediv_nonneg hX0 (by omega)
    have q1 : X / D < D := Int.ediv_lt_of_lt_mul hD0 hXD
    have r0 := Int.emod_nonneg X (show D ≠ 0 by omega)
    have r1 := Int.emod_lt_of_pos X hD0
    have hlq := words_mono q0 (Int.le_of_lt q1)
    have hlr := words_mono r0 (Int.le_of_lt r1)
    have hglt := hown.lt
    have HS : Hid (laidD b (c * 2 ^ (r + 1)) X = laidD b (c * 2 ^ r) (X / D) ++ laidD b (c * 2 ^ r) (X % D)) := by
      show _ = _
      rw [hh2, laidD_split hb, ← hD, HD.out, laidD_mod hb]
    have hlen := fun Y => laidD_length b (c * 2 ^ r) Y
    subst hra
    obtain ⟨H, hH⟩ : ∃ H, H = c * 2 ^ r := ⟨_, rfl⟩
    obtain ⟨M, hM⟩ : ∃ M, M = c * 2 ^ (r + 1) := ⟨_, rfl⟩
    have HH : Hid (H = c * 2 ^ r) := hH
    rw [← hH] at hh1 hh2 hlen ih HS HD
    rw [← hM] at hh1 hh2 ho hdc HS ⊢
    have hMi : (M : Int) / 2 = (H : Int) := by omega
    have hH1 : 1 ≤ H := by rw [hH]; exact Nat.mul_pos hc1 (Nat.pow_pos (by omega))
    have hk1 : ¬ (dcap = H) := by omega
    have hk2 : ¬ (H = dcap) := by omega
    have hk3 : ¬ (M = H) := by omega
    have hHN : (H : Int) ≤ 12000000 := by omega
    have hr6 : (r : Int) ≤ 60 := by omega
    have HC : Hid (M = H + H) := hh2
    have hMN : (M : Int) ≤ 12000000 := by omega
    have hHM : (H : Int) ≤ (M : Int) := by omega
    have hHd : (H : Int) ≤ (dcap : Int) := by omega
    have oH : o + H ≤ N := by omega
    have oH2 : o + H + H ≤ N := by omega
    have dH : H ≤ dcap := by omega
    have dH2 : H ≤ dcap - H := by omega
    clear hX hR hcell hcl hrow hXb hXD hD hx1 hh1 hh2 hH hM
    go_enter Tryz.func120, Tryz.ntmps120
    go_wp2_with fail
    refine hdm1.mono ?_
    rintro e w1 ⟨v1, v2, rfl, ho1, ho2, hb1, _⟩
    obtain ⟨qa, qc, rfl, hqr⟩ := ho1.readsC
    obtain ⟨sa, sc, rfl, hsr⟩ := ho2.readsC
    have hqo := ho1.off hglt
    have hso := ho2.off hglt
    have hown1 := hown.later hb1
    have hB1 := hb0.trans (hb1.mono hb0.size)
    have HIN1 := In.of_below (lo := g) (hi := g + 1) hb1
    have hql : (words (X / D)).length ≤ 5000 := by omega
    have hsl : (words (X % D)).length ≤ 5000 := by omega
    generalize (words (X / D)).length = ql at *
    generalize (words (X % D)).length = sl at *
    have bd := below_drewN (Below.refl w1.heap.size w1) 1
    have hown2 : Own .u8 w1.drew base 5 (.slice (some ⟨g, 0, none⟩) N cap) ds := hown1.later bd
    have hqr2 : RowC w1.drew _ _ _ _ := hqr.later bd
    have hB2 : Below w0.heap.size w0 w1.drew := hB1.trans (bd.mono hB1.size)
    have c1 := ih (rc := rc) (o := o) (dcap := dcap) (X := X / D) (by omega) (by omega) hown2 hNd oH dH hdm q0 (by rw [← HD.out]; exact q1) hqr2 hql hqo hB2
    clear hdm1 ho1 ho2 hown hxr hrow1 hcl1 hown2 hqr2 hB2
    go_upto_region 5 with (fail)
    go_cut [] from 44 to 52 (fun wx => Own .u8 wx base 5 (.slice (some ⟨g, 0, none⟩) N cap) (over ds (laidD b H (X / D)) o) ∧ In g (g + 1) w1 wx)
    case first =>
      go_region_with (go_at_call 120; refine c1.mono ?_; rintro e wm ⟨rfl, hoo, hii⟩)
      all_goals (go_wp2_with fail; go_meet; exact ⟨hoo, (In.of_below bd).trans hii⟩)
    obtain ⟨hoo, hii⟩ := hcut
    obtain ⟨w3, hw3⟩ : ∃ w3, w3 = wc := ⟨_, rfl⟩
    subst hw3
    have hsr3 := hsr.inn hii (fun _ => hso)
    have hB3 : Below w0.heap.size w0 w3 := below_inn hB1 hii hg0 (Nat.le_refl _)
    have bd3 := below_drewN (Below.refl w3.heap.size w3) 1
    have hown4 : Own .u8 w3.drew base 5 (.slice (some ⟨g, 0, none⟩) N cap) (over ds (laidD b H (X / D)) o) := hoo.later bd3
    have hsr4 : RowC w3.drew _ _ _ _ := hsr3.later bd3
    have hB4 : Below w0.heap.size w0 w3.drew := hB3.trans (bd3.mono hB3.size)
    have hNd3 : N = (over ds (laidD b H (X / D)) o).length := by rw [over_length (by rw [hlen]; omega)]; exact hNd
    have c2 := ih (rc := rc) (o := o + H) (dcap := dcap - H) (X := X % D) (by omega) (by omega) hown4 hNd3 oH2 dH2 (by omega) r0 (by rw [← HD.out]; exact r1) hsr4 hsl hso hB4
    have HE : Hid (over (over ds (laidD b H (X / D)) o) (laidD b H (X % D)) (o + H) = over ds (laidD b M X) o) := by
      show _ = _
      have q := over_over (ds := ds) (A := laidD b H (X / D)) (B := laidD b H (X % D)) (o := o) (by rw [hlen, hlen]; omega)
      rw [hlen] at q
      rw [q, HS.out]
    have hMH : M - H = H := by rw [HC.out]; omega
    have hI3 := HIN1.trans hii
    clear hoo hii hsr hsr3 hown4 hsr4 hB4 hNd3 c1 bd hown1 hqr hNd
    go_upto_region 6 with (fail)
    go_region_with (go_at_call 120; refine c2.mono ?_; rintro e wm ⟨rfl, hoo, hii⟩)
    all_goals (
      rw [HE.out] at hoo
      go_wp2
      go_end0
      exact ⟨rfl, hoo, hI3.trans ((In.of_below bd3).trans hii)⟩)
end Go.Proofs.YtceecgklgkiffabGreatDoor

/- radix.ladder: squares of squares. -/
namespace Go.Proofs.YtceecgklgkiffabGreatDoor
open Go.ChangeShapes Go.WideShapes Go.ChangeAt Go.RowKit
open Na Ar
set_option linter.unusedVariables false
theorem Own.rowS {w : World} {base : Nat} {e : TypeId} {a : Option Addr} {n c : Nat} {xs : List Int} (h : Own .u64 w base e (.slice a n c) xs) : RowC w a n c xs := by
  obtain ⟨a', c', hv, hr⟩ := h.readsC
  simp only [Value.slice.injEq] at hv
  obtain ⟨rfl, rfl, rfl⟩ := hv
  exact hr
theorem info_su2 : (Tryz.prog.info? 30).map (fun i => (i.zero, i.size, i.bytes)) = some (some (.slice none 0 0), 1, 24) := by kernel_rfl
theorem one_list2 {a : Option Addr} {n c : Nat} : ∀ u ∈ [Value.slice a n c], u.oneCell' = true := by
  intro u hu; simp at hu; subst hu; rfl
theorem Own.keptT {w w' : World} {base : Nat} {e : TypeId} {v : Value} {xs : List Int} {row : Option Nat} (h : Own .u64 w base e v xs) (hg : w.grownBy w' row) (hne : v.ownBlock = none ∨ v.ownBlock ≠ row) : Own .u64 w' base e v xs := World.ownsRow.kept h hg hne
theorem Own.apartT {w : World} {base base' : Nat} {e e' : TypeId} {v l : Value} {xs : List Int} {k : Nat} {us : List Value} (h : Own .u64 w base e v xs) (hl : w.ownsRow base' e' 1 l k us) (he : e ≠ e') : v.ownBlock = none ∨ v.ownBlock ≠ l.ownBlock := by
  rcases h.2 with ⟨h0, _⟩ | ⟨g, c, cur, hv, _, hc, _⟩
  · left; rw [h0]; rfl
  · right
    rcases hl.2 with ⟨h0, _⟩ | ⟨g', c', cur', hv', _, hc', _⟩
    · rw [hv, h0]; simp [Value.ownBlock]
    · rw [hv, hv']
      simp only [Value.ownBlock, ne_eq, Option.some.injEq]
      intro hh
      subst hh
      rw [hc] at hc'
      simp only [Option.some.injEq, Obj.cells.injEq] at hc'
      exact he hc'.2.1
/-- r lists: S and its squares, one of the other -/
def Rungs (w : World) (lo : Nat) (S : Int) (v : Value) (r : Nat) : Prop := ∃ vs : List Value, vs.length = r ∧ w.ownsRow lo 30 1 v r vs ∧ ∀ j, j < r → ∃ u, vs[j]? = some u ∧ Own .u64 w lo 22 u (words (S ^ (2 ^ j)))
theorem rungs_nil (w : World) (lo : Nat) (S : Int) : Rungs w lo S (.slice none 0 0) 0 := ⟨[], rfl, World.ownsRow_nil w lo _ 1, fun j hj => by omega⟩
theorem Rungs.later {w w' : World} {lo : Nat} {S : Int} {v : Value} {r : Nat} (h : Rungs w lo S v r) (hb : Below w.heap.size w w') : Rungs w' lo S v r := by
  obtain ⟨vs, h1, h2, h3⟩ := h
  refine ⟨vs, h1, ?_, fun j hj => ?_⟩
  · refine ⟨h2.1, ?_⟩
    rcases h2.2 with q | ⟨g, c, cur, hv, hb2, hc, rest⟩
    · exact Or.inl q
    · refine Or.inr ⟨g, c, cur, hv, hb2, ?_, rest⟩
      have hlt : g < w.heap.size := by
        by_cases q : g < w.heap.size
        · exact q
        · simp [Array.getElem?_eq_none (Nat.le_of_not_lt q)] at hc
      rw [hb.block g hlt]; exact hc
  · obtain ⟨u, a1, a2⟩ := h3 j hj
    exact ⟨u, a1, a2.later hb⟩
theorem rungs_rows {w : World} {lo : Nat} {S : Int} {v : Value} {r : Nat} (h : Rungs w lo S v r) : ∃ a rc, v = .slice a r rc ∧ r ≤ rc ∧ rc ≤ maxLen ∧ RowsC w a r ((List.range r).map fun i => words (S ^ (2 ^ i))) := by
  obtain ⟨vs, h1, h2, h3⟩ := h
  rcases h2.2 with ⟨hv, hn⟩ | ⟨g, c, cur, hv, hb2, hc, q1, q2, q3, q4⟩
  · subst hn
    exact ⟨none, 0, hv, Nat.le_refl _, Nat.zero_le _, by simp, Or.inl rfl⟩
  · refine ⟨some ⟨g, 0, none⟩, c, hv, q1, q2, by simp, Or.inr ⟨g, 0, rfl, ?_, fun i hi => ?_⟩⟩
    · by_cases q : g < w.heap.size
      · exact q
      · simp [Array.getElem?_eq_none (Nat.le_of_not_lt q)] at hc
    · obtain ⟨u, a1, a2⟩ := h3 i hi
      have e : ((List.range r).map fun i => words (S ^ (2 ^ i))).getD i [] = words (S ^ (2 ^ i)) := by
        simp [List.getD_eq_getElem?_getD, hi]
      rw [e]
      obtain ⟨ai, ci, hu, hrow⟩ := a2.readsC
      have hcell := World.ownsRow.cells h2 (show v.ownBlock = some g by rw [hv]; rfl) i u a1
      have ea : (⟨g, 0, none⟩ : Addr).add i = ⟨g, 0 + i, none⟩ := by
        unfold Addr.add
        by_cases hi0 : i = 0
        · subst hi0; simp
        · simp [hi0]
      rw [ea, hu] at hcell
      exact ⟨ai, ci, hcell, hrow⟩
theorem Rungs.next {wr w1 : World} {lo : Nat} {S : Int} {v v' p : Value} {i : Nat} {o : Obj} (h : Rungs wr lo S v i) (hp : Own .u64 wr lo 22 p (words (S ^ (2 ^ i)))) {vs : List Value} (hvl : vs.length = i) (hvo : wr.ownsRow lo 30 1 v i vs) (hvs : ∀ j, j < i → ∃ u, vs[j]? = some u ∧ Own .u64 wr lo 22 u (words (S ^ (2 ^ j))))
    (hown' : w1.ownsRow lo 30 1 v' (i + 1) (vs ++ [p])) (hg : (wr.alloc o).grownBy w1 v.ownBlock) : Rungs w1 lo S v' (i + 1) ∧ Own .u64 w1 lo 22 p (words (S ^ (2 ^ i))) := by
  have hal : Below wr.heap.size wr (wr.alloc o) := (Below.refl _ _).alloc (Nat.le_refl _) o
  have key : ∀ {u : Value} {l : List Int}, Own .u64 wr lo 22 u l → Own .u64 w1 lo 22 u l := fun {u l} hu => by
    have ap := hu.apartT hvo (by decide)
    exact (hu.later hal).keptT hg ap
  refine ⟨⟨vs ++ [p], by simp [hvl], hown', fun j hj => ?_⟩, key hp⟩
  by_cases hlt : j < i
  · obtain ⟨u, a1, a2⟩ := hvs j hlt
    exact ⟨u, by rw [List.getElem?_append_left (by omega)]; exact a1, key a2⟩
  · have : j = i := by omega
    subst this
    exact ⟨p, by rw [List.getElem?_append_right (by omega), hvl]; simp, key hp⟩
namespace Na
/-- two to the 262144: the first number too long -/
def topB : Int := 2 ^ 262144
theorem topB_ge {k : Nat} (h : k ≤ 262144) : (2 : Int) ^ k ≤ topB := p2mono h
theorem sq_next' (S : Int) (i : Nat) : S ^ (2 ^ i) * S ^ (2 ^ i) = S ^ (2 ^ (i + 1)) := by rw [← Int.pow_add]; congr 1; rw [Nat.pow_succ]; omega
theorem rung_few {S : Int} {i β : Nat} (hS : 2 ≤ S) (h : S ^ (2 ^ i) < 2 ^ (β + 1)) (hβ : β + 1 ≤ 262144) : i ≤ 17 := by
  have a : (2 : Int) ^ (2 ^ i) ≤ S ^ (2 ^ i) := ipow_base (by omega) hS _
  have b : 2 ^ i < β + 1 := by
    by_cases g : 2 ^ i < β + 1
    · exact g
    · have : (2 : Int) ^ (β + 1) ≤ 2 ^ (2 ^ i) := p2mono (by omega)
      omega
  by_cases g : i ≤ 17
  · exact g
  · have : 2 ^ 18 ≤ 2 ^ i := Nat.pow_le_pow_right (by omega) (by omega)
    omega
theorem bits_words {P : Int} {β : Nat} (h0 : 0 ≤ P) (h : P < 2 ^ β) (hβ : β ≤ 262144) : (words P).length ≤ 4096 := by
  have l : Lt P 4096 := by
    refine ⟨h0, Int.lt_of_lt_of_le h ?_⟩
    rw [wpow2]
    exact p2mono (by omega)
  exact l.len
end Na
set_option maxHeartbeats 3200000 in
set_option maxRecDepth 100000 in
theorem ladder_any {a : Option Addr} {n c1 : Nat} {X S : Int} {w : World} (hx : RowC w a n c1 (words X)) (hX : 0 < X) (hn : n ≤ 4096) (hS2 : 2 ≤ S) (hS : S < 18446744073709551616) :
    Calls Tryz.prog 119 #[.slice a n c1, .int .u64 S] w fun e w' => ∃ v r, e = .returned v ∧ Rungs w' w.heap.size S v r ∧ r ≤ 18 ∧ X < S ^ (2 ^ r) ∧ (∀ j, j < r → S ^ (2 ^ j) < topB) ∧ Below w.heap.size w w' := by
  obtain ⟨i_su, hi_su, hz0_su, hz1_su, hz2_su⟩ := info_parts info_su2
  have dX := Dg_words X
  have nX := num_words (Int.le_of_lt hX)
  obtain ⟨N1, hN1, x1, x2⟩ := bits_some hX
  obtain ⟨N, hN⟩ : ∃ N, N = N1 + 1 := ⟨_, rfl⟩
  have hNb : N ≤ 262144 := by
    have := bits_le (N := X) (k := 4096) (Int.le_of_lt hX) (by have := val_lt (B := 18446744073709551616) (by omega) dX; rw [val_words (by omega)] at this; refine Int.lt_of_lt_of_le this (wpow_mono ?_); rw [hx.1.1]; exact hn)
    omega
  have hNX : X < 2 ^ N := by rw [hN]; exact x2
  have hbx := natBits_any hx dX (by omega)
  have hcast : ((N1 : Int) + 1) = (N : Int) := by omega
  rw [nX, hN1, hcast] at hbx
  have hfr := fun w => natFrom_any (v := S) ⟨by omega, hS⟩ w
  clear hN1 x1 x2 hN hcast
  go_enter Tryz.func119, Tryz.ntmps119
  go_wp2_with fail
  refine hbx.mono ?_
  rintro e w1 ⟨rfl, hb1⟩
  go_wp2_with fail
  refine (hfr _).mono ?_
  rintro e w2 ⟨p0, rfl, hp0, hb2⟩
  have hB2 := hb1.trans (hb2.mono hb1.size)
  have hp0' := hp0.wider hb1.size
  have e0 : S ^ (2 ^ 0) = S := by rw [Nat.pow_zero, Int.pow_one]
  have hS0 : S < topB := by
    have a : (2 : Int) ^ 64 ≤ topB := topB_ge (by omega)
    have e : (2 : Int) ^ 64 = 18446744073709551616 := by decide
    omega
  clear hbx hfr hp0
  go_wp2
  go_loopg [5, 7] 20 (fun g v p wr => ∃ i : Nat, g = 20 - i ∧ i ≤ 18 ∧ Rungs wr w.heap.size S v i ∧ Own .u64 wr w.heap.size 22 p (words (S ^ (2 ^ i))) ∧ S ^ (2 ^ i) < topB ∧ Hid (∀ j, j < i → S ^ (2 ^ j) < topB) ∧ Below w.heap.size w wr)
  case atStart => exact ⟨0, rfl, by omega, rungs_nil _ _ _, by rw [e0]; exact hp0', by rw [e0]; exact hS0, fun j hj => by omega, hB2⟩
  case round =>
    obtain ⟨i, hg, hi, hrs, hpo, hpb, hjs, hnx⟩ := hrel
    clear hp0' hB2 hS0 e0
    have hP0 : 0 < S ^ (2 ^ i) := Int.pow_pos (by omega)
    obtain ⟨β, hβ, b1, b2⟩ := bits_some hP0
    obtain ⟨vs, hvl, hvo, hvs⟩ := hrs
    have hfew := fun q => rung_few (i := i) (β := β) hS2 b2 q
    have hnext := fun {w9 : World} {v9 : Value} {o9 : Obj} q1 q2 => Rungs.next (wr := wr) (w1 := w9) (v' := v9) (o := o9) (i := i) ⟨vs, hvl, hvo, hvs⟩ hpo hvl hvo hvs q1 q2
    have hsq := sq_next' S i
    have hlen := Lt.len (k := 4096) (N := S ^ (2 ^ i)) ⟨Int.le_of_lt hP0, by rw [wpow2]; exact hpb⟩
    have hpo2 := hpo
    obtain ⟨pa, pc, rfl, hpr⟩ := hpo.readsC
    have dP := Dg_words (S ^ (2 ^ i))
    have nP := num_words (Int.le_of_lt hP0)
    have hbt := fun (w : World) (h : RowC w pa (words (S ^ (2 ^ i))).length pc (words (S ^ (2 ^ i)))) => bits0_any h dP (by omega)
    rw [nP, hβ] at hbt
    have hmul := fun (w : World) (h : RowC w pa (words (S ^ (2 ^ i))).length pc (words (S ^ (2 ^ i)))) => natMul_any h h dP dP (by omega) (by omega)
    rw [nP] at hmul
    obtain ⟨P, hP⟩ : ∃ P, P = S ^ (2 ^ i) := ⟨_, rfl⟩
    have HP : Hid (P = S ^ (2 ^ i)) := hP
    rw [← hP] at hP0 b1 b2 hsq hlen hpr hbt hmul hpo hpo2 hpb ⊢
    have hsz := hnx.size
    clear hP hβ dP nP
    generalize hpl : (words P).length = pl at *
    have HPL : Hid ((words (S ^ (2 ^ i))).length = pl) := by show _ = _; rw [← HP.out]; exact hpl
    clear hpl
    by_cases hle : β + 1 ≤ N
    · have hi17 := hfew (by omega)
      have hbc := hbt wr hpr
      have hle' : (β : Int) + 1 ≤ (N : Int) := by omega
      have hall : Hid (∀ j, j < i + 1 → S ^ (2 ^ j) < topB) := fun j hj => by
        by_cases q : j < i
        · exact hjs.out j q
        · have : j = i := by omega
          rw [this, ← HP.out]; exact hpb
      go_wp2_with fail
      refine hbc.mono ?_
      rintro e w' ⟨rfl, rfl⟩
      clear hbc
      go_wp2_with (at_builtin; refine wpList_append_own _ rfl _ _ 153 rfl w.heap.size 30 i_su (.slice none 0 0) 1 24 Tryz.underlying153 hi_su hz0_su hz1_su hz2_su rfl (by decide) _ _ _ rfl (hvo.alloc _) ⟨wr.heap.size, 0, none⟩ 1 1 [.slice pa pl pc] rfl rfl one_new one_list2 (by unfold maxLen; omega) (by omega) (by simp; omega) ?_)
      intro v' w4 hown' hgrow _
      obtain ⟨hrs4, hpo4⟩ := hnext (by rw [HPL.out]; exact hown') hgrow
      rw [HPL.out, ← HP.out] at hpo4
      have hb4 := grow_below hsz hvo hnx hgrow
      have hpr4 := hpo4.rowS
      have hbc4 := hbt w4 hpr4
      have hm4 := hmul w4 hpr4
      clear hown' hgrow hnext hbt hmul hvo hvs hpo hpo2 hpr hnx hpo4
      by_cases hbrk : N < 2 * (β + 1) - 1
      · have hbrk' : (N : Int) < 2 * ((β : Int) + 1) - 1 := by omega
        have HX : Hid (X < S ^ (2 ^ (i + 1))) := by
          show _ < _
          rw [← hsq]
          have a1 : (2 : Int) ^ N ≤ 2 ^ (β + β) := p2mono (by omega)
          rw [Int.pow_add] at a1
          have a2 := Int.mul_le_mul b1 b1 (Int.le_of_lt (p2pos β)) (Int.le_of_lt hP0)
          omega
        clear hm4 hpr4
        go_wp2_with fail
        refine hbc4.mono ?_
        rintro e w' ⟨rfl, rfl⟩
        clear hbc4
        go_wp2
        go_ret
        exact ⟨v', i + 1, rfl, hrs4, by omega, HX.out, hall.out, hb4⟩
      · have hbrk' : ¬ (N : Int) < 2 * ((β : Int) + 1) - 1 := by omega
        have hPP : P * P < 2 ^ (β + 1 + (β + 1)) := by
          rw [Int.pow_add]
          exact Int.lt_of_le_of_lt (Int.mul_le_mul_of_nonneg_left (Int.le_of_lt b2) (Int.le_of_lt hP0)) (Int.mul_lt_mul_of_pos_right b2 (p2pos (β + 1)))
        have hPP0 : 0 ≤ P * P := Int.mul_nonneg (Int.le_of_lt hP0) (Int.le_of_lt hP0)
        have hfit := res_fits (bits_words hPP0 hPP (by omega))
        rw [hfit.1, hfit.2, hsq] at hm4
        have HT : Hid (S ^ (2 ^ (i + 1)) < topB) := by
          show _ < _
          rw [← hsq]
          have := topB_ge (k := β + 1 + (β + 1)) (by omega)
          omega
        clear hfit
        go_wp2_with fail
        refine hbc4.mono ?_
        rintro e w' ⟨rfl, rfl⟩
        clear hbc4
        go_wp2_with fail
        refine hm4.mono ?_
        rintro e w5 ⟨v5, rfl, hv5, hb5⟩
        have hv6 := hv5.wider hb4.size
        have hrs5 := hrs4.later hb5
        have hB5 := hb4.trans (hb5.mono hb4.size)
        clear hm4 hv5 hrs4
        go_wp2
        go_roundg (20 - (i + 1))
        case measure => omega
        case rel => exact ⟨i + 1, rfl, by omega, hrs5, hv6, HT.out, hall.out, hB5⟩
    · have hle' : ¬ (β : Int) + 1 ≤ (N : Int) := by omega
      have hbc := hbt wr hpr
      have HX : Hid (X < S ^ (2 ^ i)) := by
        show _ < _
        rw [← HP.out]
        have a1 : (2 : Int) ^ N ≤ 2 ^ β := p2mono (by omega)
        omega
      have HR : Hid (Rungs wr w.heap.size S _ i) := ⟨vs, hvl, hvo, hvs⟩
      clear hnext hbt hmul hvs hpo hpo2 hpr
      go_wp2_with fail
      refine hbc.mono ?_
      rintro e w' ⟨rfl, rfl⟩
      clear hbc
      go_wp2
      go_ret
      exact ⟨_, i, rfl, HR.out, hi, HX.out, hjs.out, hnx⟩
end Go.Proofs.YtceecgklgkiffabGreatDoor

/- radix.Text. -/
namespace Go.Proofs.YtceecgklgkiffabGreatDoor
open Go.ChangeShapes Go.WideShapes Go.ChangeAt Go.RowKit
open Na Ar
set_option linter.unusedVariables false
namespace Na
theorem dch_bd {d : Int} (h0 : 0 ≤ d) (h1 : d < 36) : 48 ≤ dch d ∧ dch d ≤ 122 := by unfold dch; split <;> omega
theorem laidD_bd {b : Int} (hb : 2 ≤ b) (hb9 : b ≤ 36) (m : Nat) (X : Int) : ∀ x ∈ laidD b m X, 48 ≤ x ∧ x ≤ 122 := by
  induction m generalizing X with
  | zero => intro x hx; simp [laidD] at hx
  | succ m ih =>
    intro x hx
    have e : laidD b (m + 1) X = laidD b m (X / b) ++ [dch (X % b)] := rfl
    rw [e] at hx
    rcases List.mem_append.mp hx with h | h
    · exact ih _ x h
    · simp at h
      subst h
      have a := Int.emod_nonneg X (show b ≠ 0 by omega)
      have c := Int.emod_lt_of_pos X (show 0 < b by omega)
      exact dch_bd a (by omega)
/-- bytes of numbers -/
def bytesOf (zs : List Int) : List UInt8 := zs.map fun z => UInt8.ofNat z.toNat
/-- the text of a number: its digits, highest first, the zeros ahead left out -/
def TextIs (X b : Int) (t : ByteArray) : Prop := ∃ (m : Nat) (u : ByteArray), 1 ≤ m ∧ X < b ^ m ∧ u.data.toList = bytesOf (laidD b m X) ∧ TrimIs u t
theorem rung_digits {b : Int} (hb : 2 ≤ b) {k : Nat} (h : b ^ k < topB) : k < 262144 := by
  by_cases g : k < 262144
  · exact g
  · have a : (2 : Int) ^ 262144 ≤ 2 ^ k := p2mono (by omega)
    have c : (2 : Int) ^ k ≤ b ^ k := ipow_base (by omega) hb k
    have e : topB = 2 ^ 262144 := rfl
    omega
end Na
theorem conv_bytes {w : World} {base g N cap : Nat} {zs : List Int} (h : Own .u8 w base 5 (.slice (some ⟨g, 0, none⟩) N cap) zs) (hN : N = zs.length) (hz : ∀ x ∈ zs, 48 ≤ x ∧ x ≤ 122) :
    (convert 45 9 (.slice (some ⟨g, 0, none⟩) N cap)).run Tryz.prog w = .ok (.string ⟨(bytesOf zs).toArray⟩) w := by
  have hl : (bytesOf zs).length = N := by unfold bytesOf; rw [List.length_map]; exact hN.symm
  have r := run_convert_bytes_back (P := Tryz.prog) w 45 9 5 ⟨g, 0, none⟩ cap (bytesOf zs) Tryz.underlying45 Tryz.underlying5 Tryz.underlying9 (fun j hj => by
    have hjn : j < N := by rw [← hl]; exact hj
    have c := h.cellAt hN (j := j) hjn
    have ea : (⟨g, 0, none⟩ : Addr).add j = ⟨g, j, none⟩ := by
      unfold Addr.add
      by_cases hi0 : j = 0
      · subst hi0; simp
      · simp [hi0]
    rw [ea, c]
    have hjz : j < zs.length := by omega
    have m := hz (zs.getD j 0) (by rw [List.getD_eq_getElem?_getD, List.getElem?_eq_getElem hjz]; exact List.getElem_mem hjz)
    have e : zs[j] = zs.getD j 0 := by rw [List.getD_eq_getElem?_getD, List.getElem?_eq_getElem hjz]; rfl
    have e2 : (bytesOf zs)[j] = UInt8.ofNat (zs.getD j 0).toNat := by rw [← e]; simp [bytesOf]
    rw [e2, UInt8.toNat_ofNat']
    congr 2
    omega)
  rw [hl] at r
  exact r
set_option maxHeartbeats 3200000 in
set_option maxRecDepth 100000 in
theorem text_any {a : Option Addr} {n c1 : Nat} {xs : List Int} {b : Int} {w : World} (hx : RowC w a n c1 xs) (hw : Ws xs) (hn : n ≤ 4000000) (hb : 2 ≤ b) (hb9 : b ≤ 36) (hl : (words (num xs)).length ≤ 4096) (hX : 0 < num xs) :
    Calls Tryz.prog 87 #[.slice a n c1, .int .i64 b] w fun e w' => ∃ t : ByteArray, e = .returned (.tuple #[.string t, .int .i64 0]) ∧ TextIs (num xs) b t ∧ Below w.heap.size w w' := by
  obtain ⟨i_u8, hi_u8, hz0_u8, hz1_u8, hz2_u8⟩ := info_parts info_u8
  have hk : knownB b = true := by unfold knownB; simp; omega
  have kc := known_any b w
  rw [hk] at kc
  have tc := trim_any hx hw hn
  have nz := words_nil (Int.le_of_lt hX)
  go_enter Tryz.func87, Tryz.ntmps87
  go_wp2_with fail
  refine kc.mono ?_
  rintro e w' ⟨rfl, rfl⟩
  go_wp2_with fail
  refine tc.mono ?_
  rintro e w' ⟨rfl, htr, _, _, rfl⟩
  have hoffx : ∀ g, w.heap.size ≤ g → Off a g := fun g hg => htr.1.off (by omega) hg
  clear kc tc hk hx hw
  generalize hXX : num xs = X at *
  have HXX : Hid (num xs = X) := hXX
  clear hXX
  generalize hLL : (words X).length = L at *
  clear hLL
  have l0 : ((L : Int) == 0) = false := by simp; omega
  go_wp2_with fail
  refine (step_any b hb hb9 w).mono ?_
  rintro e w' ⟨K, rfl, hst, rfl⟩
  obtain ⟨k1, k2, k3, k4⟩ := hst
  have hS2 : 2 ≤ b ^ K := by
    have := ipow_monoB (b := b) (by omega) k1
    rw [Int.pow_one] at this
    omega
  have hld := ladder_any htr hX hl hS2 k3
  obtain ⟨S, hS⟩ : ∃ S, S = b ^ K := ⟨_, rfl⟩
  have HS : Hid (S = b ^ K) := hS
  rw [← hS] at hld ⊢
  clear k4 hS
  go_wp2_with fail
  refine hld.mono ?_
  rintro e w1 ⟨v, r, rfl, hrg, hr18, hXr, hall, hb1⟩
  obtain ⟨ra, rc, rfl, hrc, hrm, hrows⟩ := rungs_rows hrg
  have hpw : ∀ i, S ^ (2 ^ i) = b ^ (K * 2 ^ i) := fun i => by rw [HS.out, ← Int.pow_mul]
  rw [hpw] at hXr
  have hMb : K * 2 ^ r ≤ 1000000 := by
    cases r with
    | zero => omega
    | succ q =>
      have := hall q (by omega)
      rw [hpw] at this
      have := rung_digits hb this
      rw [Nat.pow_succ, ← Nat.mul_assoc]
      omega
  have hM1 : 1 ≤ K * 2 ^ r := Nat.mul_pos (by omega) (Nat.pow_pos (by omega))
  have hxs : ∀ i, i < r → ((List.range r).map fun i => words (S ^ (2 ^ i))).getD i [] = words (b ^ (K * 2 ^ i)) ∧ (words (b ^ (K * 2 ^ i))).length ≤ 5000 := fun i hi => by
    have e : ((List.range r).map fun i => words (S ^ (2 ^ i))).getD i [] = words (S ^ (2 ^ i)) := by simp [List.getD_eq_getElem?_getD, hi]
    rw [e, ← hpw]
    refine ⟨rfl, ?_⟩
    have t := hall i hi
    have p : 0 ≤ S ^ (2 ^ i) := by rw [HS.out]; exact Int.pow_nonneg (Int.pow_nonneg (by omega))
    have := bits_words (P := S ^ (2 ^ i)) (β := 262144) p t (Nat.le_refl _)
    omega
  have hx1 := htr.later hb1
  have hox := hoffx w1.heap.size hb1.size
  obtain ⟨M, hM⟩ : ∃ M, M = K * 2 ^ r := ⟨_, rfl⟩
  have HM : Hid (M = K * 2 ^ r) := hM
  have hcM : (K : Int) * 2 ^ r = (M : Int) := by rw [hM, Int.natCast_mul, p2cast]
  have hcl : Hid (True) := trivial
  have hM2 : (M : Int) ≤ 1000000 := by omega
  have hM3 : 1 ≤ M := by omega
  clear hld hrg hall hpw htr hoffx hM hMb hM1
  go_wp2_with (at_make; refine wpList_make_full _ rfl _ _ 45 rfl w1.heap.size 5 i_u8 (.int .u8 0) 1 Tryz.underlying45 hi_u8 hz0_u8 hz1_u8 .i64 .i64 _ _ M rfl rfl (by omega) (by omega) (by rw [hz2_u8]; omega) (by unfold maxLen; omega) (Nat.le_refl _) ?_)
  intro w2 hmade hgr
  have hown := own_zeros hmade
  have hb2 : Below w1.heap.size w1 w2 := (Below.refl _ _).grown hgr (Nat.le_refl _) (fun k hk => by cases hk)
  obtain ⟨g, hg⟩ : ∃ g, g = w1.heap.size := ⟨_, rfl⟩
  rw [← hg] at hown hox ⊢
  have hgw : w1.heap.size ≤ g := by omega
  have hx2 := hx1.later hb2
  have hlay := lay_any (base := g) (cap := M) (N := M) (R := r) (w0 := w1) hb hb9 k1 k3 hgw (by omega) (by omega) hrows hxs r (rc := rc) (o := 0) (dcap := M) (ds := List.replicate M 0) (X := X) (xa := a) (xn := L) (xc := c1) (w := w2) (Nat.le_refl _) hrc hown (by simp) (by rw [HM.out]; omega) (by rw [HM.out]; omega) (by unfold maxLen; omega) (Int.le_of_lt hX) hXr hx2 (by omega) hox hb2
  rw [← HM.out] at hlay
  have hov : over (List.replicate M 0) (laidD b M X) 0 = laidD b M X := by
    unfold over
    have l := laidD_length b M X
    rw [List.take_zero, List.nil_append, List.drop_of_length_le (by simp [l]), List.append_nil]
  rw [hov] at hlay
  have hB1 : w.heap.size ≤ g := by rw [hg]; exact hb1.size
  have hB2 : Below w.heap.size w w2 := hb1.trans (hb2.mono hb1.size)
  clear hmade hgr hg hov hx1 hown hrows hxs hx2 hb2
  go_wp2_with fail
  refine hlay.mono ?_
  rintro e w3 ⟨rfl, ho3, hi3⟩
  have hcv := conv_bytes ho3 (laidD_length b M X).symm (laidD_bd hb hb9 M X)
  have hB3 : Below w.heap.size w w3 := below_inn hB2 hi3 hB1 (Nat.le_refl _)
  obtain ⟨u, hu⟩ : ∃ u : ByteArray, u = ⟨(bytesOf (laidD b M X)).toArray⟩ := ⟨_, rfl⟩
  have HU : Hid (u.data.toList = bytesOf (laidD b M X)) := by show _ = _; rw [hu]
  rw [← hu] at hcv
  have HXb : Hid (X < b ^ M) := by show _ < _; rw [HM.out]; exact hXr
  clear hlay hu hXr ho3 hi3
  go_wp2_with fail
  refine (trimLeft_any u w3).mono ?_
  rintro e w' ⟨t, rfl, ht, rfl⟩
  have HT : Hid (TextIs (num xs) b t) := by show TextIs _ _ _; rw [HXX.out]; exact ⟨M, u, hM3, HXb.out, HU.out, ht⟩
  clear hcv ht
  go_wp2
  go_ret2
  exact ⟨t, rfl, HT.out, hB3⟩
set_option maxHeartbeats 1600000 in
set_option maxRecDepth 100000 in
theorem textZero_any {a : Option Addr} {n c1 : Nat} {xs : List Int} {b : Int} {w : World} (hx : RowC w a n c1 xs) (hw : Ws xs) (hn : n ≤ 4000000) (hb : 2 ≤ b) (hb9 : b ≤ 36) (hX : num xs = 0) :
    Calls Tryz.prog 87 #[.slice a n c1, .int .i64 b] w fun e w' => e = .returned (.tuple #[.string ⟨#[48]⟩, .int .i64 0]) ∧ Below w.heap.size w w' := by
  have hk : knownB b = true := by unfold knownB; simp; omega
  have kc := known_any b w
  rw [hk] at kc
  have tc := trim_any hx hw hn
  have z : words 0 = [] := dig_zero _
  rw [hX, z] at tc
  go_enter Tryz.func87, Tryz.ntmps87
  go_wp2_with fail
  refine kc.mono ?_
  rintro e w' ⟨rfl, rfl⟩
  go_wp2_with fail
  refine tc.mono ?_
  rintro e w' ⟨rfl, _, _, _, rfl⟩
  go_wp2
  go_ret2
  exact ⟨rfl, Below.refl _ _⟩
end Go.Proofs.YtceecgklgkiffabGreatDoor

/- the text of a number is one. -/
namespace Go.Proofs.YtceecgklgkiffabGreatDoor
open Go.ChangeShapes Go.WideShapes Go.ChangeAt Go.RowKit
open Na Ar
set_option linter.unusedVariables false
namespace Na
theorem laidD_zero {b : Int} (hb : 2 ≤ b) (m : Nat) : laidD b m 0 = List.replicate m 48 := by
  induction m with
  | zero => rfl
  | succ m ih =>
    have e : laidD b (m + 1) 0 = laidD b m (0 / b) ++ [dch (0 % b)] := rfl
    rw [e, Int.zero_ediv, Int.zero_emod, ih, List.replicate_succ']
    rfl
theorem laidD_pad {b X : Int} (hb : 2 ≤ b) {j d : Nat} (h0 : 0 ≤ X) (h : X < b ^ d) : laidD b (j + d) X = List.replicate j 48 ++ laidD b d X := by
  rw [laidD_split hb, Int.ediv_eq_zero_of_lt h0 h, laidD_zero hb]
theorem dch_ne {x : Int} (h0 : 1 ≤ x) (h1 : x < 36) : UInt8.ofNat (dch x).toNat ≠ 48 := by
  intro e
  have a := congrArg UInt8.toNat e
  rw [UInt8.toNat_ofNat'] at a
  have b := dch_bd (d := x) (by omega) h1
  have c : dch x ≠ 48 := by unfold dch; split <;> omega
  have f : (48 : UInt8).toNat = 48 := rfl
  rw [f] at a
  omega
theorem text_bytes {X b : Int} {t : ByteArray} {d : Nat} (h : TextIs X b t) (hb : 2 ≤ b) (hb9 : b ≤ 36) (h1 : b ^ d ≤ X) (h2 : X < b ^ (d + 1)) : t.data.toList = bytesOf (laidD b (d + 1) X) := by
  obtain ⟨m, u, hm, hX, hu, k, hF, hz, hnz⟩ := h
  have hpos : 0 < b ^ d := Int.pow_pos (by omega)
  have hmd : d < m := by
    by_cases g : d < m
    · exact g
    · have := ipow_monoB (b := b) (by omega) (show m ≤ d by omega)
      omega
  obtain ⟨j, rfl⟩ : ∃ j, m = j + (d + 1) := ⟨m - (d + 1), by omega⟩
  rw [laidD_pad hb (by omega) h2] at hu
  have hcons := laidD_cons hb d X
  have q1 : 1 ≤ X / b ^ d := Int.le_ediv_of_mul_le hpos (by omega)
  have q2 : X / b ^ d < b := by
    refine Int.ediv_lt_of_lt_mul hpos ?_
    rw [Int.pow_succ] at h2
    rw [Int.mul_comm]; exact h2
  have q3 : X / b ^ d % b = X / b ^ d := Int.emod_eq_of_lt (by omega) q2
  rw [q3] at hcons
  have hul : u.data.toList = List.replicate j 48 ++ bytesOf (laidD b (d + 1) X) := by
    rw [hu]
    unfold bytesOf
    rw [List.map_append, List.map_replicate]
    rfl
  have hlen : u.size = j + (d + 1) := by rw [Lib.size_eq, hul]; unfold bytesOf; simp [laidD_length]
  have hat : u.get! j ≠ 48 := by
    rw [byte_list, hul, List.getD_eq_getElem?_getD, List.getElem?_append_right (by simp)]
    rw [hcons]
    unfold bytesOf
    simp
    exact dch_ne q1 (by omega)
  have hkj : k = j := by
    rcases Nat.lt_trichotomy k j with g | g | g
    · exfalso
      refine hnz (by omega) ?_
      rw [byte_list, hul, List.getD_eq_getElem?_getD, List.getElem?_append_left (by simpa using g)]
      simp [g]
    · exact g
    · exact absurd (hz j g) hat
  rw [hF.1, hul, hkj]
  simp
end Na
end Go.Proofs.YtceecgklgkiffabGreatDoor

/- plumblaw04.alive. -/
namespace Go.Proofs.YtceecgklgkiffabGreatDoor
open Go.ChangeShapes Go.WideShapes Go.ChangeAt Go.RowKit
open Na Ar
set_option linter.unusedVariables false
namespace Na
end Na
end Go.Proofs.YtceecgklgkiffabGreatDoor

/- radix.Parse of any text; one text behind another. -/
namespace Go.Proofs.YtceecgklgkiffabGreatDoor
open Go.ChangeShapes Go.WideShapes Go.ChangeAt Go.RowKit
open Na Ar
set_option linter.unusedVariables false
namespace Na
end Na
end Go.Proofs.YtceecgklgkiffabGreatDoor

/- a number's text, read back. -/
namespace Go.Proofs.YtceecgklgkiffabGreatDoor
open Go.ChangeShapes Go.WideShapes Go.ChangeAt Go.RowKit
open Na Ar
set_option linter.unusedVariables false
namespace Na
/-- what the text of X is, as digits -/
structure Digs (X b : Int) (D : List Int) : Prop where
  one : 1 ≤ D.length
  bd : ∀ x ∈ D, 48 ≤ x ∧ x ≤ 122
  lt : X < b ^ D.length
  get : ∀ i, i < D.length → D.getD i 0 = dch (X / b ^ (D.length - 1 - i) % b)
  top : D.getD 0 0 ≠ 48 ∨ D = [48]
end Na
end Go.Proofs.YtceecgklgkiffabGreatDoor

/- plumbref04: put, cut, words, Power; plumblaw04.rest. -/
namespace Go.Proofs.YtceecgklgkiffabGreatDoor
open Go.ChangeShapes Go.WideShapes Go.ChangeAt Go.RowKit
open Na Ar
set_option linter.unusedVariables false
namespace Na
end Na
end Go.Proofs.YtceecgklgkiffabGreatDoor

-- powers of five in 128 bits: the numbers, by themselves
namespace Go.Proofs.YtceecgklgkiffabGreatDoor
open Go.ChangeShapes Go.WideShapes Go.ChangeAt Go.RowKit
open Na Ar
set_option linter.unusedVariables false
namespace Na
def bN (n : Nat) : Nat := Nat.log2 (5 ^ n) + 1
/-- at i: of five to the i - 348 -/
def vN (i : Nat) : Nat := if 348 ≤ i then (if bN (i - 348) ≤ 128 then 5 ^ (i - 348) * 2 ^ (128 - bN (i - 348)) else 5 ^ (i - 348) / 2 ^ (bN (i - 348) - 128)) else 2 ^ (bN (348 - i) + 127) / 5 ^ (348 - i)
end Na
end Go.Proofs.YtceecgklgkiffabGreatDoor

/- the statements of layer 8: shl, mul, against, ordered, turned. -/
namespace Go.Proofs.YtceecgklgkiffabGreatDoor
open Go.ChangeShapes Go.WideShapes Go.ChangeAt Go.RowKit
open Na Ar
set_option linter.unusedVariables false
namespace Na
/-- the logarithm to two, and 1157 more -/
def lN (i : Nat) : Nat := (i * 1741647 + 508060) / 524288
end Na
section
variable {w : World} {a b : Option Addr} {n m c1 c2 : Nat} {xs ys : List Int} {A B : Int}
end
end Go.Proofs.YtceecgklgkiffabGreatDoor

