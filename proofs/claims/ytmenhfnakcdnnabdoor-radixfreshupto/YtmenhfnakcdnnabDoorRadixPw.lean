/- package radix: Five, Ten. -/
import Derived.Test.YtmenhfnakcdnnabDoorQuotPow
import Derived.Test.YtmenhfnakcdnnabDoorBaseB
import Derived.KernelRfl
namespace Go.Proofs.YtmenhfnakcdnnabDoor
open Go.ChangeShapes Go.WideShapes Go.ChangeAt Go.RowKit
open Na Ar
set_option linter.unusedVariables false
namespace Na
theorem five_most : Nat.blt ((5 : Nat) ^ 112899) ((18446744073709551616 : Nat) ^ 4096) = true := by kernel_rfl
theorem ten_most : Nat.blt ((10 : Nat) ^ 78913) ((18446744073709551616 : Nat) ^ 4096) = true := by kernel_rfl
theorem pow_lt {b m n K : Nat} (hb : 1 ≤ b) (h0 : Nat.blt (b ^ m) ((18446744073709551616 : Nat) ^ K) = true) (hn : n ≤ m) : Lt ((b : Int) ^ n) K := by
  refine ⟨Int.pow_nonneg (by omega), ?_⟩
  have h : b ^ m < 18446744073709551616 ^ K := Nat.blt_eq.mp h0
  have a : b ^ n ≤ b ^ m := Nat.pow_le_pow_right hb hn
  have c : ((b ^ n : Nat) : Int) < ((18446744073709551616 ^ K : Nat) : Int) := Int.ofNat_lt.mpr (Nat.lt_of_le_of_lt a h)
  rw [Int.natCast_pow, Int.natCast_pow] at c
  exact c
theorem five_lt {n : Nat} (hn : n ≤ 112899) : Lt ((5 : Int) ^ n) 4096 := pow_lt (b := 5) (by omega) five_most hn
theorem ten_lt {n : Nat} (hn : n ≤ 78913) : Lt ((10 : Int) ^ n) 4096 := pow_lt (b := 10) (by omega) ten_most hn
theorem five_two (n : Nat) : (5 : Int) ^ n * 2 ^ n = 10 ^ n := by rw [← Int.mul_pow]; rfl
end Na
/-- what Five and Ten answer -/
def pwE (M n : Int) : Int := if n < 0 then 31 else if M < n then 21 else 0
def pwL (b M n : Int) : List Int := if n < 0 then [] else if M < n then [] else words (b ^ n.toNat)
theorem five_any (n : Int) (h0 : -9223372036854775808 ≤ n) (h9 : n ≤ 9223372036854775807) (w : World) :
    Calls Tryd.prog 7 #[.int .i64 n] w fun e w' => ∃ v, e = .returned (.tuple #[v, .int .i64 (pwE 112899 n)]) ∧ Own .u64 w' w.heap.size 35 v (pwL 5 112899 n) ∧ Below w.heap.size w w' := by
  by_cases hbig : 112899 < n
  · have E1 : Hid (pwE 112899 n = 21) := by show _ = _; unfold pwE; rw [if_neg (by omega), if_pos hbig]
    have E2 : Hid (pwL 5 112899 n = []) := by show _ = _; unfold pwL; rw [if_neg (by omega), if_pos hbig]
    go_enter Tryd.func7, Tryd.ntmps7
    go_wp2
    go_ret2
    exact ⟨_, by rw [E1.out]; rfl, by rw [E2.out]; exact own_nil _ _ _ _, Below.refl _ _⟩
  · have hfr := natFrom_any (v := 5) (by omega) w
    have d5 := Dg_words 5
    have n5 := num_words (show (0 : Int) ≤ 5 by omega)
    have l5 := words_len1 (v := 5) (by omega)
    have E : Hid (powE 5 n = pwE 112899 n ∧ powL 5 n = pwL 5 112899 n) := by
      show _ ∧ _
      unfold powE powL pwE pwL
      by_cases hneg : n < 0
      · rw [if_pos hneg, if_pos hneg, if_pos hneg, if_pos hneg]; exact ⟨rfl, rfl⟩
      · rw [if_neg hneg, if_neg hneg, if_neg hneg, if_neg hneg, if_neg hbig, if_neg hbig]
        have f := (five_lt (n := n.toNat) (by omega)).fits (Nat.le_refl _)
        exact ⟨f.2, f.1⟩
    go_enter Tryd.func7, Tryd.ntmps7
    go_wp2_with fail
    refine hfr.mono ?_
    rintro e w1 ⟨o, rfl, ho, hb1⟩
    obtain ⟨oa, oc, rfl, hor⟩ := ho.readsC
    have hp := pow_any hor d5 (by omega) n h0 h9
    rw [n5, E.out.1, E.out.2] at hp
    generalize (words 5).length = l at *
    clear hfr ho
    go_wp2_with fail
    refine hp.mono ?_
    rintro e w2 ⟨v, rfl, hv, hb2⟩
    have hv2 := hv.wider hb1.size
    have hB := hb1.trans (hb2.mono hb1.size)
    clear hp hv
    go_wp2
    go_ret2
    exact ⟨_, rfl, hv2, hB⟩
theorem ten_any (n : Int) (h0 : -9223372036854775808 ≤ n) (h9 : n ≤ 9223372036854775807) (w : World) :
    Calls Tryd.prog 8 #[.int .i64 n] w fun e w' => ∃ v, e = .returned (.tuple #[v, .int .i64 (pwE 78913 n)]) ∧ Own .u64 w' w.heap.size 35 v (pwL 10 78913 n) ∧ Below w.heap.size w w' := by
  by_cases hbig : 78913 < n
  · have E1 : Hid (pwE 78913 n = 21) := by show _ = _; unfold pwE; rw [if_neg (by omega), if_pos hbig]
    have E2 : Hid (pwL 10 78913 n = []) := by show _ = _; unfold pwL; rw [if_neg (by omega), if_pos hbig]
    go_enter Tryd.func8, Tryd.ntmps8
    go_wp2
    go_ret2
    exact ⟨_, by rw [E1.out]; rfl, by rw [E2.out]; exact own_nil _ _ _ _, Below.refl _ _⟩
  · have hf := five_any n h0 h9 w
    by_cases hneg : n < 0
    · have E1 : Hid (pwE 78913 n = 31) := by show _ = _; unfold pwE; rw [if_pos hneg]
      have E2 : Hid (pwL 10 78913 n = []) := by show _ = _; unfold pwL; rw [if_pos hneg]
      have e3 : pwE 112899 n = 31 := by unfold pwE; rw [if_pos hneg]
      rw [e3] at hf
      clear e3
      go_enter Tryd.func8, Tryd.ntmps8
      go_wp2_with fail
      refine hf.mono ?_
      rintro e w1 ⟨o, rfl, ho, hb1⟩
      clear ho hf
      go_wp2
      go_ret2
      exact ⟨_, by rw [E1.out]; rfl, by rw [E2.out]; exact own_nil _ _ _ _, hb1⟩
    · obtain ⟨t, rfl⟩ : ∃ t : Nat, n = (t : Int) := ⟨n.toNat, by omega⟩
      have ht : t ≤ 78913 := by omega
      have E1 : Hid (pwE 78913 (t : Int) = 0) := by show _ = _; unfold pwE; rw [if_neg (by omega), if_neg (by omega)]
      have E2 : Hid (pwL 10 78913 (t : Int) = words (10 ^ t)) := by show _ = _; unfold pwL; rw [if_neg (by omega), if_neg (by omega)]; rfl
      have e3 : pwE 112899 (t : Int) = 0 := by unfold pwE; rw [if_neg (by omega), if_neg (by omega)]
      have e4 : pwL 5 112899 (t : Int) = words (5 ^ t) := by unfold pwL; rw [if_neg (by omega), if_neg (by omega)]; rfl
      rw [e3, e4] at hf
      have l5 := five_lt (n := t) (by omega)
      have l10 := ten_lt (n := t) ht
      have d5 := Dg_words ((5 : Int) ^ t)
      have n5 := num_words l5.1
      have w5 := l5.len
      generalize hF : (5 : Int) ^ t = F at *
      have hFT : F * 2 ^ t = 10 ^ t := by rw [← hF]; exact five_two t
      clear e3 e4 hneg hbig hF
      go_enter Tryd.func8, Tryd.ntmps8
      go_wp2_with fail
      refine hf.mono ?_
      rintro e w1 ⟨o, rfl, ho, hb1⟩
      obtain ⟨oa, oc, rfl, hor⟩ := ho.readsC
      have hs := natShl_any hor d5 (by omega) (t : Int) (by omega)
      have s1 : shlE F (t : Int) = 0 := by unfold shlE; rw [if_neg (by omega), Int.toNat_natCast, hFT]; exact (l10.fits (Nat.le_refl _)).2
      have s2 : shlL F (t : Int) = words (10 ^ t) := by unfold shlL; rw [if_neg (by omega), Int.toNat_natCast, hFT]; exact (l10.fits (Nat.le_refl _)).1
      rw [n5, s1, s2] at hs
      generalize (words F).length = l at *
      clear hf ho s1 s2 hFT
      go_wp2_with fail
      refine hs.mono ?_
      rintro e w2 ⟨v, rfl, hv, hb2⟩
      have hv2 := hv.wider hb1.size
      have hB := hb1.trans (hb2.mono hb1.size)
      clear hs hv
      go_wp2
      go_ret2
      exact ⟨_, by rw [E1.out]; rfl, by rw [E2.out]; exact hv2, hB⟩
end Go.Proofs.YtmenhfnakcdnnabDoor
