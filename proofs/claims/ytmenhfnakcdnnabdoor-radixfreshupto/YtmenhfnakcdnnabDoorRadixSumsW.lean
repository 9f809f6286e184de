/- RadixSums: what it needs, and its walk. -/
import Derived.Test.YtmenhfnakcdnnabDoorRadixCount
import Derived.Test.YtmenhfnakcdnnabDoorRadixStrip
import Derived.WalkLawsBesides
import Derived.WalkSpells
import Derived.Deep.RegionWith
import Derived.Deep.DeepCutAuto
import Derived.Deep.DeepFit
namespace Go.Proofs.YtmenhfnakcdnnabDoor
open Go.ChangeShapes Go.WideShapes Go.ChangeAt Go.RowKit
open Na Ar
set_option linter.unusedVariables false
namespace Na
theorem fit_bits {X : Int} (h : 0 ≤ X) (g : (words X).length ≤ 4096) : bitsN X ≤ 262144 := by
  have := bits_le (N := X) (k := 4096) h (by have := val_lt (B := 18446744073709551616) (by omega) (Dg_words X); rw [val_words h] at this; exact Int.lt_of_lt_of_le this (wpow_mono g))
  omega
theorem trim_lt {U V : Int} {a b : Nat} (h : U * 10 ^ a = V * 10 ^ b) (hU : U % 10 ≠ 0) : ¬ a < b := by
  intro q
  obtain ⟨c, rfl⟩ : ∃ c, b = c + 1 + a := ⟨b - a - 1, by omega⟩
  have p : (10 : Int) ^ a ≠ 0 := by have : (0 : Int) < 10 ^ a := Int.pow_pos (by omega); omega
  rw [Int.pow_add, ← Int.mul_assoc] at h
  have e := Int.eq_of_mul_eq_mul_right p h
  rw [Int.pow_succ, ← Int.mul_assoc] at e
  omega
theorem trim_uniq {U V : Int} {a b : Nat} (h : U * 10 ^ a = V * 10 ^ b) (hU : U % 10 ≠ 0) (hV : V % 10 ≠ 0) : a = b ∧ U = V := by
  have h1 := trim_lt h hU
  have h2 := trim_lt h.symm hV
  have e : a = b := by omega
  subst e
  have p : (10 : Int) ^ a ≠ 0 := by have : (0 : Int) < 10 ^ a := Int.pow_pos (by omega); omega
  exact ⟨rfl, Int.eq_of_mul_eq_mul_right p h⟩
theorem tens_most {X U : Int} {k : Nat} (h0 : 0 < X) (hl : (words X).length ≤ 4096) (h : X = U * 10 ^ k) (hU : 0 ≤ U) : k ≤ 78913 := by
  have hb := fit_bits (Int.le_of_lt h0) hl
  obtain ⟨b, e, l1, l2⟩ := bits_some h0
  obtain ⟨T, hT⟩ : ∃ T : Nat, T = (b + 1) * 97879 / 325147 := ⟨_, rfl⟩
  obtain ⟨_, t2⟩ := tens_int hT (by omega)
  have hU1 : 1 ≤ U := by
    by_cases q : U = 0
    · rw [q, Int.zero_mul] at h; omega
    · omega
  have p : (0 : Int) < 10 ^ k := Int.pow_pos (by omega)
  have m := Int.mul_le_mul_of_nonneg_right hU1 (Int.le_of_lt p)
  by_cases g : k ≤ T
  · omega
  · exfalso
    have := ipow_mono (X := 10) (by omega) (show T + 1 ≤ k by omega)
    omega
theorem pow_short {b : Int} {k : Nat} (hb : 1 ≤ b) (hb9 : b ≤ 10) (hk : k ≤ 78913) : (words (b ^ k)).length ≤ 4096 := by
  have p : (0 : Int) ≤ b ^ k := Int.pow_nonneg (by omega)
  have a := ipow_base (X := b) (Y := 10) (by omega) hb9 k
  have c := ten_less hk
  exact bits_words p (Int.lt_of_le_of_lt a c) (Nat.le_refl _)
end Na
theorem rowC_sums {w : World} {a : Option Addr} {len cap : Nat} {zs : List Int} (h : (a = none ∧ len = 0 ∧ cap = 0 ∧ zs = []) ∨
    ∃ x, a = some x ∧ len ≤ cap ∧ cap ≤ maxLen ∧ zs.length = cap ∧ (∀ i, i < zs.length → w.cell? (x.add i) = some (.int .u64 (zs.getD i 0))) ∧ ∀ n ∈ zs, (Lit.int .u64 n).wf = true) :
    RowC w a len cap (zs.take len) ∧ Ws (zs.take len) := by
  have q := row_of h
  refine ⟨⟨q.1, ?_⟩, q.2.1⟩
  rcases h with ⟨rfl, rfl, rfl, rfl⟩ | ⟨x, rfl, hl, hm, hz, hc, hw⟩
  · exact ⟨Nat.le_refl _, Nat.zero_le _⟩
  · exact ⟨hl, hm⟩
/-- an answer that is a number, at fresh names -/
def Ans (w' : World) (X : Int) (v : Value) : Prop := ∃ a l c ls, v = .slice a l c ∧ RowC w' a l c ls ∧ Hid (ls = words X) ∧ l ≤ 4096
theorem ans_of {w' : World} {base : Nat} {X : Int} {v : Value} (h : Own .u64 w' base 35 v (words X)) (hl : (words X).length ≤ 4096) : Ans w' X v := by
  obtain ⟨a, c, rfl, hr⟩ := h.readsC
  exact ⟨a, _, c, _, rfl, hr, rfl, hl⟩
theorem fiveQ {k : Nat} {K : Int} (hK : K = k) (h : k ≤ 78913) (w : World) :
    Calls Tryd.prog 7 #[.int .i64 K] w fun e w' => ∃ a l c ls, e = .returned (.tuple #[.slice a l c, .int .i64 0]) ∧ (RowC w' a l c ls ∧ Hid (ls = words (5 ^ k)) ∧ l ≤ 4096) ∧ Below w.heap.size w w' := by
  subst hK
  have f := five_any (k : Int) (by omega) (by omega) w
  have E1 : pwE 112899 (k : Int) = 0 := by unfold pwE; rw [if_neg (by omega), if_neg (by omega)]
  have E2 : pwL 5 112899 (k : Int) = words (5 ^ k) := by unfold pwL; rw [if_neg (by omega), if_neg (by omega), Int.toNat_natCast]
  rw [E1, E2] at f
  refine f.mono ?_
  rintro e w' ⟨v, rfl, ho, hb⟩
  obtain ⟨a, l, c, ls, rfl, h1, h2, h3⟩ := ans_of ho (pow_short (by omega) (by omega) h)
  exact ⟨a, l, c, ls, rfl, ⟨h1, h2, h3⟩, hb⟩
theorem tenQ {k : Nat} {K : Int} (hK : K = k) (h : k ≤ 78913) (w : World) :
    Calls Tryd.prog 8 #[.int .i64 K] w fun e w' => ∃ a l c ls, e = .returned (.tuple #[.slice a l c, .int .i64 0]) ∧ (RowC w' a l c ls ∧ Hid (ls = words (10 ^ k)) ∧ l ≤ 4096) ∧ Below w.heap.size w w' := by
  subst hK
  have f := ten_any (k : Int) (by omega) (by omega) w
  have E1 : pwE 78913 (k : Int) = 0 := by unfold pwE; rw [if_neg (by omega), if_neg (by omega)]
  have E2 : pwL 10 78913 (k : Int) = words (10 ^ k) := by unfold pwL; rw [if_neg (by omega), if_neg (by omega), Int.toNat_natCast]
  rw [E1, E2] at f
  refine f.mono ?_
  rintro e w' ⟨v, rfl, ho, hb⟩
  obtain ⟨a, l, c, ls, rfl, h1, h2, h3⟩ := ans_of ho (pow_short (by omega) (by omega) h)
  exact ⟨a, l, c, ls, rfl, ⟨h1, h2, h3⟩, hb⟩
theorem mulA {a b : Option Addr} {n m c1 c2 : Nat} {xs ys : List Int} {X Y : Int} {w : World} (hr1 : RowC w a n c1 xs) (hr2 : RowC w b m c2 ys) (e1 : Hid (xs = words X)) (e2 : Hid (ys = words Y)) (h1 : 0 ≤ X) (h2 : 0 ≤ Y) (hn : n ≤ 4000000) (hm : m ≤ 4000000) (hl : (words (X * Y)).length ≤ 4096) :
    Calls Tryd.prog 9 #[.slice a n c1, .slice b m c2] w fun e w' => ∃ a l c ls, e = .returned (.tuple #[.slice a l c, .int .i64 0]) ∧ (RowC w' a l c ls ∧ Hid (ls = words (X * Y)) ∧ l ≤ 4096) ∧ Below w.heap.size w w' := by
  have x1 := e1.out
  have x2 := e2.out
  subst x1 x2
  have f := natMul_any hr1 hr2 (Dg_words X) (Dg_words Y) hn hm
  rw [num_words h1, num_words h2, (res_fits hl).1, (res_fits hl).2] at f
  refine f.mono ?_
  rintro e w' ⟨v, rfl, ho, hb⟩
  obtain ⟨a, l, c, ls, rfl, h1, h2, h3⟩ := ans_of ho hl
  exact ⟨a, l, c, ls, rfl, ⟨h1, h2, h3⟩, hb⟩
set_option maxRecDepth 100000 in
theorem pow4_any {k : Nat} (h : k ≤ 78913) (w : World) :
    Calls Tryd.prog 14 #[.int .i64 (k : Int)] w fun e w' => ∃ a l c ls, e = .returned (.slice a l c) ∧ (RowC w' a l c ls ∧ Hid (ls = words (10 ^ k)) ∧ l ≤ 4096) ∧ Below w.heap.size w w' := by
  have t := tenQ (K := (k : Int)) rfl h w
  go_enter Tryd.func14, Tryd.ntmps14
  go_wp2_with fail
  refine t.mono ?_
  rintro e w1 ⟨a, l, c, ls, rfl, h1, hb⟩
  clear t
  go_wp2
  go_ret
  exact ⟨a, l, c, ls, rfl, h1, hb⟩
/-- Trim, at fresh names -/
theorem trimQ {a : Option Addr} {l c : Nat} {xs : List Int} {X : Int} {w : World} (hr : RowC w a l c xs) (hw : Ws xs) (hX : num xs = X) (hl : l ≤ 3000000) (hfit : (words X).length ≤ 4096) :
    Calls Tryd.prog 13 #[.slice a l c] w fun e w' => ∃ (ua : Option Addr) (ul uc : Nat) (us : List Int) (U : Int) (k : Nat), e = .returned (.tuple #[.slice ua ul uc, .int .i64 (k : Int)]) ∧ (RowC w' ua ul uc us ∧ Hid (us = words U) ∧ ul ≤ 4096 ∧ 0 ≤ U ∧ Hid (X = U * 10 ^ k) ∧ Hid (X = 0 → k = 0) ∧ Hid (0 < X → U % 10 ≠ 0) ∧ k ≤ 78913) ∧ Below w.heap.size w w' := by
  have h0 := num_nonneg hw
  refine (trim10_any hr hw hl).mono ?_
  rintro e w' ⟨v, U, k, rfl, hU, hXU, hz, hnz, ho, hb⟩
  rw [hX] at hXU hz hnz h0
  have hUX : U ≤ X := by
    have p : (1 : Int) ≤ 10 ^ k := Int.pow_pos (by omega)
    have := Int.mul_le_mul_of_nonneg_left p hU
    omega
  have hk : k ≤ 78913 := by
    by_cases q : X = 0
    · have := hz q; omega
    · exact tens_most (by omega) hfit hXU hU
  obtain ⟨a, l, c, ls, rfl, h1, h2, h3⟩ := ans_of ho (Nat.le_trans (words_mono hU hUX) hfit)
  exact ⟨a, l, c, ls, U, k, rfl, ⟨h1, h2, h3, hU, hXU, hz, hnz, hk⟩, hb⟩
end Go.Proofs.YtmenhfnakcdnnabDoor
