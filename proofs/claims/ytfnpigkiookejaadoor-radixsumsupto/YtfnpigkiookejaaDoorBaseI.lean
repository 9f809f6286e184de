import Derived.Test.YtfnpigkiookejaaDoorBaseG
import Derived.Test.YtfnpigkiookejaaDoorBaseH
import Derived.WalkLawsBesides
import Derived.WalkSpells
import Derived.Deep.RegionWith
import Derived.Deep.DeepCutAuto
import Derived.Deep.DeepFit
/- plumbref04: step, TooLong, Text, Count. -/
namespace Go.Proofs.YtfnpigkiookejaaDoor
open Go.ChangeShapes Go.WideShapes Go.ChangeAt Go.RowKit
open Na Ar
set_option linter.unusedVariables false
/-- lists of unlike kinds lie in unlike blocks -/
theorem Own.innT {k : IntKind} {w w' : World} {base base' g n cap : Nat} {e e' : TypeId} {v : Value} {xs ls : List Int} (h : Own k w base e v xs) (hl : Own .u64 w base' e' (.slice (some ⟨g, 0, none⟩) n cap) ls) (he : e ≠ e') (hi : In g (g + 1) w w') : Own k w' base e v xs := by
  obtain ⟨h1, h2⟩ := h
  refine ⟨h1, ?_⟩
  rcases h2 with h2 | ⟨g2, c, cur, hv, hb, hc, r⟩
  · exact Or.inl h2
  · refine Or.inr ⟨g2, c, cur, hv, hb, ?_, r⟩
    have hlt : g2 < w.heap.size := by
      by_cases hlt : g2 < w.heap.size
      · exact hlt
      · simp [Array.getElem?_eq_none (Nat.le_of_not_lt hlt)] at hc
    have hne : g2 ≠ g := by
      rcases hl.2 with ⟨h0, _⟩ | ⟨g', c', cur', hv', _, hc', _⟩
      · simp at h0
      · simp only [Value.slice.injEq, Option.some.injEq, Addr.mk.injEq] at hv'
        intro hh
        have eg : g' = g2 := by omega
        rw [eg, hc] at hc'
        simp only [Option.some.injEq, Obj.cells.injEq] at hc'
        exact he hc'.2.1
    rw [hi.block g2 hlt (by omega)]; exact hc
theorem Own.shape8 {k : IntKind} {w : World} {base : Nat} {e : TypeId} {v : Value} {xs : List Int} (h : Own k w base e v xs) (hp : 0 < xs.length) : ∃ g c, v = .slice (some ⟨g, 0, none⟩) xs.length c ∧ base ≤ g := by
  rcases h.2 with ⟨_, h0⟩ | ⟨g, c, cur, hv, hb, _⟩
  · omega
  · exact ⟨g, c, hv, hb⟩
theorem LimbsOf.kept {w w' : World} {base base' : Nat} {a : Option Addr} {n c k : Nat} {us : List Int} {V : Int} {vb : Value} {bs : List Value} (h : LimbsOf w base a n c us V) (hb : w.ownsRow base' 5 1 vb k bs) (hg : w.grownBy w' vb.ownBlock) : LimbsOf w' base a n c us V := by
  obtain ⟨h1, h2⟩ := h
  exact ⟨h1.keptT hg (h1.apartT hb (by decide)), h2⟩
theorem LimbsOf.later {w w' : World} {base : Nat} {a : Option Addr} {n c : Nat} {us : List Int} {V : Int} (h : LimbsOf w base a n c us V) (hb : Below w.heap.size w w') : LimbsOf w' base a n c us V := ⟨h.1.later hb, h.2⟩
end Go.Proofs.YtfnpigkiookejaaDoor

/- plumbref04.Text. -/
namespace Go.Proofs.YtfnpigkiookejaaDoor
open Go.ChangeShapes Go.WideShapes Go.ChangeAt Go.RowKit
open Na Ar
set_option linter.unusedVariables false
namespace Na
theorem pow_of_quot {b X : Int} {K : Nat} (hb : 2 ≤ b) (hX : 0 ≤ X) (h : 0 < X / b ^ K) : b ^ K ≤ X := by
  by_cases g : b ^ K ≤ X
  · exact g
  · rw [Int.ediv_eq_zero_of_lt hX (by omega)] at h; omega
theorem quot_none {b X : Int} {K : Nat} (hb : 2 ≤ b) (hX : 0 ≤ X) (h : X / b ^ K = 0) : X < b ^ K := by
  have p : 0 < b ^ K := Int.pow_pos (by omega)
  by_cases g : b ^ K ≤ X
  · have := Int.le_ediv_of_mul_le p (show 1 * b ^ K ≤ X by omega)
    omega
  · omega
theorem quot_next {b X m : Int} {K c : Nat} (hb : 2 ≤ b) (hm : m = b ^ c) : X / b ^ K / m = X / b ^ (K + c) := by
  rw [hm, Int.ediv_ediv_of_nonneg (Int.pow_nonneg (by omega)), ← Int.pow_add]
end Na
theorem own_caps {k : IntKind} {w : World} {base n cap : Nat} {e : TypeId} {a : Option Addr} {xs : List Int} (h : Own k w base e (.slice a n cap) xs) : xs.length ≤ cap := by
  obtain ⟨a', c', hv, hc, _⟩ := h.reads
  simp only [Value.slice.injEq] at hv
  omega
theorem own_slen {k : IntKind} {w : World} {base K : Nat} {e : TypeId} {v : Value} {xs : List Int} (h : Own k w base e v xs) (hK : xs.length = K) : Hid (sLen v = K) := by
  obtain ⟨a, c, rfl, _⟩ := h.reads
  exact hK
end Go.Proofs.YtfnpigkiookejaaDoor

/- RadixSums: what it needs, and its walk. -/
namespace Go.Proofs.YtfnpigkiookejaaDoor
open Go.ChangeShapes Go.WideShapes Go.ChangeAt Go.RowKit
open Na Ar
set_option linter.unusedVariables false
namespace Na
theorem fit_bits {X : Int} (h : 0 ≤ X) (g : (words X).length ≤ 4096) : bitsN X ≤ 262144 := by
  have := bits_le (N := X) (k := 4096) h (by have := val_lt (B := 18446744073709551616) (by omega) (Dg_words X); rw [val_words h] at this; exact Int.lt_of_lt_of_le this (wpow_mono g))
  omega
theorem trim_lt {U V : Int} {a b : Nat} (h : U * 10 ^ a = V * 10 ^ b) (hU : U % 10 ≠ 0) : ¬ a < b := by
  intro q
  obtain ⟨c, rfl⟩ : ∃ c, b = c + 1 + a := ⟨b - a - 1, by omega⟩
  have p : (10 : Int) ^ a ≠ 0 := by have : (0 : Int) < 10 ^ a := Int.pow_pos (by omega); omega
  rw [Int.pow_add, ← Int.mul_assoc] at h
  have e := Int.eq_of_mul_eq_mul_right p h
  rw [Int.pow_succ, ← Int.mul_assoc] at e
  omega
theorem trim_uniq {U V : Int} {a b : Nat} (h : U * 10 ^ a = V * 10 ^ b) (hU : U % 10 ≠ 0) (hV : V % 10 ≠ 0) : a = b ∧ U = V := by
  have h1 := trim_lt h hU
  have h2 := trim_lt h.symm hV
  have e : a = b := by omega
  subst e
  have p : (10 : Int) ^ a ≠ 0 := by have : (0 : Int) < 10 ^ a := Int.pow_pos (by omega); omega
  exact ⟨rfl, Int.eq_of_mul_eq_mul_right p h⟩
theorem tens_most {X U : Int} {k : Nat} (h0 : 0 < X) (hl : (words X).length ≤ 4096) (h : X = U * 10 ^ k) (hU : 0 ≤ U) : k ≤ 78913 := by
  have hb := fit_bits (Int.le_of_lt h0) hl
  obtain ⟨b, e, l1, l2⟩ := bits_some h0
  obtain ⟨T, hT⟩ : ∃ T : Nat, T = (b + 1) * 97879 / 325147 := ⟨_, rfl⟩
  obtain ⟨_, t2⟩ := tens_int hT (by omega)
  have hU1 : 1 ≤ U := by
    by_cases q : U = 0
    · rw [q, Int.zero_mul] at h; omega
    · omega
  have p : (0 : Int) < 10 ^ k := Int.pow_pos (by omega)
  have m := Int.mul_le_mul_of_nonneg_right hU1 (Int.le_of_lt p)
  by_cases g : k ≤ T
  · omega
  · exfalso
    have := ipow_mono (X := 10) (by omega) (show T + 1 ≤ k by omega)
    omega
theorem pow_short {b : Int} {k : Nat} (hb : 1 ≤ b) (hb9 : b ≤ 10) (hk : k ≤ 78913) : (words (b ^ k)).length ≤ 4096 := by
  have p : (0 : Int) ≤ b ^ k := Int.pow_nonneg (by omega)
  have a := ipow_base (X := b) (Y := 10) (by omega) hb9 k
  have c := ten_less hk
  exact bits_words p (Int.lt_of_le_of_lt a c) (Nat.le_refl _)
end Na
theorem rowC_sums {w : World} {a : Option Addr} {len cap : Nat} {zs : List Int} (h : (a = none ∧ len = 0 ∧ cap = 0 ∧ zs = []) ∨
    ∃ x, a = some x ∧ len ≤ cap ∧ cap ≤ maxLen ∧ zs.length = cap ∧ (∀ i, i < zs.length → w.cell? (x.add i) = some (.int .u64 (zs.getD i 0))) ∧ ∀ n ∈ zs, (Lit.int .u64 n).wf = true) :
    RowC w a len cap (zs.take len) ∧ Ws (zs.take len) := by
  have q := row_of h
  refine ⟨⟨q.1, ?_⟩, q.2.1⟩
  rcases h with ⟨rfl, rfl, rfl, rfl⟩ | ⟨x, rfl, hl, hm, hz, hc, hw⟩
  · exact ⟨Nat.le_refl _, Nat.zero_le _⟩
  · exact ⟨hl, hm⟩
/-- an answer that is a number, at fresh names -/
def Ans (w' : World) (X : Int) (v : Value) : Prop := ∃ a l c ls, v = .slice a l c ∧ RowC w' a l c ls ∧ Hid (ls = words X) ∧ l ≤ 4096
theorem ans_of {w' : World} {base : Nat} {X : Int} {v : Value} (h : Own .u64 w' base 39 v (words X)) (hl : (words X).length ≤ 4096) : Ans w' X v := by
  obtain ⟨a, c, rfl, hr⟩ := h.readsC
  exact ⟨a, _, c, _, rfl, hr, rfl, hl⟩
theorem fiveQ {k : Nat} {K : Int} (hK : K = k) (h : k ≤ 78913) (w : World) :
    Calls Tryd.prog 17 #[.int .i64 K] w fun e w' => ∃ a l c ls, e = .returned (.tuple #[.slice a l c, .int .i64 0]) ∧ (RowC w' a l c ls ∧ Hid (ls = words (5 ^ k)) ∧ l ≤ 4096) ∧ Below w.heap.size w w' := by
  subst hK
  have f := five_any (k : Int) (by omega) (by omega) w
  have E1 : pwE 112899 (k : Int) = 0 := by unfold pwE; rw [if_neg (by omega), if_neg (by omega)]
  have E2 : pwL 5 112899 (k : Int) = words (5 ^ k) := by unfold pwL; rw [if_neg (by omega), if_neg (by omega), Int.toNat_natCast]
  rw [E1, E2] at f
  refine f.mono ?_
  rintro e w' ⟨v, rfl, ho, hb⟩
  obtain ⟨a, l, c, ls, rfl, h1, h2, h3⟩ := ans_of ho (pow_short (by omega) (by omega) h)
  exact ⟨a, l, c, ls, rfl, ⟨h1, h2, h3⟩, hb⟩
theorem tenQ {k : Nat} {K : Int} (hK : K = k) (h : k ≤ 78913) (w : World) :
    Calls Tryd.prog 18 #[.int .i64 K] w fun e w' => ∃ a l c ls, e = .returned (.tuple #[.slice a l c, .int .i64 0]) ∧ (RowC w' a l c ls ∧ Hid (ls = words (10 ^ k)) ∧ l ≤ 4096) ∧ Below w.heap.size w w' := by
  subst hK
  have f := ten_any (k : Int) (by omega) (by omega) w
  have E1 : pwE 78913 (k : Int) = 0 := by unfold pwE; rw [if_neg (by omega), if_neg (by omega)]
  have E2 : pwL 10 78913 (k : Int) = words (10 ^ k) := by unfold pwL; rw [if_neg (by omega), if_neg (by omega), Int.toNat_natCast]
  rw [E1, E2] at f
  refine f.mono ?_
  rintro e w' ⟨v, rfl, ho, hb⟩
  obtain ⟨a, l, c, ls, rfl, h1, h2, h3⟩ := ans_of ho (pow_short (by omega) (by omega) h)
  exact ⟨a, l, c, ls, rfl, ⟨h1, h2, h3⟩, hb⟩
theorem mulA {a b : Option Addr} {n m c1 c2 : Nat} {xs ys : List Int} {X Y : Int} {w : World} (hr1 : RowC w a n c1 xs) (hr2 : RowC w b m c2 ys) (e1 : Hid (xs = words X)) (e2 : Hid (ys = words Y)) (h1 : 0 ≤ X) (h2 : 0 ≤ Y) (hn : n ≤ 4000000) (hm : m ≤ 4000000) (hl : (words (X * Y)).length ≤ 4096) :
    Calls Tryd.prog 15 #[.slice a n c1, .slice b m c2] w fun e w' => ∃ a l c ls, e = .returned (.tuple #[.slice a l c, .int .i64 0]) ∧ (RowC w' a l c ls ∧ Hid (ls = words (X * Y)) ∧ l ≤ 4096) ∧ Below w.heap.size w w' := by
  have x1 := e1.out
  have x2 := e2.out
  subst x1 x2
  have f := natMul_any hr1 hr2 (Dg_words X) (Dg_words Y) hn hm
  rw [num_words h1, num_words h2, (res_fits hl).1, (res_fits hl).2] at f
  refine f.mono ?_
  rintro e w' ⟨v, rfl, ho, hb⟩
  obtain ⟨a, l, c, ls, rfl, h1, h2, h3⟩ := ans_of ho hl
  exact ⟨a, l, c, ls, rfl, ⟨h1, h2, h3⟩, hb⟩
set_option maxRecDepth 100000 in
theorem pow4_any {k : Nat} (h : k ≤ 78913) (w : World) :
    Calls Tryd.prog 21 #[.int .i64 (k : Int)] w fun e w' => ∃ a l c ls, e = .returned (.slice a l c) ∧ (RowC w' a l c ls ∧ Hid (ls = words (10 ^ k)) ∧ l ≤ 4096) ∧ Below w.heap.size w w' := by
  have t := tenQ (K := (k : Int)) rfl h w
  go_enter Tryd.func21, Tryd.ntmps21
  go_wp2_with fail
  refine t.mono ?_
  rintro e w1 ⟨a, l, c, ls, rfl, h1, hb⟩
  clear t
  go_wp2
  go_ret
  exact ⟨a, l, c, ls, rfl, h1, hb⟩
/-- Trim, at fresh names -/
theorem trimQ {a : Option Addr} {l c : Nat} {xs : List Int} {X : Int} {w : World} (hr : RowC w a l c xs) (hw : Ws xs) (hX : num xs = X) (hl : l ≤ 3000000) (hfit : (words X).length ≤ 4096) :
    Calls Tryd.prog 20 #[.slice a l c] w fun e w' => ∃ (ua : Option Addr) (ul uc : Nat) (us : List Int) (U : Int) (k : Nat), e = .returned (.tuple #[.slice ua ul uc, .int .i64 (k : Int)]) ∧ (RowC w' ua ul uc us ∧ Hid (us = words U) ∧ ul ≤ 4096 ∧ 0 ≤ U ∧ Hid (X = U * 10 ^ k) ∧ Hid (X = 0 → k = 0) ∧ Hid (0 < X → U % 10 ≠ 0) ∧ k ≤ 78913) ∧ Below w.heap.size w w' := by
  have h0 := num_nonneg hw
  refine (trim10_any hr hw hl).mono ?_
  rintro e w' ⟨v, U, k, rfl, hU, hXU, hz, hnz, ho, hb⟩
  rw [hX] at hXU hz hnz h0
  have hUX : U ≤ X := by
    have p : (1 : Int) ≤ 10 ^ k := Int.pow_pos (by omega)
    have := Int.mul_le_mul_of_nonneg_left p hU
    omega
  have hk : k ≤ 78913 := by
    by_cases q : X = 0
    · have := hz q; omega
    · exact tens_most (by omega) hfit hXU hU
  obtain ⟨a, l, c, ls, rfl, h1, h2, h3⟩ := ans_of ho (Nat.le_trans (words_mono hU hUX) hfit)
  exact ⟨a, l, c, ls, U, k, rfl, ⟨h1, h2, h3, hU, hXU, hz, hnz, hk⟩, hb⟩
end Go.Proofs.YtfnpigkiookejaaDoor

/- Text, Count and Trim, of the program and of the document, in every case; RadixTexts' walk. -/
namespace Go.Proofs.YtfnpigkiookejaaDoor
open Go.ChangeShapes Go.WideShapes Go.ChangeAt Go.RowKit
open Na Ar
set_option linter.unusedVariables false
namespace Na
/-- what Text answers -/
def TxIs (X b : Int) (t : ByteArray) (c : Int) : Prop :=
  (¬ (2 ≤ b ∧ b ≤ 36) ∧ t = ⟨#[]⟩ ∧ c = 40) ∨ ((2 ≤ b ∧ b ≤ 36) ∧ 262144 < bitsN X ∧ t = ⟨#[]⟩ ∧ c = 21) ∨
  ((2 ≤ b ∧ b ≤ 36) ∧ bitsN X ≤ 262144 ∧ c = 0 ∧ ((X = 0 ∧ t = ⟨#[48]⟩) ∨ (0 < X ∧ TextIs X b t)))
theorem txIs_uniq {X b c c' : Int} {t t' : ByteArray} (h : TxIs X b t c) (h' : TxIs X b t' c') : t = t' ∧ c = c' := by
  rcases h with ⟨a1, a2, a3⟩ | ⟨a1, a2, a3, a4⟩ | ⟨a1, a2, a3, a4⟩ <;> rcases h' with ⟨b1, b2, b3⟩ | ⟨b1, b2, b3, b4⟩ | ⟨b1, b2, b3, b4⟩
  · exact ⟨a2.trans b2.symm, by omega⟩
  · exact absurd b1 a1
  · exact absurd b1 a1
  · exact absurd a1 b1
  · exact ⟨a3.trans b3.symm, by omega⟩
  · omega
  · exact absurd a1 b1
  · omega
  · refine ⟨?_, by omega⟩
    rcases a4 with ⟨p1, p2⟩ | ⟨p1, p2⟩ <;> rcases b4 with ⟨q1, q2⟩ | ⟨q1, q2⟩
    · exact p2.trans q2.symm
    · omega
    · omega
    · exact textIs_uniq a1.1 a1.2 p1 p2 q2
/-- what Count answers -/
def CtIs (X d : Int) : Prop := (262144 < bitsN X ∧ d = 0) ∨ (bitsN X ≤ 262144 ∧ CountIs X d)
theorem ctIs_text {X d c : Int} {t : ByteArray} (h : CtIs X d) (ht : TxIs X 10 t c) : d = (t.size : Int) := by
  rcases ht with ⟨a1, a2, a3⟩ | ⟨a1, a2, a3, a4⟩ | ⟨a1, a2, a3, a4⟩
  · omega
  · rcases h with ⟨_, h2⟩ | ⟨h1, _⟩
    · rw [a3, h2]; rfl
    · omega
  · rcases h with ⟨h1, _⟩ | ⟨_, h2⟩
    · omega
    · rcases a4 with ⟨p1, p2⟩ | ⟨p1, p2⟩
      · rcases h2 with ⟨_, q⟩ | ⟨n, q, q1, q2⟩
        · rw [q, p2]; rfl
        · have : (0 : Int) < 10 ^ n := Int.pow_pos (by omega)
          omega
      · exact count_text p1 p2 h2
theorem long_bits {X : Int} (h : 0 ≤ X) : 4096 < (words X).length ↔ 262144 < bitsN X := by
  have := words_bits4096 h
  omega
end Na
set_option maxRecDepth 100000 in
theorem textCode_any {a : Option Addr} {n c1 : Nat} {xs : List Int} {b : Int} {w : World} (hx : RowC w a n c1 xs) (hw : Ws xs) (hn : n ≤ 4000000) :
    Calls Tryd.prog 8 #[.slice a n c1, .int .i64 b] w fun e w' => ∃ (t : ByteArray) (c : Int), e = .returned (.tuple #[.string t, .int .i64 c]) ∧ TxIs (num xs) b t c ∧ Below w.heap.size w w' := by
  have h0 := num_nonneg hw
  by_cases hb : 2 ≤ b ∧ b ≤ 36
  · by_cases hl : (words (num xs)).length ≤ 4096
    · have hbits := (words_bits4096 h0).mp hl
      by_cases hz : num xs = 0
      · refine (textZero_any hx hw hn hb.1 hb.2 hz).mono ?_
        rintro e w' ⟨rfl, hB⟩
        exact ⟨_, _, rfl, Or.inr (Or.inr ⟨hb, hbits, rfl, Or.inl ⟨hz, rfl⟩⟩), hB⟩
      · refine (text_any hx hw hn hb.1 hb.2 hl (by omega)).mono ?_
        rintro e w' ⟨t, rfl, ht, hB⟩
        exact ⟨_, _, rfl, Or.inr (Or.inr ⟨hb, hbits, rfl, Or.inr ⟨by omega, ht⟩⟩), hB⟩
    · have HF : TxIs (num xs) b ⟨#[]⟩ 21 := Or.inr (Or.inl ⟨hb, (long_bits h0).mp (by omega), rfl, rfl⟩)
      have kc := known_any b w
      have hk : knownB b = true := by unfold knownB; simp; omega
      rw [hk] at kc
      have tc := trim_any hx hw hn
      generalize (words (num xs)).length = L at *
      go_enter Tryd.func8, Tryd.ntmps8
      go_wp2_with fail
      refine kc.mono ?_
      rintro e w' ⟨rfl, rfl⟩
      go_wp2_with fail
      refine tc.mono ?_
      rintro e w' ⟨rfl, _, _, _, rfl⟩
      clear tc kc
      go_wp2
      go_ret2
      exact ⟨_, _, rfl, HF, Below.refl _ _⟩
  · have HF : TxIs (num xs) b ⟨#[]⟩ 40 := Or.inl ⟨hb, rfl, rfl⟩
    have kc := known_any b w
    have hk : knownB b = false := by unfold knownB; simp; omega
    rw [hk] at kc
    go_enter Tryd.func8, Tryd.ntmps8
    go_wp2_with fail
    refine kc.mono ?_
    rintro e w' ⟨rfl, rfl⟩
    clear kc
    go_wp2
    go_ret2
    exact ⟨_, _, rfl, HF, Below.refl _ _⟩
set_option maxRecDepth 100000 in
theorem countAll_any {a : Option Addr} {l c : Nat} {xs : List Int} {w : World} (hr : RowC w a l c xs) (hw : Ws xs) (hl : l ≤ 3000000) :
    Calls Tryd.prog 19 #[.slice a l c] w fun e w' => ∃ d : Int, e = .returned (.int .i64 d) ∧ CtIs (num xs) d ∧ Below w.heap.size w w' := by
  by_cases hf : bitsN (num xs) ≤ 262144
  · refine (count_any hr hw hl hf).mono ?_
    rintro e w' ⟨d, rfl, hd, hB⟩
    exact ⟨d, rfl, Or.inr ⟨hf, hd⟩, hB⟩
  · have HF : CtIs (num xs) 0 := Or.inl ⟨by omega, rfl⟩
    have bc := natBits_any hr hw (by omega)
    generalize bitsN (num xs) = B at *
    go_enter Tryd.func19, Tryd.ntmps19
    go_wp2_with fail
    refine bc.mono ?_
    rintro e w1 ⟨rfl, hb1⟩
    clear bc
    go_wp2
    go_ret
    exact ⟨0, rfl, HF, hb1⟩
end Go.Proofs.YtfnpigkiookejaaDoor
