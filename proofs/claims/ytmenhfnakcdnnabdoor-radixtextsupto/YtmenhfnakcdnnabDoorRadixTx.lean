/- Text, Count and Trim, of the program and of the document, in every case; RadixTexts' walk. -/
import Derived.Test.YtmenhfnakcdnnabDoorRadixRefTextW
import Derived.Test.YtmenhfnakcdnnabDoorRadixCount
import Derived.Test.YtmenhfnakcdnnabDoorRadixSumsW
namespace Go.Proofs.YtmenhfnakcdnnabDoor
open Go.ChangeShapes Go.WideShapes Go.ChangeAt Go.RowKit
open Na Ar
set_option linter.unusedVariables false
namespace Na
/-- what Text answers -/
def TxIs (X b : Int) (t : ByteArray) (c : Int) : Prop :=
  (¬ (2 ≤ b ∧ b ≤ 36) ∧ t = ⟨#[]⟩ ∧ c = 40) ∨ ((2 ≤ b ∧ b ≤ 36) ∧ 262144 < bitsN X ∧ t = ⟨#[]⟩ ∧ c = 21) ∨
  ((2 ≤ b ∧ b ≤ 36) ∧ bitsN X ≤ 262144 ∧ c = 0 ∧ ((X = 0 ∧ t = ⟨#[48]⟩) ∨ (0 < X ∧ TextIs X b t)))
theorem txIs_uniq {X b c c' : Int} {t t' : ByteArray} (h : TxIs X b t c) (h' : TxIs X b t' c') : t = t' ∧ c = c' := by
  rcases h with ⟨a1, a2, a3⟩ | ⟨a1, a2, a3, a4⟩ | ⟨a1, a2, a3, a4⟩ <;> rcases h' with ⟨b1, b2, b3⟩ | ⟨b1, b2, b3, b4⟩ | ⟨b1, b2, b3, b4⟩
  · exact ⟨a2.trans b2.symm, by omega⟩
  · exact absurd b1 a1
  · exact absurd b1 a1
  · exact absurd a1 b1
  · exact ⟨a3.trans b3.symm, by omega⟩
  · omega
  · exact absurd a1 b1
  · omega
  · refine ⟨?_, by omega⟩
    rcases a4 with ⟨p1, p2⟩ | ⟨p1, p2⟩ <;> rcases b4 with ⟨q1, q2⟩ | ⟨q1, q2⟩
    · exact p2.trans q2.symm
    · omega
    · omega
    · exact textIs_uniq a1.1 a1.2 p1 p2 q2
/-- what Count answers -/
def CtIs (X d : Int) : Prop := (262144 < bitsN X ∧ d = 0) ∨ (bitsN X ≤ 262144 ∧ CountIs X d)
theorem ctIs_text {X d c : Int} {t : ByteArray} (h : CtIs X d) (ht : TxIs X 10 t c) : d = (t.size : Int) := by
  rcases ht with ⟨a1, a2, a3⟩ | ⟨a1, a2, a3, a4⟩ | ⟨a1, a2, a3, a4⟩
  · omega
  · rcases h with ⟨_, h2⟩ | ⟨h1, _⟩
    · rw [a3, h2]; rfl
    · omega
  · rcases h with ⟨h1, _⟩ | ⟨_, h2⟩
    · omega
    · rcases a4 with ⟨p1, p2⟩ | ⟨p1, p2⟩
      · rcases h2 with ⟨_, q⟩ | ⟨n, q, q1, q2⟩
        · rw [q, p2]; rfl
        · have : (0 : Int) < 10 ^ n := Int.pow_pos (by omega)
          omega
      · exact count_text p1 p2 h2
theorem long_bits {X : Int} (h : 0 ≤ X) : 4096 < (words X).length ↔ 262144 < bitsN X := by
  have := words_bits4096 h
  omega
end Na
set_option maxRecDepth 100000 in
theorem textCode_any {a : Option Addr} {n c1 : Nat} {xs : List Int} {b : Int} {w : World} (hx : RowC w a n c1 xs) (hw : Ws xs) (hn : n ≤ 4000000) :
    Calls Tryd.prog 18 #[.slice a n c1, .int .i64 b] w fun e w' => ∃ (t : ByteArray) (c : Int), e = .returned (.tuple #[.string t, .int .i64 c]) ∧ TxIs (num xs) b t c ∧ Below w.heap.size w w' := by
  have h0 := num_nonneg hw
  by_cases hb : 2 ≤ b ∧ b ≤ 36
  · by_cases hl : (words (num xs)).length ≤ 4096
    · have hbits := (words_bits4096 h0).mp hl
      by_cases hz : num xs = 0
      · refine (textZero_any hx hw hn hb.1 hb.2 hz).mono ?_
        rintro e w' ⟨rfl, hB⟩
        exact ⟨_, _, rfl, Or.inr (Or.inr ⟨hb, hbits, rfl, Or.inl ⟨hz, rfl⟩⟩), hB⟩
      · refine (text_any hx hw hn hb.1 hb.2 hl (by omega)).mono ?_
        rintro e w' ⟨t, rfl, ht, hB⟩
        exact ⟨_, _, rfl, Or.inr (Or.inr ⟨hb, hbits, rfl, Or.inr ⟨by omega, ht⟩⟩), hB⟩
    · have HF : TxIs (num xs) b ⟨#[]⟩ 21 := Or.inr (Or.inl ⟨hb, (long_bits h0).mp (by omega), rfl, rfl⟩)
      have kc := known_any b w
      have hk : knownB b = true := by unfold knownB; simp; omega
      rw [hk] at kc
      have tc := trim_any hx hw hn
      generalize (words (num xs)).length = L at *
      go_enter Tryd.func18, Tryd.ntmps18
      go_wp2_with fail
      refine kc.mono ?_
      rintro e w' ⟨rfl, rfl⟩
      go_wp2_with fail
      refine tc.mono ?_
      rintro e w' ⟨rfl, _, _, _, rfl⟩
      clear tc kc
      go_wp2
      go_ret2
      exact ⟨_, _, rfl, HF, Below.refl _ _⟩
  · have HF : TxIs (num xs) b ⟨#[]⟩ 40 := Or.inl ⟨hb, rfl, rfl⟩
    have kc := known_any b w
    have hk : knownB b = false := by unfold knownB; simp; omega
    rw [hk] at kc
    go_enter Tryd.func18, Tryd.ntmps18
    go_wp2_with fail
    refine kc.mono ?_
    rintro e w' ⟨rfl, rfl⟩
    clear kc
    go_wp2
    go_ret2
    exact ⟨_, _, rfl, HF, Below.refl _ _⟩
set_option maxHeartbeats 1600000 in
set_option maxRecDepth 100000 in
theorem refTextZero_any {a : Option Addr} {n cap : Nat} {xs : List Int} {b : Int} {w : World} (hrow : RowC w a n cap xs) (hw : Ws xs) (hn : n ≤ 2500000) (hb : 2 ≤ b) (hb9 : b ≤ 36) (hX : num xs = 0) :
    Calls Tryd.prog 27 #[.slice a n cap, .int .i64 b] w fun e w' => e = .returned (.tuple #[.string ⟨#[48]⟩, .int .i64 0]) ∧ Below w.heap.size w w' := by
  have tl := tooLong4_any (B := false) hrow hw hn (by rw [hX]; rfl)
  have lc := limbs4_any hrow hw hn
  rw [hX] at lc
  clear hX hrow
  go_enter Tryd.func27, Tryd.ntmps27
  go_wp2_with fail
  refine tl.mono ?_
  rintro e w' ⟨rfl, rfl⟩
  clear tl
  go_wp2_with fail
  refine (step4_any b hb hb9 w).mono ?_
  rintro e w' ⟨c, rfl, ⟨hc1, hc2, hcm⟩, rfl⟩
  generalize b ^ c = m at *
  go_wp2_with fail
  refine lc.mono ?_
  rintro e w1 ⟨va, l, c', us, rfl, ⟨hlim, hl9⟩, hb1⟩
  have hl0 : l = 0 := (limbs_none hlim).mpr rfl
  subst hl0
  clear lc hlim
  go_wp2
  refine wp_loop_rounds 1 ?_
  rw [rounds_succ]
  go_wp2
  refine wp_loop_rounds 1 ?_
  rw [rounds_succ]
  go_wp2
  go_ret2
  exact ⟨rfl, hb1⟩
set_option maxRecDepth 100000 in
theorem refTextCode_any {a : Option Addr} {n cap : Nat} {xs : List Int} {b : Int} {w : World} (hrow : RowC w a n cap xs) (hw : Ws xs) (hn : n ≤ 2500000) :
    Calls Tryd.prog 27 #[.slice a n cap, .int .i64 b] w fun e w' => ∃ (t : ByteArray) (c : Int), e = .returned (.tuple #[.string t, .int .i64 c]) ∧ TxIs (num xs) b t c ∧ Below w.heap.size w w' := by
  have h0 := num_nonneg hw
  by_cases hb : 2 ≤ b ∧ b ≤ 36
  · by_cases hl : bitsN (num xs) ≤ 262144
    · by_cases hz : num xs = 0
      · refine (refTextZero_any hrow hw hn hb.1 hb.2 hz).mono ?_
        rintro e w' ⟨rfl, hB⟩
        exact ⟨_, _, rfl, Or.inr (Or.inr ⟨hb, hl, rfl, Or.inl ⟨hz, rfl⟩⟩), hB⟩
      · refine (refText4_any hrow hw hn hb.1 hb.2 hl (by omega)).mono ?_
        rintro e w' ⟨t, rfl, ht, hB⟩
        exact ⟨_, _, rfl, Or.inr (Or.inr ⟨hb, hl, rfl, Or.inr ⟨by omega, ht⟩⟩), hB⟩
    · have HF : TxIs (num xs) b ⟨#[]⟩ 21 := Or.inr (Or.inl ⟨hb, by omega, rfl, rfl⟩)
      have tl := tooLong4_any (B := true) hrow hw hn (by simp; omega)
      have hb1 := hb.1
      have hb2 := hb.2
      clear hl hb hrow
      go_enter Tryd.func27, Tryd.ntmps27
      go_wp2_with fail
      refine tl.mono ?_
      rintro e w' ⟨rfl, rfl⟩
      clear tl
      go_wp2
      go_ret2
      exact ⟨_, _, rfl, HF, Below.refl _ _⟩
  · have HF : TxIs (num xs) b ⟨#[]⟩ 40 := Or.inl ⟨hb, rfl, rfl⟩
    by_cases h2 : b < 2
    · go_enter Tryd.func27, Tryd.ntmps27
      go_wp2
      go_ret2
      exact ⟨_, _, rfl, HF, Below.refl _ _⟩
    · have h3 : 36 < b := by omega
      go_enter Tryd.func27, Tryd.ntmps27
      go_wp2
      go_ret2
      exact ⟨_, _, rfl, HF, Below.refl _ _⟩
set_option maxRecDepth 100000 in
theorem countAll_any {a : Option Addr} {l c : Nat} {xs : List Int} {w : World} (hr : RowC w a l c xs) (hw : Ws xs) (hl : l ≤ 3000000) :
    Calls Tryd.prog 12 #[.slice a l c] w fun e w' => ∃ d : Int, e = .returned (.int .i64 d) ∧ CtIs (num xs) d ∧ Below w.heap.size w w' := by
  by_cases hf : bitsN (num xs) ≤ 262144
  · refine (count_any hr hw hl hf).mono ?_
    rintro e w' ⟨d, rfl, hd, hB⟩
    exact ⟨d, rfl, Or.inr ⟨hf, hd⟩, hB⟩
  · have HF : CtIs (num xs) 0 := Or.inl ⟨by omega, rfl⟩
    have bc := natBits_any hr hw (by omega)
    generalize bitsN (num xs) = B at *
    go_enter Tryd.func12, Tryd.ntmps12
    go_wp2_with fail
    refine bc.mono ?_
    rintro e w1 ⟨rfl, hb1⟩
    clear bc
    go_wp2
    go_ret
    exact ⟨0, rfl, HF, hb1⟩
set_option maxRecDepth 100000 in
theorem refCount4_any {a : Option Addr} {n cap : Nat} {xs : List Int} {w : World} (hrow : RowC w a n cap xs) (hw : Ws xs) (hn : n ≤ 2500000) :
    Calls Tryd.prog 29 #[.slice a n cap] w fun e w' => ∃ d : Int, e = .returned (.int .i64 d) ∧ (∀ d', CtIs (num xs) d' → d' = d) ∧ Below w.heap.size w w' := by
  have tc := refTextCode_any (b := 10) hrow hw hn
  go_enter Tryd.func29, Tryd.ntmps29
  go_wp2_with fail
  refine tc.mono ?_
  rintro e w1 ⟨t, c, rfl, ht, hb1⟩
  have HD : Hid (∀ d', CtIs (num xs) d' → d' = (t.size : Int)) := fun d' h => ctIs_text h ht
  clear tc ht
  go_wp2
  go_ret
  exact ⟨_, rfl, HD.out, hb1⟩
end Go.Proofs.YtmenhfnakcdnnabDoor
