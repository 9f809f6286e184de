/- RadixFresh's walk. -/
import Derived.Test.YtfnpigkiookejaaDoorRadixFrA
import Derived.Test.YtfnpigkiookejaaDoorRadixBackB
import Derived.Test.YtfnpigkiookejaaDoorBaseG
namespace Go.Proofs.YtfnpigkiookejaaDoor
open Go.ChangeShapes Go.WideShapes Go.ChangeAt Go.RowKit
open Na Ar
set_option linter.unusedVariables false
namespace Na
theorem trim_len {X U : Int} {k : Nat} (h0 : 0 ≤ X) (h : TrimOf X U k) (hl : (words X).length ≤ 4096) : (words U).length ≤ 4096 := by
  obtain ⟨q1, q2, _, _⟩ := h
  have p : (1 : Int) ≤ 10 ^ k := Int.pow_pos (by omega)
  have := Int.mul_le_mul_of_nonneg_left p q1
  exact Nat.le_trans (words_mono q1 (by omega)) hl
end Na
set_option maxHeartbeats 25600000 in
set_option maxRecDepth 100000 in
theorem fresh4_walk {a0 : Option Addr} {len0 cap0 : Nat} {x0 : List Int} {a1 : Int} {w : World} (hal : ∀ w, Calls Tryd.prog 9 #[] w fun e w' => e = .returned (.bool true) ∧ Below w.heap.size w w') (hx0 : RowC w a0 len0 cap0 x0) (hw0 : Ws x0) (s0 : len0 ≤ 1048576) (b1 : -9223372036854775808 ≤ a1 ∧ a1 ≤ 9223372036854775807) :
    Calls Tryd.prog 6 #[.slice a0 len0 cap0, .int .i64 a1] w fun e w' => e = .returned (.bool true) ∧ Below w.heap.size w w' := by
  obtain ⟨i_u64, hi_u64, hz0_u64, hz1_u64, hz2_u64⟩ := info_parts info_u64
  obtain ⟨i_su, hi_su, hz0_su, hz1_su, hz2_su⟩ := info_su_parts
  have hU1 : 0 ≤ IntKind.u64.wrap a1 := by rw [wrapU]; omega
  obtain ⟨M, hM⟩ : ∃ M : Nat, IntKind.u64.wrap a1 % 60 = (M : Int) := ⟨(IntKind.u64.wrap a1 % 60).toNat, by omega⟩
  have hM6 : M < 60 := by omega
  have HL5 : Hid ((words ((5 : Int) ^ M)).length ≤ 4096) := pow_short (by omega) (by omega) (by omega)
  have HL10 : Hid ((words ((10 : Int) ^ M)).length ≤ 4096) := pow_short (by omega) (by omega) (by omega)
  have bc := natBits_any hx0 hw0 (by omega)
  have hn0 := num_nonneg hw0
  have hbit : ∀ Y, bitsN Y ≤ 20000 → 0 ≤ Y → (words Y).length ≤ 4096 := fun Y h h' => (words_bits4096 h').mpr (by omega)
  have hlenx := hx0.1.1
  have hcap := hx0.2.1
  have hpos : 20000 < bitsN (num x0) → 1 ≤ len0 := fun q => by
    by_cases z : len0 = 0
    · have e : x0 = [] := List.eq_nil_of_length_eq_zero (by omega)
      rw [e] at q
      have : bitsN (num []) = 0 := rfl
      omega
    · omega
  have hshort := hbit (num x0)
  obtain ⟨β, hβ⟩ : ∃ β, β = bitsN (num x0) := ⟨_, rfl⟩
  rw [← hβ] at bc hpos hshort
  clear hβ b1
  go_enter Tryd.func6, Tryd.ntmps6
  go_wp2_with fail
  refine bc.mono ?_
  rintro e w0 ⟨rfl, hb0⟩
  have hB := hb0
  have hxw0 := hx0
  have zz := hb0.size
  replace hx0 := hx0.later hb0
  clear bc hb0 hU1
  by_cases hbig : 20000 < β
  · have h1 := hpos hbig
    have hx := hx0.cut (m := 1) h1
    have hxw := hxw0.cut (m := 1) h1
    have hw1 : Ws (x0.take 1) := hw0.take 1
    have hlx : (words (num (x0.take 1))).length ≤ 4096 := by
      have := words_len hw1
      have : (x0.take 1).length ≤ 1 := by rw [List.length_take]; omega
      omega
    have h0 := num_nonneg hw1
    generalize x0.take 1 = x1 at *
    obtain ⟨X, hX⟩ : ∃ X, num x1 = X := ⟨_, rfl⟩
    have HX : Hid (num x1 = X) := hX
    have HLX : Hid ((words X).length ≤ 4096) := by show _ ≤ _; rw [← hX]; exact hlx
    have HLX0 : Hid ((words (num x1)).length ≤ 4096) := hlx
    rw [hX] at h0
    have hc1 : 1 ≤ cap0 := by omega
    clear hX hlx hx0 hxw0 hw0 hn0 hshort hpos hlenx hbit
    go_wp2_with fail
    refine (text_digs hx hw1 (by omega) (by omega) (by omega) HLX0.out).mono ?_
    rintro e w1 ⟨t, D, rfl, htb, hdg, hbn⟩
    replace hx := hx.later hbn
    have z1 := hbn.size
    replace hB := hB.trans (hbn.mono hB.size)
    clear hbn
    obtain ⟨hgd, hnt, hts⟩ := digs_good (X := X) (by rw [← HX.out]; exact hdg) (by omega) (by omega) h0 htb
    have hsz1 := digs_short (X := X) (by rw [← HX.out]; exact hdg) (by omega) h0 HLX.out
    have HGD : Hid (Good t 10) := hgd
    have HNT : Hid (numB t 10 t.size = X) := hnt
    have htl : t.size ≤ 10000000 := by omega
    clear htb hdg hgd hnt hts hsz1
    go_wp2_with fail
    refine (parseT HGD.out HNT.out htl HLX.out _).mono ?_
    rintro e w2 ⟨v, rfl, hA1, hbn⟩
    replace hx := hx.later hbn
    have z2 := hbn.size
    replace hB := hB.trans (hbn.mono hB.size)
    clear hbn
    obtain ⟨aA1, cA1, rfl, _⟩ := hA1.row
    go_wp2_with fail
    refine (fiveT (k := M) (by omega) _).mono ?_
    rintro e w3 ⟨v, rfl, hF1, hbn⟩
    replace hx := hx.later hbn
    replace hA1 := hA1.later hbn
    have z3 := hbn.size
    replace hB := hB.trans (hbn.mono hB.size)
    clear hbn
    obtain ⟨aF1, cF1, rfl, _⟩ := hF1.row
    go_wp2_with fail
    refine (tenT (k := M) (by omega) _).mono ?_
    rintro e w4 ⟨v, rfl, hT1, hbn⟩
    replace hx := hx.later hbn
    replace hA1 := hA1.later hbn
    replace hF1 := hF1.later hbn
    have z4 := hbn.size
    replace hB := hB.trans (hbn.mono hB.size)
    clear hbn
    obtain ⟨aT1, cT1, rfl, _⟩ := hT1.row
    go_wp2_with fail
    refine (trimT hx hw1 (by omega)).mono ?_
    rintro e w5 ⟨v, U, k1, rfl, ⟨hU, hD1⟩, hbn⟩
    replace hx := hx.later hbn
    replace hA1 := hA1.later hbn
    replace hF1 := hF1.later hbn
    replace hT1 := hT1.later hbn
    have z5 := hbn.size
    replace hB := hB.trans (hbn.mono hB.size)
    clear hbn
    have HU : Hid (TrimOf X U k1) := by show TrimOf _ _ _; rw [← HX.out]; exact hU
    clear hU
    obtain ⟨aD1, cD1, rfl, _⟩ := hD1.row
    have lU := trim_len h0 HU.out HLX.out
    have HLU : Hid ((words U).length ≤ 4096) := lU
    clear lU
    have hs5 : (w5.alloc (.cells #[.slice aA1 (words X).length cA1, .slice aF1 (words (5 ^ M)).length cF1, .slice aT1 (words (10 ^ M)).length cT1, .slice aD1 (words U).length cD1] 22)).heap.size = w5.heap.size + 1 := by simp
    have hb5 : Below w5.heap.size w5 (w5.alloc (.cells #[.slice aA1 (words X).length cA1, .slice aF1 (words (5 ^ M)).length cF1, .slice aT1 (words (10 ^ M)).length cT1, .slice aD1 (words U).length cD1] 22)) := (Below.refl _ _).alloc (Nat.le_refl _) _
    have hba := hb5.alloc hb5.size (.cells #[] 39)
    have hra := (hA1.later hba).1.rowS
    have hown0 := own_empty (w5.alloc (.cells #[.slice aA1 (words X).length cA1, .slice aF1 (words (5 ^ M)).length cF1, .slice aT1 (words (10 ^ M)).length cT1, .slice aD1 (words U).length cD1] 22)) 39
    rw [hs5] at hown0
    have hl5 : Arr (w5.alloc (.cells #[.slice aA1 (words X).length cA1, .slice aF1 (words (5 ^ M)).length cF1, .slice aT1 (words (10 ^ M)).length cT1, .slice aD1 (words U).length cD1] 22)) w5.heap.size 4 (p4 (.slice aA1 (words X).length cA1) (.slice aF1 (words (5 ^ M)).length cF1) (.slice aT1 (words (10 ^ M)).length cT1) (.slice aD1 (words U).length cD1)) := ⟨by rw [hs5]; omega, lt4 (by simp [p4]) (by simp [p4]) (by simp [p4]) (by simp [p4])⟩
    clear hs5
    go_wp2_with (at_builtin; refine append_row rfl _ _ 22 rfl (w5.heap.size + 1) 39 i_u64 8 Tryd.underlying22 hi_u64 hz0_u64 hz1_u64 hz2_u64 _ [] rfl (hown0) _ _ _ (words X) rfl hra.1 (by have := HLX.out; simp; unfold maxLen; omega) (by have := HLX.out; simp; omega) (by simp) ?_)
    intro v w7 hown' hgrow _ _
    try rw [List.nil_append] at hown'
    have hl := (hl5.later ((Below.refl _ _).alloc (Nat.le_refl _) (.cells #[] 39))).grown hgrow (by simp [Value.ownBlock])
    have hbn : Below w5.heap.size w5 w7 := hba.grown hgrow (by simp; omega) (fun k hk => by simp [Value.ownBlock] at hk; omega)
    have y7 : w5.heap.size + 1 ≤ w7.heap.size := by have := hgrow.size; simp at this; omega
    have hW0 := Ls.of_own hown'
    clear hb5 hba hra hown' hgrow hown0 hl5
    replace hx := hx.later hbn
    replace hA1 := hA1.later hbn
    replace hF1 := hF1.later hbn
    replace hT1 := hT1.later hbn
    replace hD1 := hD1.later hbn
    have z7 := hbn.size
    replace hB := hB.trans (hbn.mono hB.size)
    clear hbn
    obtain ⟨aW0, cW0, rfl, _⟩ := hW0.row
    have hba : Below w7.heap.size w7 (w7.alloc (.cells #[] 39)) := (Below.refl _ _).alloc (Nat.le_refl _) _
    have hra := (hF1.later hba).1.rowS
    go_wp2_with (at_builtin; refine append_row rfl _ _ 22 rfl w7.heap.size 39 i_u64 8 Tryd.underlying22 hi_u64 hz0_u64 hz1_u64 hz2_u64 _ [] rfl (own_empty w7 39) _ _ _ (words (5 ^ M)) rfl hra.1 (by have := HL5.out; simp; unfold maxLen; omega) (by have := HL5.out; simp; omega) (by simp) ?_)
    intro v w8 hown' hgrow _ _
    try rw [List.nil_append] at hown'
    have hbn : Below w7.heap.size w7 w8 := hba.grown hgrow (by simp) (fun k hk => by simp [Value.ownBlock] at hk; omega)
    have hW1 := Ls.of_own hown'
    clear hba hra hown' hgrow
    replace hx := hx.later hbn
    replace hA1 := hA1.later hbn
    replace hF1 := hF1.later hbn
    replace hT1 := hT1.later hbn
    replace hD1 := hD1.later hbn
    replace hl := hl.later hbn
    replace hW0 := hW0.later hbn
    have z8 := hbn.size
    replace hB := hB.trans (hbn.mono hB.size)
    clear hbn
    obtain ⟨aW1, cW1, rfl, _⟩ := hW1.row
    have hba : Below w8.heap.size w8 (w8.alloc (.cells #[] 39)) := (Below.refl _ _).alloc (Nat.le_refl _) _
    have hra := (hT1.later hba).1.rowS
    go_wp2_with (at_builtin; refine append_row rfl _ _ 22 rfl w8.heap.size 39 i_u64 8 Tryd.underlying22 hi_u64 hz0_u64 hz1_u64 hz2_u64 _ [] rfl (own_empty w8 39) _ _ _ (words (10 ^ M)) rfl hra.1 (by have := HL10.out; simp; unfold maxLen; omega) (by have := HL10.out; simp; omega) (by simp) ?_)
    intro v w9 hown' hgrow _ _
    try rw [List.nil_append] at hown'
    have hbn : Below w8.heap.size w8 w9 := hba.grown hgrow (by simp) (fun k hk => by simp [Value.ownBlock] at hk; omega)
    have hW2 := Ls.of_own hown'
    clear hba hra hown' hgrow
    replace hx := hx.later hbn
    replace hA1 := hA1.later hbn
    replace hF1 := hF1.later hbn
    replace hT1 := hT1.later hbn
    replace hD1 := hD1.later hbn
    replace hl := hl.later hbn
    replace hW0 := hW0.later hbn
    replace hW1 := hW1.later hbn
    have z9 := hbn.size
    replace hB := hB.trans (hbn.mono hB.size)
    clear hbn
    obtain ⟨aW2, cW2, rfl, _⟩ := hW2.row
    have hba : Below w9.heap.size w9 (w9.alloc (.cells #[] 39)) := (Below.refl _ _).alloc (Nat.le_refl _) _
    have hra := (hD1.later hba).1.rowS
    go_wp2_with (at_builtin; refine append_row rfl _ _ 22 rfl w9.heap.size 39 i_u64 8 Tryd.underlying22 hi_u64 hz0_u64 hz1_u64 hz2_u64 _ [] rfl (own_empty w9 39) _ _ _ (words U) rfl hra.1 (by have := HLU.out; simp; unfold maxLen; omega) (by have := HLU.out; simp; omega) (by simp) ?_)
    intro v w10 hown' hgrow _ _
    try rw [List.nil_append] at hown'
    have hbn : Below w9.heap.size w9 w10 := hba.grown hgrow (by simp) (fun k hk => by simp [Value.ownBlock] at hk; omega)
    have hW3 := Ls.of_own hown'
    clear hba hra hown' hgrow
    replace hx := hx.later hbn
    replace hA1 := hA1.later hbn
    replace hF1 := hF1.later hbn
    replace hT1 := hT1.later hbn
    replace hD1 := hD1.later hbn
    replace hl := hl.later hbn
    replace hW0 := hW0.later hbn
    replace hW1 := hW1.later hbn
    replace hW2 := hW2.later hbn
    have z10 := hbn.size
    replace hB := hB.trans (hbn.mono hB.size)
    clear hbn
    obtain ⟨aW3, cW3, rfl, _⟩ := hW3.row
    go_wp2_with fail
    obtain ⟨w11, hwq⟩ : ∃ w9, w9 = w10.alloc (.cells #[.slice aW0 (words X).length cW0, .slice aW1 (words (5 ^ M)).length cW1, .slice aW2 (words (10 ^ M)).length cW2, .slice aW3 (words U).length cW3] 22) := ⟨_, rfl⟩
    have hs : w11.heap.size = w10.heap.size + 1 := by rw [hwq]; simp
    have hbn : Below w10.heap.size w10 w11 := by rw [hwq]; exact (Below.refl _ _).alloc (Nat.le_refl _) _
    have hwas : Arr w11 w10.heap.size 4 (p4 (.slice aW0 (words X).length cW0) (.slice aW1 (words (5 ^ M)).length cW1) (.slice aW2 (words (10 ^ M)).length cW2) (.slice aW3 (words U).length cW3)) := ⟨by rw [hs]; omega, lt4 (by rw [hwq]; simp [p4]) (by rw [hwq]; simp [p4]) (by rw [hwq]; simp [p4]) (by rw [hwq]; simp [p4])⟩
    rw [← hwq]
    try rw [← hs]
    have y11 : w10.heap.size < w11.heap.size := by omega
    clear hwq hs
    replace hx := hx.later hbn
    replace hA1 := hA1.later hbn
    replace hF1 := hF1.later hbn
    replace hT1 := hT1.later hbn
    replace hD1 := hD1.later hbn
    replace hl := hl.later hbn
    replace hW0 := hW0.later hbn
    replace hW1 := hW1.later hbn
    replace hW2 := hW2.later hbn
    replace hW3 := hW3.later hbn
    have z11 := hbn.size
    replace hB := hB.trans (hbn.mono hB.size)
    clear hbn
    refine (parseT HGD.out HNT.out htl HLX.out _).mono ?_
    rintro e w12 ⟨v, rfl, hA2, hbn⟩
    replace hx := hx.later hbn
    replace hA1 := hA1.later hbn
    replace hF1 := hF1.later hbn
    replace hT1 := hT1.later hbn
    replace hD1 := hD1.later hbn
    replace hl := hl.later hbn
    replace hW0 := hW0.later hbn
    replace hW1 := hW1.later hbn
    replace hW2 := hW2.later hbn
    replace hW3 := hW3.later hbn
    replace hwas := hwas.later hbn
    have z12 := hbn.size
    replace hB := hB.trans (hbn.mono hB.size)
    clear hbn
    obtain ⟨aA2, cA2, rfl, _⟩ := hA2.row
    go_wp2_with fail
    refine (fiveT (k := M) (by omega) _).mono ?_
    rintro e w13 ⟨v, rfl, hF2, hbn⟩
    replace hx := hx.later hbn
    replace hA1 := hA1.later hbn
    replace hF1 := hF1.later hbn
    replace hT1 := hT1.later hbn
    replace hD1 := hD1.later hbn
    replace hl := hl.later hbn
    replace hW0 := hW0.later hbn
    replace hW1 := hW1.later hbn
    replace hW2 := hW2.later hbn
    replace hW3 := hW3.later hbn
    replace hwas := hwas.later hbn
    replace hA2 := hA2.later hbn
    have z13 := hbn.size
    replace hB := hB.trans (hbn.mono hB.size)
    clear hbn
    obtain ⟨aF2, cF2, rfl, _⟩ := hF2.row
    go_wp2_with fail
    refine (tenT (k := M) (by omega) _).mono ?_
    rintro e w14 ⟨v, rfl, hT2, hbn⟩
    replace hx := hx.later hbn
    replace hA1 := hA1.later hbn
    replace hF1 := hF1.later hbn
    replace hT1 := hT1.later hbn
    replace hD1 := hD1.later hbn
    replace hl := hl.later hbn
    replace hW0 := hW0.later hbn
    replace hW1 := hW1.later hbn
    replace hW2 := hW2.later hbn
    replace hW3 := hW3.later hbn
    replace hwas := hwas.later hbn
    replace hA2 := hA2.later hbn
    replace hF2 := hF2.later hbn
    have z14 := hbn.size
    replace hB := hB.trans (hbn.mono hB.size)
    clear hbn
    obtain ⟨aT2, cT2, rfl, _⟩ := hT2.row
    go_wp2_with fail
    refine (trimT hx hw1 (by omega)).mono ?_
    rintro e w15 ⟨v, U2, k2, rfl, ⟨hU, hD2⟩, hbn⟩
    replace hx := hx.later hbn
    replace hA1 := hA1.later hbn
    replace hF1 := hF1.later hbn
    replace hT1 := hT1.later hbn
    replace hD1 := hD1.later hbn
    replace hl := hl.later hbn
    replace hW0 := hW0.later hbn
    replace hW1 := hW1.later hbn
    replace hW2 := hW2.later hbn
    replace hW3 := hW3.later hbn
    replace hwas := hwas.later hbn
    replace hA2 := hA2.later hbn
    replace hF2 := hF2.later hbn
    replace hT2 := hT2.later hbn
    have z15 := hbn.size
    replace hB := hB.trans (hbn.mono hB.size)
    clear hbn
    rw [HX.out] at hU
    have hUU := trimOf_uniq h0 HU.out hU
    subst hUU
    clear hU
    obtain ⟨aD2, cD2, rfl, _⟩ := hD2.row
    go_wp2
    obtain ⟨w16, hwq⟩ : ∃ w9, w9 = w15.alloc (.cells #[.slice aA2 (words X).length cA2, .slice aF2 (words (5 ^ M)).length cF2, .slice aT2 (words (10 ^ M)).length cT2, .slice aD2 (words U).length cD2] 22) := ⟨_, rfl⟩
    have hs : w16.heap.size = w15.heap.size + 1 := by rw [hwq]; simp
    have hbn : Below w15.heap.size w15 w16 := by rw [hwq]; exact (Below.refl _ _).alloc (Nat.le_refl _) _
    have ht : Arr w16 w15.heap.size 4 (p4 (.slice aA2 (words X).length cA2) (.slice aF2 (words (5 ^ M)).length cF2) (.slice aT2 (words (10 ^ M)).length cT2) (.slice aD2 (words U).length cD2)) := ⟨by rw [hs]; omega, lt4 (by rw [hwq]; simp [p4]) (by rw [hwq]; simp [p4]) (by rw [hwq]; simp [p4]) (by rw [hwq]; simp [p4])⟩
    rw [← hwq]
    try rw [← hs]
    have y16 : w15.heap.size < w16.heap.size := by omega
    clear hwq hs
    replace hx := hx.later hbn
    replace hA1 := hA1.later hbn
    replace hF1 := hF1.later hbn
    replace hT1 := hT1.later hbn
    replace hD1 := hD1.later hbn
    replace hl := hl.later hbn
    replace hW0 := hW0.later hbn
    replace hW1 := hW1.later hbn
    replace hW2 := hW2.later hbn
    replace hW3 := hW3.later hbn
    replace hwas := hwas.later hbn
    replace hA2 := hA2.later hbn
    replace hF2 := hF2.later hbn
    replace hT2 := hT2.later hbn
    replace hD2 := hD2.later hbn
    have z16 := hbn.size
    replace hB := hB.trans (hbn.mono hB.size)
    clear hbn
    obtain ⟨lo, hlo⟩ : ∃ f, f = p8 w1.heap.size w2.heap.size w3.heap.size w4.heap.size w11.heap.size w12.heap.size w13.heap.size w14.heap.size := ⟨_, rfl⟩
    obtain ⟨hi, hhi⟩ : ∃ f, f = p8 w2.heap.size w3.heap.size w4.heap.size w5.heap.size w12.heap.size w13.heap.size w14.heap.size w15.heap.size := ⟨_, rfl⟩
    obtain ⟨wlo, hwlo⟩ : ∃ f, f = p4 (w5.heap.size + 1) w7.heap.size w8.heap.size w9.heap.size := ⟨_, rfl⟩
    obtain ⟨whi, hwhi⟩ : ∃ f, f = p4 w7.heap.size w8.heap.size w9.heap.size w10.heap.size := ⟨_, rfl⟩
    obtain ⟨V, hV⟩ : ∃ f, f = p8 (Value.slice aA1 (words X).length cA1) (.slice aF1 (words (5 ^ M)).length cF1) (.slice aT1 (words (10 ^ M)).length cT1) (.slice aD1 (words U).length cD1) (.slice aA2 (words X).length cA2) (.slice aF2 (words (5 ^ M)).length cF2) (.slice aT2 (words (10 ^ M)).length cT2) (.slice aD2 (words U).length cD2) := ⟨_, rfl⟩
    obtain ⟨wv, hwv⟩ : ∃ f, f = p4 (Value.slice aW0 (words X).length cW0) (.slice aW1 (words (5 ^ M)).length cW1) (.slice aW2 (words (10 ^ M)).length cW2) (.slice aW3 (words U).length cW3) := ⟨_, rfl⟩
    obtain ⟨XX, hXX⟩ : ∃ f, f = p8 (words X) (words (5 ^ M)) (words (10 ^ M)) (words U) (words X) (words (5 ^ M)) (words (10 ^ M)) (words U) := ⟨_, rfl⟩
    have hG : Geo lo hi wlo whi w5.heap.size w15.heap.size w10.heap.size w16.heap.size := by
      rw [hlo, hhi, hwlo, hwhi]
      exact geo_of (by omega) (by omega) (by omega) (by omega) (by omega) (by omega) (by omega) (by omega) (by omega) (by omega) (by omega) (by omega) (by omega) (by omega) (by omega) (by omega) (by omega) (by omega)
    have hXL : ∀ k, k < 8 → (XX k).length ≤ 4096 := by
      rw [hXX]
      exact lt8 HLX.out HL5.out HL10.out HLU.out HLX.out HL5.out HL10.out HLU.out
    have hfr : Fr lo hi wlo whi V wv XX w5.heap.size w15.heap.size w10.heap.size w16.heap.size 0 (.slice none 0 0) w16 := by
      rw [hlo, hhi, hwlo, hwhi, hV, hwv, hXX]
      exact ⟨lt8 hA1 hF1 hT1 hD1 hA2 hF2 hT2 hD2, lt4 hW0 hW1 hW2 hW3, ⟨hl.1, lt4 (hl.2 0 (by omega)) (hl.2 1 (by omega)) (hl.2 2 (by omega)) (hl.2 3 (by omega))⟩, ⟨ht.1, lt4 (ht.2 0 (by omega)) (ht.2 1 (by omega)) (ht.2 2 (by omega)) (ht.2 3 (by omega))⟩, hwas, ⟨[], World.ownsRow_nil _ _ _ _, fun j hj => by omega⟩, Nat.le_refl _⟩
    have HX4 : Hid (∀ k, k < 4 → XX (4 + k) = XX k) := by
      show ∀ k, _
      rw [hXX]
      exact lt4 rfl rfl rfl rfl
    have HXE : Hid (XX 0 = words X ∧ XX 1 = words (5 ^ M) ∧ XX 2 = words (10 ^ M) ∧ XX 3 = words U) := by
      show _ ∧ _
      rw [hXX]
      exact ⟨rfl, rfl, rfl, rfl⟩
    have HLB : Hid (∀ k, k < 8 → w.heap.size ≤ lo k) := by
      show ∀ k, _
      rw [hlo]
      refine lt8 ?_ ?_ ?_ ?_ ?_ ?_ ?_ ?_ <;> (simp only [p8]; omega)
    have hWH : w.heap.size ≤ w16.heap.size := by omega
    obtain ⟨H, hH⟩ : ∃ H, H = w16.heap.size := ⟨_, rfl⟩
    rw [← hH] at hfr hG hWH
    obtain ⟨gl, hgl⟩ : ∃ g, g = w5.heap.size := ⟨_, rfl⟩
    obtain ⟨gt, hgt⟩ : ∃ g, g = w15.heap.size := ⟨_, rfl⟩
    obtain ⟨gw, hgw⟩ : ∃ g, g = w10.heap.size := ⟨_, rfl⟩
    rw [← hgl, ← hgt, ← hgw] at hfr hG
    rw [← hgl, ← hgt, ← hgw]
    clear hlo hhi hwlo hwhi hV hwv hXX hH hgl hgt hgw hA1 hF1 hT1 hD1 hA2 hF2 hT2 hD2 hW0 hW1 hW2 hW3 hl ht hwas z1 z2 z3 z4 z5 z7 z8 z9 z10 z11 z12 z13 z14 z15 z16 y7 y11 y16 hx zz
    go_loopw [18, 19] (fun gv vi wr => ∃ i : Nat, vi = .int .i64 (i : Int) ∧ i ≤ 4 ∧ Fr lo hi wlo whi V wv XX gl gt gw H i gv wr ∧ Below w.heap.size w wr) (fun _ vi _ => 4 - (RowKit.intOf vi).toNat)
    case atStart => exact ⟨0, rfl, by omega, hfr, hB⟩
    case round =>
      obtain ⟨i, rfl, hi4, hfr1, hB1⟩ := hrel
      clear hfr hB
      by_cases hlt : i < 4
      · have hc := hfr1.al.2 i hlt
        have hli := hfr1.lists i (by omega)
        rw [mkI_self] at hli
        have hm := mark4_any (m := 700 + (i : Int)) hli (Nat.le_trans (hG.below i (by omega)).1 hfr1.sz) (Nat.le_trans (hXL i (by omega)) (by omega))
        have hlb := HLB.out i (by omega)
        clear hli
        go_wp2_with fail
        refine hm.mono ?_
        rintro e w5 ⟨v', rfl, ⟨hl5, lo2, hi2, hv, hv2⟩, hin⟩
        obtain ⟨av, cv, rfl, _⟩ := hv.row
        have hv3 : (lo2 = lo i ∧ hi2 = hi i) ∨ H ≤ lo2 := hv2.imp id (fun q => Nat.le_trans hfr1.sz q)
        obtain ⟨m1, m2, m3, m4, m5, ⟨gs, g1, g2⟩, m8⟩ := hfr1.marked hG (by omega) hl5 hin
        have hB5 := below_inn hB1 hin hlb (Nat.le_refl _)
        have HLV : Hid ((List.replicate ((XX i).length + 3) (700 + (i : Int))).length ≤ 5000) := by
          show _ ≤ _
          rw [List.length_replicate]
          have := hXL i (by omega)
          omega
        obtain ⟨nv, hnv⟩ : ∃ nv, nv = (List.replicate ((XX i).length + 3) (700 + (i : Int))).length := ⟨_, rfl⟩
        rw [← hnv] at hv ⊢
        clear hm hfr1 hl5 hin hv2 hc hB1 hnv hlb
        go_wp2_with (at_builtin; refine wpList_append_own _ rfl _ _ 48 rfl H 22 i_su (.slice none 0 0) 1 24 Tryd.underlying48 hi_su hz0_su hz1_su hz2_su rfl (by decide) _ i gs rfl (g1.alloc _) ⟨w5.heap.size, 0, none⟩ 1 1 [.slice av nv cv] rfl rfl one_new (list_one hv) (by unfold maxLen; omega) (by omega) (by simp; omega) ?_)
        intro gv' w6 hown' hgrow _
        have hfr6 := Fr.next hG m1 m2 m3 m4 m5 g1 g2 m8 hv hv3 hown' hgrow
        have hB6 : Below w.heap.size w w6 := (hB5.alloc hB5.size _).grown hgrow (by have := hB5.size; simp; omega) (fun k hk => Nat.le_trans hWH (row_blk g1 hk).1)
        clear m1 m2 m3 m4 m5 g1 g2 m8 hv hv3 hown' hgrow hB5
        go_wp2
        go_roundw
        case rel => exact ⟨i + 1, by go_num, by omega, hfr6, hB6⟩
        case measure => simp [RowKit.intOf]; omega
      · have hi4' : i = 4 := by omega
        have hltI : ¬ (i : Int) < 4 := by omega
        rw [hi4'] at hfr1
        clear hlt hi4 hi4'
        go_wp2
        go_loopw [18, 20] (fun gv vi wz => ∃ i : Nat, vi = .int .i64 (i : Int) ∧ i ≤ 4 ∧ Fr lo hi wlo whi V wv XX gl gt gw H (4 + i) gv wz ∧ Below w.heap.size w wz) (fun _ vi _ => 4 - (RowKit.intOf vi).toNat)
        case atStart => exact ⟨0, rfl, by omega, hfr1, hB1⟩
        case round =>
          obtain ⟨i, rfl, hi4, hfr2, hB2⟩ := hrel
          clear hfr1 hB1
          by_cases hlt : i < 4
          · have hct := hfr2.at'.2 i hlt
            have hcw := hfr2.aw.2 i hlt
            have hli := hfr2.lists (4 + i) (by omega)
            rw [mkI_self] at hli
            obtain ⟨ta, tc, hVt, rt⟩ := hli.row
            obtain ⟨wa, wc, hVw, rw1⟩ := (hfr2.was i hlt).row
            have e4 := HX4.out i hlt
            rw [e4] at rt
            have hsq := fun (k : Nat) => sameDrew (c1 := tc) (c2 := wc) (w := wr) rt.1 rw1.1 (by have := hXL i (by omega); omega) k
            have hct' : wr.cell? ⟨gt, i, none⟩ = some (.slice ta (XX i).length tc) := by rw [hct]; show some (V (4 + i)) = _; rw [hVt, e4]
            have hcw' : wr.cell? ⟨gw, i, none⟩ = some (.slice wa (XX i).length wc) := by rw [hcw, hVw]
            have HVT : Hid (V (4 + i) = .slice ta (XX i).length tc) := by show _ = _; rw [hVt, e4]
            have hlen := hXL (4 + i) (by omega)
            have hq4 : (i : Int) < 4 := by omega
            obtain ⟨nt, hnt⟩ : ∃ nt, nt = (XX i).length := ⟨_, rfl⟩
            have HNT2 : Hid (nt = (XX i).length) := hnt
            rw [← hnt] at hsq hct' hcw'
            clear hnt hVt hVw e4 rt rw1 hct hcw hli
            go_wp2
            go_quiet ((go_at_call 12; exact (hsq _).mono (fun _ _ h => ⟨h.1, drewAny h.2⟩)))
            obtain ⟨wd, hwd⟩ : ∃ wd, wd = wr.drewN nq := ⟨_, rfl⟩
            have bd : Below wr.heap.size wr wd := by rw [hwd]; exact below_drewN (Below.refl _ _) nq
            have hfr3 := hfr2.later bd
            have hB3 := hB2.trans (bd.mono hB2.size)
            have hct2 : wd.cell? ⟨gt, i, none⟩ = some (V (4 + i)) := hfr3.at'.2 i hlt
            have hli := hfr3.lists (4 + i) (by omega)
            rw [mkI_self] at hli
            have hm := mark4_any (m := 704 + (i : Int)) hli (Nat.le_trans (hG.below (4 + i) (by omega)).1 hfr3.sz) (Nat.le_trans hlen (by omega))
            have hlb := HLB.out (4 + i) (by omega)
            have em : (704 + (i : Int)) = mrk (4 + i) := by unfold mrk; omega
            have HEM : Hid ((704 + (i : Int)) = mrk (4 + i)) := em
            rw [← hwd]
            clear hwd hsq hct' hcw' hfr2 hB2 bd hli em
            go_wp2_with fail
            refine hm.mono ?_
            rintro e w5 ⟨v', rfl, ⟨hl5, lo2, hi2, hv, hv2⟩, hin⟩
            rw [HEM.out] at hl5 hv
            obtain ⟨av, cv, rfl, _⟩ := hv.row
            have hv3 : (lo2 = lo (4 + i) ∧ hi2 = hi (4 + i)) ∨ H ≤ lo2 := hv2.imp id (fun q => Nat.le_trans hfr3.sz q)
            obtain ⟨m1, m2, m3, m4, m5, ⟨gs, g1, g2⟩, m8⟩ := hfr3.marked hG (by omega) hl5 hin
            have hB5 := below_inn hB3 hin hlb (Nat.le_refl _)
            obtain ⟨nv, hnv⟩ : ∃ nv, nv = (List.replicate ((XX (4 + i)).length + 3) (mrk (4 + i))).length := ⟨_, rfl⟩
            rw [← hnv] at hv ⊢
            clear hm hfr3 hl5 hin hv2 hct2 hB3 hnv hlb
            go_wp2_with (at_builtin; refine wpList_append_own _ rfl _ _ 48 rfl H 22 i_su (.slice none 0 0) 1 24 Tryd.underlying48 hi_su hz0_su hz1_su hz2_su rfl (by decide) _ (4 + i) gs rfl (g1.alloc _) ⟨w5.heap.size, 0, none⟩ 1 1 [.slice av nv cv] rfl rfl one_new (list_one hv) (by unfold maxLen; omega) (by omega) (by simp; omega) ?_)
            intro gv' w6 hown' hgrow _
            have hfr6 := Fr.next hG m1 m2 m3 m4 m5 g1 g2 m8 hv hv3 hown' hgrow
            have hB6 : Below w.heap.size w w6 := (hB5.alloc hB5.size _).grown hgrow (by have := hB5.size; simp; omega) (fun k hk => Nat.le_trans hWH (row_blk g1 hk).1)
            clear m1 m2 m3 m4 m5 g1 g2 m8 hv hv3 hown' hgrow hB5
            go_wp2
            go_roundw
            case rel => exact ⟨i + 1, by go_num, by omega, hfr6, hB6⟩
            case measure => simp [RowKit.intOf]; omega
          · have hi4' : i = 4 := by omega
            have hltI2 : ¬ (i : Int) < 4 := by omega
            rw [hi4'] at hfr2
            clear hlt hi4 hi4'
            obtain ⟨gs, hrow, hent⟩ := hfr2.g
            rcases hrow.2 with ⟨_, hbad⟩ | ⟨gg, gc, cur, rfl, hgb, hgc, hg8, hgm, _⟩
            · exact absurd hbad (by omega)
            clear hgb hgc hgm hent hrow
            have hx := hxw.later hB2
            go_wp2_with fail
            refine (parseT HGD.out HNT.out htl HLX.out _).mono ?_
            rintro e y1 ⟨v, rfl, hA, hbn⟩
            obtain ⟨aA, cA, rfl, _⟩ := hA.row
            replace hfr2 := hfr2.later hbn
            replace hx := hx.later hbn
            replace hB2 := hB2.trans (hbn.mono hB2.size)
            clear hbn
            go_wp2_with fail
            refine (fiveT (k := M) (by omega) _).mono ?_
            rintro e y2 ⟨v, rfl, hF, hbn⟩
            obtain ⟨aF, cF, rfl, _⟩ := hF.row
            replace hfr2 := hfr2.later hbn
            replace hx := hx.later hbn
            replace hA := hA.later hbn
            replace hB2 := hB2.trans (hbn.mono hB2.size)
            clear hbn
            go_wp2_with fail
            refine (tenT (k := M) (by omega) _).mono ?_
            rintro e y3 ⟨v, rfl, hT, hbn⟩
            obtain ⟨aT, cT, rfl, _⟩ := hT.row
            replace hfr2 := hfr2.later hbn
            replace hx := hx.later hbn
            replace hA := hA.later hbn
            replace hF := hF.later hbn
            replace hB2 := hB2.trans (hbn.mono hB2.size)
            clear hbn
            go_wp2_with fail
            refine (trimT hx hw1 (by omega)).mono ?_
            rintro e y4 ⟨v, U3, k3, rfl, ⟨hU, hD⟩, hbn⟩
            rw [HX.out] at hU
            have hUU := trimOf_uniq h0 HU.out hU
            subst hUU
            clear hU
            obtain ⟨aD, cD, rfl, _⟩ := hD.row
            replace hfr2 := hfr2.later hbn
            replace hA := hA.later hbn
            replace hF := hF.later hbn
            replace hT := hT.later hbn
            replace hB2 := hB2.trans (hbn.mono hB2.size)
            clear hbn hx
            go_wp2_with fail
            refine (hal _).mono ?_
            rintro e y5 ⟨rfl, hbn⟩
            replace hfr2 := hfr2.later hbn
            replace hA := hA.later hbn
            replace hF := hF.later hbn
            replace hT := hT.later hbn
            replace hD := hD.later hbn
            replace hB2 := hB2.trans (hbn.mono hB2.size)
            clear hbn
            obtain ⟨xe0, xe1, xe2, xe3⟩ := HXE.out
            obtain ⟨qa0, qc0, qe0, q0⟩ := (hfr2.was 0 (by omega)).row
            obtain ⟨qa1, qc1, qe1, q1⟩ := (hfr2.was 1 (by omega)).row
            obtain ⟨qa2, qc2, qe2, q2⟩ := (hfr2.was 2 (by omega)).row
            obtain ⟨qa3, qc3, qe3, q3⟩ := (hfr2.was 3 (by omega)).row
            rw [xe0] at q0 qe0
            rw [xe1] at q1 qe1
            rw [xe2] at q2 qe2
            rw [xe3] at q3 qe3
            have HQ1 : Hid (wv 1 = .slice qa1 (words (5 ^ M)).length qc1) := qe1
            have HQ2 : Hid (wv 2 = .slice qa2 (words (10 ^ M)).length qc2) := qe2
            have HQ3 : Hid (wv 3 = .slice qa3 (words U).length qc3) := qe3
            have c0 : y5.cell? ⟨gw, 0, none⟩ = some (.slice qa0 (words X).length qc0) := by rw [hfr2.aw.2 0 (by omega), qe0]
            have s0' := sameN hA.1.rowS q0 (Nat.le_trans HLX.out (by omega)) (Nat.le_trans HLX.out (by omega)) rfl
            clear qe0 qe1 qe2 qe3 xe0 xe1 xe2 xe3 q0
            go_wp2_with fail
            refine s0'.mono ?_
            rintro e y6 ⟨rfl, hbn⟩
            replace hfr2 := hfr2.later hbn
            replace hF := hF.later hbn
            replace hT := hT.later hbn
            replace hD := hD.later hbn
            replace q1 := q1.later hbn
            replace q2 := q2.later hbn
            replace q3 := q3.later hbn
            replace hB2 := hB2.trans (hbn.mono hB2.size)
            clear hbn c0 s0' hA
            have c1 : y6.cell? ⟨gw, 1, none⟩ = some (.slice qa1 (words (5 ^ M)).length qc1) := by rw [hfr2.aw.2 1 (by omega), HQ1.out]
            have s1' := sameN hF.1.rowS q1 (Nat.le_trans HL5.out (by omega)) (Nat.le_trans HL5.out (by omega)) rfl
            clear q1
            go_wp2_with fail
            refine s1'.mono ?_
            rintro e y7 ⟨rfl, hbn⟩
            replace hfr2 := hfr2.later hbn
            replace hT := hT.later hbn
            replace hD := hD.later hbn
            replace q2 := q2.later hbn
            replace q3 := q3.later hbn
            replace hB2 := hB2.trans (hbn.mono hB2.size)
            clear hbn c1 s1' hF
            have c2 : y7.cell? ⟨gw, 2, none⟩ = some (.slice qa2 (words (10 ^ M)).length qc2) := by rw [hfr2.aw.2 2 (by omega), HQ2.out]
            have s2' := sameN hT.1.rowS q2 (Nat.le_trans HL10.out (by omega)) (Nat.le_trans HL10.out (by omega)) rfl
            clear q2
            go_wp2_with fail
            refine s2'.mono ?_
            rintro e y8 ⟨rfl, hbn⟩
            replace hfr2 := hfr2.later hbn
            replace hD := hD.later hbn
            replace q3 := q3.later hbn
            replace hB2 := hB2.trans (hbn.mono hB2.size)
            clear hbn c2 s2' hT
            have c3 : y8.cell? ⟨gw, 3, none⟩ = some (.slice qa3 (words U).length qc3) := by rw [hfr2.aw.2 3 (by omega), HQ3.out]
            have s3' := sameN hD.1.rowS q3 (Nat.le_trans HLU.out (by omega)) (Nat.le_trans HLU.out (by omega)) rfl
            clear q3
            go_wp2_with fail
            refine s3'.mono ?_
            rintro e y9 ⟨rfl, hbn⟩
            replace hfr2 := hfr2.later hbn
            replace hB2 := hB2.trans (hbn.mono hB2.size)
            clear hbn c3 s3' hD HQ1 HQ2 HQ3
            obtain ⟨gs, hrow, hent⟩ := hfr2.g
            go_wp2
            go_loopw [22] (fun vi wz => ∃ i : Nat, y9 = wz ∧ vi = .int .i64 (i : Int) ∧ i ≤ 4) (fun vi _ => 4 - (RowKit.intOf vi).toNat)
            case atStart => exact ⟨0, rfl, rfl, by omega⟩
            case round =>
              obtain ⟨i, rfl, rfl, hi4⟩ := hrel
              by_cases hlt : i < 4
              · have k1 := hfr2.al.2 i hlt
                have k3 : y9.cell? ⟨gt, i, none⟩ = some (V (4 + i)) := hfr2.at'.2 i hlt
                obtain ⟨u1, b1, d1, e1, l1, _⟩ := hent i (by omega)
                obtain ⟨u2, b2, d2, e2, l2, _⟩ := hent (4 + i) (by omega)
                have k2 : y9.cell? ⟨gg, i, none⟩ = some u1 := by rw [World.ownsRow.cellAt hrow i (by omega)]; exact e1
                have k4 : y9.cell? ⟨gg, 4 + i, none⟩ = some u2 := by rw [World.ownsRow.cellAt hrow (4 + i) (by omega)]; exact e2
                have l0 := hfr2.lists i (by omega)
                have l3 := hfr2.lists (4 + i) (by omega)
                rw [mkI_done (by omega)] at l0 l3
                have em : mrk (4 + i) = 704 + (i : Int) := by unfold mrk; omega
                rw [em] at l3 l2
                have n1 := hXL i (by omega)
                have n2 := hXL (4 + i) (by omega)
                have f1 := filled4_any (m := 700 + (i : Int)) l0 (by omega)
                have f2 := filled4_any (m := 700 + (i : Int)) l1 (by omega)
                have f3 := filled4_any (m := 704 + (i : Int)) l3 (by omega)
                have f4 := filled4_any (m := 704 + (i : Int)) l2 (by omega)
                have hti : (4 + (i : Int)).toNat = 4 + i := by omega
                have hi4I : (i : Int) < 4 := by omega
                clear l0 l1 l2 l3 em e1 e2
                go_wp2_with fail
                refine f1.mono ?_
                rintro e w' ⟨rfl, rfl⟩
                go_wp2_with fail
                refine f2.mono ?_
                rintro e w' ⟨rfl, rfl⟩
                go_wp2_with fail
                refine f3.mono ?_
                rintro e w' ⟨rfl, rfl⟩
                go_wp2_with fail
                refine f4.mono ?_
                rintro e w' ⟨rfl, rfl⟩
                clear f1 f2 f3 f4 k1 k2 k3 k4
                go_wp2
                go_roundw
                case rel => exact ⟨i + 1, trivial, by go_num, by omega⟩
                case measure => simp [RowKit.intOf]; omega
              · have hltI3 : ¬ (i : Int) < 4 := by omega
                clear hlt hent hrow hfr2
                go_wp2
                go_ret
                exact ⟨rfl, hB2⟩
  · have hx := hx0
    have hxw := hxw0
    have hw1 := hw0
    have hlx : (words (num x0)).length ≤ 4096 := hshort (by omega) hn0
    have h0 := hn0
    obtain ⟨X, hX⟩ : ∃ X, num x0 = X := ⟨_, rfl⟩
    have HX : Hid (num x0 = X) := hX
    have HLX : Hid ((words X).length ≤ 4096) := by show _ ≤ _; rw [← hX]; exact hlx
    have HLX0 : Hid ((words (num x0)).length ≤ 4096) := hlx
    rw [hX] at h0
    clear hX hlx hx0 hxw0 hw0 hn0 hshort hpos hlenx hbit
    go_wp2_with fail
    refine (text_digs hx hw1 (by omega) (by omega) (by omega) HLX0.out).mono ?_
    rintro e w1 ⟨t, D, rfl, htb, hdg, hbn⟩
    replace hx := hx.later hbn
    have z1 := hbn.size
    replace hB := hB.trans (hbn.mono hB.size)
    clear hbn
    obtain ⟨hgd, hnt, hts⟩ := digs_good (X := X) (by rw [← HX.out]; exact hdg) (by omega) (by omega) h0 htb
    have hsz1 := digs_short (X := X) (by rw [← HX.out]; exact hdg) (by omega) h0 HLX.out
    have HGD : Hid (Good t 10) := hgd
    have HNT : Hid (numB t 10 t.size = X) := hnt
    have htl : t.size ≤ 10000000 := by omega
    clear htb hdg hgd hnt hts hsz1
    go_wp2_with fail
    refine (parseT HGD.out HNT.out htl HLX.out _).mono ?_
    rintro e w2 ⟨v, rfl, hA1, hbn⟩
    replace hx := hx.later hbn
    have z2 := hbn.size
    replace hB := hB.trans (hbn.mono hB.size)
    clear hbn
    obtain ⟨aA1, cA1, rfl, _⟩ := hA1.row
    go_wp2_with fail
    refine (fiveT (k := M) (by omega) _).mono ?_
    rintro e w3 ⟨v, rfl, hF1, hbn⟩
    replace hx := hx.later hbn
    replace hA1 := hA1.later hbn
    have z3 := hbn.size
    replace hB := hB.trans (hbn.mono hB.size)
    clear hbn
    obtain ⟨aF1, cF1, rfl, _⟩ := hF1.row
    go_wp2_with fail
    refine (tenT (k := M) (by omega) _).mono ?_
    rintro e w4 ⟨v, rfl, hT1, hbn⟩
    replace hx := hx.later hbn
    replace hA1 := hA1.later hbn
    replace hF1 := hF1.later hbn
    have z4 := hbn.size
    replace hB := hB.trans (hbn.mono hB.size)
    clear hbn
    obtain ⟨aT1, cT1, rfl, _⟩ := hT1.row
    go_wp2_with fail
    refine (trimT hx hw1 (by omega)).mono ?_
    rintro e w5 ⟨v, U, k1, rfl, ⟨hU, hD1⟩, hbn⟩
    replace hx := hx.later hbn
    replace hA1 := hA1.later hbn
    replace hF1 := hF1.later hbn
    replace hT1 := hT1.later hbn
    have z5 := hbn.size
    replace hB := hB.trans (hbn.mono hB.size)
    clear hbn
    have HU : Hid (TrimOf X U k1) := by show TrimOf _ _ _; rw [← HX.out]; exact hU
    clear hU
    obtain ⟨aD1, cD1, rfl, _⟩ := hD1.row
    have lU := trim_len h0 HU.out HLX.out
    have HLU : Hid ((words U).length ≤ 4096) := lU
    clear lU
    have hs5 : (w5.alloc (.cells #[.slice aA1 (words X).length cA1, .slice aF1 (words (5 ^ M)).length cF1, .slice aT1 (words (10 ^ M)).length cT1, .slice aD1 (words U).length cD1] 22)).heap.size = w5.heap.size + 1 := by simp
    have hb5 : Below w5.heap.size w5 (w5.alloc (.cells #[.slice aA1 (words X).length cA1, .slice aF1 (words (5 ^ M)).length cF1, .slice aT1 (words (10 ^ M)).length cT1, .slice aD1 (words U).length cD1] 22)) := (Below.refl _ _).alloc (Nat.le_refl _) _
    have hba := hb5.alloc hb5.size (.cells #[] 39)
    have hra := (hA1.later hba).1.rowS
    have hown0 := own_empty (w5.alloc (.cells #[.slice aA1 (words X).length cA1, .slice aF1 (words (5 ^ M)).length cF1, .slice aT1 (words (10 ^ M)).length cT1, .slice aD1 (words U).length cD1] 22)) 39
    rw [hs5] at hown0
    have hl5 : Arr (w5.alloc (.cells #[.slice aA1 (words X).length cA1, .slice aF1 (words (5 ^ M)).length cF1, .slice aT1 (words (10 ^ M)).length cT1, .slice aD1 (words U).length cD1] 22)) w5.heap.size 4 (p4 (.slice aA1 (words X).length cA1) (.slice aF1 (words (5 ^ M)).length cF1) (.slice aT1 (words (10 ^ M)).length cT1) (.slice aD1 (words U).length cD1)) := ⟨by rw [hs5]; omega, lt4 (by simp [p4]) (by simp [p4]) (by simp [p4]) (by simp [p4])⟩
    clear hs5
    go_wp2_with (at_builtin; refine append_row rfl _ _ 22 rfl (w5.heap.size + 1) 39 i_u64 8 Tryd.underlying22 hi_u64 hz0_u64 hz1_u64 hz2_u64 _ [] rfl (hown0) _ _ _ (words X) rfl hra.1 (by have := HLX.out; simp; unfold maxLen; omega) (by have := HLX.out; simp; omega) (by simp) ?_)
    intro v w7 hown' hgrow _ _
    try rw [List.nil_append] at hown'
    have hl := (hl5.later ((Below.refl _ _).alloc (Nat.le_refl _) (.cells #[] 39))).grown hgrow (by simp [Value.ownBlock])
    have hbn : Below w5.heap.size w5 w7 := hba.grown hgrow (by simp; omega) (fun k hk => by simp [Value.ownBlock] at hk; omega)
    have y7 : w5.heap.size + 1 ≤ w7.heap.size := by have := hgrow.size; simp at this; omega
    have hW0 := Ls.of_own hown'
    clear hb5 hba hra hown' hgrow hown0 hl5
    replace hx := hx.later hbn
    replace hA1 := hA1.later hbn
    replace hF1 := hF1.later hbn
    replace hT1 := hT1.later hbn
    replace hD1 := hD1.later hbn
    have z7 := hbn.size
    replace hB := hB.trans (hbn.mono hB.size)
    clear hbn
    obtain ⟨aW0, cW0, rfl, _⟩ := hW0.row
    have hba : Below w7.heap.size w7 (w7.alloc (.cells #[] 39)) := (Below.refl _ _).alloc (Nat.le_refl _) _
    have hra := (hF1.later hba).1.rowS
    go_wp2_with (at_builtin; refine append_row rfl _ _ 22 rfl w7.heap.size 39 i_u64 8 Tryd.underlying22 hi_u64 hz0_u64 hz1_u64 hz2_u64 _ [] rfl (own_empty w7 39) _ _ _ (words (5 ^ M)) rfl hra.1 (by have := HL5.out; simp; unfold maxLen; omega) (by have := HL5.out; simp; omega) (by simp) ?_)
    intro v w8 hown' hgrow _ _
    try rw [List.nil_append] at hown'
    have hbn : Below w7.heap.size w7 w8 := hba.grown hgrow (by simp) (fun k hk => by simp [Value.ownBlock] at hk; omega)
    have hW1 := Ls.of_own hown'
    clear hba hra hown' hgrow
    replace hx := hx.later hbn
    replace hA1 := hA1.later hbn
    replace hF1 := hF1.later hbn
    replace hT1 := hT1.later hbn
    replace hD1 := hD1.later hbn
    replace hl := hl.later hbn
    replace hW0 := hW0.later hbn
    have z8 := hbn.size
    replace hB := hB.trans (hbn.mono hB.size)
    clear hbn
    obtain ⟨aW1, cW1, rfl, _⟩ := hW1.row
    have hba : Below w8.heap.size w8 (w8.alloc (.cells #[] 39)) := (Below.refl _ _).alloc (Nat.le_refl _) _
    have hra := (hT1.later hba).1.rowS
    go_wp2_with (at_builtin; refine append_row rfl _ _ 22 rfl w8.heap.size 39 i_u64 8 Tryd.underlying22 hi_u64 hz0_u64 hz1_u64 hz2_u64 _ [] rfl (own_empty w8 39) _ _ _ (words (10 ^ M)) rfl hra.1 (by have := HL10.out; simp; unfold maxLen; omega) (by have := HL10.out; simp; omega) (by simp) ?_)
    intro v w9 hown' hgrow _ _
    try rw [List.nil_append] at hown'
    have hbn : Below w8.heap.size w8 w9 := hba.grown hgrow (by simp) (fun k hk => by simp [Value.ownBlock] at hk; omega)
    have hW2 := Ls.of_own hown'
    clear hba hra hown' hgrow
    replace hx := hx.later hbn
    replace hA1 := hA1.later hbn
    replace hF1 := hF1.later hbn
    replace hT1 := hT1.later hbn
    replace hD1 := hD1.later hbn
    replace hl := hl.later hbn
    replace hW0 := hW0.later hbn
    replace hW1 := hW1.later hbn
    have z9 := hbn.size
    replace hB := hB.trans (hbn.mono hB.size)
    clear hbn
    obtain ⟨aW2, cW2, rfl, _⟩ := hW2.row
    have hba : Below w9.heap.size w9 (w9.alloc (.cells #[] 39)) := (Below.refl _ _).alloc (Nat.le_refl _) _
    have hra := (hD1.later hba).1.rowS
    go_wp2_with (at_builtin; refine append_row rfl _ _ 22 rfl w9.heap.size 39 i_u64 8 Tryd.underlying22 hi_u64 hz0_u64 hz1_u64 hz2_u64 _ [] rfl (own_empty w9 39) _ _ _ (words U) rfl hra.1 (by have := HLU.out; simp; unfold maxLen; omega) (by have := HLU.out; simp; omega) (by simp) ?_)
    intro v w10 hown' hgrow _ _
    try rw [List.nil_append] at hown'
    have hbn : Below w9.heap.size w9 w10 := hba.grown hgrow (by simp) (fun k hk => by simp [Value.ownBlock] at hk; omega)
    have hW3 := Ls.of_own hown'
    clear hba hra hown' hgrow
    replace hx := hx.later hbn
    replace hA1 := hA1.later hbn
    replace hF1 := hF1.later hbn
    replace hT1 := hT1.later hbn
    replace hD1 := hD1.later hbn
    replace hl := hl.later hbn
    replace hW0 := hW0.later hbn
    replace hW1 := hW1.later hbn
    replace hW2 := hW2.later hbn
    have z10 := hbn.size
    replace hB := hB.trans (hbn.mono hB.size)
    clear hbn
    obtain ⟨aW3, cW3, rfl, _⟩ := hW3.row
    go_wp2_with fail
    obtain ⟨w11, hwq⟩ : ∃ w9, w9 = w10.alloc (.cells #[.slice aW0 (words X).length cW0, .slice aW1 (words (5 ^ M)).length cW1, .slice aW2 (words (10 ^ M)).length cW2, .slice aW3 (words U).length cW3] 22) := ⟨_, rfl⟩
    have hs : w11.heap.size = w10.heap.size + 1 := by rw [hwq]; simp
    have hbn : Below w10.heap.size w10 w11 := by rw [hwq]; exact (Below.refl _ _).alloc (Nat.le_refl _) _
    have hwas : Arr w11 w10.heap.size 4 (p4 (.slice aW0 (words X).length cW0) (.slice aW1 (words (5 ^ M)).length cW1) (.slice aW2 (words (10 ^ M)).length cW2) (.slice aW3 (words U).length cW3)) := ⟨by rw [hs]; omega, lt4 (by rw [hwq]; simp [p4]) (by rw [hwq]; simp [p4]) (by rw [hwq]; simp [p4]) (by rw [hwq]; simp [p4])⟩
    rw [← hwq]
    try rw [← hs]
    have y11 : w10.heap.size < w11.heap.size := by omega
    clear hwq hs
    replace hx := hx.later hbn
    replace hA1 := hA1.later hbn
    replace hF1 := hF1.later hbn
    replace hT1 := hT1.later hbn
    replace hD1 := hD1.later hbn
    replace hl := hl.later hbn
    replace hW0 := hW0.later hbn
    replace hW1 := hW1.later hbn
    replace hW2 := hW2.later hbn
    replace hW3 := hW3.later hbn
    have z11 := hbn.size
    replace hB := hB.trans (hbn.mono hB.size)
    clear hbn
    refine (parseT HGD.out HNT.out htl HLX.out _).mono ?_
    rintro e w12 ⟨v, rfl, hA2, hbn⟩
    replace hx := hx.later hbn
    replace hA1 := hA1.later hbn
    replace hF1 := hF1.later hbn
    replace hT1 := hT1.later hbn
    replace hD1 := hD1.later hbn
    replace hl := hl.later hbn
    replace hW0 := hW0.later hbn
    replace hW1 := hW1.later hbn
    replace hW2 := hW2.later hbn
    replace hW3 := hW3.later hbn
    replace hwas := hwas.later hbn
    have z12 := hbn.size
    replace hB := hB.trans (hbn.mono hB.size)
    clear hbn
    obtain ⟨aA2, cA2, rfl, _⟩ := hA2.row
    go_wp2_with fail
    refine (fiveT (k := M) (by omega) _).mono ?_
    rintro e w13 ⟨v, rfl, hF2, hbn⟩
    replace hx := hx.later hbn
    replace hA1 := hA1.later hbn
    replace hF1 := hF1.later hbn
    replace hT1 := hT1.later hbn
    replace hD1 := hD1.later hbn
    replace hl := hl.later hbn
    replace hW0 := hW0.later hbn
    replace hW1 := hW1.later hbn
    replace hW2 := hW2.later hbn
    replace hW3 := hW3.later hbn
    replace hwas := hwas.later hbn
    replace hA2 := hA2.later hbn
    have z13 := hbn.size
    replace hB := hB.trans (hbn.mono hB.size)
    clear hbn
    obtain ⟨aF2, cF2, rfl, _⟩ := hF2.row
    go_wp2_with fail
    refine (tenT (k := M) (by omega) _).mono ?_
    rintro e w14 ⟨v, rfl, hT2, hbn⟩
    replace hx := hx.later hbn
    replace hA1 := hA1.later hbn
    replace hF1 := hF1.later hbn
    replace hT1 := hT1.later hbn
    replace hD1 := hD1.later hbn
    replace hl := hl.later hbn
    replace hW0 := hW0.later hbn
    replace hW1 := hW1.later hbn
    replace hW2 := hW2.later hbn
    replace hW3 := hW3.later hbn
    replace hwas := hwas.later hbn
    replace hA2 := hA2.later hbn
    replace hF2 := hF2.later hbn
    have z14 := hbn.size
    replace hB := hB.trans (hbn.mono hB.size)
    clear hbn
    obtain ⟨aT2, cT2, rfl, _⟩ := hT2.row
    go_wp2_with fail
    refine (trimT hx hw1 (by omega)).mono ?_
    rintro e w15 ⟨v, U2, k2, rfl, ⟨hU, hD2⟩, hbn⟩
    replace hx := hx.later hbn
    replace hA1 := hA1.later hbn
    replace hF1 := hF1.later hbn
    replace hT1 := hT1.later hbn
    replace hD1 := hD1.later hbn
    replace hl := hl.later hbn
    replace hW0 := hW0.later hbn
    replace hW1 := hW1.later hbn
    replace hW2 := hW2.later hbn
    replace hW3 := hW3.later hbn
    replace hwas := hwas.later hbn
    replace hA2 := hA2.later hbn
    replace hF2 := hF2.later hbn
    replace hT2 := hT2.later hbn
    have z15 := hbn.size
    replace hB := hB.trans (hbn.mono hB.size)
    clear hbn
    rw [HX.out] at hU
    have hUU := trimOf_uniq h0 HU.out hU
    subst hUU
    clear hU
    obtain ⟨aD2, cD2, rfl, _⟩ := hD2.row
    go_wp2
    obtain ⟨w16, hwq⟩ : ∃ w9, w9 = w15.alloc (.cells #[.slice aA2 (words X).length cA2, .slice aF2 (words (5 ^ M)).length cF2, .slice aT2 (words (10 ^ M)).length cT2, .slice aD2 (words U).length cD2] 22) := ⟨_, rfl⟩
    have hs : w16.heap.size = w15.heap.size + 1 := by rw [hwq]; simp
    have hbn : Below w15.heap.size w15 w16 := by rw [hwq]; exact (Below.refl _ _).alloc (Nat.le_refl _) _
    have ht : Arr w16 w15.heap.size 4 (p4 (.slice aA2 (words X).length cA2) (.slice aF2 (words (5 ^ M)).length cF2) (.slice aT2 (words (10 ^ M)).length cT2) (.slice aD2 (words U).length cD2)) := ⟨by rw [hs]; omega, lt4 (by rw [hwq]; simp [p4]) (by rw [hwq]; simp [p4]) (by rw [hwq]; simp [p4]) (by rw [hwq]; simp [p4])⟩
    rw [← hwq]
    try rw [← hs]
    have y16 : w15.heap.size < w16.heap.size := by omega
    clear hwq hs
    replace hx := hx.later hbn
    replace hA1 := hA1.later hbn
    replace hF1 := hF1.later hbn
    replace hT1 := hT1.later hbn
    replace hD1 := hD1.later hbn
    replace hl := hl.later hbn
    replace hW0 := hW0.later hbn
    replace hW1 := hW1.later hbn
    replace hW2 := hW2.later hbn
    replace hW3 := hW3.later hbn
    replace hwas := hwas.later hbn
    replace hA2 := hA2.later hbn
    replace hF2 := hF2.later hbn
    replace hT2 := hT2.later hbn
    replace hD2 := hD2.later hbn
    have z16 := hbn.size
    replace hB := hB.trans (hbn.mono hB.size)
    clear hbn
    obtain ⟨lo, hlo⟩ : ∃ f, f = p8 w1.heap.size w2.heap.size w3.heap.size w4.heap.size w11.heap.size w12.heap.size w13.heap.size w14.heap.size := ⟨_, rfl⟩
    obtain ⟨hi, hhi⟩ : ∃ f, f = p8 w2.heap.size w3.heap.size w4.heap.size w5.heap.size w12.heap.size w13.heap.size w14.heap.size w15.heap.size := ⟨_, rfl⟩
    obtain ⟨wlo, hwlo⟩ : ∃ f, f = p4 (w5.heap.size + 1) w7.heap.size w8.heap.size w9.heap.size := ⟨_, rfl⟩
    obtain ⟨whi, hwhi⟩ : ∃ f, f = p4 w7.heap.size w8.heap.size w9.heap.size w10.heap.size := ⟨_, rfl⟩
    obtain ⟨V, hV⟩ : ∃ f, f = p8 (Value.slice aA1 (words X).length cA1) (.slice aF1 (words (5 ^ M)).length cF1) (.slice aT1 (words (10 ^ M)).length cT1) (.slice aD1 (words U).length cD1) (.slice aA2 (words X).length cA2) (.slice aF2 (words (5 ^ M)).length cF2) (.slice aT2 (words (10 ^ M)).length cT2) (.slice aD2 (words U).length cD2) := ⟨_, rfl⟩
    obtain ⟨wv, hwv⟩ : ∃ f, f = p4 (Value.slice aW0 (words X).length cW0) (.slice aW1 (words (5 ^ M)).length cW1) (.slice aW2 (words (10 ^ M)).length cW2) (.slice aW3 (words U).length cW3) := ⟨_, rfl⟩
    obtain ⟨XX, hXX⟩ : ∃ f, f = p8 (words X) (words (5 ^ M)) (words (10 ^ M)) (words U) (words X) (words (5 ^ M)) (words (10 ^ M)) (words U) := ⟨_, rfl⟩
    have hG : Geo lo hi wlo whi w5.heap.size w15.heap.size w10.heap.size w16.heap.size := by
      rw [hlo, hhi, hwlo, hwhi]
      exact geo_of (by omega) (by omega) (by omega) (by omega) (by omega) (by omega) (by omega) (by omega) (by omega) (by omega) (by omega) (by omega) (by omega) (by omega) (by omega) (by omega) (by omega) (by omega)
    have hXL : ∀ k, k < 8 → (XX k).length ≤ 4096 := by
      rw [hXX]
      exact lt8 HLX.out HL5.out HL10.out HLU.out HLX.out HL5.out HL10.out HLU.out
    have hfr : Fr lo hi wlo whi V wv XX w5.heap.size w15.heap.size w10.heap.size w16.heap.size 0 (.slice none 0 0) w16 := by
      rw [hlo, hhi, hwlo, hwhi, hV, hwv, hXX]
      exact ⟨lt8 hA1 hF1 hT1 hD1 hA2 hF2 hT2 hD2, lt4 hW0 hW1 hW2 hW3, ⟨hl.1, lt4 (hl.2 0 (by omega)) (hl.2 1 (by omega)) (hl.2 2 (by omega)) (hl.2 3 (by omega))⟩, ⟨ht.1, lt4 (ht.2 0 (by omega)) (ht.2 1 (by omega)) (ht.2 2 (by omega)) (ht.2 3 (by omega))⟩, hwas, ⟨[], World.ownsRow_nil _ _ _ _, fun j hj => by omega⟩, Nat.le_refl _⟩
    have HX4 : Hid (∀ k, k < 4 → XX (4 + k) = XX k) := by
      show ∀ k, _
      rw [hXX]
      exact lt4 rfl rfl rfl rfl
    have HXE : Hid (XX 0 = words X ∧ XX 1 = words (5 ^ M) ∧ XX 2 = words (10 ^ M) ∧ XX 3 = words U) := by
      show _ ∧ _
      rw [hXX]
      exact ⟨rfl, rfl, rfl, rfl⟩
    have HLB : Hid (∀ k, k < 8 → w.heap.size ≤ lo k) := by
      show ∀ k, _
      rw [hlo]
      refine lt8 ?_ ?_ ?_ ?_ ?_ ?_ ?_ ?_ <;> (simp only [p8]; omega)
    have hWH : w.heap.size ≤ w16.heap.size := by omega
    obtain ⟨H, hH⟩ : ∃ H, H = w16.heap.size := ⟨_, rfl⟩
    rw [← hH] at hfr hG hWH
    obtain ⟨gl, hgl⟩ : ∃ g, g = w5.heap.size := ⟨_, rfl⟩
    obtain ⟨gt, hgt⟩ : ∃ g, g = w15.heap.size := ⟨_, rfl⟩
    obtain ⟨gw, hgw⟩ : ∃ g, g = w10.heap.size := ⟨_, rfl⟩
    rw [← hgl, ← hgt, ← hgw] at hfr hG
    rw [← hgl, ← hgt, ← hgw]
    clear hlo hhi hwlo hwhi hV hwv hXX hH hgl hgt hgw hA1 hF1 hT1 hD1 hA2 hF2 hT2 hD2 hW0 hW1 hW2 hW3 hl ht hwas z1 z2 z3 z4 z5 z7 z8 z9 z10 z11 z12 z13 z14 z15 z16 y7 y11 y16 hx zz
    go_loopw [18, 19] (fun gv vi wr => ∃ i : Nat, vi = .int .i64 (i : Int) ∧ i ≤ 4 ∧ Fr lo hi wlo whi V wv XX gl gt gw H i gv wr ∧ Below w.heap.size w wr) (fun _ vi _ => 4 - (RowKit.intOf vi).toNat)
    case atStart => exact ⟨0, rfl, by omega, hfr, hB⟩
    case round =>
      obtain ⟨i, rfl, hi4, hfr1, hB1⟩ := hrel
      clear hfr hB
      by_cases hlt : i < 4
      · have hc := hfr1.al.2 i hlt
        have hli := hfr1.lists i (by omega)
        rw [mkI_self] at hli
        have hm := mark4_any (m := 700 + (i : Int)) hli (Nat.le_trans (hG.below i (by omega)).1 hfr1.sz) (Nat.le_trans (hXL i (by omega)) (by omega))
        have hlb := HLB.out i (by omega)
        clear hli
        go_wp2_with fail
        refine hm.mono ?_
        rintro e w5 ⟨v', rfl, ⟨hl5, lo2, hi2, hv, hv2⟩, hin⟩
        obtain ⟨av, cv, rfl, _⟩ := hv.row
        have hv3 : (lo2 = lo i ∧ hi2 = hi i) ∨ H ≤ lo2 := hv2.imp id (fun q => Nat.le_trans hfr1.sz q)
        obtain ⟨m1, m2, m3, m4, m5, ⟨gs, g1, g2⟩, m8⟩ := hfr1.marked hG (by omega) hl5 hin
        have hB5 := below_inn hB1 hin hlb (Nat.le_refl _)
        have HLV : Hid ((List.replicate ((XX i).length + 3) (700 + (i : Int))).length ≤ 5000) := by
          show _ ≤ _
          rw [List.length_replicate]
          have := hXL i (by omega)
          omega
        obtain ⟨nv, hnv⟩ : ∃ nv, nv = (List.replicate ((XX i).length + 3) (700 + (i : Int))).length := ⟨_, rfl⟩
        rw [← hnv] at hv ⊢
        clear hm hfr1 hl5 hin hv2 hc hB1 hnv hlb
        go_wp2_with (at_builtin; refine wpList_append_own _ rfl _ _ 48 rfl H 22 i_su (.slice none 0 0) 1 24 Tryd.underlying48 hi_su hz0_su hz1_su hz2_su rfl (by decide) _ i gs rfl (g1.alloc _) ⟨w5.heap.size, 0, none⟩ 1 1 [.slice av nv cv] rfl rfl one_new (list_one hv) (by unfold maxLen; omega) (by omega) (by simp; omega) ?_)
        intro gv' w6 hown' hgrow _
        have hfr6 := Fr.next hG m1 m2 m3 m4 m5 g1 g2 m8 hv hv3 hown' hgrow
        have hB6 : Below w.heap.size w w6 := (hB5.alloc hB5.size _).grown hgrow (by have := hB5.size; simp; omega) (fun k hk => Nat.le_trans hWH (row_blk g1 hk).1)
        clear m1 m2 m3 m4 m5 g1 g2 m8 hv hv3 hown' hgrow hB5
        go_wp2
        go_roundw
        case rel => exact ⟨i + 1, by go_num, by omega, hfr6, hB6⟩
        case measure => simp [RowKit.intOf]; omega
      · have hi4' : i = 4 := by omega
        have hltI : ¬ (i : Int) < 4 := by omega
        rw [hi4'] at hfr1
        clear hlt hi4 hi4'
        go_wp2
        go_loopw [18, 20] (fun gv vi wz => ∃ i : Nat, vi = .int .i64 (i : Int) ∧ i ≤ 4 ∧ Fr lo hi wlo whi V wv XX gl gt gw H (4 + i) gv wz ∧ Below w.heap.size w wz) (fun _ vi _ => 4 - (RowKit.intOf vi).toNat)
        case atStart => exact ⟨0, rfl, by omega, hfr1, hB1⟩
        case round =>
          obtain ⟨i, rfl, hi4, hfr2, hB2⟩ := hrel
          clear hfr1 hB1
          by_cases hlt : i < 4
          · have hct := hfr2.at'.2 i hlt
            have hcw := hfr2.aw.2 i hlt
            have hli := hfr2.lists (4 + i) (by omega)
            rw [mkI_self] at hli
            obtain ⟨ta, tc, hVt, rt⟩ := hli.row
            obtain ⟨wa, wc, hVw, rw1⟩ := (hfr2.was i hlt).row
            have e4 := HX4.out i hlt
            rw [e4] at rt
            have hsq := fun (k : Nat) => sameDrew (c1 := tc) (c2 := wc) (w := wr) rt.1 rw1.1 (by have := hXL i (by omega); omega) k
            have hct' : wr.cell? ⟨gt, i, none⟩ = some (.slice ta (XX i).length tc) := by rw [hct]; show some (V (4 + i)) = _; rw [hVt, e4]
            have hcw' : wr.cell? ⟨gw, i, none⟩ = some (.slice wa (XX i).length wc) := by rw [hcw, hVw]
            have HVT : Hid (V (4 + i) = .slice ta (XX i).length tc) := by show _ = _; rw [hVt, e4]
            have hlen := hXL (4 + i) (by omega)
            have hq4 : (i : Int) < 4 := by omega
            obtain ⟨nt, hnt⟩ : ∃ nt, nt = (XX i).length := ⟨_, rfl⟩
            have HNT2 : Hid (nt = (XX i).length) := hnt
            rw [← hnt] at hsq hct' hcw'
            clear hnt hVt hVw e4 rt rw1 hct hcw hli
            go_wp2
            go_quiet ((go_at_call 12; exact (hsq _).mono (fun _ _ h => ⟨h.1, drewAny h.2⟩)))
            obtain ⟨wd, hwd⟩ : ∃ wd, wd = wr.drewN nq := ⟨_, rfl⟩
            have bd : Below wr.heap.size wr wd := by rw [hwd]; exact below_drewN (Below.refl _ _) nq
            have hfr3 := hfr2.later bd
            have hB3 := hB2.trans (bd.mono hB2.size)
            have hct2 : wd.cell? ⟨gt, i, none⟩ = some (V (4 + i)) := hfr3.at'.2 i hlt
            have hli := hfr3.lists (4 + i) (by omega)
            rw [mkI_self] at hli
            have hm := mark4_any (m := 704 + (i : Int)) hli (Nat.le_trans (hG.below (4 + i) (by omega)).1 hfr3.sz) (Nat.le_trans hlen (by omega))
            have hlb := HLB.out (4 + i) (by omega)
            have em : (704 + (i : Int)) = mrk (4 + i) := by unfold mrk; omega
            have HEM : Hid ((704 + (i : Int)) = mrk (4 + i)) := em
            rw [← hwd]
            clear hwd hsq hct' hcw' hfr2 hB2 bd hli em
            go_wp2_with fail
            refine hm.mono ?_
            rintro e w5 ⟨v', rfl, ⟨hl5, lo2, hi2, hv, hv2⟩, hin⟩
            rw [HEM.out] at hl5 hv
            obtain ⟨av, cv, rfl, _⟩ := hv.row
            have hv3 : (lo2 = lo (4 + i) ∧ hi2 = hi (4 + i)) ∨ H ≤ lo2 := hv2.imp id (fun q => Nat.le_trans hfr3.sz q)
            obtain ⟨m1, m2, m3, m4, m5, ⟨gs, g1, g2⟩, m8⟩ := hfr3.marked hG (by omega) hl5 hin
            have hB5 := below_inn hB3 hin hlb (Nat.le_refl _)
            obtain ⟨nv, hnv⟩ : ∃ nv, nv = (List.replicate ((XX (4 + i)).length + 3) (mrk (4 + i))).length := ⟨_, rfl⟩
            rw [← hnv] at hv ⊢
            clear hm hfr3 hl5 hin hv2 hct2 hB3 hnv hlb
            go_wp2_with (at_builtin; refine wpList_append_own _ rfl _ _ 48 rfl H 22 i_su (.slice none 0 0) 1 24 Tryd.underlying48 hi_su hz0_su hz1_su hz2_su rfl (by decide) _ (4 + i) gs rfl (g1.alloc _) ⟨w5.heap.size, 0, none⟩ 1 1 [.slice av nv cv] rfl rfl one_new (list_one hv) (by unfold maxLen; omega) (by omega) (by simp; omega) ?_)
            intro gv' w6 hown' hgrow _
            have hfr6 := Fr.next hG m1 m2 m3 m4 m5 g1 g2 m8 hv hv3 hown' hgrow
            have hB6 : Below w.heap.size w w6 := (hB5.alloc hB5.size _).grown hgrow (by have := hB5.size; simp; omega) (fun k hk => Nat.le_trans hWH (row_blk g1 hk).1)
            clear m1 m2 m3 m4 m5 g1 g2 m8 hv hv3 hown' hgrow hB5
            go_wp2
            go_roundw
            case rel => exact ⟨i + 1, by go_num, by omega, hfr6, hB6⟩
            case measure => simp [RowKit.intOf]; omega
          · have hi4' : i = 4 := by omega
            have hltI2 : ¬ (i : Int) < 4 := by omega
            rw [hi4'] at hfr2
            clear hlt hi4 hi4'
            obtain ⟨gs, hrow, hent⟩ := hfr2.g
            rcases hrow.2 with ⟨_, hbad⟩ | ⟨gg, gc, cur, rfl, hgb, hgc, hg8, hgm, _⟩
            · exact absurd hbad (by omega)
            clear hgb hgc hgm hent hrow
            have hx := hxw.later hB2
            go_wp2_with fail
            refine (parseT HGD.out HNT.out htl HLX.out _).mono ?_
            rintro e y1 ⟨v, rfl, hA, hbn⟩
            obtain ⟨aA, cA, rfl, _⟩ := hA.row
            replace hfr2 := hfr2.later hbn
            replace hx := hx.later hbn
            replace hB2 := hB2.trans (hbn.mono hB2.size)
            clear hbn
            go_wp2_with fail
            refine (fiveT (k := M) (by omega) _).mono ?_
            rintro e y2 ⟨v, rfl, hF, hbn⟩
            obtain ⟨aF, cF, rfl, _⟩ := hF.row
            replace hfr2 := hfr2.later hbn
            replace hx := hx.later hbn
            replace hA := hA.later hbn
            replace hB2 := hB2.trans (hbn.mono hB2.size)
            clear hbn
            go_wp2_with fail
            refine (tenT (k := M) (by omega) _).mono ?_
            rintro e y3 ⟨v, rfl, hT, hbn⟩
            obtain ⟨aT, cT, rfl, _⟩ := hT.row
            replace hfr2 := hfr2.later hbn
            replace hx := hx.later hbn
            replace hA := hA.later hbn
            replace hF := hF.later hbn
            replace hB2 := hB2.trans (hbn.mono hB2.size)
            clear hbn
            go_wp2_with fail
            refine (trimT hx hw1 (by omega)).mono ?_
            rintro e y4 ⟨v, U3, k3, rfl, ⟨hU, hD⟩, hbn⟩
            rw [HX.out] at hU
            have hUU := trimOf_uniq h0 HU.out hU
            subst hUU
            clear hU
            obtain ⟨aD, cD, rfl, _⟩ := hD.row
            replace hfr2 := hfr2.later hbn
            replace hA := hA.later hbn
            replace hF := hF.later hbn
            replace hT := hT.later hbn
            replace hB2 := hB2.trans (hbn.mono hB2.size)
            clear hbn hx
            go_wp2_with fail
            refine (hal _).mono ?_
            rintro e y5 ⟨rfl, hbn⟩
            replace hfr2 := hfr2.later hbn
            replace hA := hA.later hbn
            replace hF := hF.later hbn
            replace hT := hT.later hbn
            replace hD := hD.later hbn
            replace hB2 := hB2.trans (hbn.mono hB2.size)
            clear hbn
            obtain ⟨xe0, xe1, xe2, xe3⟩ := HXE.out
            obtain ⟨qa0, qc0, qe0, q0⟩ := (hfr2.was 0 (by omega)).row
            obtain ⟨qa1, qc1, qe1, q1⟩ := (hfr2.was 1 (by omega)).row
            obtain ⟨qa2, qc2, qe2, q2⟩ := (hfr2.was 2 (by omega)).row
            obtain ⟨qa3, qc3, qe3, q3⟩ := (hfr2.was 3 (by omega)).row
            rw [xe0] at q0 qe0
            rw [xe1] at q1 qe1
            rw [xe2] at q2 qe2
            rw [xe3] at q3 qe3
            have HQ1 : Hid (wv 1 = .slice qa1 (words (5 ^ M)).length qc1) := qe1
            have HQ2 : Hid (wv 2 = .slice qa2 (words (10 ^ M)).length qc2) := qe2
            have HQ3 : Hid (wv 3 = .slice qa3 (words U).length qc3) := qe3
            have c0 : y5.cell? ⟨gw, 0, none⟩ = some (.slice qa0 (words X).length qc0) := by rw [hfr2.aw.2 0 (by omega), qe0]
            have s0' := sameN hA.1.rowS q0 (Nat.le_trans HLX.out (by omega)) (Nat.le_trans HLX.out (by omega)) rfl
            clear qe0 qe1 qe2 qe3 xe0 xe1 xe2 xe3 q0
            go_wp2_with fail
            refine s0'.mono ?_
            rintro e y6 ⟨rfl, hbn⟩
            replace hfr2 := hfr2.later hbn
            replace hF := hF.later hbn
            replace hT := hT.later hbn
            replace hD := hD.later hbn
            replace q1 := q1.later hbn
            replace q2 := q2.later hbn
            replace q3 := q3.later hbn
            replace hB2 := hB2.trans (hbn.mono hB2.size)
            clear hbn c0 s0' hA
            have c1 : y6.cell? ⟨gw, 1, none⟩ = some (.slice qa1 (words (5 ^ M)).length qc1) := by rw [hfr2.aw.2 1 (by omega), HQ1.out]
            have s1' := sameN hF.1.rowS q1 (Nat.le_trans HL5.out (by omega)) (Nat.le_trans HL5.out (by omega)) rfl
            clear q1
            go_wp2_with fail
            refine s1'.mono ?_
            rintro e y7 ⟨rfl, hbn⟩
            replace hfr2 := hfr2.later hbn
            replace hT := hT.later hbn
            replace hD := hD.later hbn
            replace q2 := q2.later hbn
            replace q3 := q3.later hbn
            replace hB2 := hB2.trans (hbn.mono hB2.size)
            clear hbn c1 s1' hF
            have c2 : y7.cell? ⟨gw, 2, none⟩ = some (.slice qa2 (words (10 ^ M)).length qc2) := by rw [hfr2.aw.2 2 (by omega), HQ2.out]
            have s2' := sameN hT.1.rowS q2 (Nat.le_trans HL10.out (by omega)) (Nat.le_trans HL10.out (by omega)) rfl
            clear q2
            go_wp2_with fail
            refine s2'.mono ?_
            rintro e y8 ⟨rfl, hbn⟩
            replace hfr2 := hfr2.later hbn
            replace hD := hD.later hbn
            replace q3 := q3.later hbn
            replace hB2 := hB2.trans (hbn.mono hB2.size)
            clear hbn c2 s2' hT
            have c3 : y8.cell? ⟨gw, 3, none⟩ = some (.slice qa3 (words U).length qc3) := by rw [hfr2.aw.2 3 (by omega), HQ3.out]
            have s3' := sameN hD.1.rowS q3 (Nat.le_trans HLU.out (by omega)) (Nat.le_trans HLU.out (by omega)) rfl
            clear q3
            go_wp2_with fail
            refine s3'.mono ?_
            rintro e y9 ⟨rfl, hbn⟩
            replace hfr2 := hfr2.later hbn
            replace hB2 := hB2.trans (hbn.mono hB2.size)
            clear hbn c3 s3' hD HQ1 HQ2 HQ3
            obtain ⟨gs, hrow, hent⟩ := hfr2.g
            go_wp2
            go_loopw [22] (fun vi wz => ∃ i : Nat, y9 = wz ∧ vi = .int .i64 (i : Int) ∧ i ≤ 4) (fun vi _ => 4 - (RowKit.intOf vi).toNat)
            case atStart => exact ⟨0, rfl, rfl, by omega⟩
            case round =>
              obtain ⟨i, rfl, rfl, hi4⟩ := hrel
              by_cases hlt : i < 4
              · have k1 := hfr2.al.2 i hlt
                have k3 : y9.cell? ⟨gt, i, none⟩ = some (V (4 + i)) := hfr2.at'.2 i hlt
                obtain ⟨u1, b1, d1, e1, l1, _⟩ := hent i (by omega)
                obtain ⟨u2, b2, d2, e2, l2, _⟩ := hent (4 + i) (by omega)
                have k2 : y9.cell? ⟨gg, i, none⟩ = some u1 := by rw [World.ownsRow.cellAt hrow i (by omega)]; exact e1
                have k4 : y9.cell? ⟨gg, 4 + i, none⟩ = some u2 := by rw [World.ownsRow.cellAt hrow (4 + i) (by omega)]; exact e2
                have l0 := hfr2.lists i (by omega)
                have l3 := hfr2.lists (4 + i) (by omega)
                rw [mkI_done (by omega)] at l0 l3
                have em : mrk (4 + i) = 704 + (i : Int) := by unfold mrk; omega
                rw [em] at l3 l2
                have n1 := hXL i (by omega)
                have n2 := hXL (4 + i) (by omega)
                have f1 := filled4_any (m := 700 + (i : Int)) l0 (by omega)
                have f2 := filled4_any (m := 700 + (i : Int)) l1 (by omega)
                have f3 := filled4_any (m := 704 + (i : Int)) l3 (by omega)
                have f4 := filled4_any (m := 704 + (i : Int)) l2 (by omega)
                have hti : (4 + (i : Int)).toNat = 4 + i := by omega
                have hi4I : (i : Int) < 4 := by omega
                clear l0 l1 l2 l3 em e1 e2
                go_wp2_with fail
                refine f1.mono ?_
                rintro e w' ⟨rfl, rfl⟩
                go_wp2_with fail
                refine f2.mono ?_
                rintro e w' ⟨rfl, rfl⟩
                go_wp2_with fail
                refine f3.mono ?_
                rintro e w' ⟨rfl, rfl⟩
                go_wp2_with fail
                refine f4.mono ?_
                rintro e w' ⟨rfl, rfl⟩
                clear f1 f2 f3 f4 k1 k2 k3 k4
                go_wp2
                go_roundw
                case rel => exact ⟨i + 1, trivial, by go_num, by omega⟩
                case measure => simp [RowKit.intOf]; omega
              · have hltI3 : ¬ (i : Int) < 4 := by omega
                clear hlt hent hrow hfr2
                go_wp2
                go_ret
                exact ⟨rfl, hB2⟩
end Go.Proofs.YtfnpigkiookejaaDoor
