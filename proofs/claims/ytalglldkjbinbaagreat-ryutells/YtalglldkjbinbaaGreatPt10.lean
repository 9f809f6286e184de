import Derived.Below
import Derived.BigQuiet
import Derived.BigRegion
import Derived.ChangeOld
import Derived.Deep.DeepCutAuto
import Derived.Deep.QuietTactic
import Derived.Deep.RegionLaw
import Derived.Deep.RegionWith
import Derived.Laws.BitsAllLaws
import Derived.Laws.CopyRow
import Derived.Laws.IdiomCopy
import Derived.Laws.IdiomRangeMap
import Derived.OpenShut
import Derived.OwnWalk
import Derived.ProofKit
import Derived.Scope
import Derived.ShutString
import Derived.WalkKit
import Derived.WalkLawsBesides
import Derived.WalkMore
import Derived.WalkSpells
import Derived.Test.YtalglldkjbinbaaGreatPt7
import Derived.Test.YtalglldkjbinbaaGreatPt8
/- plumbref03.Pow. -/
namespace Go.Proofs.YtalglldkjbinbaaGreat
open Go.ChangeShapes Go.WideShapes Go.ChangeAt Go.RowKit
open Na Ar
set_option linter.unusedVariables false
namespace Na
theorem one_words : words 1 = [1] := by
  have h := Na.words_strip (xs := [1]) (Dg.one (by omega))
  have n1 : num [1] = 1 := by simp [num, val]
  rw [n1] at h
  rw [← h]; decide
theorem pow_len2 {P : Int} (h0 : 0 ≤ P) (h : (words P).length ≤ 4096) : (words (P * P)).length ≤ 8192 := by
  have l : Lt P 4096 := by
    refine ⟨h0, ?_⟩
    have := val_lt (B := 18446744073709551616) (by omega) (Dg_words P)
    rw [val_words h0] at this
    exact Int.lt_of_lt_of_le this (wpow_mono h)
  exact (l.mul l).len
theorem pow_past {X : Int} {b n : Nat} (hb : 2 ^ b ≤ X) (h0 : 0 < b) (h : (262144 : Int) / (b : Int) < (n : Int)) : 262144 ≤ b * n := by
  have e : ((262144 / b : Nat) : Int) = (262144 : Int) / (b : Int) := by simp
  have h2 : 262144 / b < n := by omega
  have := Nat.div_lt_iff_lt_mul h0 |>.mp h2
  rw [Nat.mul_comm]; omega
end Na
set_option maxHeartbeats 3200000 in
set_option maxRecDepth 100000 in
theorem ref3Pow_any {a : Option Addr} {m c1 : Nat} {xs : List Int} {w : World} (hr1 : RowAt .u64 w a m xs) (hx : Ws xs) (hm : m ≤ 2000000) (n : Int) (h0 : -9223372036854775808 ≤ n) (hn9 : n ≤ 9223372036854775807) :
    Calls Tryz.prog 59 #[.slice a m c1, .int .i64 n] w fun e w' => ∃ a1 n1 d1, e = .returned (.tuple #[.slice a1 n1 d1, .int .i64 (powE (num xs) n)]) ∧ RowC w' a1 n1 d1 (powL (num xs) n) ∧ Below w.heap.size w w' := by
  by_cases hneg : n < 0
  · have E1 : Hid (powE (num xs) n = 31) := by show _ = _; unfold powE; rw [if_pos hneg]
    have E2 : Hid (powL (num xs) n = []) := by show _ = _; unfold powL; rw [if_pos hneg]
    go_enter Tryz.func59, Tryz.ntmps59
    go_wp2
    go_ret2
    exact ⟨none, 0, 0, by rw [E1.out]; rfl, by rw [E2.out]; exact rowC_nil _, Below.refl _ _⟩
  · obtain ⟨N, rfl⟩ : ∃ N : Nat, n = (N : Int) := ⟨n.toNat, by omega⟩
    have P1 : Hid (powE (num xs) (N : Int) = resE (num xs ^ N)) := by show _ = _; unfold powE; rw [if_neg hneg]; rfl
    have P2 : Hid (powL (num xs) (N : Int) = resL (num xs ^ N)) := by show _ = _; unfold powL; rw [if_neg hneg]; rfl
    have hX0 := num_nonneg hx
    have hxl := words_len hx
    rw [hr1.1] at hxl
    go_enter Tryz.func59, Tryz.ntmps59
    go_wp2_with fail
    refine (ref3Norm_any hr1 hx (by omega)).mono ?_
    rintro e w1 ⟨v, rfl, hv, hb1⟩
    obtain ⟨va, vc, rfl, hvr⟩ := hv.readsC
    have dX := Dg_words (num xs)
    have nX := num_words hX0
    clear hr1 hv
    by_cases hN0 : N = 0
    · subst hN0
      have R := res_fits (N := num xs ^ 0) (by rw [Int.pow_zero, one_words]; simp)
      rw [Int.pow_zero, one_words] at R
      have E1 : Hid (powE (num xs) ((0 : Nat) : Int) = 0) := by show _ = _; rw [P1.out, Int.pow_zero]; exact R.2
      have E2 : Hid (powL (num xs) ((0 : Nat) : Int) = [1]) := by show _ = _; rw [P2.out, Int.pow_zero]; exact R.1
      clear R
      go_wp2
      go_ret2
      exact ⟨_, _, _, by rw [E1.out]; rfl, by rw [E2.out]; exact rowC_one _ _ _, hb1.alloc hb1.size _⟩
    · have t0 : ((N : Int) == 0) = false := by simp; omega
      have hbits := ref3Bits_any (cap := vc) hvr.1 dX (by omega)
      rw [nX] at hbits
      have hb0 := bits_nonneg (num xs)
      by_cases hb : bitsN (num xs) ≤ 1
      · obtain ⟨s1, s2⟩ := pow_small hX0 hb (n := N) hN0
        have o1 := res_fits (N := num xs) (by omega)
        have E1 : Hid (powE (num xs) (N : Int) = 0) := by show _ = _; rw [P1.out, s1]; exact o1.2
        have E2 : Hid (powL (num xs) (N : Int) = words (num xs)) := by show _ = _; rw [P2.out, s1]; exact o1.1
        clear s1 o1
        generalize bitsN (num xs) = bN at *
        generalize (words (num xs)).length = wl at *
        go_wp2_with fail
        refine hbits.mono ?_
        rintro e w' ⟨rfl, rfl⟩
        go_wp2
        go_ret2
        exact ⟨_, _, _, by rw [E1.out]; rfl, by rw [E2.out]; exact hvr, hb1⟩
      · have hXp : 0 < num xs := by
          by_cases g : num xs = 0
          · rw [g, bits_none] at hb; omega
          · omega
        obtain ⟨b, hbe, a1, a2⟩ := bits_some hXp
        rw [hbe] at hbits hb
        have hbl : b < 200000000 := by
          have := bits_le hX0 (k := m) (by have := val_lt (B := 18446744073709551616) (by omega) (Dg_words (num xs)); rw [val_words hX0] at this; exact Int.lt_of_lt_of_le this (wpow_mono hxl))
          omega
        have cb : ((b : Int) + 1 - 1) = (b : Int) := by omega
        have b0 : ((b : Int) == 0) = false := by simp; omega
        by_cases hhuge : (262144 : Int) / (b : Int) < (N : Int)
        · have hh := res_huge (N := num xs ^ N) (pow_huge a1 (pow_past a1 (by omega) hhuge))
          have E1 : Hid (powE (num xs) (N : Int) = 21) := by show _ = _; rw [P1.out]; exact hh.2
          have E2 : Hid (powL (num xs) (N : Int) = []) := by show _ = _; rw [P2.out]; exact hh.1
          have hbn : ¬ ((b : Int) + 1 ≤ 1) := by omega
          clear hh a1 a2 hbe
          generalize (words (num xs)).length = wl at *
          go_wp2_with fail
          refine hbits.mono ?_
          rintro e w' ⟨rfl, rfl⟩
          go_wp2
          go_ret2
          exact ⟨none, 0, 0, by rw [E1.out]; rfl, by rw [E2.out]; exact rowC_nil _, hb1⟩
        · have hbn : ¬ ((b : Int) + 1 ≤ 1) := by omega
          have hN63 : Hid (N / 2 ^ 63 = 0) := Nat.div_eq_of_lt (by omega)
          have h1X : 1 ≤ num xs := by omega
          have HL : Hid ((words (num xs)).length ≤ 2000000) := by show _ ≤ _; omega
          have hvl : Hid (True) := trivial
          clear a1 a2 hbe hb0 hb hxl
          generalize hwl : (words (num xs)).length = wl at *
          go_wp2_with fail
          refine hbits.mono ?_
          rintro e w' ⟨rfl, rfl⟩
          clear hbits
          go_wp2
          go_loopw [8, 9] (fun o i wr => ∃ (k : Nat) (I : Int) (oa : Option Addr) (on oc : Nat), i = .int .i64 I ∧ I = (k : Int) - 1 ∧ k ≤ 63 ∧ o = .slice oa on oc ∧ RowC wr oa on oc (words (num xs ^ (N / 2 ^ k))) ∧ (words (num xs ^ (N / 2 ^ k))).length ≤ 4096 ∧ Below w1.heap.size w1 wr) (fun _ i _ => (intOf i + 1).toNat)
          case atStart => exact ⟨63, _, _, _, _, rfl, by omega, Nat.le_refl _, rfl, by rw [hN63.out, Int.pow_zero, one_words]; exact rowC_one _ _ _, by rw [hN63.out, Int.pow_zero, one_words]; simp, (Below.refl _ _).alloc (Nat.le_refl _) _⟩
          case round =>
            obtain ⟨k, I, oa, on, oc, rfl, hI, hk, rfl, hor, hol, hnx⟩ := hrel
            cases k with
            | zero =>
              have e1 : N / 2 ^ 0 = N := by simp
              rw [e1] at hor hol
              have R := res_fits hol
              have E1 : Hid (powE (num xs) (N : Int) = 0) := by show _ = _; rw [P1.out]; exact R.2
              have E2 : Hid (powL (num xs) (N : Int) = words (num xs ^ N)) := by show _ = _; rw [P2.out]; exact R.1
              have hneg2 : I < 0 := by omega
              clear hI R e1 hol
              go_wp2
              go_ret2
              exact ⟨_, _, _, by rw [E1.out]; rfl, by rw [E2.out]; exact hor, hb1.trans (hnx.mono hb1.size)⟩
            | succ j =>
              have hI' : I = (j : Int) := by omega
              clear hI
              subst hI'
              obtain ⟨P, hP⟩ : ∃ P, P = num xs ^ (N / 2 ^ (j + 1)) := ⟨_, rfl⟩
              have HP : Hid (num xs ^ (N / 2 ^ (j + 1)) = P) := hP.symm
              rw [← hP] at hor hol
              have hP0 : 1 ≤ P := by rw [hP]; exact ipow_pos h1X _
              have hPn := num_words (show 0 ≤ P by omega)
              have dP := Dg_words P
              have hon := hor.1.1
              have hmul := ref3Mul_any (c1 := oc) (c2 := oc) hor.1 hor.1 dP dP (by omega) (by omega)
              rw [hPn] at hmul
              have hhd := half_div N j
              have hand := and_oneI ((N : Int) / 2 ^ j)
              have hcn : ((N : Int) / 2 ^ j) % 2 = ((N / 2 ^ j % 2 : Nat) : Int) := by
                rw [Int.natCast_emod, Int.natCast_ediv, p2cast]; rfl
              rw [hcn] at hand
              have hPP : P * P = num xs ^ (2 * (N / 2 ^ (j + 1))) := by rw [← HP.out, Nat.two_mul, Int.pow_add]
              have hPP0 : 1 ≤ P * P := by rw [hPP]; exact ipow_pos h1X _
              have hPPl := pow_len2 (show 0 ≤ P by omega) hol
              have hpast : ∀ Q, Q = num xs ^ (N / 2 ^ j) → 4096 < (words Q).length → Hid (powE (num xs) (N : Int) = 21) ∧ Hid (powL (num xs) (N : Int) = []) := by
                intro Q hQ hl
                have hh := res_huge hl
                have hq1 : 1 ≤ Q := by rw [hQ]; exact ipow_pos h1X _
                have r := res_above (A := Q) (B := num xs ^ N) (by omega) (by rw [hQ]; exact ipow_mono h1X (Nat.div_le_self _ _)) (by rw [hh.2]; omega)
                exact ⟨(by rw [P1.out]; exact r.1 : _ = _), (by rw [P2.out]; exact r.2.1 : _ = _)⟩
              have hj64 : j < 64 := by omega
              clear hP hcn
              by_cases hb : N / 2 ^ j % 2 = 1
              · rw [hb] at hand hhd
                have hand1 : bits BinOp.and IntKind.i64 ((N : Int) / 2 ^ j) 1 = 1 := hand
                have hQ : P * P * num xs = num xs ^ (N / 2 ^ j) := by rw [hhd, Int.pow_add, Int.pow_one, ← hPP]
                have hpast2 := hpast _ hQ
                have HQ : Hid (num xs ^ (N / 2 ^ j) = P * P * num xs) := hQ.symm
                have hPPn := num_words (show 0 ≤ P * P by omega)
                have dPP := Dg_words (P * P)
                clear hand hhd hPP hQ hpast
                generalize P * P = PP at *
                generalize (words P).length = lq at *
                go_wp2_with fail
                refine hmul.mono ?_
                rintro e w2 ⟨v, rfl, hv, hb2⟩
                obtain ⟨va2, vc2, rfl, hvr2⟩ := hv.readsC
                have hB2 := hnx.trans (hb2.mono hnx.size)
                have hva := hvr.later hB2
                have hm2 := ref3Mul_any (c1 := vc2) (c2 := vc) hvr2.1 hva.1 dPP dX (by omega) (by have := HL.out; omega)
                rw [hPPn, nX] at hm2
                clear hmul hor hv hvr2 hva
                generalize (words PP).length = lp at *
                go_wp2_with fail
                refine hm2.mono ?_
                rintro e w3 ⟨v3, rfl, hv3, hb3⟩
                obtain ⟨va3, vc3, rfl, hvr3⟩ := hv3.readsC
                have hB3 := hB2.trans (hb3.mono hB2.size)
                clear hm2 hv3
                by_cases hbig : 4096 < (words (PP * num xs)).length
                · obtain ⟨E1, E2⟩ := hpast2 hbig
                  clear hpast2
                  generalize (words (PP * num xs)).length = lr at *
                  go_wp2
                  go_ret2
                  exact ⟨none, 0, 0, by rw [E1.out]; rfl, by rw [E2.out]; exact rowC_nil _, hb1.trans (hB3.mono hb1.size)⟩
                · have hsm : (words (num xs ^ (N / 2 ^ j))).length ≤ 4096 := by rw [HQ.out]; omega
                  have hr3 : RowC w3 va3 (words (PP * num xs)).length vc3 (words (num xs ^ (N / 2 ^ j))) := by rw [HQ.out]; exact hvr3
                  clear hpast2 hvr3
                  generalize (words (PP * num xs)).length = lr at *
                  go_wp2
                  go_roundw
                  case rel => exact ⟨j, _, _, _, _, rfl, rfl, by omega, rfl, hr3, hsm, hB3⟩
                  case measure => simp [intOf]
              · have hb0 : N / 2 ^ j % 2 = 0 := by omega
                rw [hb0] at hand hhd
                have hand1 : bits BinOp.and IntKind.i64 ((N : Int) / 2 ^ j) 1 = 0 := hand
                have hQ : P * P = num xs ^ (N / 2 ^ j) := by rw [hhd, Nat.add_zero, ← hPP]
                have hpast2 := hpast _ hQ
                have HQ : Hid (num xs ^ (N / 2 ^ j) = P * P) := hQ.symm
                clear hand hhd hPP hQ hpast
                generalize P * P = PP at *
                generalize (words P).length = lq at *
                go_wp2_with fail
                refine hmul.mono ?_
                rintro e w2 ⟨v, rfl, hv, hb2⟩
                obtain ⟨va2, vc2, rfl, hvr2⟩ := hv.readsC
                have hB2 := hnx.trans (hb2.mono hnx.size)
                clear hmul hor hv
                by_cases hbig : 4096 < (words PP).length
                · obtain ⟨E1, E2⟩ := hpast2 hbig
                  clear hpast2 hvr2
                  generalize (words PP).length = lr at *
                  go_wp2
                  go_ret2
                  exact ⟨none, 0, 0, by rw [E1.out]; rfl, by rw [E2.out]; exact rowC_nil _, hb1.trans (hB2.mono hb1.size)⟩
                · have hsm : (words (num xs ^ (N / 2 ^ j))).length ≤ 4096 := by rw [HQ.out]; omega
                  have hr3 : RowC w2 va2 (words PP).length vc2 (words (num xs ^ (N / 2 ^ j))) := by rw [HQ.out]; exact hvr2
                  clear hpast2 hvr2
                  generalize (words PP).length = lr at *
                  go_wp2
                  go_roundw
                  case rel => exact ⟨j, _, _, _, _, rfl, rfl, by omega, rfl, hr3, hsm, hB2⟩
                  case measure => simp [intOf]
end Go.Proofs.YtalglldkjbinbaaGreat

