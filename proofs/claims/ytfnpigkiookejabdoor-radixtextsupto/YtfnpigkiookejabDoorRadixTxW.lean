/- RadixTexts' walk. -/
import Derived.Test.YtfnpigkiookejabDoorBaseI
namespace Go.Proofs.YtfnpigkiookejabDoor
open Go.ChangeShapes Go.WideShapes Go.ChangeAt Go.RowKit
open Na Ar
set_option linter.unusedVariables false
theorem roomQ {a : Option Addr} {n cap : Nat} {xs : List Int} {w : World} (hrow : RowC w a n cap xs) (hn : n ≤ 3000000) :
    Calls Tryd.prog 4 #[.slice a n cap] w fun e w' => ∃ la lc, e = .returned (.slice la (n + 2) lc) ∧ (RowC w' la (n + 2) lc (xs ++ [42405, 42406]) ∧ RowC w' la n lc xs ∧ n ≤ lc) ∧ Below w.heap.size w w' := by
  have hl := hrow.1.1
  refine (roomAll_any hrow.1 hn).mono ?_
  rintro e w' ⟨v, rfl, hv, hb⟩
  obtain ⟨la, lc, rfl, hr⟩ := hv.readsC
  have e2 : (xs ++ [42405, 42406]).length = n + 2 := by simp [hl]
  rw [e2] at hr ⊢
  have hc := hr.cut (m := n) (by omega)
  have ht : (xs ++ [42405, 42406]).take n = xs := by rw [List.take_append, List.take_of_length_le (by omega)]; simp [hl]
  rw [ht] at hc
  exact ⟨la, lc, rfl, ⟨hr, hc, hc.2.1⟩, hb⟩
set_option maxHeartbeats 12800000 in
set_option maxRecDepth 100000 in
theorem texts_walk {a0 : Option Addr} {len0 cap0 : Nat} {x0 : List Int} {b : Int} {w : World} (hal : ∀ w, Calls Tryd.prog 10 #[] w fun e w' => e = .returned (.bool true) ∧ Below w.heap.size w w') (hx : RowC w a0 len0 cap0 x0) (hw0 : Ws x0) (s0 : len0 ≤ 1048576) :
    Calls Tryd.prog 3 #[.slice a0 len0 cap0, .int .i64 b] w fun e w' => e = .returned (.bool true) ∧ Below w.heap.size w w' := by
  have h0 := num_nonneg hw0
  have hlen := hx.1.1
  have hl4 : (words (num x0)).length ≤ 1048576 := by have := words_len hw0; omega
  have HLX : Hid (x0.length = len0) := hlen
  clear hlen
  have hB := Below.refl w.heap.size w
  go_enter Tryd.func3, Tryd.ntmps3
  go_wp2_with fail
  refine (roomQ hx (by omega)).mono ?_
  rintro e wn ⟨la, lc, rfl, ⟨hr, hxa, hlc⟩, hbn⟩
  replace hx := hx.later hbn
  replace hB := hB.trans (hbn.mono hB.size)
  clear hbn
  go_wp2_with fail
  refine (textCode_any hxa hw0 (by omega)).mono ?_
  rintro e wn ⟨t1, c1, rfl, ht1, hbn⟩
  replace hx := hx.later hbn
  replace hr := hr.later hbn
  replace hxa := hxa.later hbn
  replace hB := hB.trans (hbn.mono hB.size)
  clear hbn
  go_wp2_with fail
  refine (refTextCode_any hx hw0 (by omega)).mono ?_
  rintro e wn ⟨t2, c2, rfl, ht2, hbn⟩
  replace hx := hx.later hbn
  replace hr := hr.later hbn
  replace hxa := hxa.later hbn
  replace hB := hB.trans (hbn.mono hB.size)
  clear hbn
  obtain ⟨rfl, rfl⟩ := txIs_uniq ht1 ht2
  clear ht1 ht2
  go_wp2_with fail
  refine (countAll_any hxa hw0 (by omega)).mono ?_
  rintro e wn ⟨d1, rfl, hd1, hbn⟩
  replace hx := hx.later hbn
  replace hr := hr.later hbn
  replace hxa := hxa.later hbn
  replace hB := hB.trans (hbn.mono hB.size)
  clear hbn
  go_wp2_with fail
  refine (trim10_any hxa hw0 (by omega)).mono ?_
  rintro e wn ⟨v, U, k, rfl, hU, hXU, hz, hnz, ho, hbn⟩
  obtain ⟨ya, yc, rfl, hy⟩ := ho.readsC
  replace hx := hx.later hbn
  replace hr := hr.later hbn
  replace hB := hB.trans (hbn.mono hB.size)
  clear hbn hxa ho
  have HTU : Hid (0 ≤ U ∧ num x0 = U * 10 ^ k ∧ (num x0 = 0 → k = 0) ∧ (0 < num x0 → U % 10 ≠ 0)) := ⟨hU, hXU, hz, hnz⟩
  clear hU hXU hz hnz
  obtain ⟨yl, hyl⟩ : ∃ yl, yl = (words U).length := ⟨_, rfl⟩
  have HYL : Hid (yl = (words U).length) := hyl
  rw [← hyl] at hy ⊢
  clear hyl
  go_wp2_with fail
  refine (refTrim4_any hx hw0 (by omega)).mono ?_
  rintro e wn ⟨za, zl, zc, V, m, rfl, ⟨hzr, htr, hvz⟩, hbn⟩
  replace hx := hx.later hbn
  replace hr := hr.later hbn
  replace hy := hy.later hbn
  replace hB := hB.trans (hbn.mono hB.size)
  clear hbn
  have hsame : k = m ∧ words U = words V := by
    obtain ⟨q1, q2, q3, q4⟩ := HTU.out
    obtain ⟨p1, p2, p3⟩ := htr
    by_cases z : num x0 = 0
    · have k0 := q3 z
      have m0 := p3 z
      subst k0 m0
      rw [Int.pow_zero, Int.mul_one] at q2 p2
      exact ⟨rfl, by rw [← q2, ← p2]⟩
    · obtain ⟨e1, e2⟩ := trim_uniq (q2.symm.trans p2) (q4 (by omega)) (hvz (by omega))
      exact ⟨e1, by rw [e2]⟩
  obtain ⟨rfl, hUV⟩ := hsame
  have hULe : (words U).length ≤ 1048576 := by
    obtain ⟨q1, q2, _, _⟩ := HTU.out
    have p : (1 : Int) ≤ 10 ^ k := Int.pow_pos (by omega)
    have := Int.mul_le_mul_of_nonneg_left p q1
    exact Nat.le_trans (words_mono q1 (by omega)) hl4
  have HUV : Hid (words U = words V) := hUV
  have HUL : Hid ((words U).length ≤ 1048576) := hULe
  have HVL : Hid ((words V).length ≤ 1048576) := by show _ ≤ _; rw [← hUV]; exact hULe
  clear hUV hULe htr hvz HTU hl4
  go_wp2_with fail
  refine (hal _).mono ?_
  rintro e wn ⟨rfl, hbn⟩
  replace hx := hx.later hbn
  replace hr := hr.later hbn
  replace hy := hy.later hbn
  replace hzr := hzr.later hbn
  replace hB := hB.trans (hbn.mono hB.size)
  clear hbn
  go_wp2_with fail
  refine (refCount4_any hx hw0 (by omega)).mono ?_
  rintro e wn ⟨d2, rfl, hd2, hbn⟩
  replace hx := hx.later hbn
  replace hr := hr.later hbn
  replace hy := hy.later hbn
  replace hzr := hzr.later hbn
  replace hB := hB.trans (hbn.mono hB.size)
  clear hbn
  have hdd := hd2 d1 hd1
  subst hdd
  clear hd1 hd2
  go_wp2_with fail
  refine (sameN hy hzr (Nat.le_trans HUL.out (by omega)) (Nat.le_trans HVL.out (by omega)) HUV.out).mono ?_
  rintro e wn ⟨rfl, hbn⟩
  replace hx := hx.later hbn
  replace hr := hr.later hbn
  replace hB := hB.trans (hbn.mono hB.size)
  clear hbn hy hzr
  go_wp2_with fail
  refine (roomQ hx (by omega)).mono ?_
  rintro e wn ⟨ra, rc, rfl, ⟨hr2, _, _⟩, hbn⟩
  replace hr := hr.later hbn
  replace hB := hB.trans (hbn.mono hB.size)
  clear hbn
  go_wp2_with fail
  refine (sameN hr hr2 (by simp [HLX.out]; omega) (by simp [HLX.out]; omega) rfl).mono ?_
  rintro e wn ⟨rfl, hbn⟩
  replace hB := hB.trans (hbn.mono hB.size)
  clear hbn hr hr2
  go_wp2
  go_ret
  exact ⟨rfl, hB⟩
end Go.Proofs.YtfnpigkiookejabDoor
