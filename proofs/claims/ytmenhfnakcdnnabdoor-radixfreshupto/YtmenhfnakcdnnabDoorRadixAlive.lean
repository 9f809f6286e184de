/- plumblaw04.alive. -/
import Derived.Test.YtmenhfnakcdnnabDoorRadixTextU
namespace Go.Proofs.YtmenhfnakcdnnabDoor
open Go.ChangeShapes Go.WideShapes Go.ChangeAt Go.RowKit
open Na Ar
set_option linter.unusedVariables false
namespace Na
def litP : ByteArray := ⟨#[49, 56, 52, 52, 54, 55, 52, 52, 48, 55, 51, 55, 48, 57, 53, 53, 49, 54, 49, 54]⟩
def litT : ByteArray := ⟨#[49, 48, 48, 48, 48, 48, 48, 48, 48, 48, 48, 48, 48, 48, 48, 48, 48]⟩
theorem litP_size : litP.size = 20 := rfl
theorem litP_num : numB litP 10 20 = 18446744073709551616 := by decide
theorem litP_dig : ∀ i, i < 20 → dgt litP i < 10 := by decide
theorem two_words {x y : Int} (hx : U x) (hy : U y) (h : y ≠ 0) : words (x + 18446744073709551616 * y) = [x, y] := by
  have w : Ws [x, y] := (Dg.one hx).append (Dg.one hy)
  have s := words_strip w
  have n : num [x, y] = x + 18446744073709551616 * y := by simp [num, val]
  rw [n] at s
  rw [← s]
  exact strip_end [x] y h
theorem alive_w1 : words 18446744073709551616 = [0, 1] := by
  have := two_words (x := 0) (y := 1) (by unfold U; omega) (by unfold U; omega) (by omega)
  simpa using this
theorem alive_w2 : words ((10 : Int) ^ 20) = [7766279631452241920, 5] := by
  have := two_words (x := 7766279631452241920) (y := 5) (by unfold U; omega) (by unfold U; omega) (by omega)
  have e : (10 : Int) ^ 20 = 7766279631452241920 + 18446744073709551616 * 5 := by decide
  rw [e]; exact this
theorem alive_t : bytesOf (laidD 16 17 18446744073709551616) = litT.data.toList := by decide
end Na
set_option maxHeartbeats 3200000 in
set_option maxRecDepth 100000 in
theorem alive_any (w : World) : Calls Tryd.prog 10 #[] w fun e w' => e = .returned (.bool true) ∧ Below w.heap.size w w' := by
  have hp := parse_good litP 10 (by omega) (by omega) (by rw [litP_size]; omega) (by rw [litP_size]; omega) (by rw [litP_size]; exact litP_dig) w
  rw [litP_size, litP_num] at hp
  unfold ParsePost at hp
  rw [alive_w1] at hp
  have ht := fun w9 (h : RowC w9 (some ⟨w9.heap.size - 1, 0, none⟩) 2 2 [0, 1]) => h
  have n01 : num [0, 1] = 18446744073709551616 := by decide
  have w01 : Ws [0, 1] := (Dg.one (by omega)).append (Dg.one (by omega))
  have h10 := fun w => ten_any 20 (by omega) (by omega) w
  have e1 : pwE 78913 20 = 0 := by decide
  have e2 : pwL 10 78913 20 = [7766279631452241920, 5] := by
    unfold pwL
    rw [if_neg (by omega), if_neg (by omega)]
    exact alive_w2
  rw [e1, e2] at h10
  clear e1 e2 ht
  go_enter Tryd.func10, Tryd.ntmps10
  go_wp2_with fail
  unfold litP at hp
  refine hp.mono ?_
  intro e w1 hpost
  rcases hpost with ⟨_, v, rfl, hv, hb1⟩ | ⟨hbig, _⟩
  · obtain ⟨va, vc, rfl, hvr⟩ := hv.readsC
    have hlit := rowC_two w1 0 1 35
    have hba : Below w1.heap.size w1 (w1.alloc (.cells #[.int .u64 0, .int .u64 1] 35)) := (Below.refl _ _).alloc (Nat.le_refl _) _
    have htx := text_any (b := 16) hlit w01 (by omega) (by omega) (by omega) (by rw [n01, alive_w1]; simp) (by rw [n01]; omega)
    rw [n01] at htx
    have hvr2 := hvr.later hba
    have hB2 := hb1.trans (hba.mono hb1.size)
    clear hp hv hvr
    go_wp2_with fail
    refine htx.mono ?_
    rintro e w2 ⟨t, rfl, hti, hb2⟩
    have htl := text_bytes (d := 16) hti (by omega) (by omega) (by decide) (by decide)
    rw [alive_t] at htl
    have htt : t = litT := by
      cases t with
      | mk d => cases hl : litT with
        | mk d2 => rw [hl] at htl; simp at htl; rw [htl]
    unfold litT at htt
    subst htt
    have hvr3 := hvr2.later hb2
    have hB3 := hB2.trans (hb2.mono hB2.size)
    clear htx hti htl hvr2 hlit
    go_wp2_with fail
    refine (h10 w2).mono ?_
    rintro e w3 ⟨y, rfl, hy, hb3⟩
    obtain ⟨ya, yc, rfl, hyr⟩ := hy.readsC
    have hvr4 := hvr3.later hb3
    have hB4 := hB3.trans (hb3.mono hB3.size)
    have hl4 := rowC_two w3 0 1 35
    have hba4 : Below w3.heap.size w3 (w3.alloc (.cells #[.int .u64 0, .int .u64 1] 35)) := (Below.refl _ _).alloc (Nat.le_refl _) _
    have hs1 := sameN (hvr4.later hba4) hl4 (by simp) (by simp) rfl
    have hyr4 := hyr.later hba4
    have hB5 := hB4.trans (hba4.mono hB4.size)
    clear h10 hy hyr hvr3 hvr4 hl4
    go_wp2_with fail
    refine hs1.mono ?_
    rintro e w4 ⟨rfl, hb4⟩
    have hyr5 := hyr4.later hb4
    have hB6 := hB5.trans (hb4.mono hB5.size)
    have hl5 := rowC_two w4 7766279631452241920 5 35
    have hba5 : Below w4.heap.size w4 (w4.alloc (.cells #[.int .u64 7766279631452241920, .int .u64 5] 35)) := (Below.refl _ _).alloc (Nat.le_refl _) _
    have hs2 := sameN (hyr5.later hba5) hl5 (by simp) (by simp) rfl
    have hB7 := hB6.trans (hba5.mono hB6.size)
    clear hs1 hyr4 hyr5 hl5
    go_wp2_with fail
    refine hs2.mono ?_
    rintro e w5 ⟨rfl, hb5⟩
    have hB8 := hB7.trans (hb5.mono hB7.size)
    clear hs2
    go_wp2
    go_ret
    exact ⟨rfl, hB8⟩
  · simp at hbig
end Go.Proofs.YtmenhfnakcdnnabDoor
