/- package rat: Sign, Cmp, New, Int, Floor, where nothing is too long. -/
import Derived.Test.YtopcdpeepchgfacGreatDoorRatD
namespace Go.Proofs.YtopcdpeepchgfacGreatDoor
open Go.ChangeShapes Go.WideShapes Go.ChangeAt Go.RowKit
open Na Ar
set_option linter.unusedVariables false
section
variable {w : World} {s1 s2 : Bool} {a1 b1 a2 b2 : Option Addr} {n1 c1 m1 d1 n2 c2 m2 d2 : Nat} {p q : Rat} {k l : Nat}
set_option maxHeartbeats 1600000 in
theorem rSign_any {K : Int} (h1 : Rt w s1 a1 n1 c1 b1 m1 d1 p) (hn : n1 ≤ 4000000) (hK : sgnR p = K) :
    Calls Tryz.prog 25 #[.agg #[.bool s1, .slice a1 n1 c1, .slice b1 m1 d1]] w fun e w' => e = .returned (.int .i64 K) ∧ Below w.heap.size w w' := by
  have hb0 := alloc_below (w := w) (.cells #[.bool s1, .slice a1 n1 c1, .slice b1 m1 d1] 25)
  have st := st_new w (.bool s1) (.slice a1 n1 c1) (.slice b1 m1 d1) 25
  have bt := natBits_any (h1.nu.later hb0) (Dg_words _) hn
  rw [num_words (by omega)] at bt
  have hs := h1.sgn
  clear h1
  by_cases h0 : p.num = 0
  · have HK : Hid (0 = K) := by show _ = _; rw [← hK]; unfold sgnR; rw [if_pos h0]
    have e : (p.num.natAbs : Int) = 0 := by omega
    rw [e, bits_none] at bt
    clear hK h0 e hs
    go_enter Tryz.func25, Tryz.ntmps25
    go_wp2_with fail
    refine bt.mono ?_
    rintro e w1 ⟨rfl, hb1⟩
    go_wp2
    go_ret
    exact ⟨ret_i HK.out, hb0.trans (hb1.mono hb0.size)⟩
  · obtain ⟨j, hj, _⟩ := bits_some (N := (p.num.natAbs : Int)) (by omega)
    rw [hj] at bt
    have tj : (((j : Int) + 1) == 0) = false := beq_no (by omega)
    by_cases hl : p.num < 0
    · have HK : Hid (-1 = K) := by show _ = _; rw [← hK]; unfold sgnR; rw [if_neg h0, if_pos hl]
      have hs1 : s1 = true := by rw [hs]; exact decide_eq_true hl
      subst hs1
      clear hK h0 hl hs hj
      go_enter Tryz.func25, Tryz.ntmps25
      go_wp2_with fail
      refine bt.mono ?_
      rintro e w1 ⟨rfl, hb1⟩
      obtain ⟨x0, x1, x2⟩ := (st.later hb1).cells
      go_wp2
      go_ret
      exact ⟨ret_i HK.out, hb0.trans (hb1.mono hb0.size)⟩
    · have HK : Hid (1 = K) := by show _ = _; rw [← hK]; unfold sgnR; rw [if_neg h0, if_neg hl]
      have hs1 : s1 = false := by rw [hs]; exact decide_eq_false hl
      subst hs1
      clear hK h0 hl hs hj
      go_enter Tryz.func25, Tryz.ntmps25
      go_wp2_with fail
      refine bt.mono ?_
      rintro e w1 ⟨rfl, hb1⟩
      obtain ⟨x0, x1, x2⟩ := (st.later hb1).cells
      go_wp2
      go_ret
      exact ⟨ret_i HK.out, hb0.trans (hb1.mono hb0.size)⟩
theorem isNaN_int (x : Int) (w : World) : Calls Tryz.prog 154 #[.int .i64 x] w fun e w' => e = .returned (.bool false) ∧ w' = w := by
  have t : (x != x) = false := by simp
  go_enter Tryz.func154, Tryz.ntmps154
  go_wp2
  go_ret
  exact ⟨by simp, rfl⟩
theorem compare_int (x y : Int) {K : Int} (hxy : x ≠ y) (hK : (if x < y then (-1 : Int) else 1) = K) (w : World) : Calls Tryz.prog 122 #[.int .i64 x, .int .i64 y] w fun e w' => e = .returned (.int .i64 K) ∧ w' = w := by
  by_cases h : x < y
  · rw [if_pos h] at hK
    subst hK
    go_enter Tryz.func122, Tryz.ntmps122
    go_wp2_with (go_at_call 154; refine (isNaN_int _ _).mono ?_; rintro e w' ⟨rfl, rfl⟩)
    go_ret
    exact ⟨rfl, rfl⟩
  · rw [if_neg h] at hK
    have h' : y < x := by omega
    subst hK
    go_enter Tryz.func122, Tryz.ntmps122
    go_wp2_with (go_at_call 154; refine (isNaN_int _ _).mono ?_; rintro e w' ⟨rfl, rfl⟩)
    go_ret
    exact ⟨rfl, rfl⟩
end
end Go.Proofs.YtopcdpeepchgfacGreatDoor
