/- package quot: DivMod. -/
import Derived.Test.YthjfjpdgjhidfabGreatQuotDiv
import Derived.Test.YthjfjpdgjhidfabGreatQuotSmall
namespace Go.Proofs.YthjfjpdgjhidfabGreat
open Go.ChangeShapes Go.WideShapes Go.ChangeAt Go.RowKit
open Na Ar
set_option linter.unusedVariables false

theorem apart_of {w1 w2 : World} {b1 b2 : Nat} {t1 t2 : TypeId} {v1 v2 : Value} {xs ys : List Int} (h1 : Own .u64 w1 b1 t1 v1 xs) (h2 : Own .u64 w2 b2 t2 v2 ys) (h : w1.heap.size ≤ b2) : Apart v1 v2 := by
  intro g g1 g2
  have a := h1.row.lt g g1
  have b := h2.row.lt g g2
  omega
theorem apart_nil {v2 : Value} : Apart (.slice none 0 0) v2 := by
  intro g g1
  simp [Value.ownBlock] at g1
theorem words_two {N : Int} (h : 18446744073709551616 ≤ N) : 2 ≤ (words N).length := by
  rcases words_cases (N := N) (by omega) with ⟨e, _⟩ | ⟨_, e, _⟩ | ⟨_, e⟩
  · omega
  · omega
  · exact e

set_option maxHeartbeats 3200000 in
set_option maxRecDepth 100000 in
theorem divMod_any {a b : Option Addr} {m n c1 c2 : Nat} {xs ys : List Int} {w : World} (hr1 : RowC w a m c1 xs) (hr2 : RowC w b n c2 ys) (hx : Ws xs) (hy : Ws ys) (hm : m ≤ 3800000) (hn : n ≤ 3800000) (hY : 0 < num ys) :
    Calls Tryz.prog 37 #[.slice a m c1, .slice b n c2] w fun e w' => ∃ v1 v2, e = .returned (.tuple #[v1, v2, .int .i64 0]) ∧ Own .u64 w' w.heap.size 53 v1 (words (num xs / num ys)) ∧ Own .u64 w' w.heap.size 53 v2 (words (num xs % num ys)) ∧ Below w.heap.size w w' ∧ Apart v1 v2 := by
  have p1 := num_nonneg hx
  have v1 := num_words p1
  have v2 := num_words (Int.le_of_lt hY)
  have d1 := Dg_words (num xs)
  have d2 := Dg_words (num ys)
  go_enter Tryz.func37, Tryz.ntmps37
  go_wp2_with fail
  refine (trim_any hr1 hx (by omega)).mono ?_
  rintro e w' ⟨rfl, r1, _, l1, rfl⟩
  go_wp2_with fail
  refine (trim_any hr2 hy (by omega)).mono ?_
  rintro e w' ⟨rfl, r2, _, l2, rfl⟩
  clear hr1 hr2
  have hword := natWord_any r2 d2 (by omega)
  rw [v2] at hword
  obtain ⟨X, hX⟩ : ∃ X, X = num xs := ⟨_, rfl⟩
  obtain ⟨Y, hYe⟩ : ∃ Y, Y = num ys := ⟨_, rfl⟩
  have HX : Hid (num xs = X) := hX.symm
  have HY : Hid (num ys = Y) := hYe.symm
  rw [← hX] at v1 d1 r1 p1 l1 ⊢
  rw [← hYe] at v2 d2 r2 hY l2 hword ⊢
  clear hX hYe
  by_cases h1 : Y < 18446744073709551616
  · have e1 : wordV Y = Y := by unfold wordV; rw [if_pos h1]
    have e2 : wordB Y = true := decide_eq_true h1
    rw [e1, e2] at hword
    have hsm := fun (w1 : World) (h : Below w.heap.size w w1) => small_any (d := Y) (r1.later h) d1 (by omega) ⟨by omega, h1⟩ (by omega)
    rw [v1] at hsm
    have hrem : 0 ≤ X % Y ∧ X % Y < 18446744073709551616 := by
      have := Int.emod_nonneg X (show Y ≠ 0 by omega)
      have := Int.emod_lt_of_pos X hY
      omega
    have hfr := fun w1 => natFrom_any hrem w1
    generalize (words X).length = lx at *
    generalize (words Y).length = ly at *
    clear e1 e2
    go_wp2_with fail
    refine hword.mono ?_
    rintro e w1 ⟨rfl, hb1⟩
    go_wp2_with fail
    refine (hsm w1 hb1).mono ?_
    rintro e w2 ⟨q, rfl, hq, hb2⟩
    have hB2 := hb1.trans (hb2.mono hb1.size)
    clear hword hsm
    obtain ⟨R, hR⟩ : ∃ R, R = X % Y := ⟨_, rfl⟩
    have HR : Hid (X % Y = R) := hR.symm
    rw [← hR] at hfr hrem ⊢
    clear hR
    go_wp2_with fail
    refine (hfr w2).mono ?_
    rintro e w3 ⟨r, rfl, hr, hb3⟩
    have hq3 := (hq.later hb3).wider hb1.size
    have hr3 := hr.wider hB2.size
    have hap := apart_of hq hr (Nat.le_refl _)
    have hB3 := hB2.trans (hb3.mono hB2.size)
    clear hfr hb2 hb3
    go_wp2
    go_ret3
    exact ⟨_, _, rfl, by rw [HX.out, HY.out]; exact hq3, by rw [HX.out, HY.out, HR.out]; exact hr3, hB3, hap⟩
  · have e1 : wordV Y = 0 := by unfold wordV; rw [if_neg h1]
    have e2 : wordB Y = false := decide_eq_false h1
    rw [e1, e2] at hword
    have hcmp := fun (w1 : World) (h : Below w.heap.size w w1) => natCmp_any (r1.later h) (r2.later h) d1 d2 (by omega) (by omega)
    rw [v1, v2] at hcmp
    have hly := words_two (N := Y) (by omega)
    by_cases hlt : X < Y
    · have ho := ordN_lt hlt
      rw [ho] at hcmp
      have q0 : Hid (words (X / Y) = []) := by
        show _ = _
        rw [Int.ediv_eq_zero_of_lt p1 hlt]
        exact List.length_eq_zero_iff.mp ((words_nil (Int.le_refl _)).mpr rfl)
      have q1 : Hid (X % Y = X) := Int.emod_eq_of_lt p1 hlt
      have hno := fun (w1 : World) (h : Below w.heap.size w w1) => natNorm_any (r1.later h) d1 (by omega)
      rw [v1] at hno
      generalize (words X).length = lx at *
      generalize (words Y).length = ly at *
      clear e1 e2 ho
      go_wp2_with fail
      refine hword.mono ?_
      rintro e w1 ⟨rfl, hb1⟩
      go_wp2_with fail
      refine (hcmp w1 hb1).mono ?_
      rintro e w2 ⟨rfl, hb2⟩
      have hB2 := hb1.trans (hb2.mono hb1.size)
      clear hcmp hword
      go_wp2_with fail
      refine (hno w2 hB2).mono ?_
      rintro e w3 ⟨r, rfl, hr, hb3⟩
      have hr3 := hr.wider hB2.size
      have hB3 := hB2.trans (hb3.mono hB2.size)
      clear hno
      go_wp2
      go_ret3
      exact ⟨_, _, rfl, by rw [HX.out, HY.out, q0.out]; exact own_nil _ _ _ _, by rw [HX.out, HY.out, q1.out]; exact hr3, hB3, apart_nil⟩
    · have ho : ¬ ordN X Y < 0 := by
        unfold ordN; rw [if_neg hlt]; split <;> omega
      have hll : (words Y).length ≤ (words X).length := words_mono (Int.le_of_lt hY) (by omega)
      obtain ⟨k, hk⟩ : ∃ k, (words Y).length = k + 2 := ⟨(words Y).length - 2, by omega⟩
      obtain ⟨J, hJ⟩ : ∃ J, (words X).length = J + (k + 2) := ⟨(words X).length - (k + 2), by omega⟩
      rw [hk] at r2 l2 hll hly hword hcmp ⊢
      rw [hJ] at r1 l1 hll hcmp ⊢
      have hdv := fun (w1 : World) (h : Below w.heap.size w w1) => divide_any (r1.later h) (r2.later h) p1 hY (by omega)
      generalize ordN X Y = o at *
      clear e1 e2 hk hJ
      go_wp2_with fail
      refine hword.mono ?_
      rintro e w1 ⟨rfl, hb1⟩
      go_wp2_with fail
      refine (hcmp w1 hb1).mono ?_
      rintro e w2 ⟨rfl, hb2⟩
      have hB2 := hb1.trans (hb2.mono hb1.size)
      clear hcmp hword
      go_wp2_with fail
      refine (hdv w2 hB2).mono ?_
      rintro e w3 ⟨q, r, rfl, hq, hr, hb3, hap⟩
      have hq3 := hq.wider hB2.size
      have hr3 := hr.wider hB2.size
      have hB3 := hB2.trans (hb3.mono hB2.size)
      clear hdv
      go_wp2
      go_ret3
      exact ⟨_, _, rfl, by rw [HX.out, HY.out]; exact hq3, by rw [HX.out, HY.out]; exact hr3, hB3, hap⟩

set_option maxHeartbeats 3200000 in
set_option maxRecDepth 100000 in
/-- by zero -/
theorem divModZero_any {a b : Option Addr} {m n c1 c2 : Nat} {xs ys : List Int} {w : World} (hr1 : RowC w a m c1 xs) (hr2 : RowC w b n c2 ys) (hx : Ws xs) (hy : Ws ys) (hm : m ≤ 3800000) (hn : n ≤ 3800000) (hY : num ys = 0) :
    Calls Tryz.prog 37 #[.slice a m c1, .slice b n c2] w fun e w' => ∃ v1 v2, e = .returned (.tuple #[v1, v2, .int .i64 30]) ∧ Own .u64 w' w.heap.size 53 v1 [] ∧ Own .u64 w' w.heap.size 53 v2 [] ∧ Below w.heap.size w w' ∧ Apart v1 v2 := by
  have d2 := Dg_words (num ys)
  have v2 := num_words (num_nonneg hy)
  have w0 : Hid (words 0 = []) := List.length_eq_zero_iff.mp ((words_nil (Int.le_refl _)).mpr rfl)
  go_enter Tryz.func37, Tryz.ntmps37
  go_wp2_with fail
  refine (trim_any hr1 hx (by omega)).mono ?_
  rintro e w' ⟨rfl, r1, _, l1, rfl⟩
  go_wp2_with fail
  refine (trim_any hr2 hy (by omega)).mono ?_
  rintro e w' ⟨rfl, r2, _, l2, rfl⟩
  clear hr1 hr2
  have hword := natWord_any r2 d2 (by omega)
  rw [v2, hY] at hword
  have e1 : wordV 0 = 0 := rfl
  have e2 : wordB 0 = true := rfl
  rw [e1, e2] at hword
  have hfr := fun w1 => natFrom_any (v := 0) (by omega) w1
  rw [w0.out] at hfr
  rw [hY]
  generalize (words (num xs)).length = lx at *
  generalize (words 0).length = ly at *
  clear e1 e2 r1 r2
  go_wp2_with fail
  refine hword.mono ?_
  rintro e w1 ⟨rfl, hb1⟩
  go_wp2_with fail
  refine (smallZero_any w1).mono ?_
  rintro e w2 ⟨rfl, rfl⟩
  clear hword
  go_wp2_with fail
  refine (hfr w1).mono ?_
  rintro e w3 ⟨r, rfl, hr, hb3⟩
  have hr3 := hr.wider hb1.size
  have hB3 := hb1.trans (hb3.mono hb1.size)
  clear hfr
  go_wp2
  go_ret3
  exact ⟨_, _, rfl, own_nil _ _ _ _, hr3, hB3, apart_nil⟩
end Go.Proofs.YthjfjpdgjhidfabGreat
