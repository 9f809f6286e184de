/- the walk of PowerFives. -/
import Derived.Test.YtailnlpooalenaaPowS
namespace Go.Proofs.Ytailnlpooalenaa
open Go.ChangeShapes Go.WideShapes Go.ChangeAt Go.RowKit
open Na Ar
set_option linter.unusedVariables false
set_option maxHeartbeats 3200000 in
set_option maxRecDepth 100000 in
theorem fives_walk {e : Int} (w : World) :
    Calls Try.prog 8 #[.int .i64 e] w fun r w' => r = .returned (.bool true) ∧ Below w.heap.size w w' := by
  have ha := fun w => alive8_any w
  by_cases h : inT e
  · have h' := h
    unfold inT at h'
    have l1 := fun w => log2_in h w
    have l2 := fun w => r8log2_in h w
    have l3 := fun w => log10_in (e := e) ⟨by omega, by omega⟩ w
    have l4 := fun w => r8log10_in (e := e) ⟨by omega, by omega⟩ w
    have f1 := fun w => five8_in h w
    have f2 := fun w => r8five_in h w
    have f3 := fun w => whole8_in h w
    have f4 := fun w => r8whole_in h w
    have f5 := fun w => above8_in h w
    have f6 := fun w => r8above_in h w
    generalize e * 1741647 / 524288 = K at *
    generalize e * 315653 / 1048576 = J at *
    generalize pV e / 18446744073709551616 = H at *
    generalize pV e % 18446744073709551616 = L at *
    generalize abV e / 18446744073709551616 = H' at *
    generalize abV e % 18446744073709551616 = L' at *
    generalize pX e = X at *
    generalize pW e = W at *
    clear h
    go_enter Try.func8, Try.ntmps8
    go_wp2_with fail
    refine (l1 _).mono ?_
    rintro r wn ⟨rfl, hb⟩
    have hB := hb
    clear hb
    go_wp2_with fail
    refine (l2 _).mono ?_
    rintro r wn ⟨rfl, hb⟩
    have hB := hB.trans (hb.mono hB.size)
    clear hb
    go_wp2_with fail
    refine (l3 _).mono ?_
    rintro r wn ⟨rfl, hb⟩
    have hB := hB.trans (hb.mono hB.size)
    clear hb
    go_wp2_with fail
    refine (l4 _).mono ?_
    rintro r wn ⟨rfl, hb⟩
    have hB := hB.trans (hb.mono hB.size)
    clear hb
    go_wp2_with fail
    refine (f1 _).mono ?_
    rintro r wn ⟨rfl, hb⟩
    have hB := hB.trans (hb.mono hB.size)
    clear hb
    go_wp2_with fail
    refine (f2 _).mono ?_
    rintro r wn ⟨rfl, hb⟩
    have hB := hB.trans (hb.mono hB.size)
    clear hb
    go_wp2_with fail
    refine (f3 _).mono ?_
    rintro r wn ⟨rfl, hb⟩
    have hB := hB.trans (hb.mono hB.size)
    clear hb
    go_wp2_with fail
    refine (f4 _).mono ?_
    rintro r wn ⟨rfl, hb⟩
    have hB := hB.trans (hb.mono hB.size)
    clear hb
    go_wp2_with fail
    refine (f5 _).mono ?_
    rintro r wn ⟨rfl, hb⟩
    have hB := hB.trans (hb.mono hB.size)
    clear hb
    go_wp2_with fail
    refine (f6 _).mono ?_
    rintro r wn ⟨rfl, hb⟩
    have hB := hB.trans (hb.mono hB.size)
    clear hb
    go_wp2_with fail
    refine (ha _).mono ?_
    rintro r wn ⟨rfl, hb⟩
    have hB := hB.trans (hb.mono hB.size)
    clear hb
    go_wp2
    go_ret
    exact ⟨by simp, hB⟩
  · have l1 := fun w => log2_out h w
    have l2 := fun w => r8log2_out h w
    have f1 := fun w => five8_out h w
    have f2 := fun w => r8five_out h w
    have f3 := fun w => whole8_out h w
    have f4 := fun w => r8whole_out h w
    have f5 := fun w => above8_out h w
    have f6 := fun w => r8above_out h w
    obtain ⟨J, E, l3, l4⟩ : ∃ J E : Int, (∀ w, Calls Try.prog 19 #[.int .i64 e] w fun r w' => r = .returned (.tuple #[.int .i64 J, .int .i64 E]) ∧ Below w.heap.size w w') ∧
        ∀ w, Calls Try.prog 23 #[.int .i64 e] w fun r w' => r = .returned (.tuple #[.int .i64 J, .int .i64 E]) ∧ Below w.heap.size w w' := by
      by_cases q : -1200 ≤ e ∧ e ≤ 1200
      · exact ⟨_, _, fun w => log10_in q w, fun w => r8log10_in q w⟩
      · exact ⟨_, _, fun w => log10_out q w, fun w => r8log10_out q w⟩
    clear h
    go_enter Try.func8, Try.ntmps8
    go_wp2_with fail
    refine (l1 _).mono ?_
    rintro r wn ⟨rfl, hb⟩
    have hB := hb
    clear hb
    go_wp2_with fail
    refine (l2 _).mono ?_
    rintro r wn ⟨rfl, hb⟩
    have hB := hB.trans (hb.mono hB.size)
    clear hb
    go_wp2_with fail
    refine (l3 _).mono ?_
    rintro r wn ⟨rfl, hb⟩
    have hB := hB.trans (hb.mono hB.size)
    clear hb
    go_wp2_with fail
    refine (l4 _).mono ?_
    rintro r wn ⟨rfl, hb⟩
    have hB := hB.trans (hb.mono hB.size)
    clear hb
    go_wp2_with fail
    refine (f1 _).mono ?_
    rintro r wn ⟨rfl, hb⟩
    have hB := hB.trans (hb.mono hB.size)
    clear hb
    go_wp2_with fail
    refine (f2 _).mono ?_
    rintro r wn ⟨rfl, hb⟩
    have hB := hB.trans (hb.mono hB.size)
    clear hb
    go_wp2_with fail
    refine (f3 _).mono ?_
    rintro r wn ⟨rfl, hb⟩
    have hB := hB.trans (hb.mono hB.size)
    clear hb
    go_wp2_with fail
    refine (f4 _).mono ?_
    rintro r wn ⟨rfl, hb⟩
    have hB := hB.trans (hb.mono hB.size)
    clear hb
    go_wp2_with fail
    refine (f5 _).mono ?_
    rintro r wn ⟨rfl, hb⟩
    have hB := hB.trans (hb.mono hB.size)
    clear hb
    go_wp2_with fail
    refine (f6 _).mono ?_
    rintro r wn ⟨rfl, hb⟩
    have hB := hB.trans (hb.mono hB.size)
    clear hb
    go_wp2_with fail
    refine (ha _).mono ?_
    rintro r wn ⟨rfl, hb⟩
    have hB := hB.trans (hb.mono hB.size)
    clear hb
    go_wp2
    go_ret
    exact ⟨by simp, hB⟩
end Go.Proofs.Ytailnlpooalenaa
