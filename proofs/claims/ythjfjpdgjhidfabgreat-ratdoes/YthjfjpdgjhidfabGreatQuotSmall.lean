/- package quot: Small. -/
import Derived.Test.YthjfjpdgjhidfabGreatBaseB
import Derived.Test.YthjfjpdgjhidfabGreatDiv
namespace Go.Proofs.YthjfjpdgjhidfabGreat
open Go.ChangeShapes Go.WideShapes Go.ChangeAt Go.RowKit
open Na Ar
set_option linter.unusedVariables false
namespace Na
def SmI (ps : List Int) (d : Int) (k : Nat) (r : Int) (us : List Int) : Prop := Ws us ∧ us.length = ps.length ∧ us.take k = ps.take k ∧ (0 ≤ r ∧ r < d) ∧ num (ps.drop k) = num (us.drop k) * d + r
theorem smI_start {ps : List Int} {d : Int} (h : Ws ps) (hd : 0 < d) : SmI ps d ps.length 0 ps := by
  refine ⟨h, rfl, rfl, by omega, ?_⟩
  rw [List.drop_of_length_le (Nat.le_refl _)]
  simp [num, val]
theorem smI_step {ps us : List Int} {d r : Int} {k : Nat} (h : SmI ps d (k + 1) r us) (hd : U d) (hk : k < us.length) :
    SmI ps d k (divR r (us.getD k 0) d) (us.set k (divQ r (us.getD k 0) d)) ∧ U (divQ r (us.getD k 0) d) := by
  obtain ⟨h1, h2, h3, h4, h5⟩ := h
  have gu := h1.get hk
  have e0 : us.getD k 0 = ps.getD k 0 := getD_take h3
  unfold U at hd
  have hdp : 0 < d := by omega
  have eq := Int.mul_ediv_add_emod (r * 18446744073709551616 + us.getD k 0) d
  have r0 := Int.emod_nonneg (r * 18446744073709551616 + us.getD k 0) (show d ≠ 0 by omega)
  have r1 := Int.emod_lt_of_pos (r * 18446744073709551616 + us.getD k 0) hdp
  have q0 : 0 ≤ (r * 18446744073709551616 + us.getD k 0) / d := Int.ediv_nonneg (by omega) (by omega)
  have q1 : (r * 18446744073709551616 + us.getD k 0) / d < 18446744073709551616 := by
    refine Int.ediv_lt_of_lt_mul hdp ?_
    have : (r + 1) * 18446744073709551616 ≤ d * 18446744073709551616 := Int.mul_le_mul_of_nonneg_right (by omega) (by omega)
    rw [Int.mul_comm 18446744073709551616 d]
    omega
  have hU : U (divQ r (us.getD k 0) d) := ⟨q0, q1⟩
  refine ⟨⟨h1.set _ hU, by rw [List.length_set]; exact h2, ?_, ⟨r0, r1⟩, ?_⟩, hU⟩
  · rw [List.take_set_of_le (Nat.le_refl _)]
    have := congrArg (List.take k) h3
    rw [List.take_take, List.take_take, Nat.min_eq_left (by omega)] at this
    exact this
  · have a : num (ps.drop k) = ps.getD k 0 + 18446744073709551616 * num (ps.drop (k + 1)) := val_drop (by omega)
    have b : num ((us.set k (divQ r (us.getD k 0) d)).drop k) = (us.set k (divQ r (us.getD k 0) d)).getD k 0 + 18446744073709551616 * num ((us.set k (divQ r (us.getD k 0) d)).drop (k + 1)) := val_drop (by rw [List.length_set]; exact hk)
    rw [List.drop_set_of_lt (show k < k + 1 by omega)] at b
    have c : (us.set k (divQ r (us.getD k 0) d)).getD k 0 = divQ r (us.getD k 0) d := by simp [List.getD_eq_getElem?_getD, hk]
    rw [c] at b
    rw [a, b, h5, ← e0]
    unfold divQ divR
    generalize num (us.drop (k + 1)) = X
    generalize us.getD k 0 = y at *
    generalize (r * 18446744073709551616 + y) / d = q at *
    generalize (r * 18446744073709551616 + y) % d = s at *
    have : r * 18446744073709551616 + y = q * d + s := by rw [Int.mul_comm q d]; omega
    grind
theorem smI_done {ps us : List Int} {d r : Int} (h : SmI ps d 0 r us) : num us = num ps / d ∧ r = num ps % d := by
  obtain ⟨h1, h2, h3, h4, h5⟩ := h
  rw [List.drop_zero, List.drop_zero] at h5
  have := Int.ediv_emod_unique (a := num ps) (b := d) (r := r) (q := num us) (by omega)
  have := this.mpr ⟨by rw [h5, Int.mul_comm]; omega, h4.1, h4.2⟩
  exact ⟨this.1.symm, this.2.symm⟩
end Na

set_option maxHeartbeats 3200000 in
set_option maxRecDepth 100000 in
theorem small_any {a : Option Addr} {m c1 : Nat} {xs : List Int} {d : Int} {w : World} (hr1 : RowC w a m c1 xs) (hx : Ws xs) (hm : m ≤ 4000000) (hd : U d) (hd0 : d ≠ 0) :
    Calls Tryz.prog 63 #[.slice a m c1, .int .u64 d] w fun e w' => ∃ v, e = .returned (.tuple #[v, .int .u64 (num xs % d), .int .i64 0]) ∧ Own .u64 w' w.heap.size 53 v (words (num xs / d)) ∧ Below w.heap.size w w' := by
  have p1 := num_nonneg hx
  have hv := num_words p1
  have hw := Dg_words (num xs)
  have hwl := words_le hx
  have hl := hr1.1.1
  have hdp : 0 < d := by unfold U at hd; omega
  have t0 : (d == 0) = false := beq_no hd0
  have hst := smI_start hw hdp
  go_enter Tryz.func63, Tryz.ntmps63
  go_wp2_with fail
  refine (norm_any hr1 hx hm).mono ?_
  rintro e w2 ⟨g, rfl, hown, hb2⟩
  have hV : Hid (num (words (num xs)) = num xs) := hv
  have hlen : (words (num xs)).length ≤ 4000000 := by omega
  generalize words (num xs) = ps at *
  obtain ⟨N, hN⟩ : ∃ N, N = ps.length := ⟨_, rfl⟩
  rw [← hN] at hown hlen hst ⊢
  have HN : Hid (N = ps.length) := hN
  clear hN hr1 hv hwl
  go_wp2
  go_loopw [8, 9] (fun r i wr => ∃ (k : Nat) (I R : Int) (us : List Int), i = .int .i64 I ∧ I = (k : Int) - 1 ∧ r = .int .u64 R ∧ k ≤ N ∧ Own .u64 wr w.heap.size 53 (.slice (some ⟨g, 0, none⟩) N N) us ∧ SmI ps d k R us ∧ Below w.heap.size w wr) (fun _ i _ => (intOf i + 1).toNat)
  case atStart => exact ⟨N, _, 0, ps, rfl, rfl, rfl, Nat.le_refl _, hown, hst, hb2⟩
  case round =>
    obtain ⟨k, I, R, us, rfl, hI, rfl, hk, hou, hinv, hnx⟩ := hrel
    clear hown hst hb2
    have hlu : N = us.length := by rw [hinv.2.1]; exact HN.out
    cases k with
    | zero =>
      have hI' : I < 0 := by omega
      have hdn := smI_done hinv
      rw [hV.out] at hdn
      have HR : Hid (R = num xs % d) := hdn.2
      have hwu := hinv.1
      have hrc := hou.rowC hlu
      have htr := trimW_any hrc hwu (by omega)
      have ho2 := hou
      rw [hlu] at ho2
      have hcut := ho2.cut (words_le hwu)
      rw [words_take hwu] at hcut
      rw [← hlu] at hcut
      rw [hdn.1] at htr hcut
      clear hI hinv hlu hdn hou ho2 hrc hwu
      go_wp2_with fail
      refine htr.mono ?_
      rintro e w' ⟨rfl, _, _, _, rfl⟩
      clear htr
      go_wp2
      go_ret3
      exact ⟨_, by rw [HR.out]; rfl, hcut, hnx⟩
    | succ j =>
      have hI' : I = (j : Int) := by omega
      clear hI
      subst hI'
      have gu : U (us.getD j 0) := hinv.1.getAnyB j
      have gr : U R := by have := hinv.2.2.2.1; unfold U at *; omega
      have hrd := hinv.2.2.2.1.2
      obtain ⟨hstep, hUq⟩ := smI_step hinv hd (by omega)
      have hce := hou.cellAt hlu (j := j) (by omega)
      have hdv := fun w => div_any gr gu hd hd0 hrd w
      have HLU : Hid (N = us.length) := hlu
      have hO := fun (w1 : World) (hh : Below wr.heap.size wr w1) => (hou.later hh).set HLU.out j (divQ R (us.getD j 0) d)
      have hfz := fun (w1 : World) (hh : Below wr.heap.size wr w1) => (hou.later hh).frozenAt HLU.out j
      have hcz := fun (w1 : World) (hh : Below wr.heap.size wr w1) => (hou.later hh).cellAt HLU.out (j := j) (by omega)
      have hgb := hou.base_le
      generalize us.getD j 0 = u at *
      have hjN : j < N := by omega
      clear hinv hou hlu
      go_wp2_with fail
      refine (hdv _).mono ?_
      rintro e w1 ⟨rfl, hg1⟩
      have hO1 := hO w1 hg1.2
      have hfz1 := hfz w1 hg1.2
      have hcz1 := hcz w1 hg1.2
      have hnx1 := hnx.trans (hg1.2.mono hnx.size)
      clear hO hfz hcz hce hnx hg1 hdv
      go_wp2
      go_roundw
      case rel => exact ⟨j, _, _, _, rfl, rfl, rfl, by omega, hO1, hstep, hnx1.setCell hgb _⟩
      case measure => simp [intOf]
/-- by zero -/
theorem smallZero_any {a : Option Addr} {m c1 : Nat} (w : World) :
    Calls Tryz.prog 63 #[.slice a m c1, .int .u64 0] w fun e w' => e = .returned (.tuple #[.slice none 0 0, .int .u64 0, .int .i64 30]) ∧ w = w' := by
  go_enter Tryz.func63, Tryz.ntmps63
  go_wp2
  go_ret3
  exact ⟨rfl, rfl⟩
end Go.Proofs.YthjfjpdgjhidfabGreat
