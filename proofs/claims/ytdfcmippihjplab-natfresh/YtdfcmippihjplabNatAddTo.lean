/- package nat: addTo, takeFrom. -/
import Derived.Test.YtdfcmippihjplabNatCopy
import Derived.Test.YtdfcmippihjplabWide
namespace Go.Proofs.Ytdfcmippihjplab
open Go.ChangeShapes Go.WideShapes Go.ChangeAt Go.RowKit
open Na Ar
set_option linter.unusedVariables false
namespace Na
theorem put_word {us : List Int} {j : Nat} {c p lo hi : Int} (hj : j < us.length) (e : us.getD j 0 + p + c = lo + 18446744073709551616 * hi) :
    num (us.set j lo) + 18446744073709551616 ^ (j + 1) * hi = num us + 18446744073709551616 ^ j * c + 18446744073709551616 ^ j * p := by
  unfold num
  rw [val_set _ hj, Int.pow_succ]
  generalize val 18446744073709551616 us = V
  generalize (18446744073709551616 : Int) ^ j = P
  generalize us.getD j 0 = u at *
  have : lo = u + p + c - 18446744073709551616 * hi := by omega
  subst this
  grind
def AddI (ts ps : List Int) (j : Nat) (c : Int) (us : List Int) : Prop := Ws us ∧ us.length = ts.length ∧ (c = 0 ∨ c = 1) ∧ num us + 18446744073709551616 ^ j * c = num ts + num (ps.take j)
theorem addI_start {ts ps : List Int} (h : Ws ts) : AddI ts ps 0 0 ts := ⟨h, rfl, Or.inl rfl, by simp [num, val]⟩
theorem addI_step {ts ps us : List Int} {j : Nat} {c : Int} (h : AddI ts ps j c us) (hj : j < us.length) (hp : j < ps.length) (hw : Ws ps) :
    AddI ts ps (j + 1) (addHi (us.getD j 0) (ps.getD j 0) c) (us.set j (addLo (us.getD j 0) (ps.getD j 0) c)) := by
  obtain ⟨h1, h2, h3, h4⟩ := h
  have gu := h1.get hj
  have gp := hw.get hp
  have hc : c % 2 = c := by omega
  have e : us.getD j 0 + ps.getD j 0 + c = addLo (us.getD j 0) (ps.getD j 0) c + 18446744073709551616 * addHi (us.getD j 0) (ps.getD j 0) c := by unfold addLo addHi; rw [hc]; omega
  have hhi : addHi (us.getD j 0) (ps.getD j 0) c = 0 ∨ addHi (us.getD j 0) (ps.getD j 0) c = 1 := by unfold addHi; rw [hc]; omega
  refine ⟨h1.set _ (U_addLo _ _ _), by rw [List.length_set]; exact h2, hhi, ?_⟩
  rw [put_word hj e, h4]
  have t : num (ps.take (j + 1)) = num (ps.take j) + 18446744073709551616 ^ j * ps.getD j 0 := take_valB hp
  rw [t]; omega
/-- beyond the shorter: nothing is added any more but the carry -/
theorem addI_more {ts ps us : List Int} {j : Nat} {c : Int} (h : AddI ts ps j c us) (hj : j < us.length) (hp : ps.length ≤ j) :
    AddI ts ps (j + 1) (addHi (us.getD j 0) 0 c) (us.set j (addLo (us.getD j 0) 0 c)) := by
  obtain ⟨h1, h2, h3, h4⟩ := h
  have gu := h1.get hj
  have hc : c % 2 = c := by omega
  have e : us.getD j 0 + 0 + c = addLo (us.getD j 0) 0 c + 18446744073709551616 * addHi (us.getD j 0) 0 c := by unfold addLo addHi; rw [hc]; omega
  have hhi : addHi (us.getD j 0) 0 c = 0 ∨ addHi (us.getD j 0) 0 c = 1 := by unfold addHi; rw [hc]; omega
  refine ⟨h1.set _ (U_addLo _ _ _), by rw [List.length_set]; exact h2, hhi, ?_⟩
  rw [put_word hj e, List.take_of_length_le (by omega)]
  rw [List.take_of_length_le hp] at h4
  omega
theorem addI_room {ts ps us : List Int} {j : Nat} {c : Int} (h : AddI ts ps j c us) (hp : ps.length ≤ j) (hc : c ≠ 0) (hb : num ts + num ps < 18446744073709551616 ^ ts.length) : j < ts.length := by
  obtain ⟨h1, h2, h3, h4⟩ := h
  rw [List.take_of_length_le hp] at h4
  have c1 : c = 1 := by omega
  subst c1
  have n0 := num_nonneg h1
  by_cases g : j < ts.length
  · exact g
  · have := wpow_mono (show ts.length ≤ j by omega)
    omega
theorem addI_done {ts ps us : List Int} {j : Nat} (h : AddI ts ps j 0 us) (hp : ps.length ≤ j) : num us = num ts + num ps := by
  have := h.2.2.2
  rw [List.take_of_length_le hp] at this
  simpa using this
end Na

set_option maxHeartbeats 1600000 in
theorem addTo_any {g cap N : Nat} {a : Option Addr} {m cap2 : Nat} {ts ps : List Int} {w0 w : World} (hown : Own .u64 w w0.heap.size 47 (.slice (some ⟨g, 0, none⟩) N cap) ts) (hN : N = ts.length) (ht : Ws ts)
    (hr : RowAt .u64 w0 a m ps) (hb : Below w0.heap.size w0 w) (hp : Ws ps) (hm : m ≤ N) (hN' : N ≤ 30000) (hbd : num ts + num ps < 18446744073709551616 ^ N) :
    Calls Try.prog 60 #[.slice (some ⟨g, 0, none⟩) N cap, .slice a m cap2] w fun e w' => e = .returned (.tuple #[]) ∧ ∃ us, Own .u64 w' w0.heap.size 47 (.slice (some ⟨g, 0, none⟩) N cap) us ∧ us.length = N ∧ Ws us ∧ num us = num ts + num ps ∧ Below w0.heap.size w0 w' := by
  have hl := hr.1
  have HN : Hid (N = ts.length) := hN
  have hst := addI_start (ps := ps) ht
  clear hN
  go_enter Try.func60, Try.ntmps60
  go_wp2
  go_loopw [4, 5, 6, 10] (fun c _ _ k wr => ∃ (j : Nat) (C : Int) (us : List Int), k = .int .i64 j ∧ c = .int .u64 C ∧ j ≤ m ∧ Own .u64 wr w0.heap.size 47 (.slice (some ⟨g, 0, none⟩) N cap) us ∧ AddI ts ps j C us ∧ Below w0.heap.size w0 wr) (fun _ _ _ k _ => m - (intOf k).toNat)
  case atStart => exact ⟨0, 0, ts, rfl, rfl, by omega, hown, hst, hb⟩
  case round =>
    obtain ⟨j, C, us, rfl, rfl, hj, hou, hinv, hnx⟩ := hrel
    have hlu : N = us.length := by rw [hinv.2.1]; exact HN.out
    have hC := hinv.2.2.1
    by_cases hlt : j < m
    · obtain ⟨b, off, rfl, hbB, hc⟩ := hr.at (by omega)
      have hcx := (hnx.cell (p := ⟨b, off + j, none⟩) hbB).trans (hc j hlt)
      have hce := hou.cellAt hlu (j := j) (by omega)
      have hfz := hou.frozenAt hlu j
      have hset := fun x => hou.set hlu j x
      have gu := hinv.1.getAnyB j
      have gp := hp.getAnyB j
      have hstep := addI_step hinv (by omega) (by omega) hp
      have hgb := hou.base_le
      have hUC : U C := by unfold U; omega
      have hO := hset (addLo (us.getD j 0) (ps.getD j 0) C)
      generalize us.getD j 0 = u at *
      generalize ps.getD j 0 = p at *
      have hadd := fun w => add_any gu gp hUC w
      have hjN : j < N := by omega
      clear hc hr hset hinv hou hown hst hb gu gp hC hlu
      go_wp2_with (go_at_call 68; refine (hadd _).mono ?_; rintro e w' ⟨_, _, rfl, rfl, rfl, rfl⟩)
      go_roundw
      case rel => exact ⟨j + 1, _, _, by go_num, rfl, by omega, hO, hstep, hnx.setCell hgb _⟩
      case measure => simp [intOf]; omega
    · have hje : ps.length ≤ j := by omega
      have hj2 : j = m := by omega
      subst hj2
      clear hown hst hb
      go_wp2
      go_loopw [4, 7] (fun c k w1 => ∃ (i : Nat) (D : Int) (vs : List Int), k = .int .i64 i ∧ c = .int .u64 D ∧ j ≤ i ∧ i ≤ N ∧ Own .u64 w1 w0.heap.size 47 (.slice (some ⟨g, 0, none⟩) N cap) vs ∧ AddI ts ps i D vs ∧ Below w0.heap.size w0 w1) (fun _ k _ => N - (intOf k).toNat)
      case atStart => exact ⟨j, C, us, rfl, rfl, by omega, hm, hou, hinv, hnx⟩
      case round =>
        obtain ⟨i, D, vs, rfl, rfl, hji, hiN, hov, hinw, hnw⟩ := hrel
        clear hou hinv hnx hlu hC
        have hlv : N = vs.length := by rw [hinw.2.1]; exact HN.out
        have hD := hinw.2.2.1
        by_cases hd : D = 0
        · subst hd
          have hdone := addI_done hinw (by omega)
          have HV : Hid (num vs = num ts + num ps) := hdone
          have hwv := hinw.1
          clear hdone hinw hD
          have HL : Hid (vs.length = N) := hlv.symm
          clear hlv
          go_wp2
          go_end0
          exact ⟨rfl, vs, hov, HL.out, hwv, HV.out, hnw⟩
        · have hroom := addI_room hinw (by omega) hd (by rw [← HN.out]; exact hbd)
          rw [← HN.out] at hroom
          have hce := hov.cellAt hlv (j := i) (by omega)
          have hfz := hov.frozenAt hlv i
          have gu := hinw.1.getAnyB i
          have hstep := addI_more hinw (by omega) (by omega)
          have hgb := hov.base_le
          have hUC : U D := by unfold U; omega
          have hO := hov.set hlv i (addLo (vs.getD i 0) 0 D)
          generalize vs.getD i 0 = u at *
          have hadd := fun w => add_any gu U_zero hUC w
          have t1 : (D != 0) = true := by simp [hd]
          clear hr hinw hov gu hD hlv hd
          go_wp2_with (go_at_call 68; refine (hadd _).mono ?_; rintro e w' ⟨_, _, rfl, rfl, rfl, rfl⟩)
          go_roundw
          case rel => exact ⟨i + 1, _, _, by go_num, rfl, by omega, by omega, hO, hstep, hnw.setCell hgb _⟩
          case measure => simp [intOf]; omega
namespace Na
def SubJ (ts ps : List Int) (j : Nat) (c : Int) (us : List Int) : Prop := Ws us ∧ us.length = ts.length ∧ (c = 0 ∨ c = 1) ∧ num us - 18446744073709551616 ^ j * c = num ts - num (ps.take j)
theorem subJ_start {ts ps : List Int} (h : Ws ts) : SubJ ts ps 0 0 ts := ⟨h, rfl, Or.inl rfl, by simp [num, val]⟩
theorem take_word {us : List Int} {j : Nat} {c p lo hi : Int} (hj : j < us.length) (e : us.getD j 0 - p - c = lo - 18446744073709551616 * hi) :
    num (us.set j lo) - 18446744073709551616 ^ (j + 1) * hi = num us - 18446744073709551616 ^ j * c - 18446744073709551616 ^ j * p := by
  have := put_word (us := us) (j := j) (c := -c) (p := -p) (lo := lo) (hi := -hi) hj (by omega)
  rw [Int.mul_neg, Int.mul_neg, Int.mul_neg] at this
  omega
theorem subJ_step {ts ps us : List Int} {j : Nat} {c : Int} (h : SubJ ts ps j c us) (hj : j < us.length) (hp : j < ps.length) (hw : Ws ps) :
    SubJ ts ps (j + 1) (subHi (us.getD j 0) (ps.getD j 0) c) (us.set j (subLo (us.getD j 0) (ps.getD j 0) c)) := by
  obtain ⟨h1, h2, h3, h4⟩ := h
  have gu := h1.get hj
  have gp := hw.get hp
  have hc : c % 2 = c := by omega
  have e : us.getD j 0 - ps.getD j 0 - c = subLo (us.getD j 0) (ps.getD j 0) c - 18446744073709551616 * subHi (us.getD j 0) (ps.getD j 0) c := by unfold subLo subHi; rw [hc]; omega
  have hhi : subHi (us.getD j 0) (ps.getD j 0) c = 0 ∨ subHi (us.getD j 0) (ps.getD j 0) c = 1 := by unfold subHi; rw [hc]; omega
  refine ⟨h1.set _ (U_subLo _ _ _), by rw [List.length_set]; exact h2, hhi, ?_⟩
  rw [take_word hj e, h4]
  have t : num (ps.take (j + 1)) = num (ps.take j) + 18446744073709551616 ^ j * ps.getD j 0 := take_valB hp
  rw [t]; omega
theorem subJ_more {ts ps us : List Int} {j : Nat} {c : Int} (h : SubJ ts ps j c us) (hj : j < us.length) (hp : ps.length ≤ j) :
    SubJ ts ps (j + 1) (subHi (us.getD j 0) 0 c) (us.set j (subLo (us.getD j 0) 0 c)) := by
  obtain ⟨h1, h2, h3, h4⟩ := h
  have gu := h1.get hj
  have hc : c % 2 = c := by omega
  have e : us.getD j 0 - 0 - c = subLo (us.getD j 0) 0 c - 18446744073709551616 * subHi (us.getD j 0) 0 c := by unfold subLo subHi; rw [hc]; omega
  have hhi : subHi (us.getD j 0) 0 c = 0 ∨ subHi (us.getD j 0) 0 c = 1 := by unfold subHi; rw [hc]; omega
  refine ⟨h1.set _ (U_subLo _ _ _), by rw [List.length_set]; exact h2, hhi, ?_⟩
  rw [take_word hj e, List.take_of_length_le (by omega)]
  rw [List.take_of_length_le hp] at h4
  omega
theorem subJ_room {ts ps us : List Int} {j : Nat} {c : Int} (h : SubJ ts ps j c us) (hp : ps.length ≤ j) (hc : c ≠ 0) (hb : num ps ≤ num ts) : j < ts.length := by
  obtain ⟨h1, h2, h3, h4⟩ := h
  rw [List.take_of_length_le hp] at h4
  have c1 : c = 1 := by omega
  subst c1
  have n0 := num_bd h1
  rw [h2] at n0
  by_cases g : j < ts.length
  · exact g
  · have := wpow_mono (show ts.length ≤ j by omega)
    omega
theorem subJ_done {ts ps us : List Int} {j : Nat} (h : SubJ ts ps j 0 us) (hp : ps.length ≤ j) : num us = num ts - num ps := by
  have := h.2.2.2
  rw [List.take_of_length_le hp] at this
  simpa using this
end Na

set_option maxHeartbeats 1600000 in
theorem takeFrom_any {g cap N : Nat} {a : Option Addr} {m cap2 : Nat} {ts ps : List Int} {w0 w : World} (hown : Own .u64 w w0.heap.size 47 (.slice (some ⟨g, 0, none⟩) N cap) ts) (hN : N = ts.length) (ht : Ws ts)
    (hr : RowAt .u64 w0 a m ps) (hb : Below w0.heap.size w0 w) (hp : Ws ps) (hm : m ≤ N) (hN' : N ≤ 30000) (hbd : num ps ≤ num ts) :
    Calls Try.prog 58 #[.slice (some ⟨g, 0, none⟩) N cap, .slice a m cap2] w fun e w' => e = .returned (.tuple #[]) ∧ ∃ us, Own .u64 w' w0.heap.size 47 (.slice (some ⟨g, 0, none⟩) N cap) us ∧ us.length = N ∧ Ws us ∧ num us = num ts - num ps ∧ Below w0.heap.size w0 w' := by
  have hl := hr.1
  have HN : Hid (N = ts.length) := hN
  have hst := subJ_start (ps := ps) ht
  clear hN
  go_enter Try.func58, Try.ntmps58
  go_wp2
  go_loopw [4, 5, 6, 10] (fun c _ _ k wr => ∃ (j : Nat) (C : Int) (us : List Int), k = .int .i64 j ∧ c = .int .u64 C ∧ j ≤ m ∧ Own .u64 wr w0.heap.size 47 (.slice (some ⟨g, 0, none⟩) N cap) us ∧ SubJ ts ps j C us ∧ Below w0.heap.size w0 wr) (fun _ _ _ k _ => m - (intOf k).toNat)
  case atStart => exact ⟨0, 0, ts, rfl, rfl, by omega, hown, hst, hb⟩
  case round =>
    obtain ⟨j, C, us, rfl, rfl, hj, hou, hinv, hnx⟩ := hrel
    have hlu : N = us.length := by rw [hinv.2.1]; exact HN.out
    have hC := hinv.2.2.1
    by_cases hlt : j < m
    · obtain ⟨b, off, rfl, hbB, hc⟩ := hr.at (by omega)
      have hcx := (hnx.cell (p := ⟨b, off + j, none⟩) hbB).trans (hc j hlt)
      have hce := hou.cellAt hlu (j := j) (by omega)
      have hfz := hou.frozenAt hlu j
      have hset := fun x => hou.set hlu j x
      have gu := hinv.1.getAnyB j
      have gp := hp.getAnyB j
      have hstep := subJ_step hinv (by omega) (by omega) hp
      have hgb := hou.base_le
      have hUC : U C := by unfold U; omega
      have hO := hset (subLo (us.getD j 0) (ps.getD j 0) C)
      generalize us.getD j 0 = u at *
      generalize ps.getD j 0 = p at *
      have hadd := fun w => sub_any gu gp hUC w
      have hjN : j < N := by omega
      clear hc hr hset hinv hou hown hst hb gu gp hC hlu
      go_wp2_with (go_at_call 67; refine (hadd _).mono ?_; rintro e w' ⟨_, _, rfl, rfl, rfl, rfl⟩)
      go_roundw
      case rel => exact ⟨j + 1, _, _, by go_num, rfl, by omega, hO, hstep, hnx.setCell hgb _⟩
      case measure => simp [intOf]; omega
    · have hje : ps.length ≤ j := by omega
      have hj2 : j = m := by omega
      subst hj2
      clear hown hst hb
      go_wp2
      go_loopw [4, 7] (fun c k w1 => ∃ (i : Nat) (D : Int) (vs : List Int), k = .int .i64 i ∧ c = .int .u64 D ∧ j ≤ i ∧ i ≤ N ∧ Own .u64 w1 w0.heap.size 47 (.slice (some ⟨g, 0, none⟩) N cap) vs ∧ SubJ ts ps i D vs ∧ Below w0.heap.size w0 w1) (fun _ k _ => N - (intOf k).toNat)
      case atStart => exact ⟨j, C, us, rfl, rfl, by omega, hm, hou, hinv, hnx⟩
      case round =>
        obtain ⟨i, D, vs, rfl, rfl, hji, hiN, hov, hinw, hnw⟩ := hrel
        clear hou hinv hnx hlu hC
        have hlv : N = vs.length := by rw [hinw.2.1]; exact HN.out
        have hD := hinw.2.2.1
        by_cases hd : D = 0
        · subst hd
          have hdone := subJ_done hinw (by omega)
          have HV : Hid (num vs = num ts - num ps) := hdone
          have hwv := hinw.1
          clear hdone hinw hD
          have HL : Hid (vs.length = N) := hlv.symm
          clear hlv
          go_wp2
          go_end0
          exact ⟨rfl, vs, hov, HL.out, hwv, HV.out, hnw⟩
        · have hroom := subJ_room hinw (by omega) hd hbd
          rw [← HN.out] at hroom
          have hce := hov.cellAt hlv (j := i) (by omega)
          have hfz := hov.frozenAt hlv i
          have gu := hinw.1.getAnyB i
          have hstep := subJ_more hinw (by omega) (by omega)
          have hgb := hov.base_le
          have hUC : U D := by unfold U; omega
          have hO := hov.set hlv i (subLo (vs.getD i 0) 0 D)
          generalize vs.getD i 0 = u at *
          have hadd := fun w => sub_any gu U_zero hUC w
          have t1 : (D != 0) = true := by simp [hd]
          clear hr hinw hov gu hD hlv hd
          go_wp2_with (go_at_call 67; refine (hadd _).mono ?_; rintro e w' ⟨_, _, rfl, rfl, rfl, rfl⟩)
          go_roundw
          case rel => exact ⟨i + 1, _, _, by go_num, rfl, by omega, by omega, hO, hstep, hnw.setCell hgb _⟩
          case measure => simp [intOf]; omega
end Go.Proofs.Ytdfcmippihjplab
