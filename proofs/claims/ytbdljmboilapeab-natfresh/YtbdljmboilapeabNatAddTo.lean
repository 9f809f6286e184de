/- package words: AddTo, TakeFrom: in place, in a window of a list that the call may write. -/
import Derived.Test.YtbdljmboilapeabNatCopy
import Derived.Test.YtbdljmboilapeabInPlace
import Derived.Test.YtbdljmboilapeabWide
namespace Go.Proofs.Ytbdljmboilapeab
open Go.ChangeShapes Go.WideShapes Go.ChangeAt Go.RowKit
open Na Ar
set_option linter.unusedVariables false
namespace Na
theorem put_word {us : List Int} {j : Nat} {c p lo hi : Int} (hj : j < us.length) (e : us.getD j 0 + p + c = lo + 18446744073709551616 * hi) :
    num (us.set j lo) + 18446744073709551616 ^ (j + 1) * hi = num us + 18446744073709551616 ^ j * c + 18446744073709551616 ^ j * p := by
  unfold num
  rw [val_set _ hj, Int.pow_succ]
  generalize val 18446744073709551616 us = V
  generalize (18446744073709551616 : Int) ^ j = P
  generalize us.getD j 0 = u at *
  have : lo = u + p + c - 18446744073709551616 * hi := by omega
  subst this
  grind
def AddI (ts ps : List Int) (o m j : Nat) (c : Int) (us : List Int) : Prop := Ws us ∧ us.length = ts.length ∧ (c = 0 ∨ c = 1) ∧ us.take o = ts.take o ∧ us.drop (o + m) = ts.drop (o + m) ∧ num us + 18446744073709551616 ^ (o + j) * c = num ts + 18446744073709551616 ^ o * num (ps.take j)
theorem AddI.start {ts ps : List Int} {o m : Nat} (h : Ws ts) : AddI ts ps o m 0 0 ts := ⟨h, rfl, Or.inl rfl, rfl, rfl, by simp [num, val]⟩
theorem AddI.step {ts ps us : List Int} {o m j : Nat} {c : Int} (h : AddI ts ps o m j c us) (hj : o + j < us.length) (hjm : j < m) (hp : j < ps.length) (hw : Ws ps) :
    AddI ts ps o m (j + 1) (addHi (us.getD (o + j) 0) (ps.getD j 0) c) (us.set (o + j) (addLo (us.getD (o + j) 0) (ps.getD j 0) c)) := by
  obtain ⟨h1, h2, h3, h5, h6, h4⟩ := h
  have gu := h1.get hj
  have gp := hw.get hp
  have hc : c % 2 = c := by omega
  have e : us.getD (o + j) 0 + ps.getD j 0 + c = addLo (us.getD (o + j) 0) (ps.getD j 0) c + 18446744073709551616 * addHi (us.getD (o + j) 0) (ps.getD j 0) c := by unfold addLo addHi; rw [hc]; omega
  have hhi : addHi (us.getD (o + j) 0) (ps.getD j 0) c = 0 ∨ addHi (us.getD (o + j) 0) (ps.getD j 0) c = 1 := by unfold addHi; rw [hc]; omega
  refine ⟨h1.set _ (U_addLo _ _ _), by rw [List.length_set]; exact h2, hhi, by rw [List.take_set_of_le (by omega)]; exact h5, by rw [List.drop_set_of_lt (by omega)]; exact h6, ?_⟩
  rw [← Nat.add_assoc, put_word hj e, h4]
  have t : num (ps.take (j + 1)) = num (ps.take j) + 18446744073709551616 ^ j * ps.getD j 0 := take_valB hp
  rw [t, Int.mul_add, Int.pow_add, Int.mul_assoc]; omega
/-- beyond the shorter: nothing is added any more but the carry -/
theorem AddI.more {ts ps us : List Int} {o m j : Nat} {c : Int} (h : AddI ts ps o m j c us) (hj : o + j < us.length) (hjm : j < m) (hp : ps.length ≤ j) :
    AddI ts ps o m (j + 1) (addHi (us.getD (o + j) 0) 0 c) (us.set (o + j) (addLo (us.getD (o + j) 0) 0 c)) := by
  obtain ⟨h1, h2, h3, h5, h6, h4⟩ := h
  have gu := h1.get hj
  have hc : c % 2 = c := by omega
  have e : us.getD (o + j) 0 + 0 + c = addLo (us.getD (o + j) 0) 0 c + 18446744073709551616 * addHi (us.getD (o + j) 0) 0 c := by unfold addLo addHi; rw [hc]; omega
  have hhi : addHi (us.getD (o + j) 0) 0 c = 0 ∨ addHi (us.getD (o + j) 0) 0 c = 1 := by unfold addHi; rw [hc]; omega
  refine ⟨h1.set _ (U_addLo _ _ _), by rw [List.length_set]; exact h2, hhi, by rw [List.take_set_of_le (by omega)]; exact h5, by rw [List.drop_set_of_lt (by omega)]; exact h6, ?_⟩
  rw [← Nat.add_assoc, put_word hj e, List.take_of_length_le (by omega)]
  rw [List.take_of_length_le hp] at h4
  omega

theorem AddI.win {ts ps us : List Int} {o m : Nat} {c : Int} (h : AddI ts ps o m m c us) (hp : ps.length ≤ m) (hom : o + m ≤ ts.length) : Na.win us o m + 18446744073709551616 ^ m * c = Na.win ts o m + num ps := by
  obtain ⟨h1, h2, h3, h5, h6, h4⟩ := h
  rw [List.take_of_length_le hp] at h4
  exact win_eq h2 hom h5 h6 h4
/-- with no carry left the rest stays -/
theorem AddI.done {ts ps us : List Int} {o m j : Nat} {c : Int} (h : AddI ts ps o m j c us) (hp : ps.length ≤ j) (hj : j ≤ m) (hc : c = 0 ∨ j = m) : AddI ts ps o m m c us := by
  obtain ⟨h1, h2, h3, h5, h6, h4⟩ := h
  refine ⟨h1, h2, h3, h5, h6, ?_⟩
  rcases hc with hc | hc
  · subst hc
    rw [List.take_of_length_le hp] at h4
    rw [List.take_of_length_le (by omega)]
    rw [Int.mul_zero] at h4 ⊢
    exact h4
  · rw [← hc]; exact h4
end Na

set_option maxHeartbeats 1600000 in
set_option maxRecDepth 100000 in
theorem addTo_in {g cap N o m dcap base : Nat} {a : Option Addr} {m2 cap2 : Nat} {ts ps : List Int} {w : World} (hown : Own .u64 w base 47 (.slice (some ⟨g, 0, none⟩) N cap) ts) (hN : N = ts.length) (ht : Ws ts)
    (hr : RowAt .u64 w a m2 ps) (hoff : 0 < m2 → Off a g) (hp : Ws ps) (hm : m2 ≤ m) (hom : o + m ≤ N) (hN' : N ≤ 12000000) :
    Calls Try.prog 76 #[.slice (some ⟨g, o, none⟩) m dcap, .slice a m2 cap2] w fun e w' => ∃ c us, e = .returned (.int .u64 c) ∧ Own .u64 w' base 47 (.slice (some ⟨g, 0, none⟩) N cap) us ∧ AddI ts ps o m m c us ∧ In g (g + 1) w w' := by
  have hl := hr.1
  have HN : Hid (N = ts.length) := hN
  have hst := AddI.start (ps := ps) (o := o) (m := m) ht
  have hii := In.refl g (g + 1) w
  clear hN
  go_enter Try.func76, Try.ntmps76
  go_wp2
  go_loopw [5, 6, 7, 11] (fun c _ _ k wr => ∃ (j : Nat) (C : Int) (us : List Int), k = .int .i64 j ∧ c = .int .u64 C ∧ j ≤ m2 ∧ Own .u64 wr base 47 (.slice (some ⟨g, 0, none⟩) N cap) us ∧ AddI ts ps o m j C us ∧ In g (g + 1) w wr) (fun _ _ _ k _ => m2 - (intOf k).toNat)
  case atStart => exact ⟨0, 0, ts, rfl, rfl, by omega, hown, hst, hii⟩
  case round =>
    obtain ⟨j, C, us, rfl, rfl, hj, hou, hinv, hnx⟩ := hrel
    have hlu : N = us.length := by rw [hinv.2.1]; exact HN.out
    have hC := hinv.2.2.1
    by_cases hlt : j < m2
    · obtain ⟨b, off, rfl, hbB, hc⟩ := (hr.inn hnx hoff).at (by omega)
      have hcx := hc j hlt
      have hce := hou.cellAt hlu (j := o + j) (by omega)
      have hfz := hou.frozenAt hlu (o + j)
      have hset := fun x => hou.set hlu (o + j) x
      have gu := hinv.1.getAnyB (o + j)
      have gp := hp.getAnyB j
      have hstep := hinv.step (by omega) (by omega) (by omega) hp
      have hUC : U C := by unfold U; omega
      have hO := hset (addLo (us.getD (o + j) 0) (ps.getD j 0) C)
      generalize us.getD (o + j) 0 = u at *
      generalize ps.getD j 0 = p at *
      have hadd := fun w => add_any gu gp hUC w
      have hjN : o + j < N := by omega
      clear hc hr hset hinv hou hown hst hii gu gp hC hlu hoff
      go_wp2_with (go_at_call 95; refine (hadd _).mono ?_; rintro e w' ⟨_, _, rfl, rfl, rfl, rfl⟩)
      go_roundw
      case rel => exact ⟨j + 1, _, _, by go_num, rfl, by omega, hO, hstep, hnx.set1 _ _⟩
      case measure => simp [intOf]; omega
    · have hje : ps.length ≤ j := by omega
      have hj2 : j = m2 := by omega
      subst hj2
      clear hown hst hii hr hoff
      go_wp2
      go_loopw [5, 8] (fun c k w1 => ∃ (i : Nat) (D : Int) (vs : List Int), k = .int .i64 i ∧ c = .int .u64 D ∧ j ≤ i ∧ i ≤ m ∧ Own .u64 w1 base 47 (.slice (some ⟨g, 0, none⟩) N cap) vs ∧ AddI ts ps o m i D vs ∧ In g (g + 1) w w1) (fun _ k _ => m - (intOf k).toNat)
      case atStart => exact ⟨j, C, us, rfl, rfl, by omega, hm, hou, hinv, hnx⟩
      case round =>
        obtain ⟨i, D, vs, rfl, rfl, hji, hiN, hov, hinw, hnw⟩ := hrel
        clear hou hinv hnx hlu hC
        have hlv : N = vs.length := by rw [hinw.2.1]; exact HN.out
        have hD := hinw.2.2.1
        by_cases hd : D = 0 ∨ i = m
        · have hdone := hinw.done (by omega) hiN hd
          clear hinw hlv
          by_cases hd0 : D = 0
          · have t1 : (D != 0) = false := by simp [hd0]
            clear hD hd hd0
            go_wp2
            go_ret
            exact ⟨D, vs, rfl, hov, hdone, hnw⟩
          · have t1 : (D != 0) = true := by simp [hd0]
            have t2 : i = m := by omega
            subst t2
            clear hD hd hd0
            go_wp2
            go_ret
            exact ⟨D, vs, rfl, hov, hdone, hnw⟩
        · have hroom : i < m := by omega
          have hd : D ≠ 0 := by omega
          have hce := hov.cellAt hlv (j := o + i) (by omega)
          have hfz := hov.frozenAt hlv (o + i)
          have gu := hinw.1.getAnyB (o + i)
          have hstep := hinw.more (by omega) (by omega) (by omega)
          have hUC : U D := by unfold U; omega
          have hO := hov.set hlv (o + i) (addLo (vs.getD (o + i) 0) 0 D)
          generalize vs.getD (o + i) 0 = u at *
          have hadd := fun w => add_any gu U_zero hUC w
          have t1 : (D != 0) = true := by simp [hd]
          have hjN : o + i < N := by omega
          clear hinw hov gu hD hlv hd
          go_wp2_with (go_at_call 95; refine (hadd _).mono ?_; rintro e w' ⟨_, _, rfl, rfl, rfl, rfl⟩)
          go_roundw
          case rel => exact ⟨i + 1, _, _, by go_num, rfl, by omega, by omega, hO, hstep, hnw.set1 _ _⟩
          case measure => simp [intOf]; omega

namespace Na
theorem take_word {us : List Int} {j : Nat} {c p lo hi : Int} (hj : j < us.length) (e : us.getD j 0 - p - c = lo - 18446744073709551616 * hi) :
    num (us.set j lo) - 18446744073709551616 ^ (j + 1) * hi = num us - 18446744073709551616 ^ j * c - 18446744073709551616 ^ j * p := by
  have := put_word (us := us) (j := j) (c := -c) (p := -p) (lo := lo) (hi := -hi) hj (by omega)
  rw [Int.mul_neg, Int.mul_neg, Int.mul_neg] at this
  omega

def SubJ (ts ps : List Int) (o m j : Nat) (c : Int) (us : List Int) : Prop := Ws us ∧ us.length = ts.length ∧ (c = 0 ∨ c = 1) ∧ us.take o = ts.take o ∧ us.drop (o + m) = ts.drop (o + m) ∧ num us - 18446744073709551616 ^ (o + j) * c = num ts - 18446744073709551616 ^ o * num (ps.take j)
theorem SubJ.start {ts ps : List Int} {o m : Nat} (h : Ws ts) : SubJ ts ps o m 0 0 ts := ⟨h, rfl, Or.inl rfl, rfl, rfl, by simp [num, val]⟩
theorem SubJ.step {ts ps us : List Int} {o m j : Nat} {c : Int} (h : SubJ ts ps o m j c us) (hj : o + j < us.length) (hjm : j < m) (hp : j < ps.length) (hw : Ws ps) :
    SubJ ts ps o m (j + 1) (subHi (us.getD (o + j) 0) (ps.getD j 0) c) (us.set (o + j) (subLo (us.getD (o + j) 0) (ps.getD j 0) c)) := by
  obtain ⟨h1, h2, h3, h5, h6, h4⟩ := h
  have gu := h1.get hj
  have gp := hw.get hp
  have hc : c % 2 = c := by omega
  have e : us.getD (o + j) 0 - ps.getD j 0 - c = subLo (us.getD (o + j) 0) (ps.getD j 0) c - 18446744073709551616 * subHi (us.getD (o + j) 0) (ps.getD j 0) c := by unfold subLo subHi; rw [hc]; omega
  have hhi : subHi (us.getD (o + j) 0) (ps.getD j 0) c = 0 ∨ subHi (us.getD (o + j) 0) (ps.getD j 0) c = 1 := by unfold subHi; rw [hc]; omega
  refine ⟨h1.set _ (U_subLo _ _ _), by rw [List.length_set]; exact h2, hhi, by rw [List.take_set_of_le (by omega)]; exact h5, by rw [List.drop_set_of_lt (by omega)]; exact h6, ?_⟩
  rw [← Nat.add_assoc, take_word hj e, h4]
  have t : num (ps.take (j + 1)) = num (ps.take j) + 18446744073709551616 ^ j * ps.getD j 0 := take_valB hp
  rw [t, Int.mul_add, Int.pow_add, Int.mul_assoc]; omega
/-- beyond the shorter: nothing is added any more but the carry -/
theorem SubJ.more {ts ps us : List Int} {o m j : Nat} {c : Int} (h : SubJ ts ps o m j c us) (hj : o + j < us.length) (hjm : j < m) (hp : ps.length ≤ j) :
    SubJ ts ps o m (j + 1) (subHi (us.getD (o + j) 0) 0 c) (us.set (o + j) (subLo (us.getD (o + j) 0) 0 c)) := by
  obtain ⟨h1, h2, h3, h5, h6, h4⟩ := h
  have gu := h1.get hj
  have hc : c % 2 = c := by omega
  have e : us.getD (o + j) 0 - 0 - c = subLo (us.getD (o + j) 0) 0 c - 18446744073709551616 * subHi (us.getD (o + j) 0) 0 c := by unfold subLo subHi; rw [hc]; omega
  have hhi : subHi (us.getD (o + j) 0) 0 c = 0 ∨ subHi (us.getD (o + j) 0) 0 c = 1 := by unfold subHi; rw [hc]; omega
  refine ⟨h1.set _ (U_subLo _ _ _), by rw [List.length_set]; exact h2, hhi, by rw [List.take_set_of_le (by omega)]; exact h5, by rw [List.drop_set_of_lt (by omega)]; exact h6, ?_⟩
  rw [← Nat.add_assoc, take_word hj e, List.take_of_length_le (by omega)]
  rw [List.take_of_length_le hp] at h4
  omega

theorem SubJ.win {ts ps us : List Int} {o m j : Nat} {c : Int} (h : SubJ ts ps o m j c us) (hp : ps.length ≤ j) (hj : c = 0 ∨ j = m) (hom : o + m ≤ ts.length) : Na.win us o m - 18446744073709551616 ^ m * c = Na.win ts o m - num ps := by
  obtain ⟨h1, h2, h3, h5, h6, h4⟩ := h
  rw [List.take_of_length_le hp] at h4
  have e : 18446744073709551616 ^ (o + j) * c = 18446744073709551616 ^ (o + m) * c := by
    rcases hj with hj | hj
    · subst hj; simp
    · rw [hj]
  have := win_eq (us := us) (ts := ts) (o := o) (m := m) (c := -c) (P := -num ps) h2 hom h5 h6 (by rw [Int.mul_neg, Int.mul_neg, ← e]; omega)
  rw [Int.mul_neg] at this
  omega
theorem SubJ.room {ts ps us : List Int} {o m j : Nat} {c : Int} (h : SubJ ts ps o m j c us) (hp : ps.length ≤ j) (hc : c ≠ 0) (hom : o + m ≤ ts.length) (hj : j ≤ m) (hb : num ps ≤ Na.win ts o m) : j < m := by
  by_cases g : j < m
  · exact g
  · have w := h.win hp (Or.inr (by omega)) hom
    obtain ⟨h1, h2, h3, h5, h6, h4⟩ := h
    have c1 : c = 1 := by omega
    subst c1
    have := win_lt h1 (o := o) (m := m) (by omega)
    omega
end Na

set_option maxHeartbeats 1600000 in
set_option maxRecDepth 100000 in
theorem takeFrom_in {g cap N o m dcap base : Nat} {a : Option Addr} {m2 cap2 : Nat} {ts ps : List Int} {w : World} (hown : Own .u64 w base 47 (.slice (some ⟨g, 0, none⟩) N cap) ts) (hN : N = ts.length) (ht : Ws ts)
    (hr : RowAt .u64 w a m2 ps) (hoff : 0 < m2 → Off a g) (hp : Ws ps) (hm : m2 ≤ m) (hom : o + m ≤ N) (hN' : N ≤ 12000000) (hbd : num ps ≤ Na.win ts o m) :
    Calls Try.prog 74 #[.slice (some ⟨g, o, none⟩) m dcap, .slice a m2 cap2] w fun e w' => ∃ us, e = .returned (.tuple #[]) ∧ Own .u64 w' base 47 (.slice (some ⟨g, 0, none⟩) N cap) us ∧ Ws us ∧ us.length = N ∧ us.take o = ts.take o ∧ us.drop (o + m) = ts.drop (o + m) ∧ Na.win us o m = Na.win ts o m - num ps ∧ In g (g + 1) w w' := by
  have hl := hr.1
  have HN : Hid (N = ts.length) := hN
  have hst := SubJ.start (ps := ps) (o := o) (m := m) ht
  have hii := In.refl g (g + 1) w
  clear hN
  go_enter Try.func74, Try.ntmps74
  go_wp2
  go_loopw [4, 5, 6, 10] (fun c _ _ k wr => ∃ (j : Nat) (C : Int) (us : List Int), k = .int .i64 j ∧ c = .int .u64 C ∧ j ≤ m2 ∧ Own .u64 wr base 47 (.slice (some ⟨g, 0, none⟩) N cap) us ∧ SubJ ts ps o m j C us ∧ In g (g + 1) w wr) (fun _ _ _ k _ => m2 - (intOf k).toNat)
  case atStart => exact ⟨0, 0, ts, rfl, rfl, by omega, hown, hst, hii⟩
  case round =>
    obtain ⟨j, C, us, rfl, rfl, hj, hou, hinv, hnx⟩ := hrel
    have hlu : N = us.length := by rw [hinv.2.1]; exact HN.out
    have hC := hinv.2.2.1
    by_cases hlt : j < m2
    · obtain ⟨b, off, rfl, hbB, hc⟩ := (hr.inn hnx hoff).at (by omega)
      have hcx := hc j hlt
      have hce := hou.cellAt hlu (j := o + j) (by omega)
      have hfz := hou.frozenAt hlu (o + j)
      have hset := fun x => hou.set hlu (o + j) x
      have gu := hinv.1.getAnyB (o + j)
      have gp := hp.getAnyB j
      have hstep := hinv.step (by omega) (by omega) (by omega) hp
      have hUC : U C := by unfold U; omega
      have hO := hset (subLo (us.getD (o + j) 0) (ps.getD j 0) C)
      generalize us.getD (o + j) 0 = u at *
      generalize ps.getD j 0 = p at *
      have hadd := fun w => sub_any gu gp hUC w
      have hjN : o + j < N := by omega
      clear hc hr hset hinv hou hown hst hii gu gp hC hlu hoff
      go_wp2_with (go_at_call 94; refine (hadd _).mono ?_; rintro e w' ⟨_, _, rfl, rfl, rfl, rfl⟩)
      go_roundw
      case rel => exact ⟨j + 1, _, _, by go_num, rfl, by omega, hO, hstep, hnx.set1 _ _⟩
      case measure => simp [intOf]; omega
    · have hje : ps.length ≤ j := by omega
      have hj2 : j = m2 := by omega
      subst hj2
      clear hown hst hii hr hoff
      go_wp2
      go_loopw [4, 7] (fun c k w1 => ∃ (i : Nat) (D : Int) (vs : List Int), k = .int .i64 i ∧ c = .int .u64 D ∧ j ≤ i ∧ i ≤ m ∧ Own .u64 w1 base 47 (.slice (some ⟨g, 0, none⟩) N cap) vs ∧ SubJ ts ps o m i D vs ∧ In g (g + 1) w w1) (fun _ k _ => m - (intOf k).toNat)
      case atStart => exact ⟨j, C, us, rfl, rfl, by omega, hm, hou, hinv, hnx⟩
      case round =>
        obtain ⟨i, D, vs, rfl, rfl, hji, hiN, hov, hinw, hnw⟩ := hrel
        clear hou hinv hnx hlu hC
        have hlv : N = vs.length := by rw [hinw.2.1]; exact HN.out
        have hD := hinw.2.2.1
        by_cases hd : D = 0
        · subst hd
          have hdone := hinw.win (by omega) (Or.inl rfl) (by rw [← HN.out]; exact hom)
          rw [Int.mul_zero, Int.sub_zero] at hdone
          have HV : Hid (Na.win vs o m = Na.win ts o m - num ps) := hdone
          have hwv := hinw.1
          have HT : Hid (vs.take o = ts.take o) := hinw.2.2.2.1
          have HD : Hid (vs.drop (o + m) = ts.drop (o + m)) := hinw.2.2.2.2.1
          clear hdone hinw hD
          have HL : Hid (vs.length = N) := hlv.symm
          clear hlv
          go_wp2
          go_end0
          exact ⟨vs, rfl, hov, hwv, HL.out, HT.out, HD.out, HV.out, hnw⟩
        · have hroom := hinw.room (by omega) hd (by rw [← HN.out]; exact hom) hiN hbd
          have hce := hov.cellAt hlv (j := o + i) (by omega)
          have hfz := hov.frozenAt hlv (o + i)
          have gu := hinw.1.getAnyB (o + i)
          have hstep := hinw.more (by omega) (by omega) (by omega)
          have hUC : U D := by unfold U; omega
          have hO := hov.set hlv (o + i) (subLo (vs.getD (o + i) 0) 0 D)
          generalize vs.getD (o + i) 0 = u at *
          have hadd := fun w => sub_any gu U_zero hUC w
          have t1 : (D != 0) = true := by simp [hd]
          have hjN : o + i < N := by omega
          clear hinw hov gu hD hlv hd
          go_wp2_with (go_at_call 94; refine (hadd _).mono ?_; rintro e w' ⟨_, _, rfl, rfl, rfl, rfl⟩)
          go_roundw
          case rel => exact ⟨i + 1, _, _, by go_num, rfl, by omega, by omega, hO, hstep, hnw.set1 _ _⟩
          case measure => simp [intOf]; omega

/-- into a list that the call has made -/
theorem addTo_any {g cap N : Nat} {a : Option Addr} {m cap2 : Nat} {ts ps : List Int} {w0 w : World} (hown : Own .u64 w w0.heap.size 47 (.slice (some ⟨g, 0, none⟩) N cap) ts) (hN : N = ts.length) (ht : Ws ts)
    (hr : RowAt .u64 w0 a m ps) (hb : Below w0.heap.size w0 w) (hp : Ws ps) (hm : m ≤ N) (hN' : N ≤ 12000000) (hbd : num ts + num ps < 18446744073709551616 ^ N) :
    Calls Try.prog 76 #[.slice (some ⟨g, 0, none⟩) N cap, .slice a m cap2] w fun e w' => e = .returned (.int .u64 0) ∧ ∃ us, Own .u64 w' w0.heap.size 47 (.slice (some ⟨g, 0, none⟩) N cap) us ∧ us.length = N ∧ Ws us ∧ num us = num ts + num ps ∧ Below w0.heap.size w0 w' := by
  have hg := hown.base_le
  refine (addTo_in (o := 0) (m := N) (dcap := cap) hown hN ht (hr.later hb) (fun h => hr.off h hg) hp hm (by omega) hN').mono ?_
  rintro e w' ⟨c, us, rfl, ho, hi, hn⟩
  have hw := hi.win (by rw [hr.1]; exact hm) (by omega)
  rw [win_all (by rw [hi.2.1]; exact hN.symm), win_all hN.symm] at hw
  have n0 := num_nonneg hi.1
  have c0 : c = 0 := by
    rcases hi.2.2.1 with h | h
    · exact h
    · subst h; omega
  subst c0
  refine ⟨rfl, us, ho, by rw [hi.2.1]; exact hN.symm, hi.1, by omega, below_inn hb hn hg (Nat.le_refl _)⟩
theorem takeFrom_any {g cap N : Nat} {a : Option Addr} {m cap2 : Nat} {ts ps : List Int} {w0 w : World} (hown : Own .u64 w w0.heap.size 47 (.slice (some ⟨g, 0, none⟩) N cap) ts) (hN : N = ts.length) (ht : Ws ts)
    (hr : RowAt .u64 w0 a m ps) (hb : Below w0.heap.size w0 w) (hp : Ws ps) (hm : m ≤ N) (hN' : N ≤ 12000000) (hbd : num ps ≤ num ts) :
    Calls Try.prog 74 #[.slice (some ⟨g, 0, none⟩) N cap, .slice a m cap2] w fun e w' => e = .returned (.tuple #[]) ∧ ∃ us, Own .u64 w' w0.heap.size 47 (.slice (some ⟨g, 0, none⟩) N cap) us ∧ us.length = N ∧ Ws us ∧ num us = num ts - num ps ∧ Below w0.heap.size w0 w' := by
  have hg := hown.base_le
  refine (takeFrom_in (o := 0) (m := N) (dcap := cap) hown hN ht (hr.later hb) (fun h => hr.off h hg) hp hm (by omega) hN' (by rw [win_all hN.symm]; exact hbd)).mono ?_
  rintro e w' ⟨us, rfl, ho, hwu, hlu, _, _, hw, hn⟩
  rw [win_all hlu, win_all hN.symm] at hw
  exact ⟨rfl, us, ho, hlu, hwu, hw, below_inn hb hn hg (Nat.le_refl _)⟩
end Go.Proofs.Ytbdljmboilapeab
