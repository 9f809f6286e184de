/- package nat: Cmp. -/
import Derived.Test.YtbdljmboilapeabNatNorm
namespace Go.Proofs.Ytbdljmboilapeab
open Go.ChangeShapes Go.WideShapes Go.ChangeAt Go.RowKit
open Na
set_option linter.unusedVariables false

theorem isNaNI_any (a : Int) (w : World) : Calls Try.prog 92 #[.int .i64 a] w fun e w' => e = .returned (.bool false) ∧ w = w' := by
  have t : (a != a) = false := by simp
  go_enter Try.func92, Try.ntmps92
  go_wp2
  go_ret
  exact ⟨rfl, rfl⟩
theorem isNaNU_any (a : Int) (w : World) : Calls Try.prog 93 #[.int .u64 a] w fun e w' => e = .returned (.bool false) ∧ w = w' := by
  have t : (a != a) = false := by simp
  go_enter Try.func93, Try.ntmps93
  go_wp2
  go_ret
  exact ⟨rfl, rfl⟩
theorem compareI_any (a b : Int) (w : World) : Calls Try.prog 70 #[.int .i64 a, .int .i64 b] w fun e w' => e = .returned (.int .i64 (ordN a b)) ∧ w = w' := by
  by_cases h : a < b
  · have E : Hid (-1 = ordN a b) := (ordN_lt h).symm
    go_enter Try.func70, Try.ntmps70
    go_wp2_with (go_at_call 92; refine (isNaNI_any _ _).mono ?_; rintro e w' ⟨rfl, rfl⟩)
    go_ret
    exact ⟨ret_i E.out, rfl⟩
  · by_cases h2 : b < a
    · have E : Hid (1 = ordN a b) := (ordN_gt h2).symm
      go_enter Try.func70, Try.ntmps70
      go_wp2_with (go_at_call 92; refine (isNaNI_any _ _).mono ?_; rintro e w' ⟨rfl, rfl⟩)
      go_ret
      exact ⟨ret_i E.out, rfl⟩
    · have E : Hid (0 = ordN a b) := (ordN_eq (by omega)).symm
      go_enter Try.func70, Try.ntmps70
      go_wp2_with (go_at_call 92; refine (isNaNI_any _ _).mono ?_; rintro e w' ⟨rfl, rfl⟩)
      go_ret
      exact ⟨ret_i E.out, rfl⟩
theorem compareU_any (a b : Int) (w : World) : Calls Try.prog 71 #[.int .u64 a, .int .u64 b] w fun e w' => e = .returned (.int .i64 (ordN a b)) ∧ w = w' := by
  by_cases h : a < b
  · have E : Hid (-1 = ordN a b) := (ordN_lt h).symm
    go_enter Try.func71, Try.ntmps71
    go_wp2_with (go_at_call 93; refine (isNaNU_any _ _).mono ?_; rintro e w' ⟨rfl, rfl⟩)
    go_ret
    exact ⟨ret_i E.out, rfl⟩
  · by_cases h2 : b < a
    · have E : Hid (1 = ordN a b) := (ordN_gt h2).symm
      go_enter Try.func71, Try.ntmps71
      go_wp2_with (go_at_call 93; refine (isNaNU_any _ _).mono ?_; rintro e w' ⟨rfl, rfl⟩)
      go_ret
      exact ⟨ret_i E.out, rfl⟩
    · have E : Hid (0 = ordN a b) := (ordN_eq (by omega)).symm
      go_enter Try.func71, Try.ntmps71
      go_wp2_with (go_at_call 93; refine (isNaNU_any _ _).mono ?_; rintro e w' ⟨rfl, rfl⟩)
      go_ret
      exact ⟨ret_i E.out, rfl⟩
theorem compareU_same (a b : Int) (w : World) : Calls Try.prog 71 #[.int .u64 a, .int .u64 b] w fun e w' => e = .returned (.int .i64 (ordN a b)) ∧ w' = w :=
  (compareU_any a b w).mono fun _ _ h => ⟨h.1, h.2.symm⟩
namespace Na
theorem ord_len {A B : Int} (hA : 0 ≤ A) (hB : 0 ≤ B) (h : (words A).length ≠ (words B).length) : ordN ((words A).length : Int) ((words B).length : Int) = ordN A B := by
  by_cases g : (words A).length < (words B).length
  · rw [ordN_lt (by omega), ordN_lt (words_lt hA hB g)]
  · have g' : (words B).length < (words A).length := by omega
    rw [ordN_gt (by omega), ordN_gt (words_lt hB hA g')]
theorem ord_word {xs ys : List Int} {i : Nat} (hx : Ws xs) (hy : Ws ys) (h1 : i < xs.length) (h2 : i < ys.length) (hd : xs.drop (i + 1) = ys.drop (i + 1)) (h : xs.getD i 0 ≠ ys.getD i 0) : ordN (xs.getD i 0) (ys.getD i 0) = ordN (num xs) (num ys) := by
  by_cases g : xs.getD i 0 < ys.getD i 0
  · rw [ordN_lt g, ordN_lt (word_lt hx hy h1 h2 hd g)]
  · have g' : ys.getD i 0 < xs.getD i 0 := by omega
    rw [ordN_gt g', ordN_gt (word_lt hy hx h2 h1 hd.symm g')]
end Na

set_option maxHeartbeats 1600000 in
set_option maxRecDepth 100000 in
theorem natCmp_any {a b : Option Addr} {n m c1 c2 : Nat} {xs ys : List Int} {w : World} (hr1 : RowC w a n c1 xs) (hr2 : RowC w b m c2 ys) (hx : Ws xs) (hy : Ws ys) (hn : n ≤ 4000000) (hm : m ≤ 4000000) :
    Calls Try.prog 33 #[.slice a n c1, .slice b m c2] w fun e w' => e = .returned (.int .i64 (ordN (num xs) (num ys))) ∧ Below w.heap.size w w' := by
  have p1 := num_nonneg hx
  have p2 := num_nonneg hy
  have v1 : Hid (num (words (num xs)) = num xs) := num_words p1
  have v2 : Hid (num (words (num ys)) = num ys) := num_words p2
  have d1 := Dg_words (num xs)
  have d2 := Dg_words (num ys)
  have hol := ord_len p1 p2
  go_enter Try.func33, Try.ntmps33
  go_wp2_with fail
  refine (trim_any hr1 hx hn).mono ?_
  rintro e w' ⟨rfl, r1, _, l1, rfl⟩
  go_wp2_with fail
  refine (trim_any hr2 hy hm).mono ?_
  rintro e w' ⟨rfl, r2, _, l2, rfl⟩
  obtain ⟨ps, hps⟩ : ∃ ps, ps = words (num xs) := ⟨_, rfl⟩
  obtain ⟨qs, hqs⟩ : ∃ qs, qs = words (num ys) := ⟨_, rfl⟩
  rw [← hps] at r1 v1 d1 l1 hol ⊢
  rw [← hqs] at r2 v2 d2 l2 hol ⊢
  have h1 := r1.1
  have h2 := r2.1
  clear hr1 hr2 r1 r2 hps hqs
  obtain ⟨n1, hn1⟩ : ∃ n1, n1 = ps.length := ⟨_, rfl⟩
  obtain ⟨m1, hm1⟩ : ∃ m1, m1 = qs.length := ⟨_, rfl⟩
  rw [← hn1] at h1 l1 hol ⊢
  rw [← hm1] at h2 l2 hol ⊢
  have HN : Hid (n1 = ps.length) := hn1
  have HM : Hid (m1 = qs.length) := hm1
  clear hn1 hm1
  by_cases hnm : n1 = m1
  · have t : ((n1 : Int) != (m1 : Int)) = false := by simp [hnm]
    have hnm1 : n1 ≤ m1 := by omega
    have hnm2 : m1 ≤ n1 := by omega
    clear hnm hol
    go_wp2_with fail
    go_loopw [5] (fun i wr => ∃ (k : Nat) (I : Int), i = .int .i64 I ∧ I = (k : Int) - 1 ∧ k ≤ n1 ∧ Hid (ps.drop k = qs.drop k) ∧ Below w.heap.size w wr) (fun i _ => (intOf i + 1).toNat)
    case atStart => exact ⟨n1, _, rfl, rfl, Nat.le_refl _, (by rw [List.drop_of_length_le (by rw [← HN.out]; omega), List.drop_of_length_le (by rw [← HM.out]; omega)] : ps.drop n1 = qs.drop n1), Below.refl _ _⟩
    case round =>
      obtain ⟨k, I, rfl, hI, hk, hs, hnx⟩ := hrel
      cases k with
      | zero =>
        have hI' : I < 0 := by omega
        have HO : Hid (0 = ordN (num xs) (num ys)) := (ordN_eq (by
          have h := hs.out
          simp only [List.drop_zero] at h
          rw [← v1.out, ← v2.out, h])).symm
        clear hI
        go_wp2
        go_ret
        exact ⟨ret_i HO.out, hnx⟩
      | succ j =>
        have hI' : I = (j : Int) := by omega
        clear hI
        subst hI'
        obtain ⟨b1, o1, rfl, hb1, hc1⟩ := h1.at (by omega)
        obtain ⟨b2, o2, rfl, hb2, hc2⟩ := h2.at (by omega)
        have hx1 := (hnx.cell (p := ⟨b1, o1 + j, none⟩) hb1).trans (hc1 j (by omega))
        have hx2 := (hnx.cell (p := ⟨b2, o2 + j, none⟩) hb2).trans (hc2 j (by omega))
        have lp : j < ps.length := by rw [← HN.out]; omega
        have lq : j < qs.length := by rw [← HM.out]; omega
        have l1' := ord_word d1 d2 lp lq hs.out
        have l3 := drop_next lp lq hs.out
        rw [v1.out, v2.out] at l1'
        generalize ps.getD j 0 = x at *
        generalize qs.getD j 0 = y at *
        have hj1 : j < n1 := by omega
        have hj2 : j < m1 := by omega
        clear hc1 hc2 h1 h2 hs lp lq
        by_cases e : x = y
        · have t2 : (x != y) = false := by simp [e]
          have HS : Hid (ps.drop j = qs.drop j) := l3 e
          clear l1' l3 e
          go_wp2
          go_quiet (fail)
          go_wp2
          go_roundw
          case rel => exact ⟨j, _, rfl, rfl, by omega, HS, below_drewN hnx _⟩
          case measure => simp [intOf]
        · have t2 : (x != y) = true := by simp [e]
          have HO : Hid (ordN x y = ordN (num xs) (num ys)) := l1' e
          clear l1' l3 e
          go_wp2
          go_quiet (fail)
          go_wp2
          go_quiet ((go_at_call 71; exact (compareU_same _ _ _).mono (fun _ _ h => ⟨h.1, _, h.2⟩)))
          go_wp2
          go_ret
          exact ⟨ret_i HO.out, below_drewN (below_drewN hnx _) _⟩
  · have t : ((n1 : Int) != (m1 : Int)) = true := by simp; omega
    have HO : Hid (ordN (n1 : Int) (m1 : Int) = ordN (num xs) (num ys)) := hol hnm
    clear hol hnm
    go_wp2_with (go_at_call 70; refine (compareI_any _ _ _).mono ?_; rintro e w' ⟨rfl, rfl⟩)
    go_ret
    exact ⟨ret_i HO.out, Below.refl _ _⟩
end Go.Proofs.Ytbdljmboilapeab
