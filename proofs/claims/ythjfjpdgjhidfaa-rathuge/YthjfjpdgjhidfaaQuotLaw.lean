/- What the laws of layer 3 call: the answers under fresh names; the laws' own helpers. -/
import Derived.Test.YthjfjpdgjhidfaaQuotGcd
namespace Go.Proofs.Ythjfjpdgjhidfaa
open Go.ChangeShapes Go.WideShapes Go.ChangeAt Go.RowKit
open Na Ar
set_option linter.unusedVariables false
set_option maxHeartbeats 1600000 in
set_option maxRecDepth 100000 in
theorem gcd_any {a b : Option Addr} {n m c1 c2 : Nat} {xs ys : List Int} {w : World} (hr1 : RowC w a n c1 xs) (hr2 : RowC w b m c2 ys) (hx : Ws xs) (hy : Ws ys) (hn : n ≤ 3700000) (hm : m ≤ 3700000) :
    Calls Try.prog 14 #[.slice a n c1, .slice b m c2] w fun e w' => ∃ v, e = .returned v ∧ Own .u64 w' w.heap.size 25 v (words (Int.gcd (num xs) (num ys) : Int)) ∧ Below w.heap.size w w' := by
  have p1 := num_nonneg hx
  have p2 := num_nonneg hy
  by_cases hX : num xs = 0
  · have HG : Hid ((Int.gcd (num xs) (num ys) : Int) = num ys) := by show _ = _; rw [hX, Int.gcd_comm, Int.gcd_zero]; omega
    have hl : (words (num xs)).length = 0 := (words_nil p1).mpr hX
    have nY := num_words p2
    have dY := Dg_words (num ys)
    have hno := fun (r : RowC w b (words (num ys)).length c2 (words (num ys))) h => natNorm_any r dY h
    rw [nY] at hno
    clear hX
    go_enter Try.func14, Try.ntmps14
    go_wp2_with fail
    refine (trim_any hr1 hx (by omega)).mono ?_
    rintro e w' ⟨rfl, _, _, _, rfl⟩
    rw [hl]
    go_wp2_with fail
    refine (trim_any hr2 hy (by omega)).mono ?_
    rintro e w' ⟨rfl, r2, _, l2, rfl⟩
    have h := hno r2 (by omega)
    clear hno r2 hl hr1 hr2
    generalize (words (num ys)).length = ly at *
    go_wp2_with fail
    refine h.mono ?_
    rintro e w2 ⟨v, rfl, hv, hb⟩
    clear h
    go_wp2
    go_ret
    exact ⟨_, rfl, by rw [HG.out]; exact hv, hb⟩
  · by_cases hY : num ys = 0
    · have HG : Hid ((Int.gcd (num xs) (num ys) : Int) = num xs) := by show _ = _; rw [hY, Int.gcd_zero]; omega
      have hl : (words (num ys)).length = 0 := (words_nil p2).mpr hY
      have nX := num_words p1
      have dX := Dg_words (num xs)
      have zX := words_nil p1
      have hno := fun (r : RowC w a (words (num xs)).length c1 (words (num xs))) h => natNorm_any r dX h
      rw [nX] at hno
      have tx : ((((words (num xs)).length : Nat) : Int) == 0) = false := by simp; intro h; exact hX (zX.mp (by rw [h]; rfl))
      clear hY zX hX
      go_enter Try.func14, Try.ntmps14
      go_wp2_with fail
      refine (trim_any hr1 hx (by omega)).mono ?_
      rintro e w' ⟨rfl, r1, _, l1, rfl⟩
      go_wp2_with fail
      refine (trim_any hr2 hy (by omega)).mono ?_
      rintro e w' ⟨rfl, _, _, _, rfl⟩
      rw [hl]
      have h := hno r1 (by omega)
      clear hno r1 hl hr1 hr2
      generalize (words (num xs)).length = lx at *
      go_wp2_with fail
      refine h.mono ?_
      rintro e w2 ⟨v, rfl, hv, hb⟩
      clear h
      go_wp2
      go_ret
      exact ⟨_, rfl, by rw [HG.out]; exact hv, hb⟩
    · exact gcd_big hr1 hr2 hx hy hn hm (by omega) (by omega)
section
variable {a b : Option Addr} {n m c1 c2 : Nat} {xs ys : List Int} {A B : Int} {w : World} {k : Nat}
theorem divModQ (hr1 : RowC w a n c1 xs) (hr2 : RowC w b m c2 ys) (h1 : Nm xs A) (h2 : Nm ys B) (hB : 0 < B) (hn : n ≤ 3700000) (hm : m ≤ 3700000) :
    Calls Try.prog 12 #[.slice a n c1, .slice b m c2] w fun e w' => ∃ a1 n1 d1 l1 a2 n2 d2 l2, e = .returned (.tuple #[.slice a1 n1 d1, .slice a2 n2 d2, .int .i64 0]) ∧ RowC w' a1 n1 d1 l1 ∧ Nm l1 (A / B) ∧ Hid (l1 = words (A / B)) ∧ RowC w' a2 n2 d2 l2 ∧ Nm l2 (A % B) ∧ Hid (l2 = words (A % B)) ∧ Below w.heap.size w w' := by
  refine (divMod_any hr1 hr2 h1.ws h2.ws (by omega) (by omega) (by rw [h2.num]; exact hB)).mono ?_
  rintro e w' ⟨v1, v2, rfl, ho1, ho2, hb, _⟩
  rw [h1.num, h2.num] at ho1 ho2
  have hA := h1.nonneg
  have q0 : 0 ≤ A / B := Int.ediv_nonneg hA (Int.le_of_lt hB)
  have r0 := Int.emod_nonneg A (show B ≠ 0 by omega)
  have r1 := Int.emod_lt_of_pos A hB
  have la : (words A).length ≤ 4000000 := by rw [← h1.num]; exact Nat.le_trans (words_le h1.ws) h1.len
  have lb : (words B).length ≤ 4000000 := by rw [← h2.num]; exact Nat.le_trans (words_le h2.ws) h2.len
  have l1 := words_mono q0 (Int.ediv_le_self B hA)
  have l2 := words_mono r0 (Int.le_of_lt r1)
  obtain ⟨a1, d1, rfl, q1⟩ := ho1.readsC
  obtain ⟨a2, d2, rfl, q2⟩ := ho2.readsC
  exact ⟨a1, _, d1, _, a2, _, d2, _, rfl, q1, ⟨Dg_words _, num_words q0, by omega⟩, rfl, q2, ⟨Dg_words _, num_words r0, by omega⟩, rfl, hb⟩
theorem divZeroQ (hr1 : RowC w a n c1 xs) (hr2 : RowC w b m c2 ys) (h1 : Nm xs A) (h2 : Nm ys 0) (hn : n ≤ 3700000) (hm : m ≤ 3700000) :
    Calls Try.prog 12 #[.slice a n c1, .slice b m c2] w fun e w' => ∃ a1 d1 a2 d2, e = .returned (.tuple #[.slice a1 0 d1, .slice a2 0 d2, .int .i64 30]) ∧ Below w.heap.size w w' := by
  refine (divModZero_any hr1 hr2 h1.ws h2.ws (by omega) (by omega) h2.num).mono ?_
  rintro e w' ⟨v1, v2, rfl, ho1, ho2, hb, _⟩
  obtain ⟨a1, d1, rfl, q1⟩ := ho1.readsC
  obtain ⟨a2, d2, rfl, q2⟩ := ho2.readsC
  exact ⟨a1, d1, a2, d2, rfl, hb⟩
theorem smallQ {d : Int} (hr1 : RowC w a n c1 xs) (h1 : Nm xs A) (hd : U d) (hd0 : d ≠ 0) (hn : n ≤ 3700000) :
    Calls Try.prog 13 #[.slice a n c1, .int .u64 d] w fun e w' => ∃ a1 n1 d1 l1, e = .returned (.tuple #[.slice a1 n1 d1, .int .u64 (A % d), .int .i64 0]) ∧ RowC w' a1 n1 d1 l1 ∧ Nm l1 (A / d) ∧ Hid (l1 = words (A / d)) ∧ Below w.heap.size w w' := by
  refine (small_any hr1 h1.ws (by omega) hd hd0).mono ?_
  rintro e w' ⟨v1, rfl, ho1, hb⟩
  rw [h1.num] at ho1 ⊢
  have hA := h1.nonneg
  have q0 : 0 ≤ A / d := Int.ediv_nonneg hA hd.1
  have la : (words A).length ≤ 4000000 := by rw [← h1.num]; exact Nat.le_trans (words_le h1.ws) h1.len
  have l1 := words_mono q0 (Int.ediv_le_self d hA)
  obtain ⟨a1, d1, rfl, q1⟩ := ho1.readsC
  exact ⟨a1, _, d1, _, rfl, q1, ⟨Dg_words _, num_words q0, by omega⟩, rfl, hb⟩
theorem rootQ (hr1 : RowC w a n c1 xs) (h1 : Nm xs A) (hn : n ≤ 3700000) :
    Calls Try.prog 16 #[.slice a n c1] w fun e w' => ∃ a1 n1 d1 l1 s, e = .returned (.tuple #[.slice a1 n1 d1, .bool (decide (s * s = A))]) ∧ RowC w' a1 n1 d1 l1 ∧ Nm l1 s ∧ Hid (l1 = words s) ∧ IsRoot A s ∧ Below w.heap.size w w' := by
  refine (root_any hr1 h1.ws hn).mono ?_
  rintro e w' ⟨v1, s, rfl, hs, ho1, hb⟩
  rw [h1.num] at hs ⊢
  have la : (words A).length ≤ 4000000 := by rw [← h1.num]; exact Nat.le_trans (words_le h1.ws) h1.len
  have hsA : s ≤ A := by
    obtain ⟨r1, r2, _⟩ := hs
    by_cases g : s = 0
    · have := h1.nonneg; omega
    · have : s * 1 ≤ s * s := Int.mul_le_mul_of_nonneg_left (by omega) r1
      omega
  have l1 := words_mono hs.1 hsA
  obtain ⟨a1, d1, rfl, q1⟩ := ho1.readsC
  exact ⟨a1, _, d1, _, s, rfl, q1, ⟨Dg_words _, num_words hs.1, by omega⟩, rfl, hs, hb⟩
theorem powQ (t : Nat) (ht : t ≤ 9223372036854775807) (hr1 : RowC w a n c1 xs) (h1 : Nm xs A) (hL : Lt (A ^ t) k) (hk : k ≤ 4096) :
    Calls Try.prog 15 #[.slice a n c1, .int .i64 (t : Int)] w fun e w' => ∃ a1 n1 d1 l1, e = .returned (.tuple #[.slice a1 n1 d1, .int .i64 0]) ∧ RowC w' a1 n1 d1 l1 ∧ Nm l1 (A ^ t) ∧ Hid (l1 = words (A ^ t)) ∧ Below w.heap.size w w' := by
  have hf := hL.fits hk
  refine (pow_any hr1 h1.ws (by have := h1.len; have := hr1.1.1; omega) (t : Int) (by omega) (by omega)).mono ?_
  rintro e w' ⟨v1, rfl, ho1, hb⟩
  have e1 : powE (num xs) (t : Int) = 0 := by unfold powE; rw [if_neg (by omega), h1.num, Int.toNat_natCast]; exact hf.2
  have e2 : powL (num xs) (t : Int) = words (A ^ t) := by unfold powL; rw [if_neg (by omega), h1.num, Int.toNat_natCast]; exact hf.1
  rw [e1]
  rw [e2] at ho1
  obtain ⟨a1, d1, rfl, q1⟩ := ho1.readsC
  exact ⟨a1, _, d1, _, rfl, q1, hL.nm (by omega), rfl, hb⟩
theorem gcdQ (hr1 : RowC w a n c1 xs) (hr2 : RowC w b m c2 ys) (h1 : Nm xs A) (h2 : Nm ys B) (hL : Lt (Int.gcd A B : Int) k) (hk : k ≤ 4000000) (hn : n ≤ 3700000) (hm : m ≤ 3700000) :
    Calls Try.prog 14 #[.slice a n c1, .slice b m c2] w fun e w' => ∃ a1 n1 d1 l1, e = .returned (.slice a1 n1 d1) ∧ RowC w' a1 n1 d1 l1 ∧ Nm l1 (Int.gcd A B : Int) ∧ Hid (l1 = words (Int.gcd A B : Int)) ∧ Below w.heap.size w w' := by
  refine (gcd_any hr1 hr2 h1.ws h2.ws hn hm).mono ?_
  rintro e w' ⟨v1, rfl, ho1, hb⟩
  rw [h1.num, h2.num] at ho1
  obtain ⟨a1, d1, rfl, q1⟩ := ho1.readsC
  exact ⟨a1, _, d1, _, rfl, q1, hL.nm hk, rfl, hb⟩
end
theorem num3_any (x : Int) (w : World) : Calls Try.prog 18 #[.int .i64 x] w fun e w' => e = .returned (.int .i64 x) ∧ Below w.heap.size w w' := by
  go_enter Try.func18, Try.ntmps18
  go_wp2
  go_ret
  exact ⟨rfl, Below.refl _ _⟩
set_option maxHeartbeats 1600000 in
set_option maxRecDepth 100000 in
theorem bounded_any {a : Option Addr} {n cap : Nat} {xs : List Int} {w : World} (hrow : RowAt .u64 w a n xs) (hn : n ≤ maxLen) (M : Nat) (hM : M ≤ 1000000) :
    Calls Try.prog 10 #[.slice a n cap, .int .i64 (M : Int)] w fun e w' => ∃ v, e = .returned v ∧ Own .u64 w' w.heap.size 25 v (xs.take M) ∧ Below w.heap.size w w' := by
  obtain ⟨i_u64, hi_u64, hz0_u64, hz1_u64, hz2_u64⟩ := info_parts info_u64
  have hlen := hrow.1
  unfold maxLen at hn
  go_enter Try.func10, Try.ntmps10
  go_wp2
  go_loopw [5, 6] (fun v i wr => ∃ k : Nat, k ≤ n ∧ k ≤ M ∧ i = .int .i64 k ∧ Own .u64 wr w.heap.size 25 v (xs.take k) ∧ Below w.heap.size w wr) (fun _ i _ => M - (intOf i).toNat)
  case atStart => exact ⟨0, Nat.zero_le _, Nat.zero_le _, rfl, own_nil _ _ _ _, Below.refl _ _⟩
  case round =>
    obtain ⟨k, hk, hk', rfl, hown, hnx⟩ := hrel
    have hsz := hnx.size
    by_cases hlt : k < n
    · have i1 : (k : Int) < (n : Int) := by omega
      by_cases hlt' : k < M
      · have i2 : (k : Int) < (M : Int) := by omega
        obtain ⟨b, off, rfl, hbB, hc⟩ := hrow.at (by omega)
        have hcx := (hnx.cell (p := ⟨b, off + k, none⟩) hbB).trans (hc k hlt)
        have hlk : (xs.take k).length = k := by rw [List.length_take]; omega
        have htk : Hid (xs.take (k + 1) = xs.take k ++ [xs.getD k 0]) := take_next (by omega)
        generalize xs.getD k 0 = x at *
        generalize xs.take k = ys at *
        clear hc hrow
        go_wp2_with (at_builtin; refine wpList_append_own _ rfl _ _ 22 rfl w.heap.size 25 i_u64 (.int .u64 0) 1 8 Try.underlying22 hi_u64 hz0_u64 hz1_u64 hz2_u64 rfl (by decide) _ _ _ rfl (hown.row.alloc _) ⟨wr.heap.size, 0, none⟩ 1 1 [.int .u64 x] rfl rfl one_new one_cell (by unfold maxLen; omega) (by omega) (by simp; omega) ?_)
        intro v' w1 hown' hgrow _
        have hb' := grow_below hsz hown.row hnx hgrow
        have ho' := own_next hown' (by omega)
        rw [← htk.out] at ho'
        clear hown' hgrow hown hnx hcx
        go_wp2
        go_roundw
        case rel => exact ⟨k + 1, by omega, by omega, by go_num, ho', hb'⟩
        case measure => simp [intOf]; omega
      · have e : k = M := by omega
        have i2 : ¬ (k : Int) < (M : Int) := by omega
        have HE : Hid (xs.take M = xs.take k) := by show _ = _; rw [e]
        clear e
        go_wp2
        go_ret
        exact ⟨_, rfl, by rw [HE.out]; exact hown, hnx⟩
    · have i1 : ¬ (k : Int) < (n : Int) := by omega
      have HE : Hid (xs.take M = xs.take k) := by
        show _ = _
        rw [List.take_of_length_le (by omega), List.take_of_length_le (by omega)]
      go_wp2
      go_ret
      exact ⟨_, rfl, by rw [HE.out]; exact hown, hnx⟩
theorem boundedQ {a : Option Addr} {n cap : Nat} {xs : List Int} {w : World} (hr : RowAt .u64 w a n xs) (hx : Ws xs) (hn : n ≤ maxLen) (M : Nat) (hM : M ≤ 1000000) :
    Calls Try.prog 10 #[.slice a n cap, .int .i64 (M : Int)] w fun e w' => ∃ a' n' c' l', e = .returned (.slice a' n' c') ∧ RowC w' a' n' c' l' ∧ Nm l' (num l') ∧ Lt (num l') M ∧ n' ≤ M ∧ Hid (l' = xs.take M) ∧ Below w.heap.size w w' := by
  refine (bounded_any hr hn M hM).mono ?_
  rintro e w' ⟨v, rfl, ho, hb⟩
  obtain ⟨a', c', rfl, r⟩ := ho.readsC
  have hl : (xs.take M).length ≤ M := by rw [List.length_take]; omega
  have hm : Nm (xs.take M) (num (xs.take M)) := ⟨hx.take M, rfl, by omega⟩
  exact ⟨a', _, c', _, rfl, r, hm, hm.lt hl, hl, rfl, hb⟩
end Go.Proofs.Ythjfjpdgjhidfaa
