/- NatHuge: at the limit and past it. -/
import Derived.Test.YtopcdpeepchgfabLawBits
namespace Go.Proofs.Ytopcdpeepchgfab
open Go.ChangeShapes Go.WideShapes Go.ChangeAt Go.RowKit
open Na Ar
set_option linter.unusedVariables false
namespace Na
/-- the least number that is too long -/
def lim : Int := 18446744073709551616 ^ 4096
theorem lim_pos : 0 < lim := wpow_pos 4096
theorem lim_pow : lim = 2 ^ 262144 := wpow2 4096
theorem lt_lim {N : Int} (h0 : 0 ≤ N) (h : N < lim) : Lt N 4096 := ⟨h0, h⟩
theorem past_lim {N : Int} (h : lim ≤ N) : resL N = [] ∧ resE N = 21 := res_huge (dig_len_ge h)
theorem num_tops (n : Nat) : num (List.replicate n 18446744073709551615) = 18446744073709551616 ^ n - 1 := by
  unfold num
  induction n with
  | zero => simp [val]
  | succ n ih =>
    rw [List.replicate_succ, val_cons, ih, Int.pow_succ]
    generalize (18446744073709551616 : Int) ^ n = P
    omega
theorem ws_tops (n : Nat) : Ws (List.replicate n 18446744073709551615) := fun y hy => by
  have := List.eq_of_mem_replicate hy
  subst this; omega
theorem nm_top : Nm (List.replicate 4096 18446744073709551615) (lim - 1) := ⟨ws_tops _, num_tops 4096, by rw [List.length_replicate]; omega⟩
theorem eq_top : Hid (List.replicate 4096 18446744073709551615 = words (lim - 1)) := by
  have h := words_same (ws_tops 4096) (by
    rw [num_tops, List.length_replicate]
    have e : (18446744073709551616 : Int) ^ 4096 = 18446744073709551616 ^ 4095 * 18446744073709551616 := Int.pow_succ _ 4095
    have p := wpow_pos 4095
    exact dig_len_ge (k := 4095) (by rw [e]; omega))
  rw [num_tops] at h
  exact h
theorem getD_zeros (n k : Nat) : (List.replicate n (0 : Int)).getD k 0 = 0 := by
  rw [List.getD_eq_getElem?_getD, List.getElem?_replicate]
  split <;> rfl
theorem num_over (w : Int) : num ((List.replicate 4097 0).set 4096 w) = w * lim := by
  have h := val_set (B := 18446744073709551616) (xs := List.replicate 4097 0) (j := 4096) w (by rw [List.length_replicate]; omega)
  unfold num
  rw [h, val_zeros]
  have e : (List.replicate 4097 (0 : Int)).getD 4096 0 = 0 := getD_zeros _ _
  rw [e, Int.zero_add, Int.sub_zero, Int.mul_comm]; rfl
theorem nm_over {w : Int} (h : 0 ≤ w ∧ w < 18446744073709551616) : Nm ((List.replicate 4097 0).set 4096 w) (w * lim) :=
  ⟨(Dg_zeros (by omega) _).set _ h, num_over w, by rw [List.length_set, List.length_replicate]; omega⟩
theorem over_ge {w : Int} (h : 1 ≤ w) : lim ≤ w * lim := by
  have : 1 * lim ≤ w * lim := Int.mul_le_mul_of_nonneg_right h (Int.le_of_lt lim_pos)
  omega
theorem eq_over {w : Int} (h : 1 ≤ w) (h' : w < 18446744073709551616) : Hid ((List.replicate 4097 0).set 4096 w = words (w * lim)) := by
  have h0 : (0 ≤ w ∧ w < 18446744073709551616) := ⟨by omega, h'⟩
  have e := words_same (nm_over h0).ws (by
    rw [num_over]
    have := dig_len_ge (k := 4096) (over_ge h)
    simp only [List.length_set, List.length_replicate]
    omega)
  rw [num_over] at e
  exact e
theorem over_lt {w : Int} (h : 1 ≤ w) (h' : w < 18446744073709551616) : Lt (w * lim) 4097 := by
  refine ⟨Int.mul_nonneg (by omega) (Int.le_of_lt lim_pos), ?_⟩
  rw [Int.pow_succ, Int.mul_comm]
  exact Int.mul_lt_mul_of_pos_left h' lim_pos
theorem over_sub {w : Int} (h : 1 ≤ w) : w - 1 ≤ w * lim ∧ lim ≤ w * lim - (w - 1) := by
  have p := lim_pos
  have e : w * lim = (w - 1) * lim + lim := by rw [Int.sub_mul]; omega
  have g : (w - 1) * 1 ≤ (w - 1) * lim := Int.mul_le_mul_of_nonneg_left (by omega) (by omega)
  generalize (w - 1) * lim = Z at *
  generalize w * lim = Y at *
  generalize lim = L at *
  omega
theorem over_bits {w : Int} (h : 1 ≤ w) : 262144 < bitsN (w * lim) := by
  have g := over_ge h
  have p := lim_pos
  obtain ⟨b, hb, h1, h2⟩ := bits_some (N := w * lim) (by omega)
  rw [hb]
  by_cases c : 262144 ≤ b
  · omega
  · have := p2mono (show b + 1 ≤ 262144 by omega)
    rw [← lim_pow] at this
    omega
theorem set_take_next {us : List Int} {q : Nat} (h : q < us.length) (x : Int) : (us.set q x).take (q + 1) = us.take q ++ [x] := by
  have e := take_next (xs := us.set q x) (k := q) (by rw [List.length_set]; exact h)
  rw [List.take_set_of_le (Nat.le_refl _)] at e
  have g : (us.set q x).getD q 0 = x := by simp [List.getD_eq_getElem?_getD, h]
  rw [e, g]
theorem one_pow_lt {r : Nat} (h : r < 64) : Lt (1 * 2 ^ (262143 - r)) 4096 := by
  refine ⟨by have := p2pos (262143 - r); omega, ?_⟩
  rw [wpow2, Int.one_mul]
  have a := p2mono (show 262143 - r ≤ 262143 by omega)
  have b : (2 : Int) ^ 262144 = 2 ^ 262143 * 2 := Int.pow_succ _ _
  have p := p2pos 262143
  have e : 64 * 4096 = 262144 := rfl
  rw [e, b]
  omega
theorem one_pow_bits {r : Nat} (h : r < 64) : bitsN (1 * 2 ^ (262143 - r)) = 262144 - (r : Int) := by
  have := bitsN_eq (N := 1 * 2 ^ (262143 - r)) (k := 262143 - r) (by omega) (by rw [Int.pow_succ]; have := p2pos (262143 - r); omega)
  rw [this]; omega
theorem pow_word {r : Nat} (h : r < 64) : 0 ≤ (2 : Int) ^ r ∧ (2 : Int) ^ r < 18446744073709551616 := by
  have a := p2pos r
  have b := p2mono (show r ≤ 63 by omega)
  have c : (2 : Int) ^ 63 = 9223372036854775808 := rfl
  omega
theorem pow_join {k : Nat} (h : k < 64) : (2 : Int) ^ k * 2 ^ (262144 - k) = lim := by
  rw [lim_pow, ← Int.pow_add]
  congr 1; omega
end Na
theorem Own.rowA {w : World} {base : Nat} {e : TypeId} {a : Option Addr} {n cap : Nat} {xs : List Int} (h : Own .u64 w base e (.slice a n cap) xs) (hn : n = xs.length) : RowC w a n cap xs := by
  subst hn
  obtain ⟨a', c', hv, r⟩ := h.readsC
  simp only [Value.slice.injEq] at hv
  obtain ⟨rfl, _, rfl⟩ := hv
  exact r
section
variable {a b : Option Addr} {n m c1 c2 : Nat} {xs ys : List Int} {A B : Int} {w : World} {k : Nat}
theorem own_none {w : World} {base : Nat} {e : TypeId} {v : Value} (h : Own .u64 w base e v []) : ∃ a' c', v = .slice a' 0 c' := by
  obtain ⟨a, c, hv, _⟩ := h.readsC
  exact ⟨a, c, hv⟩
theorem addH (hr1 : RowC w a n c1 xs) (hr2 : RowC w b m c2 ys) (h1 : Nm xs A) (h2 : Nm ys B) (hH : lim ≤ A + B) :
    Calls Try.prog 13 #[.slice a n c1, .slice b m c2] w fun e w' => ∃ a' c', e = .returned (.tuple #[.slice a' 0 c', .int .i64 21]) ∧ Below w.heap.size w w' := by
  have l1 := hr1.1.1
  have l2 := hr2.1.1
  have h := natAdd_any hr1 hr2 h1.ws h2.ws (by have := h1.len; omega) (by have := h2.len; omega)
  rw [h1.num, h2.num, (past_lim hH).1, (past_lim hH).2] at h
  refine h.mono ?_
  rintro e w' ⟨v, rfl, ho, hb⟩
  obtain ⟨a', c', rfl⟩ := own_none ho
  exact ⟨a', c', rfl, hb⟩
theorem mulH (hr1 : RowC w a n c1 xs) (hr2 : RowC w b m c2 ys) (h1 : Nm xs A) (h2 : Nm ys B) (hH : lim ≤ A * B) :
    Calls Try.prog 32 #[.slice a n c1, .slice b m c2] w fun e w' => ∃ a' c', e = .returned (.tuple #[.slice a' 0 c', .int .i64 21]) ∧ Below w.heap.size w w' := by
  have l1 := hr1.1.1
  have l2 := hr2.1.1
  have h := natMul_any hr1 hr2 h1.ws h2.ws (by have := h1.len; omega) (by have := h2.len; omega)
  rw [h1.num, h2.num, (past_lim hH).1, (past_lim hH).2] at h
  refine h.mono ?_
  rintro e w' ⟨v, rfl, ho, hb⟩
  obtain ⟨a', c', rfl⟩ := own_none ho
  exact ⟨a', c', rfl, hb⟩
theorem mulZ (hr1 : RowC w a n c1 xs) (hr2 : RowC w b m c2 ys) (h1 : Nm xs A) (h2 : Nm ys 0) :
    Calls Try.prog 32 #[.slice a n c1, .slice b m c2] w fun e w' => ∃ a' c', e = .returned (.tuple #[.slice a' 0 c', .int .i64 0]) ∧ Below w.heap.size w w' := by
  have l1 := hr1.1.1
  have l2 := hr2.1.1
  have h := natMul_any hr1 hr2 h1.ws h2.ws (by have := h1.len; omega) (by have := h2.len; omega)
  have z := res_zero (N := A * 0) (by simp)
  rw [h1.num, h2.num, z.1, z.2] at h
  refine h.mono ?_
  rintro e w' ⟨v, rfl, ho, hb⟩
  obtain ⟨a', c', rfl⟩ := own_none ho
  exact ⟨a', c', rfl, hb⟩
theorem subH (hr1 : RowC w a n c1 xs) (hr2 : RowC w b m c2 ys) (h1 : Nm xs A) (h2 : Nm ys B) (hle : B ≤ A) (hH : lim ≤ A - B) :
    Calls Try.prog 104 #[.slice a n c1, .slice b m c2] w fun e w' => ∃ a' c', e = .returned (.tuple #[.slice a' 0 c', .int .i64 21]) ∧ Below w.heap.size w w' := by
  have l1 := hr1.1.1
  have l2 := hr2.1.1
  have h := natSub_any hr1 hr2 h1.ws h2.ws (by have := h1.len; omega) (by have := h2.len; omega)
  have e1 : subE A B = 21 := by unfold subE; rw [if_neg (by omega)]; exact (past_lim hH).2
  have e2 : subL A B = [] := by unfold subL; rw [if_neg (by omega)]; exact (past_lim hH).1
  rw [h1.num, h2.num, e1, e2] at h
  refine h.mono ?_
  rintro e w' ⟨v, rfl, ho, hb⟩
  obtain ⟨a', c', rfl⟩ := own_none ho
  exact ⟨a', c', rfl, hb⟩
theorem sumH {xss : List (List Int)} {cap : Nat} (hr : RowsC w a n xss) (hx : Wss xss) (hn : n ≤ 4000000) (hH : lim ≤ sumN xss) :
    Calls Try.prog 51 #[.slice a n cap] w fun e w' => ∃ a' c', e = .returned (.tuple #[.slice a' 0 c', .int .i64 21]) ∧ Below w.heap.size w w' := by
  have h := natSum_any (cap := cap) hr hx hn
  rw [(past_lim hH).1, (past_lim hH).2] at h
  refine h.mono ?_
  rintro e w' ⟨v, rfl, ho, hb⟩
  obtain ⟨a', c', rfl⟩ := own_none ho
  exact ⟨a', c', rfl, hb⟩
theorem shlH (hr1 : RowC w a n c1 xs) (h1 : Nm xs A) {t : Nat} {T : Int} (hT : (t : Int) = T) (ht : t ≤ 300000) (hH : lim ≤ A * 2 ^ t) :
    Calls Try.prog 38 #[.slice a n c1, .int .i64 T] w fun e w' => ∃ a' c', e = .returned (.tuple #[.slice a' 0 c', .int .i64 21]) ∧ Below w.heap.size w w' := by
  subst hT
  have l1 := hr1.1.1
  have h := natShl_any hr1 h1.ws (by have := h1.len; omega) (t : Int) (by omega)
  have e1 : shlE A (t : Int) = 21 := by unfold shlE; rw [if_neg (by omega), Int.toNat_natCast]; exact (past_lim hH).2
  have e2 : shlL A (t : Int) = [] := by unfold shlL; rw [if_neg (by omega), Int.toNat_natCast]; exact (past_lim hH).1
  rw [h1.num, e1, e2] at h
  refine h.mono ?_
  rintro e w' ⟨v, rfl, ho, hb⟩
  obtain ⟨a', c', rfl⟩ := own_none ho
  exact ⟨a', c', rfl, hb⟩
theorem shlT (hr1 : RowC w a n c1 xs) (h1 : Nm xs A) {t : Nat} {T : Int} (hT : (t : Int) = T) (ht : t ≤ 300000) (hL : Lt (A * 2 ^ t) k) (hk : k ≤ 4096) :
    Calls Try.prog 38 #[.slice a n c1, .int .i64 T] w fun e w' => ∃ a' n' c' l', e = .returned (.tuple #[.slice a' n' c', .int .i64 0]) ∧ RowC w' a' n' c' l' ∧ Nm l' (A * 2 ^ t) ∧ Hid (l' = words (A * 2 ^ t)) ∧ Below w.heap.size w w' := by
  subst hT
  exact shlQ hr1 h1 t (by omega) hL hk
theorem shlZ (hr1 : RowC w a n c1 xs) (h1 : Nm xs 0) {T : Int} (h0 : 0 ≤ T) (hT : T ≤ 9223372036854775807) :
    Calls Try.prog 38 #[.slice a n c1, .int .i64 T] w fun e w' => ∃ a' c', e = .returned (.tuple #[.slice a' 0 c', .int .i64 0]) ∧ Below w.heap.size w w' := by
  have l1 := hr1.1.1
  have h := natShl_any hr1 h1.ws (by have := h1.len; omega) T hT
  obtain ⟨t, ht⟩ : ∃ t, t = T.toNat := ⟨_, rfl⟩
  have z := res_zero (N := 0 * 2 ^ t) (by rw [Int.zero_mul])
  have e1 : shlE 0 T = 0 := by unfold shlE; rw [if_neg (by omega), ← ht]; exact z.2
  have e2 : shlL 0 T = [] := by unfold shlL; rw [if_neg (by omega), ← ht]; exact z.1
  rw [h1.num, e1, e2] at h
  refine h.mono ?_
  rintro e w' ⟨v, rfl, ho, hb⟩
  obtain ⟨a', c', rfl⟩ := own_none ho
  exact ⟨a', c', rfl, hb⟩
theorem shlNeg (hr1 : RowC w a n c1 xs) (h1 : Nm xs A) {T : Int} (h0 : T < 0) :
    Calls Try.prog 38 #[.slice a n c1, .int .i64 T] w fun e w' => ∃ a' c', e = .returned (.tuple #[.slice a' 0 c', .int .i64 22]) ∧ Below w.heap.size w w' := by
  have l1 := hr1.1.1
  have h := natShl_any hr1 h1.ws (by have := h1.len; omega) T (by omega)
  have e1 : shlE A T = 22 := by unfold shlE; rw [if_pos h0]
  have e2 : shlL A T = [] := by unfold shlL; rw [if_pos h0]
  rw [h1.num, e1, e2] at h
  refine h.mono ?_
  rintro e w' ⟨v, rfl, ho, hb⟩
  obtain ⟨a', c', rfl⟩ := own_none ho
  exact ⟨a', c', rfl, hb⟩
end
end Go.Proofs.Ytopcdpeepchgfab
