/- package rat: New and Check of what is too long; the numbers of RatHuge. -/
import Derived.Test.YtopcdpeepchgfabRatI
import Derived.Test.YtopcdpeepchgfabLawHuge
namespace Go.Proofs.Ytopcdpeepchgfab
open Go.ChangeShapes Go.WideShapes Go.ChangeAt Go.RowKit
open Na Ar
set_option linter.unusedVariables false
theorem into5_any (n : Int) (top : Nat) (h0 : -9223372036854775808 ≤ n) (h1 : n ≤ 9223372036854775807) (ht : 0 < top) (ht' : top ≤ 400000000) (w : World) :
    Calls Try.prog 37 #[.int .i64 n, .int .i64 (top : Int)] w fun e w' => ∃ r : Nat, e = .returned (.int .i64 (r : Int)) ∧ r < top ∧ w = w' := by
  have t1 : ((top : Int) == 0) = false := by simp; omega
  have t2 : ((top : Int) == -1) = false := by simp
  have hm := Int.tmod_eq_emod (a := n) (b := (top : Int))
  have e0 := Int.emod_nonneg n (show (top : Int) ≠ 0 by omega)
  have e1 := Int.emod_lt_of_pos n (show (0 : Int) < top by omega)
  have hq2 : n.tmod (top : Int) = n % (top : Int) ∨ n.tmod (top : Int) = n % (top : Int) - (top : Int) := by
    rw [hm]
    split
    · left; omega
    · right; simp
  obtain ⟨r, hr⟩ : ∃ r : Nat, (r : Int) = n % (top : Int) := ⟨(n % (top : Int)).toNat, by omega⟩
  have hrt : r < top := by omega
  by_cases hneg : n.tmod (top : Int) < 0
  · have HR : Hid (wrap64 (n.tmod (top : Int) + (top : Int)) = (r : Int)) := by
      show _ = _
      unfold wrap64
      omega
    clear hm hq2 hr e0 e1
    go_enter Try.func37, Try.ntmps37
    go_wp2
    go_ret
    exact ⟨r, ret_i HR.out, hrt, rfl⟩
  · have HR : Hid (n.tmod (top : Int) = (r : Int)) := by show _ = _; omega
    clear hm hq2 hr e0 e1
    go_enter Try.func37, Try.ntmps37
    go_wp2
    go_ret
    exact ⟨r, ret_i HR.out, hrt, rfl⟩
section
variable {w : World} {a b : Option Addr} {n c m d : Nat} {xs ys : List Int} {A B : Int} {k : Nat}
set_option maxHeartbeats 6400000 in
set_option maxRecDepth 100000 in
theorem rNew_top {neg : Bool} (hr1 : RowC w a n c xs) (hr2 : RowC w b m d ys) (h1 : Nm xs A) (h2 : Nm ys B) (hB : 0 < B) (hA : 262144 < bitsN A) (hn : n ≤ 3700000) (hm : m ≤ 3700000) :
    Calls Try.prog 34 #[.bool neg, .slice a n c, .slice b m d] w fun e w' => e = .returned (.tuple #[.agg #[.bool false, .slice none 0 0, .slice none 0 0], .int .i64 21]) ∧ Below w.heap.size w w' := by
  have hb0 := alloc_below (w := w) (.cells #[.bool false, .slice none 0 0, .slice none 0 0] 47)
  have st0 := st_new w (.bool false) (.slice none 0 0) (.slice none 0 0) 47
  replace hr1 := hr1.later hb0
  replace hr2 := hr2.later hb0
  have k1 := bits0_any hr1 h1.ws (by omega)
  have k2 := bits0_any hr2 h2.ws (by omega)
  rw [h1.num] at k1
  rw [h2.num] at k2
  obtain ⟨j, hj, _⟩ := bits_some hB
  have tj : (bitsN B == 0) = false := beq_no (by omega)
  generalize bitsN A = bA' at *
  generalize bitsN B = bB' at *
  obtain ⟨x0, x1, x2⟩ := st0.cells
  obtain ⟨y0, y1, y2⟩ := st0.frozen
  clear hr1 hr2 h1 h2 hB hn hm hj
  go_enter Try.func34, Try.ntmps34
  go_wp2_with fail
  refine k2.mono ?_
  rintro e w1 ⟨rfl, rfl⟩
  go_wp2_with fail
  refine k1.mono ?_
  rintro e w1 ⟨rfl, rfl⟩
  clear k1 k2
  go_wp2
  refine bodyPost_ret (v := .tuple #[.agg #[.bool false, .slice none 0 0, .slice none 0 0], .int .i64 21]) (by simp [results, Try.results34, go_sem]) rfl ?_
  exact ⟨rfl, hb0⟩
set_option maxHeartbeats 6400000 in
set_option maxRecDepth 100000 in
theorem rNew_low {neg : Bool} (hr1 : RowC w a n c xs) (hr2 : RowC w b m d ys) (h1 : Nm xs A) (h2 : Nm ys B) (hB : 0 < B) (lA : Lt A 4096) (hB2 : 262144 < bitsN B) (hn : n ≤ 3700000) (hm : m ≤ 3700000) :
    Calls Try.prog 34 #[.bool neg, .slice a n c, .slice b m d] w fun e w' => e = .returned (.tuple #[.agg #[.bool false, .slice none 0 0, .slice none 0 0], .int .i64 21]) ∧ Below w.heap.size w w' := by
  have hb0 := alloc_below (w := w) (.cells #[.bool false, .slice none 0 0, .slice none 0 0] 47)
  have st0 := st_new w (.bool false) (.slice none 0 0) (.slice none 0 0) 47
  replace hr1 := hr1.later hb0
  replace hr2 := hr2.later hb0
  have k1 := bits0_any hr1 h1.ws (by omega)
  have k2 := bits0_any hr2 h2.ws (by omega)
  rw [h1.num] at k1
  rw [h2.num] at k2
  obtain ⟨j, hj, _⟩ := bits_some hB
  have tA : ¬ 262144 < bitsN A := by have := bits_le lA.1 lA.2; omega
  clear lA
  have tj : (bitsN B == 0) = false := beq_no (by omega)
  generalize bitsN A = bA' at *
  generalize bitsN B = bB' at *
  obtain ⟨x0, x1, x2⟩ := st0.cells
  obtain ⟨y0, y1, y2⟩ := st0.frozen
  clear hr1 hr2 h1 h2 hB hn hm hj
  go_enter Try.func34, Try.ntmps34
  go_wp2_with fail
  refine k2.mono ?_
  rintro e w1 ⟨rfl, rfl⟩
  go_wp2_with fail
  refine k1.mono ?_
  rintro e w1 ⟨rfl, rfl⟩
  go_wp2_with fail
  refine k2.mono ?_
  rintro e w1 ⟨rfl, rfl⟩
  clear k1 k2
  go_wp2
  refine bodyPost_ret (v := .tuple #[.agg #[.bool false, .slice none 0 0, .slice none 0 0], .int .i64 21]) (by simp [results, Try.results34, go_sem]) rfl ?_
  exact ⟨rfl, hb0⟩
theorem rnormal_long (hl : 4096 < n) :
    Calls Try.prog 75 #[.slice a n c] w fun e w' => e = .returned (.bool false) ∧ w' = w := by
  have t3 : ¬ (n : Int) ≤ 4096 := by omega
  clear hl
  go_enter Try.func75, Try.ntmps75
  go_wp2
  go_ret
  exact ⟨rfl, rfl⟩
theorem check_long {s : Bool} (hl : 4096 < n) :
    Calls Try.prog 39 #[.agg #[.bool s, .slice a n c, .slice b m d]] w fun e w' => e = .returned (.int .i64 51) ∧ Below w.heap.size w w' := by
  have hb0 := alloc_below (w := w) (.cells #[.bool s, .slice a n c, .slice b m d] 47)
  go_enter Try.func39, Try.ntmps39
  go_wp2_with fail
  refine (rnormal_long hl).mono ?_
  rintro e w1 ⟨rfl, rfl⟩
  go_wp2
  go_ret
  exact ⟨rfl, hb0⟩
end
theorem one_abs {s : Bool} {N : Int} (h : 0 ≤ N) : ((mkR s N 1).num.natAbs : Int) = N ∧ ((mkR s N 1).den : Int) = 1 := by
  rw [rat_abs h (by omega), rat_den h (by omega), Int.gcd_one]
  simp
theorem part_abs {s : Bool} {N : Int} (h : 0 < N) : ((mkR s 1 N).num.natAbs : Int) = 1 ∧ ((mkR s 1 N).den : Int) = N := by
  rw [rat_abs (by omega) h, rat_den (by omega) h, Int.one_gcd]
  simp
theorem one_sgn {s : Bool} {N D : Int} (h : 0 < N) (hD : 0 < D) : sgnR (mkR s N D) = if s then -1 else 1 := by
  have e := rat_num (s := s) (A := N) (B := D) (by omega) hD
  have g : 0 < N / (Int.gcd N D : Int) := by
    have d1 : (Int.gcd N D : Int) ∣ N := Int.gcd_dvd_left ..
    have gp : 0 < (Int.gcd N D : Int) := by
      have : Int.gcd N D ≠ 0 := by intro e; rw [Int.gcd_eq_zero_iff] at e; omega
      omega
    exact Int.ediv_pos_of_pos_of_dvd h (by omega) d1
  unfold sgnR
  rw [e]
  cases s <;> simp [sg] <;> (repeat' split) <;> omega
theorem mul_half {s : Bool} {T P : Int} (hP : 0 < P) : mkR s T 1 * mkR false 1 P = mkR s T P := by
  unfold mkR
  rw [Rat.mkRat_mul_mkRat]
  simp [sg]
theorem half_inv {P : Int} (hP : 0 < P) : (mkR false P 1)⁻¹ = mkR false 1 P := by
  unfold mkR
  rw [← Rat.divInt_ofNat, ← Rat.divInt_ofNat, Rat.inv_divInt]
  simp [sg]
  rw [Int.max_eq_left (Int.le_of_lt hP)]
theorem back_sum {s : Bool} {T : Int} : mkR s T 1 + mkR (!s) T 1 = 0 := by
  unfold mkR
  have e : mkRat (sg (!s) T) (1 : Int).toNat = -mkRat (sg s T) (1 : Int).toNat := by
    rw [Rat.neg_mkRat]
    cases s <;> simp [sg]
  rw [e, Rat.add_neg_cancel]
theorem mkR_scale {s : Bool} {A D v : Int} (hD : 0 < D) (hv : 0 < v) : mkR s (A * v) (D * v) = mkR s A D := by
  unfold mkR
  have e1 : sg s (A * v) = sg s A * (v.toNat : Int) := by
    rw [Int.toNat_of_nonneg (Int.le_of_lt hv)]
    cases s <;> simp [sg, Int.neg_mul]
  have e2 : (D * v).toNat = D.toNat * v.toNat := by
    rw [Int.toNat_mul (Int.le_of_lt hD) (Int.le_of_lt hv)]
  rw [e1, e2]
  exact Rat.mkRat_mul_right (by omega)
theorem huge_facts {r : Nat} (h : r < 60) : ∃ T P M : Int, T = 1 * 2 ^ (262143 - r) ∧ P = 1 * 2 ^ (r + 1) ∧ 0 < T ∧ 0 < P ∧ P < 18446744073709551616 ∧ Lt T 4096 ∧ lim ≤ T * P ∧ lim ≤ T * 9223372036854775809 ∧ T = M * P ∧ 0 < M ∧ bitsN M = 262143 - 2 * (r : Int) := by
  have t0 := p2pos (262143 - r)
  have p0 := p2pos (r + 1)
  have m0 := p2pos (262142 - 2 * r)
  have p1 := p2mono (show r + 1 ≤ 63 by omega)
  have e63 : (2 : Int) ^ 63 = 9223372036854775808 := rfl
  have j1 : (2 : Int) ^ (262143 - r) * 2 ^ (r + 1) = lim := by
    rw [lim_pow, ← Int.pow_add]
    congr 1; omega
  have j2 : (2 : Int) ^ (262143 - r) = 2 ^ (262142 - 2 * r) * 2 ^ (r + 1) := by
    rw [← Int.pow_add]
    congr 1; omega
  have j3 : lim ≤ (2 : Int) ^ (262143 - r) * 2 ^ 63 := by
    rw [lim_pow, ← Int.pow_add]
    exact p2mono (by omega)
  have hl := one_pow_lt (r := r) (by omega)
  have hb := bitsN_eq (N := 2 ^ (262142 - 2 * r)) (k := 262142 - 2 * r) (Int.le_refl _) (by rw [Int.pow_succ]; omega)
  refine ⟨_, _, _, rfl, rfl, by omega, by omega, by omega, hl, ?_, ?_, ?_, m0, ?_⟩
  · rw [Int.one_mul, Int.one_mul, j1]; exact Int.le_refl _
  · rw [Int.one_mul]
    rw [e63] at j3
    generalize (2 : Int) ^ (262143 - r) = T at *
    generalize lim = L at *
    omega
  · rw [Int.one_mul, Int.one_mul]; exact j2
  · rw [hb]; omega
end Go.Proofs.Ytopcdpeepchgfab
