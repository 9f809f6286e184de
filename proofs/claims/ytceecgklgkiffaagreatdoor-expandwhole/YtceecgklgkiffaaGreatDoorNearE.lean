/- package near: withoutTwos, binary, Value. -/
import Derived.Test.YtceecgklgkiffaaGreatDoorNearV2
import Derived.Test.YtceecgklgkiffaaGreatDoorRatF
import Derived.Test.YtceecgklgkiffaaGreatDoorNearRat
namespace Go.Proofs.YtceecgklgkiffaaGreatDoor
open Go.ChangeShapes Go.WideShapes Go.ChangeAt Go.RowKit
open Na Ar
set_option linter.unusedVariables false
namespace Na
theorem two_form {M : Int} (h : 0 < M) : ∃ (k : Nat) (o : Int), M = o * 2 ^ k ∧ o % 2 = 1 ∧ 0 < o ∧ zerosN M = k ∧ M / 2 ^ k = o := by
  obtain ⟨k, m, hk⟩ := odd_part M.toNat (by omega)
  have e : M = (2 * (m : Int) + 1) * 2 ^ k := by
    have a : M = ((2 ^ (k + 1) * m + 2 ^ k : Nat) : Int) := by omega
    rw [a, Int.natCast_add, Int.natCast_mul, p2cast, p2cast, Int.pow_succ]
    generalize (2 : Int) ^ k = P
    grind
  have p := p2pos k
  refine ⟨k, 2 * (m : Int) + 1, e, by omega, by omega, ?_, ?_⟩
  · unfold zerosN
    rw [hk, show 2 ^ (k + 1) * m + 2 ^ k = 2 ^ k * (2 * m + 1) by rw [Nat.pow_succ]; grind, ctz_pow]
  · rw [e]; exact Int.mul_ediv_cancel _ (by omega)
theorem odd_gcd {o : Int} (h : o % 2 = 1) (h0 : 0 < o) (x : Int) : Int.gcd (o * e2 x) (e2 (-x)) = 1 := by
  by_cases hx : 0 ≤ x
  · rw [e2_zero (show -x ≤ 0 by omega)]
    exact Int.gcd_one_right _
  · rw [e2_zero (show x ≤ 0 by omega), Int.mul_one]
    unfold e2
    obtain ⟨n, rfl⟩ : ∃ n : Nat, o = (n : Int) := ⟨o.toNat, by omega⟩
    have c : Nat.Coprime n (2 ^ (-x).toNat) := Nat.Coprime.pow_right _ (by
      rw [Nat.Coprime, Nat.gcd_comm, Nat.gcd_rec, show n % 2 = 1 by omega]; rfl)
    rw [← p2cast]
    exact c
/-- m times two to the x -/
def binQ (s : Bool) (m x : Int) : Rat := mkR s (m * e2 x) (e2 (-x))
theorem binQ_odd {o : Int} (h : o % 2 = 1) (h0 : 0 < o) (s : Bool) (x : Int) : ((binQ s o x).num.natAbs : Int) = o * e2 x ∧ ((binQ s o x).den : Int) = e2 (-x) ∧ decide ((binQ s o x).num < 0) = s := by
  have p1 := e2_pos x
  have p2 := e2_pos (-x)
  have pA : 0 < o * e2 x := Int.mul_pos h0 p1
  have g := odd_gcd h h0 x
  unfold binQ
  refine ⟨?_, ?_, ?_⟩
  · rw [rat_abs (by omega) p2, g]; simp
  · rw [rat_den (by omega) p2, g]; simp
  · rw [rat_neg (by omega) p2, g]
    simp
    intro _
    omega
theorem e2_step (X : Int) (k : Nat) : 2 ^ k * e2 X * e2 (-(X + k)) = e2 (X + k) * e2 (-X) := by
  rw [← e2_nat]
  by_cases h0 : 0 ≤ X
  · rw [e2_zero (show -(X + k) ≤ 0 by omega), e2_zero (show -X ≤ 0 by omega), e2_add h0 (by omega)]
    generalize e2 X = a
    generalize e2 (k : Int) = b
    grind
  · by_cases h1 : 0 ≤ X + k
    · rw [e2_zero (show X ≤ 0 by omega), e2_zero (show -(X + k) ≤ 0 by omega), show (k : Int) = (X + k) + (-X) by omega, e2_add (by omega) (by omega)]
      rw [show X + (X + ↑k + -X) = X + k by omega]
      generalize e2 (X + k) = a
      generalize e2 (-X) = b
      grind
    · rw [e2_zero (show X ≤ 0 by omega), e2_zero (show X + k ≤ 0 by omega), show -X = (k : Int) + -(X + k) by omega, e2_add (by omega) (by omega)]
      generalize e2 (k : Int) = a
      generalize e2 (-(X + k)) = b
      grind
theorem binQ_move (s : Bool) {o : Int} (h0 : 0 ≤ o) (k : Nat) (x : Int) : binQ s (o * 2 ^ k) x = binQ s o (x + k) := by
  unfold binQ
  have p1 := e2_pos x
  have p2 := e2_pos (-x)
  have p3 := e2_pos (x + k)
  have p4 := e2_pos (-(x + k))
  have p := p2pos k
  rw [mk_eq (Int.mul_nonneg (Int.mul_nonneg h0 (by omega)) (by omega)) p2 (Int.mul_nonneg h0 (by omega)) p4]
  have e := e2_step x k
  have q : o * 2 ^ k * e2 x * e2 (-(x + k)) = o * e2 (x + k) * e2 (-x) := by
    rw [Int.mul_assoc, Int.mul_assoc, ← Int.mul_assoc (2 ^ k), e, Int.mul_assoc]
  unfold sg
  cases s
  · exact q
  · simp only [if_true]
    rw [Int.neg_mul, Int.neg_mul, q]
theorem binQ_zero (s : Bool) (x : Int) : binQ s 0 x = ((0 : Int) : Rat) := by
  unfold binQ mkR sg
  rw [Int.zero_mul]
  cases s <;> simp
theorem binQ_val (b : Int) : valR b = binQ (spS b) (spM b) (spX b) := rfl
end Na
section
variable {w : World} {a b : Option Addr} {n m c1 c2 : Nat} {xs ys : List Int} {A : Int} {k : Nat}
theorem shlO (hr1 : RowC w a n c1 xs) (h1 : Nm xs A) {t : Nat} {T : Int} (hT : T = t) (ht : t ≤ 400000000) (hL : Lt (A * 2 ^ t) k) (hk : k ≤ 4096) :
    Calls Tryz.prog 107 #[.slice a n c1, .int .i64 T] w fun e w' => ∃ v, e = .returned (.tuple #[v, .int .i64 0]) ∧ Own .u64 w' w.heap.size 22 v (words (A * 2 ^ t)) ∧ Below w.heap.size w w' := by
  subst hT
  have l1 := hr1.1.1
  have h := natShl_any hr1 h1.ws (by have := h1.len; omega) (t : Int) (by omega)
  have e1 : shlE A (t : Int) = 0 := by unfold shlE; rw [if_neg (by omega)]; simp; exact (hL.fits hk).2
  have e2 : shlL A (t : Int) = words (A * 2 ^ t) := by unfold shlL; rw [if_neg (by omega)]; simp; exact (hL.fits hk).1
  rw [h1.num, e1, e2] at h
  exact h
theorem twos_any {K : Nat} {o : Int} (hr1 : RowC w a n c1 xs) (h1 : Nm xs A) (hL : Lt A k) (hk : k ≤ 4096) (hz : zerosN A = K) (hK : K ≤ 400000000) (ho : A / 2 ^ K = o) :
    Calls Tryz.prog 106 #[.slice a n c1] w fun e w' => ∃ a' n' c' l', e = .returned (.tuple #[.slice a' n' c', .int .i64 (K : Int)]) ∧ RowC w' a' n' c' l' ∧ Nm l' o ∧ Below w.heap.size w w' := by
  have hZ := natZeros_any hr1 h1.ws (by have := h1.len; have := hr1.1.1; omega)
  rw [h1.num, hz] at hZ
  have hS := fun w' (hb : Below w.heap.size w w') => shrQ (S := decide (A % 2 ^ K ≠ 0)) (hr1.later hb) h1 K hK hL hk rfl
  rw [ho] at hS
  generalize decide (A % 2 ^ K ≠ 0) = S at hS
  clear hz ho
  go_enter Tryz.func106, Tryz.ntmps106
  go_wp2_with fail
  refine hZ.mono ?_
  rintro e w1 ⟨rfl, hb1⟩
  go_wp2_with fail
  refine (hS _ hb1).mono ?_
  rintro e w2 ⟨a', n', c', l', rfl, r, nm, _, hb⟩
  have hB := hb1.trans (hb.mono hb1.size)
  clear hZ hS
  go_wp2
  go_ret2
  exact ⟨a', n', c', l', rfl, r, nm, hB⟩
end
theorem bin_rto {w : World} {base : Nat} {v1 v2 : Value} {neg : Bool} {o x : Int} {t1 t2 : Nat} (h : o % 2 = 1) (h0 : 0 < o) (e1 : e2 x = 2 ^ t1) (e3 : e2 (-x) = 2 ^ t2) (o1 : Own .u64 w base 22 v1 (words (o * 2 ^ t1))) (o2 : Own .u64 w base 22 v2 (words (1 * 2 ^ t2))) (ap : Apart v1 v2) :
    RtO w base neg v1 v2 (binQ neg o x) := by
  obtain ⟨a1, a2, a3⟩ := binQ_odd h h0 neg x
  refine ⟨a3.symm, ?_, ?_, ap⟩
  · rw [a1, e1]; exact o1
  · rw [a2, e3, ← Int.one_mul (2 ^ t2)]; exact o2
set_option maxHeartbeats 3200000 in
set_option maxRecDepth 100000 in
theorem binary_any {neg : Bool} {m x : Int} (hm : U m) (hx0 : -1100 ≤ x) (hx1 : x ≤ 1100) (w : World) :
    Calls Tryz.prog 56 #[.bool neg, .int .u64 m, .int .i64 x] w fun e w' => ∃ s v1 v2, e = .returned (.agg #[.bool s, v1, v2]) ∧ RtO w' w.heap.size s v1 v2 (binQ neg m x) ∧ Below w.heap.size w w' := by
  have t0 := st_new w (.bool false) (.slice none 0 0) (.slice none 0 0) 50
  have HB0 := alloc_below (w := w) (.cells #[.bool false, .slice none 0 0, .slice none 0 0] 50)
  have e0 : w.heap.size + 1 ≤ (w.alloc (.cells #[.bool false, .slice none 0 0, .slice none 0 0] 50)).heap.size := by simp
  obtain ⟨g, hg⟩ : ∃ g, g = w.heap.size := ⟨_, rfl⟩
  have HG : Hid (w.heap.size = g) := hg.symm
  rw [← hg] at t0 e0
  by_cases hz : m = 0
  · have d1 : (m == 0) = true := beq_of hz
    have HQ : Hid (binQ neg m x = ((0 : Int) : Rat)) := by show _ = _; rw [hz, binQ_zero]
    have hI := fun w => rInt_any (v := 0) (by omega) (by omega) w
    clear hz
    go_enter Tryz.func56, Tryz.ntmps56
    go_wp2_with fail
    rw [← hg]
    generalize w.alloc (.cells #[.bool false, .slice none 0 0, .slice none 0 0] 50) = w0 at *
    clear hg
    refine (hI _).mono ?_
    rintro e w1 ⟨s9, v1, v2, rfl, hR, hb1⟩
    obtain ⟨a9, n9, c9, b9, m9, d9, rfl, rfl, _⟩ := hR.opens
    have t1 := t0.later hb1
    have HB1 := HB0.trans (hb1.mono HB0.size)
    obtain ⟨x0, x1, x2⟩ := t1.cells
    obtain ⟨z0, z1, z2⟩ := t1.frozen
    clear hI t0 HB0
    go_wp2
    have i9 := in3 w1 g (.bool s9) (.slice a9 n9 c9) (.slice b9 m9 d9)
    have T9 := t1.set (.bool s9) (.slice a9 n9 c9) (.slice b9 m9 d9)
    have R9 := ((hR.lower (base' := g + 1) (by omega)).inn i9 (by omega)).lower (base' := w.heap.size) (by rw [HG.out]; omega)
    have B9 := below_in HB1 i9 (by rw [HG.out]; omega) (Nat.le_refl _)
    obtain ⟨j0, j1, j2⟩ := T9.cells
    refine bodyPost_ret (v := .agg #[.bool s9, .slice a9 n9 c9, .slice b9 m9 d9]) (by simp [results, Tryz.results56, go_sem, j0, j1, j2]) rfl ?_
    exact ⟨_, _, _, rfl, by rw [HQ.out]; exact R9, B9⟩
  · have d1 : (m == 0) = false := beq_no hz
    obtain ⟨K, o, hmo, ho2, ho0, hzn, hdv⟩ := two_form (M := m) (by have := hm.1; omega)
    have hK : K ≤ 63 := by
      apply Decidable.byContradiction
      intro q
      have a : (2 : Int) ^ 64 ≤ 2 ^ K := p2mono (by omega)
      have b : 1 * 2 ^ K ≤ o * 2 ^ K := Int.mul_le_mul_of_nonneg_right (by omega) (Int.le_of_lt (p2pos K))
      have c := hm.2
      rw [show (2 : Int) ^ 64 = 18446744073709551616 by decide] at a
      omega
    have hol : o ≤ m := by
      have b : o * 1 ≤ o * 2 ^ K := Int.mul_le_mul_of_nonneg_left (by have := p2pos K; omega) (by omega)
      omega
    have HQ : Hid (binQ neg m x = binQ neg o (x + K)) := by show _ = _; rw [hmo]; exact binQ_move neg (by omega) K x
    obtain ⟨t1, T1, mx1, H1, E1, l1⟩ : ∃ (t1 : Nat) (T1 : Int), (if x + (K : Int) < 0 then 0 else x + (K : Int)) = T1 ∧ Hid (T1 = (t1 : Int)) ∧ e2 (x + K) = 2 ^ t1 ∧ t1 ≤ 1200 :=
      ⟨(x + K).toNat, _, rfl, (by show _ = _; split <;> omega), rfl, by omega⟩
    obtain ⟨t2, T2, mx2, H2, E2, l2⟩ : ∃ (t2 : Nat) (T2 : Int), (if -(x + (K : Int)) < 0 then 0 else -(x + (K : Int))) = T2 ∧ Hid (T2 = (t2 : Int)) ∧ e2 (-(x + K)) = 2 ^ t2 ∧ t2 ≤ 1200 :=
      ⟨(-(x + K)).toNat, _, rfl, (by show _ = _; split <;> omega), rfl, by omega⟩
    have mx3 : (if 0 < x + (K : Int) then 0 else -(x + (K : Int))) = T2 := by rw [← mx2]; split <;> split <;> omega
    have HE1 : Hid (e2 (x + K) = 2 ^ t1) := E1
    have HE2 : Hid (e2 (-(x + K)) = 2 ^ t2) := E2
    have lm := Lt.word hm
    have lo : Lt o 1 := lm.le (by omega) hol
    have l3 : Lt (o * 2 ^ t1) 30 := (lo.pow2 (t := t1)).mono (by omega)
    have l4 : Lt (1 * 2 ^ t2) 30 := (lt_one.pow2 (t := t2)).mono (by omega)
    have HZ : Hid (zerosN m = (K : Int)) := hzn
    have HD : Hid (m / 2 ^ K = o) := hdv
    have f1 := fun w => natFrom_any (v := m) hm w
    have f2 := fun w => natFrom_any (v := 1) (by omega) w
    clear hmo hzn hdv E1 E2 hz hol
    go_enter Tryz.func56, Tryz.ntmps56
    go_wp2_with fail
    rw [← hg]
    generalize w.alloc (.cells #[.bool false, .slice none 0 0, .slice none 0 0] 50) = w0 at *
    clear hg
    refine (f1 _).mono ?_
    rintro e w1 ⟨v, rfl, ov, hb⟩
    have s1 := t0.later hb
    have HB := HB0.trans (hb.mono HB0.size)
    obtain ⟨va, vn, vc, vl, rfl, rv, nv, _⟩ := ov.opens lm (by omega)
    clear ov hb t0 HB0 f1
    go_wp2_with fail
    refine (twos_any rv nv lm (by omega) HZ.out (by omega) HD.out).mono ?_
    rintro e w2 ⟨ua, un, uc, us, rfl, ru, nu, hb⟩
    have s1 := s1.later hb
    have HB := HB.trans (hb.mono HB.size)
    clear hb rv nv
    go_wp2_with fail
    refine (shlO ru nu H1.out (by omega) l3 (by omega)).mono ?_
    rintro e w3 ⟨v1, rfl, o1, hb⟩
    have sz := s1.lt
    have s1 := s1.later hb
    have HB := HB.trans (hb.mono HB.size)
    have sz2 := hb.size
    obtain ⟨pa, pc, rfl, rp⟩ := o1.readsC
    have o1 := o1.wider (base' := g + 1) (by omega)
    clear hb ru nu
    go_wp2_with fail
    refine (f2 _).mono ?_
    rintro e w4 ⟨v, rfl, ov, hb⟩
    have s1 := s1.later hb
    have HB := HB.trans (hb.mono HB.size)
    have o1' := o1
    have o1 := o1.later hb
    obtain ⟨va, vn, vc, vl, rfl, rv, nv, _⟩ := ov.opens lt_one (by omega)
    have sz3 := hb.size
    clear ov hb f2
    go_wp2_with fail
    refine (shlO rv nv H2.out (by omega) l4 (by omega)).mono ?_
    rintro e w5 ⟨v2, rfl, o2, hb⟩
    have s1 := s1.later hb
    have HB := HB.trans (hb.mono HB.size)
    have o1 := o1.later hb
    have ap := apart_later o1' o2 sz3
    obtain ⟨qa, qc, rfl, rq⟩ := o2.readsC
    have o2 := o2.wider (base' := g + 1) (by omega)
    have R := bin_rto (neg := neg) ho2 ho0 HE1.out HE2.out o1 o2 ap
    obtain ⟨x0, x1, x2⟩ := s1.cells
    obtain ⟨z0, z1, z2⟩ := s1.frozen
    clear hb rv nv o1 o2 o1' ap rp rq
    generalize (words (o * 2 ^ t1)).length = n9 at *
    generalize (words (1 * 2 ^ t2)).length = m9 at *
    go_wp2
    have i9 := in3 w5 g (.bool neg) (.slice pa n9 pc) (.slice qa m9 qc)
    have T9 := s1.set (.bool neg) (.slice pa n9 pc) (.slice qa m9 qc)
    have R9 := (R.inn i9 (by omega)).lower (base' := w.heap.size) (by rw [HG.out]; omega)
    have B9 := below_in HB i9 (by rw [HG.out]; omega) (Nat.le_refl _)
    obtain ⟨j0, j1, j2⟩ := T9.cells
    refine bodyPost_ret (v := .agg #[.bool neg, .slice pa n9 pc, .slice qa m9 qc]) (by simp [results, Tryz.results56, go_sem, j0, j1, j2]) rfl ?_
    exact ⟨_, _, _, rfl, by rw [HQ.out]; exact R9, B9⟩
end Go.Proofs.YtceecgklgkiffaaGreatDoor
