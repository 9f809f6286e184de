/- layer 12: digits taken away till none is left; what is left at last is the nearest of the shortest. -/
import Derived.Test.YtalglldkjbinbaaGreatDoorRyuNum
namespace Go.Proofs.YtalglldkjbinbaaGreatDoor
set_option linter.unusedVariables false
namespace Ry
/-- the nearest whole number of units, ties to the even one -/
theorem out_is {t : Bool} {L H X U : Nat} {s : Sp} (h : SpI t L H X U s) (o : Nat) (ho : o = if 5 < (lessS s).last ∨ ((lessS s).last = 5 ∧ ((lessS s).more = true ∨ (lessS s).own % 2 ≠ 0)) then (lessS s).own + 1 else (lessS s).own) :
    2 * o * (10 * U) ≤ 2 * X + 10 * U ∧ (2 * o * (10 * U) = 2 * X + 10 * U → o % 2 = 0) ∧ 2 * X ≤ (2 * o + 1) * (10 * U) ∧ (2 * X = (2 * o + 1) * (10 * U) → o % 2 = 0) := by
  obtain ⟨-, e2, e3⟩ := less_is h
  obtain ⟨-, -, ⟨h3, h4⟩, -⟩ := h
  rw [e2, e3] at ho
  change o = if 5 < s.own % 10 ∨ (s.own % 10 = 5 ∧ ((!decide (X = s.own * U)) = true ∨ s.own / 10 % 2 ≠ 0)) then s.own / 10 + 1 else s.own / 10 at ho
  have up : 0 < U := by
    rcases Nat.eq_zero_or_pos U with z | z
    · rw [z] at h4; omega
    · exact z
  have d : s.own = s.own / 10 * 10 + s.own % 10 := by omega
  have l : s.own % 10 < 10 := by omega
  generalize s.own / 10 = p at *
  generalize s.own % 10 = q at *
  rw [d] at h3 h4 ho
  simp only [Bool.not_eq_true', decide_eq_false_iff_not] at ho
  have e1 : (p * 10 + q) * U = 10 * (p * U) + q * U := by rw [Nat.add_mul, Nat.mul_right_comm, Nat.mul_comm]
  have e1' : (p * 10 + q + 1) * U = 10 * (p * U) + q * U + U := by rw [Nat.add_mul, e1, Nat.one_mul]
  have e4 : 2 * p * (10 * U) = 20 * (p * U) := by rw [show 2 * p * (10 * U) = 2 * 10 * (p * U) by rw [Nat.mul_mul_mul_comm]]
  have e5 : 2 * (p + 1) * (10 * U) = 20 * (p * U) + 20 * U := by rw [Nat.mul_add, Nat.add_mul, e4]; omega
  have e6 : (2 * p + 1) * (10 * U) = 20 * (p * U) + 10 * U := by rw [Nat.add_mul, e4, Nat.one_mul]
  have e7 : (2 * (p + 1) + 1) * (10 * U) = 20 * (p * U) + 30 * U := by rw [Nat.add_mul, e5, Nat.one_mul]; omega
  rw [e1] at h3 ho
  rw [e1'] at h4
  generalize p * U = P at *
  split at ho
  · rename_i c
    subst ho
    rw [e5, e7]
    rcases c with c | ⟨c, c'⟩
    · have b := Nat.mul_le_mul_right U (show 6 ≤ q by omega)
      have b' := Nat.mul_le_mul_right U (show q ≤ 9 by omega)
      refine ⟨by omega, by omega, by omega, by omega⟩
    · subst c
      refine ⟨by omega, ?_, by omega, by omega⟩
      intro z
      rcases c' with c' | c'
      · omega
      · omega
  · rename_i c
    subst ho
    rw [e4, e6]
    by_cases c5 : q = 5
    · subst c5
      have c1 : X = 10 * P + 5 * U := Decidable.byContradiction fun z => c (Or.inr ⟨rfl, Or.inl z⟩)
      have c2 : o % 2 = 0 := Decidable.byContradiction fun z => c (Or.inr ⟨rfl, Or.inr (by omega)⟩)
      refine ⟨by omega, by omega, by omega, fun _ => c2⟩
    · have b := Nat.mul_le_mul_right U (show q ≤ 4 by omega)
      refine ⟨by omega, by omega, by omega, by omega⟩
/-- the end: R in units of U: it is taken, none of tens of units is, and it is the nearest -/
structure ShI (t : Bool) (L H X U R : Nat) : Prop where
  lo : Ls t L (R * U)
  hi : Ls t (R * U) H
  no : ∀ y, Ls t L (y * (10 * U)) → ¬ Ls t (y * (10 * U)) H
  nb : ∀ y, y < R → Ls t L (y * U) → (R + y) * U ≤ 2 * X ∧ ((R + y) * U = 2 * X → R % 2 = 0)
  na : ∀ y, R < y → Ls t (y * U) H → 2 * X ≤ (R + y) * U ∧ (2 * X = (R + y) * U → R % 2 = 0)
theorem end_is {t : Bool} {L H X U : Nat} {s : Sp} (h : SpI t L H X U s) (hX : 2 * X ≤ L + H) (hl : (lessS s).low ≤ (lessS s).high) (he : (lessS (lessS s)).high < (lessS (lessS s)).low) :
    ShI t L H X (10 * U) (neS (lessS s)) := by
  obtain ⟨h', -, -⟩ := less_is h
  obtain ⟨h'', -, -⟩ := less_is h'
  have o := out_is h _ rfl
  unfold neS
  generalize (if 5 < (lessS s).last ∨ ((lessS s).last = 5 ∧ ((lessS s).more = true ∨ (lessS s).own % 2 ≠ 0)) then (lessS s).own + 1 else (lessS s).own) = r at *
  obtain ⟨o1, o2, o3, o4⟩ := o
  obtain ⟨a1, a2, a3, -⟩ := h'
  obtain ⟨b1, b2, -, -⟩ := h''
  have up : 0 < 10 * U := by
    rcases Nat.eq_zero_or_pos (10 * U) with z | z
    · rw [z] at a3; omega
    · exact z
  generalize lessS s = s1 at *
  generalize lessS s1 = s2 at *
  generalize 10 * U = V at *
  have hno : ∀ y, Ls t L (y * (10 * V)) → ¬ Ls t (y * (10 * V)) H := by
    intro y q q'
    have := (b1 y).mp q
    have := (b2 y).mp q'
    omega
  have hrh : r ≤ s1.high := by
    by_cases z : r ≤ s1.high
    · exact z
    · exfalso
      have z1 : ¬ Ls t (r * V) H := fun q => z ((a2 r).mp q)
      have z2 := (a1 s1.high).mpr hl
      have z3 := Nat.mul_le_mul_right V (show s1.high + 1 ≤ r by omega)
      rw [Nat.add_mul] at z3
      have z4 : 2 * r * V = r * V + r * V := by rw [Nat.two_mul, Nat.add_mul]
      unfold Ls at z1 z2
      cases t
      · simp at z1 z2; omega
      · simp at z1 z2; omega
  have e2r : 2 * r * V = r * V + r * V := by rw [Nat.two_mul, Nat.add_mul]
  have e2r' : (2 * r + 1) * V = r * V + r * V + V := by rw [Nat.add_mul, e2r, Nat.one_mul]
  rw [e2r] at o1 o2
  rw [e2r'] at o3 o4
  rcases Nat.lt_or_ge r s1.low with z | z
  · rw [Nat.max_eq_right (Nat.le_of_lt z)]
    refine ⟨(a1 _).mpr (Nat.le_refl _), (a2 _).mpr hl, hno, fun y q q' => ?_, fun y q q' => ?_⟩
    · have := (a1 y).mp q'; omega
    · have g := Nat.mul_le_mul_right V (show 2 * r + 2 ≤ s1.low + y by omega)
      have : (2 * r + 2) * V = r * V + r * V + V + V := by rw [Nat.add_mul, e2r, Nat.two_mul]; omega
      exact ⟨by omega, by omega⟩
  · rw [Nat.max_eq_left z]
    refine ⟨(a1 _).mpr z, (a2 _).mpr hrh, hno, fun y q q' => ?_, fun y q q' => ?_⟩
    · have g := Nat.mul_le_mul_right V (show y + 1 ≤ r by omega)
      rw [Nat.add_mul] at g
      rw [Nat.add_mul]
      refine ⟨by omega, fun e => o2 (by omega)⟩
    · have g := Nat.mul_le_mul_right V (show r + 1 ≤ y by omega)
      rw [Nat.add_mul] at g
      rw [Nat.add_mul]
      refine ⟨by omega, fun e => o4 (by omega)⟩
theorem go_is {t : Bool} {L H X : Nat} (hX : 2 * X ≤ L + H) (n : Nat) : ∀ (U : Nat) (s : Sp), SpI t L H X U s → (lessS s).low ≤ (lessS s).high → 1 ≤ (lessS s).low → (lessS s).high < 10 ^ n →
    ∃ k, (goS n (lessS s)).tens = s.tens + 1 + k ∧ ShI t L H X (10 ^ (k + 1) * U) (neS (goS n (lessS s))) := by
  induction n with
  | zero => intro U s h h1 h2 h3; simp at h3; omega
  | succ n ih =>
    intro U s h h1 h2 h3
    rw [goS]
    split
    · rename_i c
      refine ⟨0, rfl, ?_⟩
      rw [Nat.zero_add, Nat.pow_one]
      exact end_is h hX h1 c
    · rename_i c
      have c1 : (lessS (lessS s)).low = ((lessS s).low + 9) / 10 := rfl
      have c2 : (lessS (lessS s)).high = (lessS s).high / 10 := rfl
      obtain ⟨k, e, q⟩ := ih (10 * U) (lessS s) (less_is h).1 (by omega) (by omega) (by rw [Nat.pow_succ] at h3; omega)
      refine ⟨k + 1, ?_, ?_⟩
      · rw [e]; show s.tens + 1 + 1 + k = _; omega
      · have : 10 ^ (k + 1) * (10 * U) = 10 ^ (k + 1 + 1) * U := by rw [Nat.pow_succ 10 (k + 1), Nat.mul_assoc]
        rw [this] at q
        exact q
/-! a pattern's mantissa m (above 0) and its scale i -/
def dnR (m i : Nat) : Nat := if m = 4503599627370496 ∧ 0 < i then 1 else 2
def evR (m : Nat) : Bool := decide (m % 2 = 0)
def s0R (m i : Nat) : Sp := ⟨leN (evR m) ((4 * m - dnR m i) * ryN i) (ryD i), grN (evR m) ((4 * m + 2) * ryN i) (ryD i), 4 * m * ryN i / ryD i, 0, !decide (4 * m * ryN i % ryD i = 0), ryT i⟩
def finR (m i : Nat) : Sp := goS 20 (s0R m i)
theorem s0_is {m i : Nat} (hm : 0 < m) (hi : i < 2046) : SpI (evR m) ((4 * m - dnR m i) * ryN i) ((4 * m + 2) * ryN i) (4 * m * ryN i) (ryD i) (s0R m i) := by
  have f := scale_facts hi
  have dp := ryD_pos i
  have hN : 0 < ryN i := by have := f.lo; omega
  refine ⟨fun y => leN_is dp y, fun y => grN_is dp (Nat.mul_pos (by omega) hN) y, ?_, ?_⟩
  · show 4 * m * ryN i / ryD i * ryD i ≤ _ ∧ _ < (4 * m * ryN i / ryD i + 1) * ryD i
    refine ⟨Nat.div_mul_le_self _ _, ?_⟩
    have := Nat.lt_div_mul_add (a := 4 * m * ryN i) dp
    rw [Nat.add_mul, Nat.one_mul]; exact this
  · show (!decide (4 * m * ryN i % ryD i = 0) || !decide (0 = 0)) = !decide (4 * m * ryN i = 4 * m * ryN i / ryD i * ryD i)
    have e := Nat.div_add_mod (4 * m * ryN i) (ryD i)
    rw [Nat.mul_comm (ryD i)] at e
    rw [Bool.eq_iff_iff]
    simp
    omega
theorem room {t : Bool} {L H U : Nat} (hU : 0 < U) (h : L + U < H) : ∃ y, Ls t L (y * U) ∧ Ls t (y * U) H := by
  have a := Nat.lt_div_mul_add (a := L) hU
  have b : L / U * U ≤ L := Nat.div_mul_le_self _ _
  refine ⟨L / U + 1, ?_, ?_⟩
  · unfold Ls; rw [Nat.add_mul, Nat.one_mul]; split <;> omega
  · unfold Ls; rw [Nat.add_mul, Nat.one_mul]; split <;> omega
theorem dn_cases (m i : Nat) : (dnR m i = 1 ∧ m = 4503599627370496) ∨ dnR m i = 2 := by
  unfold dnR; split
  · rename_i h; exact Or.inl ⟨rfl, h.1⟩
  · exact Or.inr rfl
theorem short_is {m i : Nat} (hm : 0 < m) (hm' : m < 9007199254740992) (hi : i < 2046) : ∃ j, 1 ≤ j ∧ (finR m i).tens = ryT i + j ∧
    ShI (evR m) ((4 * m - dnR m i) * ryN i) ((4 * m + 2) * ryN i) (4 * m * ryN i) (10 ^ j * ryD i) (neS (finR m i)) := by
  have s := s0_is hm hi
  have f := scale_facts hi
  have dp := ryD_pos i
  have l1 := (less_is s).1
  have dc := dn_cases m i
  have hN := f.lo
  have eL : (4 * m - dnR m i) * ryN i = 4 * m * ryN i - dnR m i * ryN i := Nat.sub_mul _ _ _
  have eH : (4 * m + 2) * ryN i = 4 * m * ryN i + 2 * ryN i := Nat.add_mul _ _ _
  have g4 : 4 * ryN i ≤ 4 * m * ryN i := Nat.mul_le_mul_right _ (by omega)
  have gd : dnR m i * ryN i ≤ 2 * ryN i := Nat.mul_le_mul_right _ (by omega)
  have gd1 : 1 * ryN i ≤ dnR m i * ryN i := Nat.mul_le_mul_right _ (by omega)
  have hlow : (lessS (s0R m i)).low ≤ (lessS (s0R m i)).high := by
    obtain ⟨y, q, q'⟩ := room (t := evR m) (L := (4 * m - dnR m i) * ryN i) (H := (4 * m + 2) * ryN i) (U := 10 * ryD i) (by omega) (by rw [eL, eH]; omega)
    have := (l1.lo y).mp q
    have := (l1.hi y).mp q'
    omega
  have hone : 1 ≤ (lessS (s0R m i)).low := by
    rcases Nat.eq_zero_or_pos (lessS (s0R m i)).low with z | z
    · have := (l1.lo 0).mpr (by omega)
      rw [Nat.zero_mul] at this
      unfold Ls at this
      have p : 0 < (4 * m - dnR m i) * ryN i := Nat.mul_pos (by omega) (by omega)
      split at this <;> omega
    · exact z
  have htop : (lessS (s0R m i)).high < 10 ^ 19 := by
    have a := (l1.hi (lessS (s0R m i)).high).mpr (Nat.le_refl _)
    have b : (lessS (s0R m i)).high * (10 * ryD i) ≤ (4 * m + 2) * ryN i := by unfold Ls at a; split at a <;> omega
    have c : (4 * m + 2) * ryN i < 36028797018963968 * (100 * ryD i) := Nat.lt_of_le_of_lt (Nat.mul_le_mul_left _ (Nat.le_of_lt f.hi)) (Nat.mul_lt_mul_of_pos_right (by omega) (by omega))
    rcases Nat.lt_or_ge (lessS (s0R m i)).high (10 ^ 19) with z | z
    · exact z
    · have := Nat.mul_le_mul_right (10 * ryD i) z
      omega
  have e20 : finR m i = goS 19 (lessS (s0R m i)) := by
    unfold finR
    rw [goS, if_neg (by omega)]
  obtain ⟨k, e, q⟩ := go_is (X := 4 * m * ryN i) (by rw [eL, eH]; omega) 19 (ryD i) (s0R m i) s hlow hone htop
  refine ⟨k + 1, by omega, ?_, ?_⟩
  · rw [e20, e]; show ryT i + 1 + k = _; omega
  · rw [e20]; exact q
/-- digits, and where they lie -/
structure ToI (R T : Nat) : Prop where
  r0 : 0 < R
  r1 : R < 100000000000000000
  ne : R % 10 ≠ 0
  t0 : 76 ≤ T
  t1 : T ≤ 708
theorem bnd {R U K N c : Nat} (up : 0 < U) (top : R * U ≤ K * N) (a : c * N ≤ 10 * U) : c * R ≤ 10 * K := by
  have h1 := Nat.mul_le_mul_left c top
  have h2 := Nat.mul_le_mul_left K a
  have e1 : c * (R * U) = c * R * U := by rw [Nat.mul_assoc]
  have e2 : c * (K * N) = K * (c * N) := by rw [Nat.mul_left_comm]
  have e3 : K * (10 * U) = 10 * K * U := by rw [← Nat.mul_assoc, Nat.mul_comm K]
  exact Nat.le_of_mul_le_mul_right (show c * R * U ≤ 10 * K * U by omega) up
theorem not_ble {a b : Nat} (h : Nat.ble a b = false) : ¬ a ≤ b := by
  intro q
  have := Nat.ble_eq.mpr q
  rw [h] at this
  cases this
theorem top_gen {m i e K M A B C : Nat} (hm : 4 * m + 2 ≤ C) (hi : i ≤ K) (hz : M ≤ e) (hbig : Nat.ble (10 ^ M * A) (C * 2 ^ K * B) = false) (b : 10 ^ e * A ≤ (4 * m + 2) * 2 ^ i * B) : False :=
  not_ble hbig (Nat.le_trans (Nat.mul_le_mul_right _ (Nat.pow_le_pow_right (Nat.succ_pos 9) hz)) (Nat.le_trans b (Nat.mul_le_mul_right _ (Nat.mul_le_mul hm (Nat.pow_le_pow_right (Nat.succ_pos 1) hi)))))
theorem told_is {m i : Nat} (hm : 0 < m) (hm' : m < 9007199254740992) (hi : i < 2046) : ToI (neS (finR m i)) (finR m i).tens := by
  obtain ⟨j, hj, e, q⟩ := short_is hm hm' hi
  have f := scale_facts hi
  have dp := ryD_pos i
  rw [e]
  generalize neS (finR m i) = R at *
  have dc := dn_cases m i
  have hN := f.lo
  have eL : (4 * m - dnR m i) * ryN i = 4 * m * ryN i - dnR m i * ryN i := Nat.sub_mul _ _ _
  have eH : (4 * m + 2) * ryN i = 4 * m * ryN i + 2 * ryN i := Nat.add_mul _ _ _
  have g4 : 4 * ryN i ≤ 4 * m * ryN i := Nat.mul_le_mul_right _ (by omega)
  have gd : dnR m i * ryN i ≤ 2 * ryN i := Nat.mul_le_mul_right _ (by omega)
  have gd1 : 1 * ryN i ≤ dnR m i * ryN i := Nat.mul_le_mul_right _ (by omega)
  have up : 0 < 10 ^ j * ryD i := Nat.mul_pos (Nat.pow_pos (by omega)) dp
  have w : (4 * m + 2) * ryN i ≤ (4 * m - dnR m i) * ryN i + 10 * (10 ^ j * ryD i) := by
    rcases Nat.lt_or_ge ((4 * m - dnR m i) * ryN i + 10 * (10 ^ j * ryD i)) ((4 * m + 2) * ryN i) with z | z
    · obtain ⟨y, a, b⟩ := room (t := evR m) (by omega) z
      exact absurd b (q.no y a)
    · exact z
  have top : R * (10 ^ j * ryD i) ≤ (4 * m + 2) * ryN i := by have := q.hi; unfold Ls at this; split at this <;> omega
  have r0 : 0 < R := by
    rcases Nat.eq_zero_or_pos R with z | z
    · have := q.lo
      rw [z, Nat.zero_mul] at this
      unfold Ls at this
      have p : 0 < (4 * m - dnR m i) * ryN i := Nat.mul_pos (by omega) (by omega)
      split at this <;> omega
    · exact z
  refine ⟨r0, ?_, ?_, by have := f.t0; omega, ?_⟩
  · generalize hU : 10 ^ j * ryD i = U at *
    rcases dc with ⟨d1, d2⟩ | d2
    · rw [d1] at eL w
      have := bnd (c := 3) up top (by omega)
      omega
    · rw [d2] at eL w
      have := bnd (c := 4) up top (by omega)
      omega
  · intro z
    have e10 : R / 10 * (10 * (10 ^ j * ryD i)) = R * (10 ^ j * ryD i) := by
      rw [← Nat.mul_assoc]; congr 1; omega
    exact q.no (R / 10) (by rw [e10]; exact q.lo) (by rw [e10]; exact q.hi)
  · rcases Nat.lt_or_ge (ryT i + j) 709 with z | z
    · omega
    · exfalso
      have c0 : 4 * m + 2 ≤ 2 ^ 55 := by omega
      have c2 : i ≤ 2045 := by omega
      have a : 10 ^ j * ryD i ≤ (4 * m + 2) * ryN i := Nat.le_trans (Nat.le_mul_of_pos_left _ r0) top
      have b := Nat.mul_le_mul_right (10 ^ ryT i * 2 ^ 1076) a
      have e1 : 10 ^ j * ryD i * (10 ^ ryT i * 2 ^ 1076) = 10 ^ (ryT i + j) * 2 ^ 1076 * ryD i := by rw [Nat.pow_add]; generalize 10 ^ ryT i = A; generalize 10 ^ j = B; generalize 2 ^ 1076 = C; grind
      have e2 : (4 * m + 2) * ryN i * (10 ^ ryT i * 2 ^ 1076) = (4 * m + 2) * 2 ^ i * 10 ^ 400 * ryD i := by
        rw [Nat.mul_assoc, ← Nat.mul_assoc (ryN i), f.eq]
        generalize 10 ^ 400 = A; generalize 2 ^ i = B; grind
      rw [e1, e2] at b
      have b := Nat.le_of_mul_le_mul_right b dp
      exact top_gen (K := 2045) (M := 709) c0 c2 z (by kernel_rfl) b
end Ry
end Go.Proofs.YtalglldkjbinbaaGreatDoor
