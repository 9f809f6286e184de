/- the statements of layer 8: shl, mul, against, ordered, turned. -/
import Derived.Test.YtalglldkjbinbaaGreatDoorPowMath
import Derived.Test.YtalglldkjbinbaaGreatDoorBaseB
namespace Go.Proofs.YtalglldkjbinbaaGreatDoor
open Go.ChangeShapes Go.WideShapes Go.ChangeAt Go.RowKit
open Na Ar
set_option linter.unusedVariables false
namespace Na
theorem five_13 : Nat.blt ((5 : Nat) ^ 348) ((18446744073709551616 : Nat) ^ 13) = true := by kernel_rfl
theorem ten_20 : Nat.blt ((10 : Nat) ^ 370) ((18446744073709551616 : Nat) ^ 20) = true := by kernel_rfl
theorem five_lt8 {n : Nat} (hn : n ≤ 348) : Lt ((5 : Int) ^ n) 13 := pow_lt (b := 5) (by omega) five_13 hn
theorem ten_lt8 {n : Nat} (hn : n ≤ 370) : Lt ((10 : Int) ^ n) 20 := pow_lt (b := 10) (by omega) ten_20 hn
theorem up1 {v s y i z : Nat} (h : v * 2 ^ s * 5 ^ y ≤ 5 ^ i * 2 ^ z) : (v : Int) * 2 ^ s * 5 ^ y ≤ 5 ^ i * 2 ^ z := by
  have := Int.ofNat_le.mpr h
  simpa using this
theorem up2 {v s y i z : Nat} (h : 5 ^ i * 2 ^ z < (v + 1) * 2 ^ s * 5 ^ y) : (5 : Int) ^ i * 2 ^ z < ((v : Int) + 1) * 2 ^ s * 5 ^ y := by
  have := Int.ofNat_lt.mpr h
  simpa using this
theorem up3 {v s y i z : Nat} : v * 2 ^ s * 5 ^ y = 5 ^ i * 2 ^ z ↔ (v : Int) * 2 ^ s * 5 ^ y = 5 ^ i * 2 ^ z := by
  constructor
  · intro q; have := congrArg (fun z : Nat => (z : Int)) q; simpa using this
  · intro q; apply Int.ofNat.inj; simpa using q
theorem up4 {a s t b u v : Nat} (h : a ^ s * b ^ t ≤ b ^ u * a ^ v) : (a : Int) ^ s * (b : Int) ^ t ≤ (b : Int) ^ u * (a : Int) ^ v := by
  have := Int.ofNat_le.mpr h
  simpa using this
theorem up5 {a s t b u v : Nat} (h : b ^ u * a ^ v < a ^ s * b ^ t) : (b : Int) ^ u * (a : Int) ^ v < (a : Int) ^ s * (b : Int) ^ t := by
  have := Int.ofNat_lt.mpr h
  simpa using this
/-- v times two to the x against five to the e, both made whole -/
def agL (V x : Int) : Int := V * 2 ^ (x + 2000).toNat * 5 ^ 696
def agR (e : Int) : Int := 5 ^ (e + 696).toNat * 2 ^ 2000
theorem ag_is (V : Int) {n m s t : Nat} {x e : Int} (hx : x = (s : Int) - t) (he : e = (m : Int) - n) (hn : n ≤ 696) (ht : t ≤ 2000) : ordN (V * 5 ^ n * 2 ^ s) (5 ^ m * 2 ^ t) = ordN (agL V x) (agR e) := by
  have c : (0 : Int) < 5 ^ (696 - n) * 2 ^ (2000 - t) := Int.mul_pos (Int.pow_pos (by omega)) (Int.pow_pos (by omega))
  rw [← ordN_mul (A := V * 5 ^ n * 2 ^ s) c]
  unfold agL agR
  have e1 : (5 : Int) ^ 696 = 5 ^ n * 5 ^ (696 - n) := by rw [← Int.pow_add]; congr 1; omega
  have e2 : (2 : Int) ^ (x + 2000).toNat = 2 ^ s * 2 ^ (2000 - t) := by rw [← Int.pow_add]; congr 1; omega
  have e3 : (2 : Int) ^ 2000 = 2 ^ t * 2 ^ (2000 - t) := by rw [← Int.pow_add]; congr 1; omega
  have e4 : (5 : Int) ^ (e + 696).toNat = 5 ^ m * 5 ^ (696 - n) := by rw [← Int.pow_add]; congr 1; omega
  rw [e1, e2, e3, e4]
  generalize (5 : Int) ^ n = a
  generalize (5 : Int) ^ (696 - n) = b
  generalize (5 : Int) ^ m = c'
  generalize (2 : Int) ^ s = d
  generalize (2 : Int) ^ (2000 - t) = f
  generalize (2 : Int) ^ t = h
  congr 1 <;> grind
/-- two to the k against ten to the e; ten to the j against two to the e -/
def odL (k : Int) : Int := 2 ^ (k + 1157).toNat * 10 ^ 348
def odR (e : Int) : Int := 10 ^ (e + 348).toNat * 2 ^ 1157
theorem od_is {n m s t : Nat} {k e : Int} (hk : k = (s : Int) - t) (he : e = (m : Int) - n) (hn : n ≤ 348) (ht : t ≤ 1157) : ordN (2 ^ s * 10 ^ n) (2 ^ t * 10 ^ m) = ordN (odL k) (odR e) := by
  have c : (0 : Int) < 10 ^ (348 - n) * 2 ^ (1157 - t) := Int.mul_pos (Int.pow_pos (by omega)) (Int.pow_pos (by omega))
  rw [← ordN_mul (A := 2 ^ s * 10 ^ n) c]
  unfold odL odR
  have e1 : (10 : Int) ^ 348 = 10 ^ n * 10 ^ (348 - n) := by rw [← Int.pow_add]; congr 1; omega
  have e2 : (2 : Int) ^ (k + 1157).toNat = 2 ^ s * 2 ^ (1157 - t) := by rw [← Int.pow_add]; congr 1; omega
  have e3 : (2 : Int) ^ 1157 = 2 ^ t * 2 ^ (1157 - t) := by rw [← Int.pow_add]; congr 1; omega
  have e4 : (10 : Int) ^ (e + 348).toNat = 10 ^ m * 10 ^ (348 - n) := by rw [← Int.pow_add]; congr 1; omega
  rw [e1, e2, e3, e4]
  generalize (10 : Int) ^ n = a
  generalize (10 : Int) ^ (348 - n) = b
  generalize (10 : Int) ^ m = c'
  generalize (2 : Int) ^ s = d
  generalize (2 : Int) ^ (1157 - t) = f
  generalize (2 : Int) ^ t = h
  congr 1 <;> grind
def tuL (j : Int) : Int := 10 ^ (j + 362).toNat * 2 ^ 1200
def tuR (e : Int) : Int := 2 ^ (e + 1200).toNat * 10 ^ 362
theorem tu_is {n m s t : Nat} {j e : Int} (hj : j = (m : Int) - n) (he : e = (s : Int) - t) (hn : n ≤ 362) (ht : t ≤ 1200) : ordN (2 ^ t * 10 ^ m) (2 ^ s * 10 ^ n) = ordN (tuL j) (tuR e) := by
  have c : (0 : Int) < 10 ^ (362 - n) * 2 ^ (1200 - t) := Int.mul_pos (Int.pow_pos (by omega)) (Int.pow_pos (by omega))
  rw [← ordN_mul (A := 2 ^ t * 10 ^ m) c]
  unfold tuL tuR
  have e1 : (10 : Int) ^ 362 = 10 ^ n * 10 ^ (362 - n) := by rw [← Int.pow_add]; congr 1; omega
  have e2 : (2 : Int) ^ (e + 1200).toNat = 2 ^ s * 2 ^ (1200 - t) := by rw [← Int.pow_add]; congr 1; omega
  have e3 : (2 : Int) ^ 1200 = 2 ^ t * 2 ^ (1200 - t) := by rw [← Int.pow_add]; congr 1; omega
  have e4 : (10 : Int) ^ (j + 362).toNat = 10 ^ m * 10 ^ (362 - n) := by rw [← Int.pow_add]; congr 1; omega
  rw [e1, e2, e3, e4]
  generalize (10 : Int) ^ n = a
  generalize (10 : Int) ^ (362 - n) = b
  generalize (10 : Int) ^ m = c'
  generalize (2 : Int) ^ s = d
  generalize (2 : Int) ^ (1200 - t) = f
  generalize (2 : Int) ^ t = h
  congr 1 <;> grind
/-- the logarithm to two, and 1157 more -/
def lN (i : Nat) : Nat := (i * 1741647 + 508060) / 524288
def chkL (i : Nat) : Bool := Nat.ble (2 ^ lN i * 10 ^ 348) (10 ^ i * 2 ^ 1157) && Nat.blt (10 ^ i * 2 ^ 1157) (2 ^ (lN i + 1) * 10 ^ 348)
theorem chkL_all : allB chkL 696 = true := by kernel_rfl
theorem od_log {e : Int} (h : inT e) : odL (e * 1741647 / 524288) ≤ odR e ∧ odR e < odL (e * 1741647 / 524288 + 1) ∧ -1157 ≤ e * 1741647 / 524288 ∧ e * 1741647 / 524288 ≤ 1199 := by
  unfold inT at h
  obtain ⟨i, hi⟩ : ∃ i : Nat, e = (i : Int) - 348 := ⟨(e + 348).toNat, by omega⟩
  have c := allB_at chkL_all (show i < 696 by omega)
  unfold chkL at c
  rw [Bool.and_eq_true] at c
  have c1 := Nat.le_of_ble_eq_true c.1
  have c2 := Nat.blt_eq.mp c.2
  have k0 : e * 1741647 / 524288 = (lN i : Int) - 1157 := by unfold lN; omega
  have kb : lN i ≤ 2356 := by unfold lN; omega
  rw [k0]
  unfold odL odR
  rw [hi, show ((lN i : Int) - 1157 + 1157).toNat = lN i by omega, show ((lN i : Int) - 1157 + 1 + 1157).toNat = lN i + 1 by omega, show ((i : Int) - 348 + 348).toNat = i by omega]
  refine ⟨?_, ?_, by omega, by omega⟩
  · exact up4 (a := 2) (b := 10) c1
  · exact up5 (a := 2) (b := 10) c2
theorem tu_log {e : Int} (h0 : -1200 ≤ e) (h1 : e ≤ 1200) : tuL (e * 315653 / 1048576) ≤ tuR e ∧ tuR e < tuL (e * 315653 / 1048576 + 1) ∧ -362 ≤ e * 315653 / 1048576 ∧ e * 315653 / 1048576 ≤ 362 ∧ (e ≠ 0 → tuL (e * 315653 / 1048576) < tuR e) := by
  obtain ⟨i, hi⟩ : ∃ i : Nat, e = (i : Int) - 1200 := ⟨(e + 1200).toNat, by omega⟩
  obtain ⟨c1, c2, c3⟩ := kN_main (show i < 2401 by omega)
  have k0 : e * 315653 / 1048576 = (kN i : Int) - 362 := by unfold kN; omega
  have kb : kN i ≤ 724 := by unfold kN; omega
  rw [k0]
  unfold tuL tuR
  rw [hi, show ((kN i : Int) - 362 + 362).toNat = kN i by omega, show ((kN i : Int) - 362 + 1 + 362).toNat = kN i + 1 by omega, show ((i : Int) - 1200 + 1200).toNat = i by omega]
  refine ⟨?_, ?_, by omega, by omega, fun q => ?_⟩
  · exact up4 (a := 10) (b := 2) c1
  · exact up5 (a := 10) (b := 2) c2
  · exact up5 (a := 2) (b := 10) (c3 (by omega))
theorem ag_main {e : Int} (h : inT e) : agL (pV e) (pX e) ≤ agR e ∧ agR e < agL (pV e + 1) (pX e) ∧ (pW e = true ↔ agL (pV e) (pX e) = agR e) := by
  have r := pX_rng h
  unfold inT at h
  obtain ⟨i, hi⟩ : ∃ i : Nat, e = (i : Int) - 348 := ⟨(e + 348).toNat, by omega⟩
  obtain ⟨c1, c2, c3⟩ := vN_main (show i < 696 by omega)
  have p : (e + 348).toNat = i := by omega
  unfold pX at r
  unfold agL agR pV pX pW
  rw [p] at *
  rw [show (xN i : Int) - 1000 + 2000 = ((xN i + 1000 : Nat) : Int) by omega, Int.toNat_natCast, show (e + 696).toNat = i + 348 by omega]
  have e1 : (2 : Int) ^ (xN i + 1000) = 2 ^ xN i * 2 ^ 1000 := Int.pow_add _ _ _
  have e2 : (5 : Int) ^ 696 = 5 ^ 348 * 5 ^ 348 := Int.pow_add 5 348 348
  have e3 : (5 : Int) ^ (i + 348) = 5 ^ i * 5 ^ 348 := Int.pow_add _ _ _
  have e4 : (2 : Int) ^ 2000 = 2 ^ 1000 * 2 ^ 1000 := Int.pow_add 2 1000 1000
  rw [e1, e2, e3, e4]
  have C : (0 : Int) < 2 ^ 1000 * 5 ^ 348 := Int.mul_pos (Int.pow_pos (by omega)) (Int.pow_pos (by omega))
  have d1 : (vN i : Int) * 2 ^ xN i * 5 ^ 348 ≤ 5 ^ i * 2 ^ 1000 := up1 (v := vN i) (s := xN i) (y := 348) (i := i) (z := 1000) c1
  have d2 : (5 : Int) ^ i * 2 ^ 1000 < ((vN i : Int) + 1) * 2 ^ xN i * 5 ^ 348 := up2 (v := vN i) (s := xN i) (y := 348) (i := i) (z := 1000) c2
  have d3 : whN i = true ↔ (vN i : Int) * 2 ^ xN i * 5 ^ 348 = 5 ^ i * 2 ^ 1000 := by
    exact c3.trans (up3 (v := vN i) (s := xN i) (y := 348) (i := i) (z := 1000))
  rw [d3]
  clear c1 c2 c3 d3 e1 e2 e3 e4
  generalize (5 : Int) ^ 348 = f at *
  generalize (2 : Int) ^ 1000 = t at *
  generalize (2 : Int) ^ xN i = s at *
  generalize (5 : Int) ^ i = g at *
  generalize (vN i : Int) = v at *
  have q1 : v * (s * t) * (f * f) = v * s * f * (t * f) := by grind
  have q2 : g * f * (t * t) = g * t * (t * f) := by grind
  have q3 : (v + 1) * (s * t) * (f * f) = (v + 1) * s * f * (t * f) := by grind
  rw [q1, q2, q3]
  refine ⟨Int.mul_le_mul_of_nonneg_right d1 (Int.le_of_lt C), Int.mul_lt_mul_of_pos_right d2 C, ?_⟩
  exact ⟨fun q => by rw [q], fun q => Int.eq_of_mul_eq_mul_right (by omega) q⟩
theorem ag_mono {V V' x : Int} (h : V ≤ V') : agL V x ≤ agL V' x := by
  unfold agL
  exact Int.mul_le_mul_of_nonneg_right (Int.mul_le_mul_of_nonneg_right h (Int.pow_nonneg (by omega))) (Int.pow_nonneg (by omega))
/-- products of two -/
theorem ag_prod {a b : Int} (ha : inT a) (hb : inT b) : agL (pV a * pV b) (pX a + pX b) ≤ agR (a + b) ∧ agR (a + b) < agL ((pV a + 1) * (pV b + 1)) (pX a + pX b) := by
  have ra := pX_rng ha
  have rb := pX_rng hb
  unfold inT at ha hb
  obtain ⟨i, hi⟩ : ∃ i : Nat, a = (i : Int) - 348 := ⟨(a + 348).toNat, by omega⟩
  obtain ⟨j, hj⟩ : ∃ j : Nat, b = (j : Int) - 348 := ⟨(b + 348).toNat, by omega⟩
  obtain ⟨c1, c2, c3⟩ := vN_main (show i < 696 by omega)
  obtain ⟨f1, f2, f3⟩ := vN_main (show j < 696 by omega)
  have p : (a + 348).toNat = i := by omega
  have q : (b + 348).toNat = j := by omega
  unfold pX at ra rb
  unfold agL agR pV pX
  rw [p] at *
  rw [q] at *
  rw [show (xN i : Int) - 1000 + ((xN j : Int) - 1000) + 2000 = ((xN i + xN j : Nat) : Int) by omega, Int.toNat_natCast, show (a + b + 696).toNat = i + j by omega]
  have e1 : (2 : Int) ^ (xN i + xN j) = 2 ^ xN i * 2 ^ xN j := Int.pow_add _ _ _
  have e2 : (5 : Int) ^ 696 = 5 ^ 348 * 5 ^ 348 := Int.pow_add 5 348 348
  have e3 : (5 : Int) ^ (i + j) = 5 ^ i * 5 ^ j := Int.pow_add _ _ _
  have e4 : (2 : Int) ^ 2000 = 2 ^ 1000 * 2 ^ 1000 := Int.pow_add 2 1000 1000
  rw [e1, e2, e3, e4]
  have d1 : (vN i : Int) * 2 ^ xN i * 5 ^ 348 ≤ 5 ^ i * 2 ^ 1000 := up1 (v := vN i) (s := xN i) (y := 348) (i := i) (z := 1000) c1
  have d2 : (5 : Int) ^ i * 2 ^ 1000 < ((vN i : Int) + 1) * 2 ^ xN i * 5 ^ 348 := up2 (v := vN i) (s := xN i) (y := 348) (i := i) (z := 1000) c2
  have g1 : (vN j : Int) * 2 ^ xN j * 5 ^ 348 ≤ 5 ^ j * 2 ^ 1000 := up1 (v := vN j) (s := xN j) (y := 348) (i := j) (z := 1000) f1
  have g2 : (5 : Int) ^ j * 2 ^ 1000 < ((vN j : Int) + 1) * 2 ^ xN j * 5 ^ 348 := up2 (v := vN j) (s := xN j) (y := 348) (i := j) (z := 1000) f2
  have z1 : (0 : Int) ≤ (vN j : Int) * 2 ^ xN j * 5 ^ 348 := Int.mul_nonneg (Int.mul_nonneg (by omega) (Int.pow_nonneg (by omega))) (Int.pow_nonneg (by omega))
  have z2 : (0 : Int) ≤ 5 ^ i * 2 ^ 1000 := Int.mul_nonneg (Int.pow_nonneg (by omega)) (Int.pow_nonneg (by omega))
  have z3 : (0 : Int) < ((vN j : Int) + 1) * 2 ^ xN j * 5 ^ 348 := Int.lt_of_le_of_lt (Int.le_trans z1 g1) g2
  clear c1 c2 c3 f1 f2 f3 e1 e2 e3 e4
  generalize (5 : Int) ^ 348 = f at *
  generalize (2 : Int) ^ 1000 = t at *
  generalize (2 : Int) ^ xN i = s at *
  generalize (2 : Int) ^ xN j = r at *
  generalize (5 : Int) ^ i = g at *
  generalize (5 : Int) ^ j = h at *
  generalize (vN i : Int) = v at *
  generalize (vN j : Int) = u at *
  have q1 : v * u * (s * r) * (f * f) = v * s * f * (u * r * f) := by grind
  have q2 : g * h * (t * t) = g * t * (h * t) := by grind
  have q3 : (v + 1) * (u + 1) * (s * r) * (f * f) = (v + 1) * s * f * ((u + 1) * r * f) := by grind
  rw [q1, q2, q3]
  exact ⟨Int.mul_le_mul d1 g1 z1 z2, Int.lt_of_le_of_lt (Int.mul_le_mul_of_nonneg_left (Int.le_of_lt g2) z2) (Int.mul_lt_mul_of_pos_right d2 z3)⟩
end Na
section
variable {w : World} {a b : Option Addr} {n m c1 c2 : Nat} {xs ys : List Int} {A B : Int}
theorem five8_any {k : Nat} {K : Int} (hK : K = k) (h : k ≤ 348) (w : World) :
    Calls Tryz.prog 52 #[.int .i64 K] w fun e w' => ∃ a l c ls, e = .returned (.tuple #[.slice a l c, .int .i64 0]) ∧ RowC w' a l c ls ∧ Nm ls (5 ^ k) ∧ Below w.heap.size w w' := by
  subst hK
  have f := five_any (k : Int) (by omega) (by omega) w
  have E1 : pwE 112899 (k : Int) = 0 := by unfold pwE; rw [if_neg (by omega), if_neg (by omega)]
  have E2 : pwL 5 112899 (k : Int) = words (5 ^ k) := by unfold pwL; rw [if_neg (by omega), if_neg (by omega), Int.toNat_natCast]
  rw [E1, E2] at f
  refine f.mono ?_
  rintro e w' ⟨v, rfl, ho, hb⟩
  obtain ⟨a, l, c, ls, rfl, hr, hn, _⟩ := ho.opens (five_lt8 h) (by omega)
  exact ⟨a, l, c, ls, rfl, hr, hn, hb⟩
theorem five8_neg {K : Int} (h0 : -9223372036854775808 ≤ K) (h : K < 0) (w : World) :
    Calls Tryz.prog 52 #[.int .i64 K] w fun e w' => ∃ a l c, e = .returned (.tuple #[.slice a l c, .int .i64 31]) ∧ Below w.heap.size w w' := by
  have f := five_any K h0 (by omega) w
  have E1 : pwE 112899 K = 31 := by unfold pwE; rw [if_pos h]
  have E2 : pwL 5 112899 K = [] := by unfold pwL; rw [if_pos h]
  rw [E1, E2] at f
  refine f.mono ?_
  rintro e w' ⟨v, rfl, ho, hb⟩
  obtain ⟨a, c, rfl, hr⟩ := ho.readsC
  exact ⟨a, _, c, rfl, hb⟩
theorem ten8_any {k : Nat} {K : Int} (hK : K = k) (h : k ≤ 370) (w : World) :
    Calls Tryz.prog 24 #[.int .i64 K] w fun e w' => ∃ a l c ls, e = .returned (.tuple #[.slice a l c, .int .i64 0]) ∧ RowC w' a l c ls ∧ Nm ls (10 ^ k) ∧ Below w.heap.size w w' := by
  subst hK
  have f := ten_any (k : Int) (by omega) (by omega) w
  have E1 : pwE 78913 (k : Int) = 0 := by unfold pwE; rw [if_neg (by omega), if_neg (by omega)]
  have E2 : pwL 10 78913 (k : Int) = words (10 ^ k) := by unfold pwL; rw [if_neg (by omega), if_neg (by omega), Int.toNat_natCast]
  rw [E1, E2] at f
  refine f.mono ?_
  rintro e w' ⟨v, rfl, ho, hb⟩
  obtain ⟨a, l, c, ls, rfl, hr, hn, _⟩ := ho.opens (ten_lt8 h) (by omega)
  exact ⟨a, l, c, ls, rfl, hr, hn, hb⟩
end
end Go.Proofs.YtalglldkjbinbaaGreatDoor
