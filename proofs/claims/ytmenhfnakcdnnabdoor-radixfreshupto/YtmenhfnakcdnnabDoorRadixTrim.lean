/- radix.Trim: by tens, as often as it can be done. -/
import Derived.Test.YtmenhfnakcdnnabDoorRadixAlive
namespace Go.Proofs.YtmenhfnakcdnnabDoor
open Go.ChangeShapes Go.WideShapes Go.ChangeAt Go.RowKit
open Na Ar
set_option linter.unusedVariables false
namespace Na
theorem odd_dec : ∀ (m : Nat), 0 < m → ∃ (k : Nat) (u : Int), (m : Int) = 2 ^ k * u ∧ 0 < u ∧ u % 2 = 1 := by
  intro m
  induction m using Nat.strongRecOn with
  | ind m ih =>
    intro h
    by_cases o : m % 2 = 1
    · exact ⟨0, m, by simp, by omega, by omega⟩
    · obtain ⟨k, u, h1, h2, h3⟩ := ih (m / 2) (by omega) (by omega)
      refine ⟨k + 1, u, ?_, h2, h3⟩
      rw [Int.pow_succ, Int.mul_assoc, Int.mul_comm 2 u, ← Int.mul_assoc, ← h1]
      omega
theorem zeros_ge {X q : Int} {n : Nat} (hq : 0 < q) (h : X = q * 10 ^ n) : (n : Int) ≤ zerosN X := by
  have p5 : 0 < (5 : Int) ^ n := Int.pow_pos (by omega)
  have hp := Int.mul_pos hq p5
  obtain ⟨j, u, h1, h2, h3⟩ := odd_dec (q * 5 ^ n).toNat (by omega)
  have e : X = 2 ^ (n + j) * u := by
    rw [h, show (10 : Int) = 5 * 2 by omega, Int.mul_pow, ← Int.mul_assoc, Int.pow_add, Int.mul_assoc (2 ^ n), ← h1, Int.mul_comm]
    congr 1
    omega
  rw [zerosN_eq e h2 h3]
  omega
theorem zeros_le {X : Int} {L : Nat} (h0 : 0 ≤ X) (hL : (words X).length ≤ L) : zerosN X ≤ 64 * L := by
  by_cases hz : X = 0
  · rw [hz, zerosN_zero]; omega
  · obtain ⟨k, u, h1, h2, h3⟩ := odd_dec X.toNat (by omega)
    have e : X = 2 ^ k * u := by rw [← h1]; omega
    rw [zerosN_eq e h2 h3]
    have lt := val_lt (B := 18446744073709551616) (by omega) (Dg_words X)
    rw [val_words h0] at lt
    have m := wpow_mono hL
    have e2 : (18446744073709551616 : Int) ^ L = 2 ^ (64 * L) := by
      rw [show (18446744073709551616 : Int) = 2 ^ 64 by decide, ← Int.pow_mul]
    by_cases g : k ≤ 64 * L
    · omega
    · exfalso
      have a : (2 : Int) ^ (64 * L) ≤ 2 ^ k := p2mono (by omega)
      have pk : (0 : Int) < 2 ^ k := Int.pow_pos (by omega)
      have b := Int.mul_le_mul_of_nonneg_left (show (1 : Int) ≤ u by omega) (Int.le_of_lt pk)
      omega
/-- does ten to the n divide it? (0: never) -/
def dv (X : Int) (n : Nat) : Bool := decide (0 < X) && decide (X % 10 ^ n = 0)
theorem dv_true {X : Int} {n : Nat} (h : dv X n = true) : 0 < X ∧ X % 10 ^ n = 0 := by
  unfold dv at h; simpa using h
theorem dv_false {X : Int} {n : Nat} (h : dv X n = false) (h0 : 0 < X) : X % 10 ^ n ≠ 0 := by
  unfold dv at h
  intro q
  simp [h0, q] at h
theorem dv_quot {X : Int} {n : Nat} (h : dv X n = true) : X = X / 10 ^ n * 10 ^ n ∧ 0 < X / 10 ^ n ∧ X / 10 ^ n ≤ X := by
  obtain ⟨h0, h1⟩ := dv_true h
  have p : 0 < (10 : Int) ^ n := Int.pow_pos (by omega)
  have d := Int.mul_ediv_add_emod X (10 ^ n)
  rw [h1, Int.add_zero, Int.mul_comm] at d
  refine ⟨d.symm, ?_, Int.ediv_le_self _ (by omega)⟩
  by_cases q : 0 < X / 10 ^ n
  · exact q
  · have := Int.mul_le_mul_of_nonneg_right (show X / 10 ^ n ≤ 0 by omega) (Int.le_of_lt p)
    omega
theorem dv_low {X : Int} {n : Nat} (h : zerosN X < n) : dv X n = false := by
  cases e : dv X n with
  | false => rfl
  | true =>
    obtain ⟨q1, q2, _⟩ := dv_quot e
    have := zeros_ge q2 q1
    omega
end Na
set_option maxHeartbeats 1600000 in
set_option maxRecDepth 100000 in
theorem divided_any {a pa : Option Addr} {l c pl pc n : Nat} {X : Int} {w : World} (h0 : 0 ≤ X) (hr : RowC w a l c (words X)) (hl : l ≤ 3000000) (hp : RowC w pa pl pc (words (10 ^ n))) (hpl : pl ≤ 4096) (hn : 1 ≤ n) (hn9 : n ≤ 400000000) :
    Calls Tryd.prog 62 #[.slice a l c, .slice pa pl pc, .int .i64 n] w fun e w' => ∃ v, e = .returned (.tuple #[v, .bool (dv X n)]) ∧ (dv X n = true → Own .u64 w' w.heap.size 35 v (words (X / 10 ^ n))) ∧ Below w.heap.size w w' := by
  have hp0 : 0 < (10 : Int) ^ n := Int.pow_pos (by omega)
  have zc := zeros0_any hr (Dg_words X) (by omega)
  have dc := divMod_any hr hp (Dg_words X) (Dg_words _) (by omega) (by omega) (by rw [num_words (Int.le_of_lt hp0)]; exact hp0)
  rw [num_words h0] at zc dc
  rw [num_words (Int.le_of_lt hp0)] at dc
  have HZ := dv_low (X := X) (n := n)
  have hzl := zeros_le (X := X) (L := 3000000) h0 (by have := hr.1.1; omega)
  by_cases hz : zerosN X < n
  · have hd := HZ hz
    rw [hd]
    clear HZ dc
    go_enter Tryd.func62, Tryd.ntmps62
    go_wp2_with fail
    refine zc.mono ?_
    rintro e w' ⟨rfl, rfl⟩
    clear zc
    go_wp2
    go_ret2
    exact ⟨.slice none 0 0, rfl, fun h => absurd h (by decide), Below.refl _ _⟩
  · have hX : 0 < X := by
      by_cases q : X = 0
      · rw [q, zerosN_zero] at hz; omega
      · omega
    have HD : Hid (((words (X % 10 ^ n)).length == 0) = dv X n) := by
      show _ = _
      have r0 := Int.emod_nonneg X (show (10 : Int) ^ n ≠ 0 by omega)
      have := words_nil r0
      unfold dv
      by_cases q : X % 10 ^ n = 0
      · rw [show (words (X % 10 ^ n)).length = 0 from this.mpr q]; simp [hX, q]
      · have h9 : (words (X % 10 ^ n)).length ≠ 0 := fun z => q (this.mp z)
        simp [hX, q, h9]
    clear HZ
    go_enter Tryd.func62, Tryd.ntmps62
    go_wp2_with fail
    refine zc.mono ?_
    rintro e w' ⟨rfl, rfl⟩
    clear zc
    go_wp2_with fail
    refine dc.mono ?_
    rintro e w1 ⟨v1, v2, rfl, ho1, ho2, hb1, _⟩
    obtain ⟨ra, rc, rfl, _⟩ := ho2.readsC
    clear dc ho2
    have HD2 : Hid ((((words (X % 10 ^ n)).length : Int) == 0) = dv X n) := by
      show _ = _
      rw [← HD.out]
      generalize (words (X % 10 ^ n)).length = z
      by_cases q : z = 0
      · subst q; rfl
      · have e1 : ((z : Int) == 0) = false := by rw [beq_eq_false_iff_ne]; omega
        have e2 : (z == 0) = false := by rw [beq_eq_false_iff_ne]; omega
        rw [e1, e2]
    generalize (words (X % 10 ^ n)).length = z at *
    have hzz := HD2.out
    clear HD HD2
    go_wp2
    go_ret2
    exact ⟨v1, rfl, fun _ => ho1, hb1⟩
/-- what strip answers -/
def StripIs (X : Int) (n base : Nat) (w : World) (e : Ending) (w' : World) : Prop :=
  ∃ (v : Value) (U : Int) (k : Nat), e = .returned (.tuple #[v, .int .i64 ((k * n : Nat) : Int)]) ∧ 0 ≤ U ∧ X = U * 10 ^ (k * n) ∧ (X = 0 → k = 0) ∧ (0 < X → U % 10 ^ n ≠ 0) ∧ Own .u64 w' base 35 v (words U) ∧ Below w.heap.size w w'
def StripC (n : Nat) : Prop := ∀ (X : Int) (base : Nat) (w : World) (v : Value) (pa : Option Addr) (pl pc : Nat), 0 ≤ X → (words X).length ≤ 3000000 → base ≤ w.heap.size → Own .u64 w base 35 v (words X) → RowC w pa pl pc (words (10 ^ n)) → pl ≤ 4096 →
  Calls Tryd.prog 37 #[v, .slice pa pl pc, .int .i64 (n : Int)] w (StripIs X n base w)
/-- what stripSquare answers -/
def SquareIs (X : Int) (n base : Nat) (w : World) (e : Ending) (w' : World) : Prop :=
  ∃ (v : Value) (U : Int) (k : Nat), e = .returned (.tuple #[v, .int .i64 ((k * (2 * n) : Nat) : Int)]) ∧ 0 ≤ U ∧ X = U * 10 ^ (k * (2 * n)) ∧ Own .u64 w' base 35 v (words U) ∧ Below w.heap.size w w'
set_option maxHeartbeats 1600000 in
set_option maxRecDepth 100000 in
theorem square_any {n : Nat} (hn : 1 ≤ n) (hn9 : n ≤ 200000000) (ih : 2 * n ≤ 200000000 → StripC (2 * n)) {X : Int} {base : Nat} {w : World} {v : Value} {pa : Option Addr} {pl pc : Nat} (h0 : 0 ≤ X) (hL : (words X).length ≤ 3000000) (hbase : base ≤ w.heap.size) (ho : Own .u64 w base 35 v (words X)) (hp : RowC w pa pl pc (words (10 ^ n))) (hpl : pl ≤ 4096) :
    Calls Tryd.prog 63 #[v, .slice pa pl pc, .int .i64 (n : Int)] w (SquareIs X n base w) := by
  obtain ⟨a, c, rfl, hr⟩ := ho.readsC
  have hp0 : 0 < (10 : Int) ^ n := Int.pow_pos (by omega)
  have zc := zeros0_any hr (Dg_words X) (by omega)
  rw [num_words h0] at zc
  have hzl := zeros_le (X := X) (L := 3000000) h0 hL
  have mc := natMul_any hp hp (Dg_words _) (Dg_words _) (by omega) (by omega)
  rw [num_words (Int.le_of_lt hp0)] at mc
  have e2 : (10 : Int) ^ n * 10 ^ n = 10 ^ (2 * n) := by rw [← Int.pow_add]; congr 1; omega
  rw [e2] at mc
  have same : ∀ w', w = w' → SquareIs X n base w (.returned (.tuple #[.slice a (words X).length c, .int .i64 0])) w' := fun w' e => by
    subst e
    exact ⟨_, X, 0, by rw [Nat.zero_mul]; rfl, h0, by simp, ho, Below.refl _ _⟩
  have same2 : ∀ w', Below w.heap.size w w' → SquareIs X n base w (.returned (.tuple #[.slice a (words X).length c, .int .i64 0])) w' := fun w' e =>
    ⟨_, X, 0, by rw [Nat.zero_mul]; rfl, h0, by simp, ho.later e, e⟩
  have hlx := hr.1.1
  by_cases hz : zerosN X < 2 * (n : Int)
  · clear mc ih e2
    generalize (words X).length = lx at *
    go_enter Tryd.func63, Tryd.ntmps63
    go_wp2_with fail
    refine zc.mono ?_
    rintro e w' ⟨rfl, rfl⟩
    clear zc
    go_wp2
    go_ret2
    exact same _ rfl
  · have hst := ih (by omega)
    by_cases hE : resE (10 ^ (2 * n)) = 0
    · obtain ⟨el, eb⟩ := res_ok hE
      rw [hE, el] at mc
      generalize hlxx : (words X).length = lx at *
      go_enter Tryd.func63, Tryd.ntmps63
      go_wp2_with fail
      refine zc.mono ?_
      rintro e w' ⟨rfl, rfl⟩
      clear zc hE el
      go_wp2_with fail
      refine mc.mono ?_
      rintro e w1 ⟨v1, rfl, ho1, hb1⟩
      obtain ⟨qa, qc, rfl, hq1⟩ := ho1.readsC
      have hs1 := hst X base w1 (.slice a lx c) qa _ qc h0 (by omega) (Nat.le_trans hbase hb1.size) (ho.later hb1) hq1 eb
      clear mc hst ih
      generalize (words (10 ^ (2 * n))).length = ql at *
      have hcast : ((2 * n : Nat) : Int) = 2 * (n : Int) := by omega
      rw [hcast] at hs1
      go_wp2_with fail
      refine hs1.mono ?_
      rintro e w2 ⟨v2, U, k, rfl, hU, hX, _, _, ho2, hb2⟩
      have HF : SquareIs X n base w (.returned (.tuple #[v2, .int .i64 ((k * (2 * n) : Nat) : Int)])) w2 := ⟨v2, U, k, rfl, hU, hX, ho2, hb1.trans (hb2.mono hb1.size)⟩
      clear hX hs1
      go_wp2
      go_ret2
      exact HF
    · have q21 : resE (10 ^ (2 * n)) = 21 := by
        unfold resE at hE ⊢
        split at hE
        · exact absurd rfl hE
        · rename_i h; rw [if_neg h]
      rw [q21] at mc
      generalize (words X).length = lx at *
      go_enter Tryd.func63, Tryd.ntmps63
      go_wp2_with fail
      refine zc.mono ?_
      rintro e w' ⟨rfl, rfl⟩
      clear zc hE q21
      go_wp2_with fail
      refine mc.mono ?_
      rintro e w1 ⟨v1, rfl, ho1, hb1⟩
      clear mc hst ih
      go_wp2
      go_ret2
      exact same2 _ hb1
end Go.Proofs.YtmenhfnakcdnnabDoor
