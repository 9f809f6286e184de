/- plumbref10.Small, Fast; the walk of LemireFasts. -/
import Derived.Test.YtbbmoaipilmmdabGreatDoorLemL
import Derived.Test.YtbbmoaipilmmdabGreatDoorPowS
import Derived.Test.YtbbmoaipilmmdabGreatDoorNearRefC
import Derived.Test.YtbbmoaipilmmdabGreatDoorNearRefD
import Derived.Test.YtbbmoaipilmmdabGreatDoorRef3MulW
namespace Go.Proofs.YtbbmoaipilmmdabGreatDoor
open Go.ChangeShapes Go.WideShapes Go.ChangeAt Go.RowKit
open Na Ar Lx
set_option linter.unusedVariables false
theorem ten22_lt {n : Nat} (hn : n ≤ 22) : Lt ((10 : Int) ^ n) 2 := by
  have h := ten_le (k := n) (by omega)
  have p : (0 : Int) < 10 ^ n := Int.pow_pos (by omega)
  exact lt_pair ⟨by omega, by omega⟩
theorem one_litsR (w : World) (x y : Int) : RowC ((w.alloc (.cells #[.int .u64 x] 22)).alloc (.cells #[.int .u64 y] 22)) (some ⟨w.heap.size, 0, none⟩) 1 1 [x] ∧
    RowC ((w.alloc (.cells #[.int .u64 x] 22)).alloc (.cells #[.int .u64 y] 22)) (some ⟨w.heap.size + 1, 0, none⟩) 1 1 [y] ∧
    Below w.heap.size w ((w.alloc (.cells #[.int .u64 x] 22)).alloc (.cells #[.int .u64 y] 22)) := by
  have r1 := rowC_one w x 22
  have b1 := alloc_below (w := w) (.cells #[.int .u64 x] 22)
  have s1 : (w.alloc (.cells #[.int .u64 x] 22)).heap.size = w.heap.size + 1 := by simp
  generalize w.alloc (.cells #[.int .u64 x] 22) = w1 at *
  have r2 := rowC_one w1 y 22
  have b2 := alloc_below (w := w1) (.cells #[.int .u64 y] 22)
  rw [s1] at r2
  exact ⟨r1.later b2, r2, b1.trans (b2.mono b1.size)⟩
theorem two_litsR (w : World) (x y z : Int) : RowC ((w.alloc (.cells #[.int .u64 x] 22)).alloc (.cells #[.int .u64 y, .int .u64 z] 22)) (some ⟨w.heap.size, 0, none⟩) 1 1 [x] ∧
    RowC ((w.alloc (.cells #[.int .u64 x] 22)).alloc (.cells #[.int .u64 y, .int .u64 z] 22)) (some ⟨w.heap.size + 1, 0, none⟩) 2 2 [y, z] ∧
    Below w.heap.size w ((w.alloc (.cells #[.int .u64 x] 22)).alloc (.cells #[.int .u64 y, .int .u64 z] 22)) := by
  have r1 := rowC_one w x 22
  have b1 := alloc_below (w := w) (.cells #[.int .u64 x] 22)
  have s1 : (w.alloc (.cells #[.int .u64 x] 22)).heap.size = w.heap.size + 1 := by simp
  generalize w.alloc (.cells #[.int .u64 x] 22) = w1 at *
  have r2 := rowC_two w1 y z 22
  have b2 := alloc_below (w := w1) (.cells #[.int .u64 y, .int .u64 z] 22)
  rw [s1] at r2
  exact ⟨r1.later b2, r2, b1.trans (b2.mono b1.size)⟩
set_option maxHeartbeats 3200000 in
set_option maxRecDepth 100000 in
theorem rsmall_any {m e : Int} (hm : U m) (i0 : -9223372036854775808 ≤ e) (i1 : e ≤ 9223372036854775807) (w : World) :
    Calls Tryz.prog 5 #[.int .u64 m, .int .i64 e] w fun r w' => ∃ b, r = .returned (.tuple #[.int .u64 b, .bool (smallOk m e)]) ∧ (smallOk m e = true → ∃ E, ExIs m e b E) ∧ (smallOk m e = false → b = 0) ∧ Below w.heap.size w w' := by
  have hm0 : 0 ≤ m := hm.1
  cases hok : smallOk m e
  · unfold smallOk at hok
    rw [decide_eq_false_iff_not] at hok
    by_cases h1 : m ≤ 9007199254740992
    · have d1 : decide (m > 9007199254740992) = false := by simp; omega
      have d1' : decide (9007199254740992 < m) = false := by simp; omega
      by_cases h2 : e < -22
      · have d2 : decide (e < -22) = true := by simp; omega
        clear hok
        go_enter Tryz.func5, Tryz.ntmps5
        go_wp2
        go_ret2
        exact ⟨_, rfl, fun h => (by cases h), fun _ => rfl, Below.refl _ _⟩
      · have d2 : decide (e < -22) = false := by simp; omega
        have d3 : decide (e > 22) = true := by simp; omega
        have d3' : decide (22 < e) = true := by simp; omega
        clear hok h2
        go_enter Tryz.func5, Tryz.ntmps5
        go_wp2
        go_ret2
        exact ⟨_, rfl, fun h => (by cases h), fun _ => rfl, Below.refl _ _⟩
    · have d1 : decide (m > 9007199254740992) = true := by simp; omega
      have d1' : decide (9007199254740992 < m) = true := by simp; omega
      clear hok h1
      go_enter Tryz.func5, Tryz.ntmps5
      go_wp2
      go_ret2
      exact ⟨_, rfl, fun h => (by cases h), fun _ => rfl, Below.refl _ _⟩
  · unfold smallOk at hok
    rw [decide_eq_true_eq] at hok
    obtain ⟨k1, k2, k3⟩ := hok
    have d1 : decide (m > 9007199254740992) = false := by simp; omega
    have d1' : decide (9007199254740992 < m) = false := by simp; omega
    have d2 : decide (e < -22) = false := by simp; omega
    have d3 : decide (e > 22) = false := by simp; omega
    have d3' : decide (22 < e) = false := by simp; omega
    obtain ⟨u1, u2, u3⟩ := one_litsR w m 1
    have n0 : Nm [m] m := Nm.one hm
    have n1 : Nm [1] 1 := Nm.one (by omega)
    have lm : Lt m 1 := Lt.word hm
    by_cases hn : 0 ≤ e
    · have d4 : decide (e ≥ 0) = true := by simp; omega
      have d4' : decide (0 ≤ e) = true := by simp; omega
      obtain ⟨k, rfl⟩ : ∃ k : Nat, e = (k : Int) := ⟨e.toNat, by omega⟩
      have hP := fun w => power_any (b := 10) (by omega) k (by omega) w
      have lt := ten22_lt (n := k) (by omega)
      have lp := lm.mul lt
      have np := lt.nm (by omega)
      have HX : Hid (∀ b E, RoundIs (scA (m * 10 ^ k) 0) (scB 1 0) false false 0 b E → ExIs m (k : Int) b E) := fun b E q => by
        unfold ExIs exN exD
        rw [if_pos hn, if_pos hn, Int.toNat_natCast]; exact q
      have hpl : (words ((10 : Int) ^ k)).length ≤ 2 := lt.len
      generalize words ((10 : Int) ^ k) = ps at *
      generalize (10 : Int) ^ k = T at *
      go_enter Tryz.func5, Tryz.ntmps5
      go_wp2_with fail
      refine (hP _).mono ?_
      rintro r w1 ⟨ap, lq, cp, rfl, rp, hb⟩
      have hB := u3.trans (hb.mono u3.size)
      have u1 := u1.later hb
      have u2 := u2.later hb
      clear hP hb u3
      have hM := ref3Mul_any (c1 := 1) (c2 := cp) u1.1 rp.1 n0.ws np.ws (by omega) (by have := rp.1.1; omega)
      rw [n0.num, np.num] at hM
      go_wp2_with fail
      refine hM.mono ?_
      rintro r w2 ⟨v, rfl, ho, hb⟩
      have hB := hB.trans (hb.mono hB.size)
      have u2 := u2.later hb
      obtain ⟨a2, k2', c2, ys, rfl, s2, nm2, hyw⟩ := ho.opens lp (by omega)
      have hlen : ys.length ≤ 3 := by rw [hyw.out]; exact lp.len
      clear hM hb rp u1 ho hyw
      have hQ := r7Quotient_any s2 u2 nm2.ws n1.ws (by have := s2.1.1; omega) (by omega) (mode := 0) (neg := false) (by omega) (by omega) (by rw [n1.num]; omega)
      go_wp2_with fail
      refine hQ.mono ?_
      rintro r w3 ⟨b, E, rfl, rd, ub, hb⟩
      rw [nm2.num, n1.num] at rd
      have HQ : Hid (ExIs m (k : Int) b E) := HX.out b E rd
      have hB := hB.trans (hb.mono hB.size)
      clear hQ rd hb HX
      go_wp2
      go_ret2
      exact ⟨_, rfl, fun _ => ⟨E, HQ.out⟩, fun h => (by cases h), hB⟩
    · have d4 : decide (e ≥ 0) = false := by simp; omega
      have d4' : decide (0 ≤ e) = false := by simp; omega
      obtain ⟨k, hk⟩ : ∃ k : Nat, -e = (k : Int) := ⟨(-e).toNat, by omega⟩
      have hP := fun w => power_any (b := 10) (by omega) k (by omega) w
      have lt := ten22_lt (n := k) (by omega)
      have np := lt.nm (by omega)
      have HX : Hid (∀ b E, RoundIs (scA m 0) (scB (10 ^ k) 0) false false 0 b E → ExIs m e b E) := fun b E q => by
        unfold ExIs exN exD
        rw [if_neg hn, if_neg hn, hk, Int.toNat_natCast]; exact q
      have hpl : (words ((10 : Int) ^ k)).length ≤ 2 := lt.len
      have hpos : (0 : Int) < 10 ^ k := Int.pow_pos (by omega)
      generalize words ((10 : Int) ^ k) = ps at *
      generalize (10 : Int) ^ k = T at *
      go_enter Tryz.func5, Tryz.ntmps5
      go_wp2_with fail
      refine (hP _).mono ?_
      rintro r w1 ⟨ap, lq, cp, rfl, rp, hb⟩
      have hB := u3.trans (hb.mono u3.size)
      have u1 := u1.later hb
      clear hP hb u3 u2
      have hQ := r7Quotient_any u1 rp n0.ws np.ws (by omega) (by have := rp.1.1; omega) (mode := 0) (neg := false) (by omega) (by omega) (by rw [np.num]; omega)
      go_wp2_with fail
      refine hQ.mono ?_
      rintro r w3 ⟨b, E, rfl, rd, ub, hb⟩
      rw [n0.num, np.num] at rd
      have HQ : Hid (ExIs m e b E) := HX.out b E rd
      have hB := hB.trans (hb.mono hB.size)
      clear hQ rd hb HX
      go_wp2
      go_ret2
      exact ⟨_, rfl, fun _ => ⟨E, HQ.out⟩, fun h => (by cases h), hB⟩
set_option maxHeartbeats 3200000 in
set_option maxRecDepth 100000 in
theorem rbound_any {m A x : Int} (hm : U m) (a0 : 0 ≤ A) (a1 : A < 340282366920938463463374607431768211456) (x0 : -50000 ≤ x) (x1 : x ≤ 50000) (w : World) :
    Calls Tryz.prog 18 #[.int .u64 m, .int .u64 (A / 18446744073709551616), .int .u64 (A % 18446744073709551616), .int .i64 x] w fun r w' => ∃ b E, r = .returned (.tuple #[.int .u64 b, .int .i64 E]) ∧ RoundIs (scA (A * m) x) (scB 1 x) false false 0 b E ∧ Below w.heap.size w w' := by
  obtain ⟨u1, u2, u3⟩ := two_litsR w m (A % 18446744073709551616) (A / 18446744073709551616)
  have n0 : Nm [m] m := Nm.one hm
  have lm : Lt m 1 := Lt.word hm
  have lA : Lt A 2 := lt_pair ⟨a0, a1⟩
  have nA : Nm [A % 18446744073709551616, A / 18446744073709551616] A := by
    have := Nm.two (x := A % 18446744073709551616) (y := A / 18446744073709551616) (by omega) (by omega)
    have e : A % 18446744073709551616 + 18446744073709551616 * (A / 18446744073709551616) = A := by omega
    rw [e] at this
    exact this
  have lp := lm.mul lA
  have hM := ref3Mul_any (c1 := 1) (c2 := 2) u1.1 u2.1 n0.ws nA.ws (by omega) (by omega)
  rw [n0.num, nA.num] at hM
  have HX : Hid (∀ b E, RoundIs (scA (m * A) x) (scB 1 x) false false 0 b E → RoundIs (scA (A * m) x) (scB 1 x) false false 0 b E) := fun b E q => by rw [Int.mul_comm A]; exact q
  generalize A / 18446744073709551616 = H at *
  generalize A % 18446744073709551616 = L at *
  clear u1 u2
  go_enter Tryz.func18, Tryz.ntmps18
  go_wp2_with fail
  refine hM.mono ?_
  rintro r w2 ⟨v, rfl, ho, hb⟩
  have hB := u3.trans (hb.mono u3.size)
  obtain ⟨a2, k2', c2, ys, rfl, s2, nm2, hyw⟩ := ho.opens lp (by omega)
  have hlen : ys.length ≤ 3 := by rw [hyw.out]; exact lp.len
  clear hM hb ho hyw u3
  have hQ := r7Scaled_any s2 nm2.ws (by have := s2.1.1; omega) (x := x) (by omega) (by omega) (mode := 0) (neg := false) (more := false) (by omega) (by omega)
  go_wp2_with fail
  refine hQ.mono ?_
  rintro r w3 ⟨b, E, rfl, rd, ub, hb⟩
  rw [nm2.num] at rd
  have HQ : Hid (RoundIs (scA (A * m) x) (scB 1 x) false false 0 b E) := HX.out b E rd
  have hB := hB.trans (hb.mono hB.size)
  clear hQ rd hb HX
  go_wp2
  go_ret2
  exact ⟨_, _, rfl, HQ.out, hB⟩
set_option maxHeartbeats 3200000 in
set_option maxRecDepth 100000 in
theorem rfast_any {m e : Int} (hm : U m) (w : World) :
    Calls Tryz.prog 7 #[.int .u64 m, .int .i64 e] w fun r w' => ∃ b E, r = .returned (.tuple #[.int .u64 b, .int .i64 E]) ∧ FastIs m e b E ∧ Below w.heap.size w w' := by
  by_cases hz : m = 0
  · subst hz
    have HQ : Hid (FastIs 0 e 0 0) := Or.inl ⟨Or.inl rfl, rfl, rfl⟩
    go_enter Tryz.func7, Tryz.ntmps7
    go_wp2
    go_ret2
    exact ⟨_, _, rfl, HQ.out, Below.refl _ _⟩
  · have z : (m == 0) = false := beq_no hz
    by_cases h1 : e < -348
    · have HQ : Hid (FastIs m e 0 0) := Or.inl ⟨Or.inr h1, rfl, rfl⟩
      have d1 : decide (e < -348) = true := by simp; omega
      go_enter Tryz.func7, Tryz.ntmps7
      go_wp2
      go_ret2
      exact ⟨_, _, rfl, HQ.out, Below.refl _ _⟩
    · have d1 : decide (e < -348) = false := by simp; omega
      by_cases h2 : 347 < e
      · have HQ : Hid (FastIs m e 0 70) := Or.inr (Or.inl ⟨hz, h2, rfl, rfl⟩)
        have d2 : decide (347 < e) = true := by simp; omega
        have d2' : decide (e > 347) = true := by simp; omega
        go_enter Tryz.func7, Tryz.ntmps7
        go_wp2
        go_ret2
        exact ⟨_, _, rfl, HQ.out, Below.refl _ _⟩
      · have d2 : decide (347 < e) = false := by simp; omega
        have d2' : decide (e > 347) = false := by simp; omega
        have hin : inT e := ⟨by omega, by omega⟩
        obtain ⟨r0, r1, r2⟩ := pV_rng hin
        obtain ⟨x0, x1⟩ := pX_rng hin
        have a0 : 170141183460469231731687303715884105728 ≤ abV e ∧ abV e < 340282366920938463463374607431768211456 := by
          cases hw : pW e
          · rw [abV_out hw]; have := r2 hw; omega
          · rw [abV_in hw]; omega
        have hF := fun w => r8five_in hin w
        have hA := fun w => r8above_in hin w
        have hP1 := fun w => rbound_any (m := m) (A := pV e) (x := pX e + e) hm (by omega) r1 (by omega) (by omega) w
        have hP2 := fun w => rbound_any (m := m) (A := abV e) (x := pX e + e) hm (by omega) a0.2 (by omega) (by omega) w
        have HF : Hid (∀ b1 E1 b2 E2 b E, RoundIs (scA (pV e * m) (pX e + e)) (scB 1 (pX e + e)) false false 0 b1 E1 → RoundIs (scA (abV e * m) (pX e + e)) (scB 1 (pX e + e)) false false 0 b2 E2 → ((b1 = b2 ∧ E1 = E2 ∧ b = b1 ∧ E = E1) ∨ (¬ (b1 = b2 ∧ E1 = E2) ∧ b = 0 ∧ E = 100)) → FastIs m e b E) := fun b1 E1 b2 E2 b E q1 q2 q3 => Or.inr (Or.inr ⟨hz, hin, b1, E1, b2, E2, q1, q2, q3⟩)
        generalize pV e / 18446744073709551616 = H1 at *
        generalize pV e % 18446744073709551616 = L1 at *
        generalize abV e / 18446744073709551616 = H2 at *
        generalize abV e % 18446744073709551616 = L2 at *
        clear a0 r0 r1 r2
        generalize pX e = X at *
        go_enter Tryz.func7, Tryz.ntmps7
        go_wp2_with fail
        refine (hF _).mono ?_
        rintro r w1 ⟨rfl, hb1⟩
        clear hF
        go_wp2_with fail
        refine (hP1 _).mono ?_
        rintro r w2 ⟨b1, E1, rfl, hr1, hg⟩
        have HR1 : Hid (RoundIs (scA (pV e * m) (X + e)) (scB 1 (X + e)) false false 0 b1 E1) := hr1
        have hB := hb1.trans (hg.mono hb1.size)
        clear hP1 hr1 hg hb1
        go_wp2_with fail
        refine (hA _).mono ?_
        rintro r w3 ⟨rfl, hb⟩
        have hB := hB.trans (hb.mono hB.size)
        clear hA hb
        go_wp2_with fail
        refine (hP2 _).mono ?_
        rintro r w4 ⟨b2, E2, rfl, hr2, hg⟩
        have HR2 : Hid (RoundIs (scA (abV e * m) (X + e)) (scB 1 (X + e)) false false 0 b2 E2) := hr2
        have hB := hB.trans (hg.mono hB.size)
        clear hP2 hr2 hg
        by_cases hE : E1 = E2
        · by_cases hb : b1 = b2
          · have HQ : Hid (FastIs m e b1 E1) := HF.out _ _ _ _ _ _ HR1.out HR2.out (Or.inl ⟨hb, hE, rfl, rfl⟩)
            have t1 : (b1 != b2) = false := bne_of hb
            have t2 : (E1 != E2) = false := bne_of hE
            clear HF hb hE HR1 HR2
            go_wp2
            go_ret2
            exact ⟨_, _, rfl, HQ.out, hB⟩
          · have HQ : Hid (FastIs m e 0 100) := HF.out _ _ _ _ _ _ HR1.out HR2.out (Or.inr ⟨fun q => hb q.1, rfl, rfl⟩)
            have t1 : (b1 != b2) = true := bne_yes hb
            have t2 : (E1 != E2) = false := bne_of hE
            clear HF hb hE HR1 HR2
            go_wp2
            go_ret2
            exact ⟨_, _, rfl, HQ.out, hB⟩
        · have HQ : Hid (FastIs m e 0 100) := HF.out _ _ _ _ _ _ HR1.out HR2.out (Or.inr ⟨fun q => hE q.2, rfl, rfl⟩)
          have t2 : (E1 != E2) = true := bne_yes hE
          clear HF hE HR1 HR2
          go_wp2
          go_ret2
          exact ⟨_, _, rfl, HQ.out, hB⟩
namespace Ar
theorem fast_uniq {m e b E b' E' : Int} (h : FastIs m e b E) (h' : FastIs m e b' E') : b = b' ∧ E = E' := by
  have hB : 0 < scB 1 (pX e + e) := scB_pos' (by omega)
  rcases h with ⟨h, rfl, rfl⟩ | ⟨hz, h, rfl, rfl⟩ | ⟨hz, hin, b1, E1, b2, E2, r1, r2, h⟩ <;> rcases h' with ⟨k, rfl, rfl⟩ | ⟨kz, k, rfl, rfl⟩ | ⟨kz, kin, c1, F1, c2, F2, s1, s2, k⟩
  · exact ⟨rfl, rfl⟩
  · omega
  · unfold inT at kin; omega
  · omega
  · exact ⟨rfl, rfl⟩
  · unfold inT at kin; omega
  · unfold inT at hin; omega
  · unfold inT at hin; omega
  · obtain ⟨rfl, rfl⟩ := roundIs_uniq hB r1 s1
    obtain ⟨rfl, rfl⟩ := roundIs_uniq hB r2 s2
    rcases h with ⟨q1, q2, rfl, rfl⟩ | ⟨q1, rfl, rfl⟩ <;> rcases k with ⟨p1, p2, rfl, rfl⟩ | ⟨p1, rfl, rfl⟩
    · exact ⟨rfl, rfl⟩
    · exact absurd ⟨q1, q2⟩ p1
    · exact absurd ⟨p1, p2⟩ q1
    · exact ⟨rfl, rfl⟩
end Ar
set_option maxHeartbeats 3200000 in
set_option maxRecDepth 100000 in
theorem fasts_walk {m e : Int} (hm : U m) (i0 : -9223372036854775808 ≤ e) (i1 : e ≤ 9223372036854775807) {w : World} (hT : TenVar w) :
    Calls Tryz.prog 3 #[.int .u64 m, .int .i64 e] w fun r w' => r = .returned (.bool true) ∧ Below w.heap.size w w' := by
  have h1 := lemSmall_any hm i0 i1 hT
  have h2 := fun w => rsmall_any hm i0 i1 w
  have h3 := fun w => lemFast_any hm i0 i1 w
  have h4 := fun w => rfast_any (e := e) hm w
  have HS : Hid (∀ b b', (smallOk m e = true → SmlI m e b) → (smallOk m e = false → b = 0) → (smallOk m e = true → ∃ E, ExIs m e b' E) → (smallOk m e = false → b' = 0) → b = b') := fun b b' q1 q2 q3 q4 => by
    cases hk : smallOk m e
    · rw [q2 hk, q4 hk]
    · obtain ⟨E, hx⟩ := q3 hk
      exact (ex_uniq (small_ex (q1 hk)) hx).1
  generalize smallOk m e = ok at *
  go_enter Tryz.func3, Tryz.ntmps3
  go_wp2_with fail
  refine h1.mono ?_
  rintro r w1 ⟨b, rfl, p1, p2, _, hB⟩
  clear h1
  go_wp2_with fail
  refine (h2 _).mono ?_
  rintro r w2 ⟨b', rfl, p3, p4, hb⟩
  have hB := hB.trans (hb.mono hB.size)
  have eb : b = b' := HS.out b b' p1 p2 p3 p4
  have t1 : (b == b') = true := beq_of eb
  clear h2 hb p1 p2 p3 p4 HS eb
  go_wp2_with fail
  refine (h3 _).mono ?_
  rintro r w3 ⟨d, E, rfl, f1, _, hb⟩
  have hB := hB.trans (hb.mono hB.size)
  have HF : Hid (FastIs m e d E) := f1
  clear h3 hb f1
  go_wp2_with fail
  refine (h4 _).mono ?_
  rintro r w4 ⟨d', E', rfl, f2, hb⟩
  have hB := hB.trans (hb.mono hB.size)
  obtain ⟨e1, e2'⟩ := fast_uniq HF.out f2
  have t2 : (d == d') = true := beq_of e1
  have t3 : (E == E') = true := beq_of e2'
  clear h4 hb f2 HF e1 e2'
  have ha := alive10_any (hT.later hB)
  go_wp2_with fail
  refine ha.mono ?_
  rintro r w5 ⟨rfl, hb⟩
  have hB := hB.trans (hb.mono hB.size)
  clear ha hb
  go_wp2
  go_ret
  exact ⟨by simp, hB⟩
end Go.Proofs.YtbbmoaipilmmdabGreatDoor
