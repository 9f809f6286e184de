/- the walk of LemireUnsure. -/
import Derived.Test.YtbbmoaipilmmdaaGreatDoorLemL
import Derived.Test.YtbbmoaipilmmdaaGreatDoorNearC
namespace Go.Proofs.YtbbmoaipilmmdaaGreatDoor
open Go.ChangeShapes Go.WideShapes Go.ChangeAt Go.RowKit
open Na Ar Lx
set_option linter.unusedVariables false
theorem two_lits (w : World) (x y z : Int) : RowC ((w.alloc (.cells #[.int .u64 x] 22)).alloc (.cells #[.int .u64 y, .int .u64 z] 22)) (some ⟨w.heap.size, 0, none⟩) 1 1 [x] ∧
    RowC ((w.alloc (.cells #[.int .u64 x] 22)).alloc (.cells #[.int .u64 y, .int .u64 z] 22)) (some ⟨w.heap.size + 1, 0, none⟩) 2 2 [y, z] ∧
    Below w.heap.size w ((w.alloc (.cells #[.int .u64 x] 22)).alloc (.cells #[.int .u64 y, .int .u64 z] 22)) := by
  have r1 := rowC_one w x 22
  have b1 := alloc_below (w := w) (.cells #[.int .u64 x] 22)
  have s1 : (w.alloc (.cells #[.int .u64 x] 22)).heap.size = w.heap.size + 1 := by simp
  generalize w.alloc (.cells #[.int .u64 x] 22) = w1 at *
  have r2 := rowC_two w1 y z 22
  have b2 := alloc_below (w := w1) (.cells #[.int .u64 y, .int .u64 z] 22)
  rw [s1] at r2
  exact ⟨r1.later b2, r2, b1.trans (b2.mono b1.size)⟩
theorem pair_nm {A : Int} (h0 : 0 ≤ A) (h1 : A < 340282366920938463463374607431768211456) : Ws [A % 18446744073709551616, A / 18446744073709551616] ∧ num [A % 18446744073709551616, A / 18446744073709551616] = A := by
  constructor
  · intro x hx
    rcases List.mem_cons.mp hx with rfl | hx
    · omega
    · rcases List.mem_cons.mp hx with rfl | hx
      · omega
      · cases hx
  · simp [Na.num, val]
    omega
namespace Ar
theorem fast_out {m e b E : Int} (h : FastIs m e b E) (hq : m = 0 ∨ ¬ inT e) : E ≠ 100 := by
  rcases h with ⟨_, _, rfl⟩ | ⟨_, _, _, rfl⟩ | ⟨q1, q2, _⟩
  · omega
  · omega
  · rcases hq with h | h
    · exact absurd h q1
    · exact absurd q2 h
theorem fast_in {m e b E : Int} (h : FastIs m e b E) (hm : m ≠ 0) (hin : inT e) : ∃ b1 E1 b2 E2, RoundIs (scA (pV e * m) (pX e + e)) (scB 1 (pX e + e)) false false 0 b1 E1 ∧ RoundIs (scA (abV e * m) (pX e + e)) (scB 1 (pX e + e)) false false 0 b2 E2 ∧
    ((b1 = b2 ∧ E1 = E2 ∧ b = b1 ∧ E = E1) ∨ (¬ (b1 = b2 ∧ E1 = E2) ∧ b = 0 ∧ E = 100)) := by
  rcases h with ⟨h, _⟩ | ⟨_, h, _⟩ | ⟨_, _, h⟩
  · unfold inT at hin; omega
  · unfold inT at hin; omega
  · exact h
end Ar
set_option maxHeartbeats 6400000 in
set_option maxRecDepth 100000 in
theorem unsure_walk {m e : Int} (hm : U m) (i0 : -9223372036854775808 ≤ e) (i1 : e ≤ 9223372036854775807) {w : World} (hT : TenVar w) (hG : GrVar w) :
    Calls Tryz.prog 3 #[.int .u64 m, .int .i64 e] w fun r w' => r = .returned (.bool true) ∧ Below w.heap.size w w' := by
  have f3 := fun w => lemFast_any (e := e) hm i0 i1 w
  by_cases hin : inT e
  · have f1 := fun w => five8_in hin w
    have f2 := fun w => above8_in hin w
    by_cases hz : m = 0
    · subst hz
      generalize pV e / 18446744073709551616 = H1 at *
      generalize pV e % 18446744073709551616 = L1 at *
      generalize abV e / 18446744073709551616 = H2 at *
      generalize abV e % 18446744073709551616 = L2 at *
      generalize pX e = X at *
      go_enter Tryz.func3, Tryz.ntmps3
      go_wp2_with fail
      refine (f1 _).mono ?_
      rintro r w1 ⟨rfl, hB⟩
      go_wp2_with fail
      refine (f2 _).mono ?_
      rintro r w2 ⟨rfl, hb⟩
      have hB := hB.trans (hb.mono hB.size)
      go_wp2_with fail
      refine (f3 _).mono ?_
      rintro r w3 ⟨b, E, rfl, hf, _, hb⟩
      have hB := hB.trans (hb.mono hB.size)
      have hE : (E != 100) = true := bne_yes (fast_out hf (Or.inl rfl))
      clear hf f1 f2 f3 hb
      have ha := alive10_any (hT.later hB)
      go_wp2_with fail
      refine ha.mono ?_
      rintro r w4 ⟨rfl, hb⟩
      have hB := hB.trans (hb.mono hB.size)
      have ha := alive10_any (hT.later hB)
      clear hb
      go_wp2_with fail
      refine ha.mono ?_
      rintro r w5 ⟨rfl, hb⟩
      have hB := hB.trans (hb.mono hB.size)
      clear ha hb
      go_wp2
      go_ret
      exact ⟨rfl, hB⟩
    · have t : (m == 0) = false := beq_no hz
      obtain ⟨r0, r1, r2⟩ := pV_rng hin
      obtain ⟨x0, x1⟩ := pX_rng hin
      have a0 : 170141183460469231731687303715884105728 ≤ abV e ∧ abV e < 340282366920938463463374607431768211456 := by
        cases hw : pW e
        · rw [abV_out hw]; have := r2 hw; omega
        · rw [abV_in hw]; omega
      have hm0 : 0 ≤ m := hm.1
      have n0 : Nm [m] m := Nm.one hm
      have lm : Lt m 1 := Lt.word hm
      have n1 : Nm [pV e % 18446744073709551616, pV e / 18446744073709551616] (pV e) := by
        obtain ⟨q1, q2⟩ := pair_nm (A := pV e) (by omega) r1
        exact ⟨q1, q2, by simp⟩
      have n2 : Nm [abV e % 18446744073709551616, abV e / 18446744073709551616] (abV e) := by
        obtain ⟨q1, q2⟩ := pair_nm (A := abV e) (by omega) a0.2
        exact ⟨q1, q2, by simp⟩
      have l1 : Lt (m * pV e) 3 := lm.mul (l := 2) ⟨by omega, by rw [show (18446744073709551616 : Int) ^ 2 = 340282366920938463463374607431768211456 by rfl]; exact r1⟩
      have l2 : Lt (m * abV e) 3 := lm.mul (l := 2) ⟨by omega, by rw [show (18446744073709551616 : Int) ^ 2 = 340282366920938463463374607431768211456 by rfl]; exact a0.2⟩
      have HF : Hid (∀ b E, FastIs m e b E → ∃ b1 E1 b2 E2, RoundIs (scA (m * pV e) (pX e + e)) (scB 1 (pX e + e)) false false 0 b1 E1 ∧ RoundIs (scA (m * abV e) (pX e + e)) (scB 1 (pX e + e)) false false 0 b2 E2 ∧
        ((b1 = b2 ∧ E1 = E2 ∧ b = b1 ∧ E = E1) ∨ (¬ (b1 = b2 ∧ E1 = E2) ∧ b = 0 ∧ E = 100))) := fun b E h => by
          rw [Int.mul_comm m, Int.mul_comm m]; exact fast_in h hz hin
      have hB0 : 0 < scB 1 (pX e + e) := scB_pos' (by omega)
      have hh := hin
      unfold inT at hh
      obtain ⟨h1, h2⟩ := hh
      generalize pV e / 18446744073709551616 = H1 at *
      generalize pV e % 18446744073709551616 = L1 at *
      generalize abV e / 18446744073709551616 = H2 at *
      generalize abV e % 18446744073709551616 = L2 at *
      generalize pX e = X at *
      have q0 : -9223372036854775808 ≤ X + e := by omega
      have q1 : X + e ≤ 9223372036854775807 := by omega
      clear r0 r1 r2 a0 lm
      go_enter Tryz.func3, Tryz.ntmps3
      go_wp2_with fail
      refine (f1 _).mono ?_
      rintro r w1 ⟨rfl, hB⟩
      clear f1
      go_wp2_with fail
      refine (f2 _).mono ?_
      rintro r w2 ⟨rfl, hb⟩
      have hB := hB.trans (hb.mono hB.size)
      clear f2
      go_wp2_with fail
      refine (f3 _).mono ?_
      rintro r w3 ⟨b, E, rfl, hf, _, hb⟩
      have hB := hB.trans (hb.mono hB.size)
      obtain ⟨b1, E1, b2, E2, rd1, rd2, hc⟩ := HF.out b E hf
      have R1 : Hid (RoundIs (scA (m * pV e) (X + e)) (scB 1 (X + e)) false false 0 b1 E1) := rd1
      have R2 : Hid (RoundIs (scA (m * abV e) (X + e)) (scB 1 (X + e)) false false 0 b2 E2) := rd2
      have HC : Hid _ := hc
      clear hf HF f3 hb rd1 rd2 hc
      have ha := alive10_any (hT.later hB)
      go_wp2_with fail
      refine ha.mono ?_
      rintro r w4 ⟨rfl, hb⟩
      have hB := hB.trans (hb.mono hB.size)
      clear ha hb hT
      obtain ⟨u1, u2, u3⟩ := two_lits w4 m L1 H1
      have hM := mulQ u1 u2 n0 n1 l1 (by omega)
      have hB := hB.trans (u3.mono hB.size)
      clear u1 u2 u3
      go_wp2_with fail
      refine hM.mono ?_
      rintro r w5 ⟨a1, k1, c1, xs, rfl, s1, nm1, _, hb⟩
      have hB := hB.trans (hb.mono hB.size)
      clear hM hb
      obtain ⟨u1, u2, u3⟩ := two_lits w5 m L2 H2
      have hM := mulQ u1 u2 n0 n2 l2 (by omega)
      have hB := hB.trans (u3.mono hB.size)
      have s1 := s1.later u3
      clear u1 u2 u3
      go_wp2_with fail
      refine hM.mono ?_
      rintro r w6 ⟨a2, k2, c2, ys, rfl, s2, nm2, _, hb⟩
      have hB := hB.trans (hb.mono hB.size)
      have s1 := s1.later hb
      clear hM hb
      have hS := scaled_go s1 nm1.ws (by have := s1.1.1; have := nm1.len; omega) q0 q1 (mode := 0) (neg := false) (more := false) (by omega) (by omega) (hG.later hB)
      go_wp2_with fail
      refine hS.mono ?_
      rintro r w7 ⟨v1, F1, rfl, rd, _, hb⟩
      rw [nm1.num] at rd
      obtain ⟨rfl, rfl⟩ := roundIs_uniq hB0 rd R1.out
      have hB := hB.trans (hb.mono hB.size)
      have s2 := s2.later hb
      clear hS rd hb R1
      have hS := scaled_go s2 nm2.ws (by have := s2.1.1; have := nm2.len; omega) q0 q1 (mode := 0) (neg := false) (more := false) (by omega) (by omega) (hG.later hB)
      go_wp2_with fail
      refine hS.mono ?_
      rintro r w8 ⟨v2, F2, rfl, rd, _, hb⟩
      rw [nm2.num] at rd
      obtain ⟨rfl, rfl⟩ := roundIs_uniq hB0 rd R2.out
      have hB := hB.trans (hb.mono hB.size)
      clear hS rd hb R2 hB0
      rcases HC.out with ⟨e1, e2', e3, e4⟩ | ⟨hne, e3, e4⟩
      · have t1 : (F1 == F2) = true := beq_of e2'
        have t2 : (v1 == v2) = true := beq_of e1
        have t3 : (E == F1) = true := beq_of e4
        have t4 : (b == v1) = true := beq_of e3
        clear HC e1 e2' e3 e4
        go_wp2
        go_ret
        exact ⟨rfl, hB⟩
      · have t3 : (E == 100) = true := beq_of e4
        have t4 : (b == 0) = true := beq_of e3
        clear HC e3 e4
        by_cases hF : F1 = F2
        · have t1 : (F1 == F2) = true := beq_of hF
          have t2 : (v1 == v2) = false := beq_no fun h => hne ⟨h, hF⟩
          clear hne hF
          go_wp2
          go_ret
          exact ⟨rfl, hB⟩
        · have t1 : (F1 == F2) = false := beq_no hF
          clear hne hF
          go_wp2
          go_ret
          exact ⟨rfl, hB⟩
  · have f1 := fun w => five8_out hin w
    have f2 := fun w => above8_out hin w
    go_enter Tryz.func3, Tryz.ntmps3
    go_wp2_with fail
    refine (f1 _).mono ?_
    rintro r w1 ⟨rfl, hB⟩
    go_wp2_with fail
    refine (f2 _).mono ?_
    rintro r w2 ⟨rfl, hb⟩
    have hB := hB.trans (hb.mono hB.size)
    go_wp2_with fail
    refine (f3 _).mono ?_
    rintro r w3 ⟨b, E, rfl, hf, _, hb⟩
    have hB := hB.trans (hb.mono hB.size)
    have hE : (E != 100) = true := bne_yes (fast_out hf (Or.inr hin))
    clear hf f1 f2 f3 hb
    have ha := alive10_any (hT.later hB)
    go_wp2_with fail
    refine ha.mono ?_
    rintro r w4 ⟨rfl, hb⟩
    have hB := hB.trans (hb.mono hB.size)
    have ha := alive10_any (hT.later hB)
    clear hb
    go_wp2_with fail
    refine ha.mono ?_
    rintro r w5 ⟨rfl, hb⟩
    have hB := hB.trans (hb.mono hB.size)
    clear ha hb
    go_wp2
    go_ret
    exact ⟨rfl, hB⟩
end Go.Proofs.YtbbmoaipilmmdaaGreatDoor
