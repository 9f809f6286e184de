/- plumblaw10.exact, the walk of LemireTrue (written by genlemt.py). -/
import Derived.Test.YtbbmoaipilmmdaaGreatDoorLemWb
import Derived.Test.YtbbmoaipilmmdaaGreatDoorNearD
namespace Go.Proofs.YtbbmoaipilmmdaaGreatDoor
open Go.ChangeShapes Go.WideShapes Go.ChangeAt Go.RowKit
open Na Ar Lx
set_option linter.unusedVariables false
theorem thousand : Nat.blt ((10 : Nat) ^ 1000) ((18446744073709551616 : Nat) ^ 60) = true := by kernel_rfl
theorem thou_lt {n : Nat} (hn : n ≤ 1000) : Lt ((10 : Int) ^ n) 60 := pow_lt (b := 10) (by omega) thousand hn
theorem one_lits (w : World) (x y : Int) : RowC ((w.alloc (.cells #[.int .u64 x] 22)).alloc (.cells #[.int .u64 y] 22)) (some ⟨w.heap.size, 0, none⟩) 1 1 [x] ∧
    RowC ((w.alloc (.cells #[.int .u64 x] 22)).alloc (.cells #[.int .u64 y] 22)) (some ⟨w.heap.size + 1, 0, none⟩) 1 1 [y] ∧
    Below w.heap.size w ((w.alloc (.cells #[.int .u64 x] 22)).alloc (.cells #[.int .u64 y] 22)) := by
  have r1 := rowC_one w x 22
  have b1 := alloc_below (w := w) (.cells #[.int .u64 x] 22)
  have s1 : (w.alloc (.cells #[.int .u64 x] 22)).heap.size = w.heap.size + 1 := by simp
  generalize w.alloc (.cells #[.int .u64 x] 22) = w1 at *
  have r2 := rowC_one w1 y 22
  have b2 := alloc_below (w := w1) (.cells #[.int .u64 y] 22)
  rw [s1] at r2
  exact ⟨r1.later b2, r2, b1.trans (b2.mono b1.size)⟩
set_option maxHeartbeats 3200000 in
set_option maxRecDepth 100000 in
theorem exact10_any {m e : Int} (hm : U m) (e0 : -1000 ≤ e) (e1 : e ≤ 1000) {w : World} (hG : GrVar w) :
    Calls Tryz.prog 13 #[.int .u64 m, .int .i64 e] w fun r w' => ∃ b E, r = .returned (.tuple #[.int .u64 b, .int .i64 E]) ∧ ExIs m e b E ∧ U b ∧ Below w.heap.size w w' := by
  obtain ⟨u1, u2, u3⟩ := one_lits w m 1
  have n0 : Nm [m] m := Nm.one hm
  have n1 : Nm [1] 1 := Nm.one (by omega)
  have lm : Lt m 1 := Lt.word hm
  by_cases h : 0 ≤ e
  · have hd : decide (e ≥ 0) = true := by simp; omega
    have hd' : decide (0 ≤ e) = true := by simp; omega
    have hT := fun w => ten_any e (by omega) (by omega) w
    have p1 : pwE 78913 e = 0 := by unfold pwE; rw [if_neg (by omega), if_neg (by omega)]
    have p2 : pwL 10 78913 e = words (10 ^ e.toNat) := by unfold pwL; rw [if_neg (by omega), if_neg (by omega)]
    rw [p1, p2] at hT
    have lt := thou_lt (n := e.toNat) (by omega)
    have lp := lm.mul lt
    have HX : Hid (∀ b E, RoundIs (scA (m * 10 ^ e.toNat) 0) (scB 1 0) false false 0 b E → ExIs m e b E) := fun b E q => by
      unfold ExIs exN exD
      rw [if_pos h, if_pos h]; exact q
    clear p1 p2
    generalize (10 : Int) ^ e.toNat = T at *
    go_enter Tryz.func13, Tryz.ntmps13
    go_wp2_with fail
    refine (hT _).mono ?_
    rintro r w1 ⟨v, rfl, ho, hb⟩
    have hB := u3.trans (hb.mono u3.size)
    obtain ⟨a1, k1, c1, xs, rfl, s1, nm1, _⟩ := ho.opens lt (by omega)
    have u1 := u1.later hb
    have u2 := u2.later hb
    clear hT ho hb u3
    have hM := mulQ u1 s1 n0 nm1 lp (by omega)
    go_wp2_with fail
    refine hM.mono ?_
    rintro r w2 ⟨a2, k2, c2, ys, rfl, s2, nm2, hyw, hb⟩
    have hlen : ys.length ≤ 61 := by rw [hyw.out]; exact lp.len
    have hB := hB.trans (hb.mono hB.size)
    have u2 := u2.later hb
    clear hM hb s1 u1 hyw
    have hQ := quotient_any s2 u2 nm2.ws n1.ws (by have := s2.1.1; omega) (by omega) (mode := 0) (neg := false) (by omega) (by omega) (by rw [n1.num]; omega) (hG.later hB)
    go_wp2_with fail
    refine hQ.mono ?_
    rintro r w3 ⟨b, E, rfl, rd, ub, hb⟩
    rw [nm2.num, n1.num] at rd
    have HQ : Hid (ExIs m e b E) := HX.out b E rd
    have hB := hB.trans (hb.mono hB.size)
    clear hQ rd hb HX
    go_wp2
    go_ret2
    exact ⟨_, _, rfl, HQ.out, ub, hB⟩
  · have hd : decide (e ≥ 0) = false := by simp; omega
    have hd' : decide (0 ≤ e) = false := by simp; omega
    have hT := fun w => ten_any (-e) (by omega) (by omega) w
    have p1 : pwE 78913 (-e) = 0 := by unfold pwE; rw [if_neg (by omega), if_neg (by omega)]
    have p2 : pwL 10 78913 (-e) = words (10 ^ (-e).toNat) := by unfold pwL; rw [if_neg (by omega), if_neg (by omega)]
    rw [p1, p2] at hT
    have lt := thou_lt (n := (-e).toNat) (by omega)
    have HX : Hid (∀ b E, RoundIs (scA m 0) (scB (10 ^ (-e).toNat) 0) false false 0 b E → ExIs m e b E) := fun b E q => by
      unfold ExIs exN exD
      rw [if_neg h, if_neg h]; exact q
    have hpos : (0 : Int) < 10 ^ (-e).toNat := Int.pow_pos (by omega)
    clear p1 p2
    generalize (10 : Int) ^ (-e).toNat = T at *
    go_enter Tryz.func13, Tryz.ntmps13
    go_wp2_with fail
    refine (hT _).mono ?_
    rintro r w1 ⟨v, rfl, ho, hb⟩
    have hB := u3.trans (hb.mono u3.size)
    obtain ⟨a1, k1, c1, xs, rfl, s1, nm1, hxw⟩ := ho.opens lt (by omega)
    have hlen : xs.length ≤ 60 := by rw [hxw.out]; exact lt.len
    have u1 := u1.later hb
    clear hT ho hb u3 u2 hxw
    have hQ := quotient_any u1 s1 n0.ws nm1.ws (by omega) (by have := s1.1.1; omega) (mode := 0) (neg := false) (by omega) (by omega) (by rw [nm1.num]; omega) (hG.later hB)
    go_wp2_with fail
    refine hQ.mono ?_
    rintro r w3 ⟨b, E, rfl, rd, ub, hb⟩
    rw [n0.num, nm1.num] at rd
    have HQ : Hid (ExIs m e b E) := HX.out b E rd
    have hB := hB.trans (hb.mono hB.size)
    clear hQ rd hb HX
    go_wp2
    go_ret2
    exact ⟨_, _, rfl, HQ.out, ub, hB⟩
namespace Ar
/-- what Fast answers, by its error -/
theorem fast_cases {m e b E : Int} (hm : U m) (h : FastIs m e b E) : E = 0 ∨ (E = 70 ∧ b = 0) ∨ (E = 100 ∧ b = 0 ∧ m ≠ 0 ∧ -348 ≤ e ∧ e ≤ 347 ∧ (e < 0 ∨ 55 < e)) := by
  by_cases hE : E = 100
  · right; right
    subst hE
    rcases h with ⟨_, _, h⟩ | ⟨_, _, _, h⟩ | ⟨hz, hin, b1, E1, b2, E2, r1, r2, h⟩
    · omega
    · omega
    · have hh := hin
      unfold inT at hh
      rcases h with ⟨q1, q2, q3, q4⟩ | ⟨q1, q2, _⟩
      · exfalso
        rcases round_over (scB_pos' (by omega)) r1 with ⟨s, _⟩ | ⟨s, _⟩ <;> omega
      · refine ⟨rfl, q2, hz, hh.1, hh.2, ?_⟩
        apply Decidable.byContradiction
        intro hc
        have hw : pW e = true := by rw [pW_is e hin]; exact decide_eq_true (by omega)
        rw [abV_in hw] at r2
        exact q1 (roundIs_uniq (scB_pos' (by omega)) r1 r2)
  · have hx := sure_ex hm h hE
    rcases round_over (scB_pos' (exD_pos e)) hx with ⟨s, s2, _⟩ | ⟨s, _⟩
    · exact Or.inr (Or.inl ⟨s, s2⟩)
    · exact Or.inl s
theorem fast_far {m e b E : Int} (h : FastIs m e b E) : (e < -1000 → b = 0 ∧ E = 0) ∧ (1000 < e → b = 0 ∧ ((m = 0 ∧ E = 0) ∨ (m ≠ 0 ∧ E = 70))) := by
  rcases h with ⟨h, rfl, rfl⟩ | ⟨hz, h, rfl, rfl⟩ | ⟨hz, hin, _⟩
  · exact ⟨fun _ => ⟨rfl, rfl⟩, fun q => ⟨rfl, Or.inl ⟨by rcases h with h | h <;> omega, rfl⟩⟩⟩
  · exact ⟨fun q => by omega, fun _ => ⟨rfl, Or.inr ⟨hz, rfl⟩⟩⟩
  · unfold inT at hin; omega
end Ar
set_option maxHeartbeats 12800000 in
set_option maxRecDepth 100000 in
theorem true_walk {m e : Int} (hm : U m) (i0 : -9223372036854775808 ≤ e) (i1 : e ≤ 9223372036854775807) {w : World} (hT : TenVar w) (hG : GrVar w) :
    Calls Tryz.prog 4 #[.int .u64 m, .int .i64 e] w fun r w' => r = .returned (.bool true) ∧ Below w.heap.size w w' := by
  have hF := fun w => lemFast_any (e := e) hm i0 i1 w
  have hm0 : 0 ≤ m := hm.1
  by_cases h1 : e < -1000
  · by_cases h2 : m ≤ 9007199254740992
    · have ok : smallOk m e = false := by unfold smallOk; simp; omega
      have hS := lemSmall_any hm i0 i1 hT
      rw [ok] at hS
      have d1 : decide (m ≤ 9007199254740992) = true := by simp; omega
      have d2 : decide (e ≥ -22) = false := by simp; omega
      have d2' : decide (-22 ≤ e) = false := by simp; omega
      have g1 : decide (e < -1000) = true := by simp; omega

      have ha := fun w1 (h : Below w.heap.size w w1) => alive10_any (hT.later h)
      go_enter Tryz.func4, Tryz.ntmps4
      go_wp2_with fail
      refine hS.mono ?_
      rintro r w1 ⟨b, rfl, hs1, hs2, ub, hB⟩
      go_wp2_with fail
      refine (hF _).mono ?_
      rintro r w2 ⟨c, E, rfl, hf, uc, hb⟩
      have hB := hB.trans (hb.mono hB.size)
      obtain rfl := hs2 trivial
      obtain ⟨rfl, rfl⟩ := (fast_far hf).1 (by omega)
      clear hs1 hs2 hf hF hS ok hb
      have g3 : decide (e < 0) = true := by simp; omega

      have ha := ha _ hB
      go_wp2_with fail
      refine ha.mono ?_
      rintro r w3 ⟨rfl, hb⟩
      have hB := hB.trans (hb.mono hB.size)
      clear ha hb
      by_cases hz : m = 0
      · subst hz
        go_wp2
        go_ret
        exact ⟨rfl, hB⟩
      · have z : (m == 0) = false := beq_no hz
        have z2 : decide (m > 0) = true := by simp; omega
        have z2' : decide (0 < m) = true := by simp; omega
        clear hz
        go_wp2
        go_ret
        exact ⟨rfl, hB⟩
    · have ok : smallOk m e = false := by unfold smallOk; simp; omega
      have hS := lemSmall_any hm i0 i1 hT
      rw [ok] at hS
      have d1 : decide (m ≤ 9007199254740992) = false := by simp; omega
      have g1 : decide (e < -1000) = true := by simp; omega

      have ha := fun w1 (h : Below w.heap.size w w1) => alive10_any (hT.later h)
      go_enter Tryz.func4, Tryz.ntmps4
      go_wp2_with fail
      refine hS.mono ?_
      rintro r w1 ⟨b, rfl, hs1, hs2, ub, hB⟩
      go_wp2_with fail
      refine (hF _).mono ?_
      rintro r w2 ⟨c, E, rfl, hf, uc, hb⟩
      have hB := hB.trans (hb.mono hB.size)
      obtain rfl := hs2 trivial
      obtain ⟨rfl, rfl⟩ := (fast_far hf).1 (by omega)
      clear hs1 hs2 hf hF hS ok hb
      have g3 : decide (e < 0) = true := by simp; omega

      have ha := ha _ hB
      go_wp2_with fail
      refine ha.mono ?_
      rintro r w3 ⟨rfl, hb⟩
      have hB := hB.trans (hb.mono hB.size)
      clear ha hb
      by_cases hz : m = 0
      · exfalso; omega
      · have z : (m == 0) = false := beq_no hz
        have z2 : decide (m > 0) = true := by simp; omega
        have z2' : decide (0 < m) = true := by simp; omega
        clear hz
        go_wp2
        go_ret
        exact ⟨rfl, hB⟩
  · by_cases h3 : 1000 < e
    · by_cases h2 : m ≤ 9007199254740992
      · have ok : smallOk m e = false := by unfold smallOk; simp; omega
        have hS := lemSmall_any hm i0 i1 hT
        rw [ok] at hS
        have d1 : decide (m ≤ 9007199254740992) = true := by simp; omega
        have d2 : decide (e ≥ -22) = true := by simp; omega
        have d2' : decide (-22 ≤ e) = true := by simp; omega
        have d3 : decide (e ≤ 22) = false := by simp; omega
        have g1 : decide (e < -1000) = false := by simp; omega
        have g2 : decide (1000 < e) = true := by simp; omega
        have g2' : decide (e > 1000) = true := by simp; omega

        have ha := fun w1 (h : Below w.heap.size w w1) => alive10_any (hT.later h)
        go_enter Tryz.func4, Tryz.ntmps4
        go_wp2_with fail
        refine hS.mono ?_
        rintro r w1 ⟨b, rfl, hs1, hs2, ub, hB⟩
        go_wp2_with fail
        refine (hF _).mono ?_
        rintro r w2 ⟨c, E, rfl, hf, uc, hb⟩
        have hB := hB.trans (hb.mono hB.size)
        obtain rfl := hs2 trivial
        obtain ⟨rfl, hq⟩ := (fast_far hf).2 (by omega)
        clear hs1 hs2 hf hF hS ok hb
        have g3 : decide (e < 0) = false := by simp; omega
        have g4 : decide (e > 0) = true := by simp; omega
        have g4' : decide (0 < e) = true := by simp; omega

        have ha := ha _ hB
        go_wp2_with fail
        refine ha.mono ?_
        rintro r w3 ⟨rfl, hb⟩
        have hB := hB.trans (hb.mono hB.size)
        clear ha hb
        rcases hq with ⟨hz, rfl⟩ | ⟨hz, rfl⟩
        · subst hz
          go_wp2
          go_ret
          exact ⟨rfl, hB⟩
        · have z : (m == 0) = false := beq_no hz
          have z2 : decide (m > 0) = true := by simp; omega
          have z2' : decide (0 < m) = true := by simp; omega
          clear hz
          go_wp2
          go_ret
          exact ⟨rfl, hB⟩
      · have ok : smallOk m e = false := by unfold smallOk; simp; omega
        have hS := lemSmall_any hm i0 i1 hT
        rw [ok] at hS
        have d1 : decide (m ≤ 9007199254740992) = false := by simp; omega
        have g1 : decide (e < -1000) = false := by simp; omega
        have g2 : decide (1000 < e) = true := by simp; omega
        have g2' : decide (e > 1000) = true := by simp; omega

        have ha := fun w1 (h : Below w.heap.size w w1) => alive10_any (hT.later h)
        go_enter Tryz.func4, Tryz.ntmps4
        go_wp2_with fail
        refine hS.mono ?_
        rintro r w1 ⟨b, rfl, hs1, hs2, ub, hB⟩
        go_wp2_with fail
        refine (hF _).mono ?_
        rintro r w2 ⟨c, E, rfl, hf, uc, hb⟩
        have hB := hB.trans (hb.mono hB.size)
        obtain rfl := hs2 trivial
        obtain ⟨rfl, hq⟩ := (fast_far hf).2 (by omega)
        clear hs1 hs2 hf hF hS ok hb
        have g3 : decide (e < 0) = false := by simp; omega
        have g4 : decide (e > 0) = true := by simp; omega
        have g4' : decide (0 < e) = true := by simp; omega

        have ha := ha _ hB
        go_wp2_with fail
        refine ha.mono ?_
        rintro r w3 ⟨rfl, hb⟩
        have hB := hB.trans (hb.mono hB.size)
        clear ha hb
        rcases hq with ⟨hz, rfl⟩ | ⟨hz, rfl⟩
        · exfalso; omega
        · have z : (m == 0) = false := beq_no hz
          have z2 : decide (m > 0) = true := by simp; omega
          have z2' : decide (0 < m) = true := by simp; omega
          clear hz
          go_wp2
          go_ret
          exact ⟨rfl, hB⟩
    · have r0 : -1000 ≤ e := by omega
      have r1 : e ≤ 1000 := by omega
      by_cases h2 : m ≤ 9007199254740992
      · by_cases h4 : -22 ≤ e
        · by_cases h5 : e ≤ 22
          · have ok : smallOk m e = true := by unfold smallOk; simp; omega
            have hS := lemSmall_any hm i0 i1 hT
            rw [ok] at hS
            have d1 : decide (m ≤ 9007199254740992) = true := by simp; omega
            have d2 : decide (e ≥ -22) = true := by simp; omega
            have d2' : decide (-22 ≤ e) = true := by simp; omega
            have d3 : decide (e ≤ 22) = true := by simp; omega
            have g1 : decide (e < -1000) = false := by simp; omega
            have g2 : decide (1000 < e) = false := by simp; omega
            have g2' : decide (e > 1000) = false := by simp; omega

            have ha := fun w1 (h : Below w.heap.size w w1) => alive10_any (hT.later h)
            go_enter Tryz.func4, Tryz.ntmps4
            go_wp2_with fail
            refine hS.mono ?_
            rintro r w1 ⟨b, rfl, hs1, hs2, ub, hB⟩
            go_wp2_with fail
            refine (hF _).mono ?_
            rintro r w2 ⟨c, E, rfl, hf, uc, hb⟩
            have hB := hB.trans (hb.mono hB.size)
            have HS : Hid (ExIs m e b 0) := small_ex (hs1 trivial)
            clear hs1 hs2 hS hF hb ok
            have HF : Hid (FastIs m e c E) := hf
            have hcs := fast_cases hm hf
            clear hf
            rcases hcs with rfl | ⟨rfl, rfl⟩ | ⟨rfl, rfl, hz, q1, q2, q3⟩
            · have ha := ha _ hB
              go_wp2_with fail
              refine ha.mono ?_
              rintro r w3 ⟨rfl, hb⟩
              have hB := hB.trans (hb.mono hB.size)
              clear ha hb

              have hX := exact10_any hm r0 r1 (hG.later hB)
              go_wp2_with fail
              refine hX.mono ?_
              rintro r w4 ⟨d, f, rfl, hx, _, hb⟩
              have hB := hB.trans (hb.mono hB.size)
              clear hX hb
              obtain ⟨e1, e2'⟩ := ex_uniq HS.out hx
              have t1 : (f != 0) = false := bne_of e2'.symm
              have t2 : (b != d) = false := bne_of e1
              obtain ⟨e3, e4⟩ := ex_uniq (sure_ex hm HF.out (by omega)) hx
              have t3 : ((0 : Int) == f) = true := beq_of e4
              have t4 : (c == d) = true := beq_of e3
              clear hx HF e3 e4 HS e1 e2'
              go_wp2
              go_ret
              exact ⟨rfl, hB⟩
            · have ha := ha _ hB
              go_wp2_with fail
              refine ha.mono ?_
              rintro r w3 ⟨rfl, hb⟩
              have hB := hB.trans (hb.mono hB.size)
              clear ha hb

              have hX := exact10_any hm r0 r1 (hG.later hB)
              go_wp2_with fail
              refine hX.mono ?_
              rintro r w4 ⟨d, f, rfl, hx, _, hb⟩
              have hB := hB.trans (hb.mono hB.size)
              clear hX hb
              obtain ⟨e1, e2'⟩ := ex_uniq HS.out hx
              have t1 : (f != 0) = false := bne_of e2'.symm
              have t2 : (b != d) = false := bne_of e1
              obtain ⟨e3, e4⟩ := ex_uniq (sure_ex hm HF.out (by omega)) hx
              have t3 : ((70 : Int) == f) = true := beq_of e4
              have t4 : ((0 : Int) == d) = true := beq_of e3
              clear hx HF e3 e4 HS e1 e2'
              go_wp2
              go_ret
              exact ⟨rfl, hB⟩
            · have ha := ha _ hB
              go_wp2_with fail
              refine ha.mono ?_
              rintro r w3 ⟨rfl, hb⟩
              have hB := hB.trans (hb.mono hB.size)
              clear ha hb

              have hX := exact10_any hm r0 r1 (hG.later hB)
              go_wp2_with fail
              refine hX.mono ?_
              rintro r w4 ⟨d, f, rfl, hx, _, hb⟩
              have hB := hB.trans (hb.mono hB.size)
              clear hX hb
              obtain ⟨e1, e2'⟩ := ex_uniq HS.out hx
              have t1 : (f != 0) = false := bne_of e2'.symm
              have t2 : (b != d) = false := bne_of e1
              have z2 : decide (m > 0) = true := by simp; omega
              have z2' : decide (0 < m) = true := by simp; omega
              have z3 : decide (e ≥ -348) = true := by simp; omega
              have z3' : decide (-348 ≤ e) = true := by simp; omega
              have z4 : decide (e ≤ 347) = true := by simp; omega
              clear hx HF HS e1 e2'
              by_cases hn : e < 0
              · have z5 : decide (e < 0) = true := by simp; omega
                go_wp2
                go_ret
                exact ⟨rfl, hB⟩
              · have z5 : decide (e < 0) = false := by simp; omega
                have z6 : decide (e > 55) = true := by simp; omega
                have z6' : decide (55 < e) = true := by simp; omega
                go_wp2
                go_ret
                exact ⟨rfl, hB⟩
          · have ok : smallOk m e = false := by unfold smallOk; simp; omega
            have hS := lemSmall_any hm i0 i1 hT
            rw [ok] at hS
            have d1 : decide (m ≤ 9007199254740992) = true := by simp; omega
            have d2 : decide (e ≥ -22) = true := by simp; omega
            have d2' : decide (-22 ≤ e) = true := by simp; omega
            have d3 : decide (e ≤ 22) = false := by simp; omega
            have g1 : decide (e < -1000) = false := by simp; omega
            have g2 : decide (1000 < e) = false := by simp; omega
            have g2' : decide (e > 1000) = false := by simp; omega

            have ha := fun w1 (h : Below w.heap.size w w1) => alive10_any (hT.later h)
            go_enter Tryz.func4, Tryz.ntmps4
            go_wp2_with fail
            refine hS.mono ?_
            rintro r w1 ⟨b, rfl, hs1, hs2, ub, hB⟩
            go_wp2_with fail
            refine (hF _).mono ?_
            rintro r w2 ⟨c, E, rfl, hf, uc, hb⟩
            have hB := hB.trans (hb.mono hB.size)
            obtain rfl := hs2 trivial
            clear hs1 hs2 hS hF hb ok
            have HF : Hid (FastIs m e c E) := hf
            have hcs := fast_cases hm hf
            clear hf
            rcases hcs with rfl | ⟨rfl, rfl⟩ | ⟨rfl, rfl, hz, q1, q2, q3⟩
            · have ha := ha _ hB
              go_wp2_with fail
              refine ha.mono ?_
              rintro r w3 ⟨rfl, hb⟩
              have hB := hB.trans (hb.mono hB.size)
              clear ha hb

              have hX := exact10_any hm r0 r1 (hG.later hB)
              go_wp2_with fail
              refine hX.mono ?_
              rintro r w4 ⟨d, f, rfl, hx, _, hb⟩
              have hB := hB.trans (hb.mono hB.size)
              clear hX hb
              obtain ⟨e3, e4⟩ := ex_uniq (sure_ex hm HF.out (by omega)) hx
              have t3 : ((0 : Int) == f) = true := beq_of e4
              have t4 : (c == d) = true := beq_of e3
              clear hx HF e3 e4
              go_wp2
              go_ret
              exact ⟨rfl, hB⟩
            · have ha := ha _ hB
              go_wp2_with fail
              refine ha.mono ?_
              rintro r w3 ⟨rfl, hb⟩
              have hB := hB.trans (hb.mono hB.size)
              clear ha hb

              have hX := exact10_any hm r0 r1 (hG.later hB)
              go_wp2_with fail
              refine hX.mono ?_
              rintro r w4 ⟨d, f, rfl, hx, _, hb⟩
              have hB := hB.trans (hb.mono hB.size)
              clear hX hb
              obtain ⟨e3, e4⟩ := ex_uniq (sure_ex hm HF.out (by omega)) hx
              have t3 : ((70 : Int) == f) = true := beq_of e4
              have t4 : ((0 : Int) == d) = true := beq_of e3
              clear hx HF e3 e4
              go_wp2
              go_ret
              exact ⟨rfl, hB⟩
            · have ha := ha _ hB
              go_wp2_with fail
              refine ha.mono ?_
              rintro r w3 ⟨rfl, hb⟩
              have hB := hB.trans (hb.mono hB.size)
              clear ha hb

              have hX := exact10_any hm r0 r1 (hG.later hB)
              go_wp2_with fail
              refine hX.mono ?_
              rintro r w4 ⟨d, f, rfl, hx, _, hb⟩
              have hB := hB.trans (hb.mono hB.size)
              clear hX hb
              have z2 : decide (m > 0) = true := by simp; omega
              have z2' : decide (0 < m) = true := by simp; omega
              have z3 : decide (e ≥ -348) = true := by simp; omega
              have z3' : decide (-348 ≤ e) = true := by simp; omega
              have z4 : decide (e ≤ 347) = true := by simp; omega
              clear hx HF
              by_cases hn : e < 0
              · have z5 : decide (e < 0) = true := by simp; omega
                go_wp2
                go_ret
                exact ⟨rfl, hB⟩
              · have z5 : decide (e < 0) = false := by simp; omega
                have z6 : decide (e > 55) = true := by simp; omega
                have z6' : decide (55 < e) = true := by simp; omega
                go_wp2
                go_ret
                exact ⟨rfl, hB⟩
        · have ok : smallOk m e = false := by unfold smallOk; simp; omega
          have hS := lemSmall_any hm i0 i1 hT
          rw [ok] at hS
          have d1 : decide (m ≤ 9007199254740992) = true := by simp; omega
          have d2 : decide (e ≥ -22) = false := by simp; omega
          have d2' : decide (-22 ≤ e) = false := by simp; omega
          have g1 : decide (e < -1000) = false := by simp; omega
          have g2 : decide (1000 < e) = false := by simp; omega
          have g2' : decide (e > 1000) = false := by simp; omega

          have ha := fun w1 (h : Below w.heap.size w w1) => alive10_any (hT.later h)
          go_enter Tryz.func4, Tryz.ntmps4
          go_wp2_with fail
          refine hS.mono ?_
          rintro r w1 ⟨b, rfl, hs1, hs2, ub, hB⟩
          go_wp2_with fail
          refine (hF _).mono ?_
          rintro r w2 ⟨c, E, rfl, hf, uc, hb⟩
          have hB := hB.trans (hb.mono hB.size)
          obtain rfl := hs2 trivial
          clear hs1 hs2 hS hF hb ok
          have HF : Hid (FastIs m e c E) := hf
          have hcs := fast_cases hm hf
          clear hf
          rcases hcs with rfl | ⟨rfl, rfl⟩ | ⟨rfl, rfl, hz, q1, q2, q3⟩
          · have ha := ha _ hB
            go_wp2_with fail
            refine ha.mono ?_
            rintro r w3 ⟨rfl, hb⟩
            have hB := hB.trans (hb.mono hB.size)
            clear ha hb

            have hX := exact10_any hm r0 r1 (hG.later hB)
            go_wp2_with fail
            refine hX.mono ?_
            rintro r w4 ⟨d, f, rfl, hx, _, hb⟩
            have hB := hB.trans (hb.mono hB.size)
            clear hX hb
            obtain ⟨e3, e4⟩ := ex_uniq (sure_ex hm HF.out (by omega)) hx
            have t3 : ((0 : Int) == f) = true := beq_of e4
            have t4 : (c == d) = true := beq_of e3
            clear hx HF e3 e4
            go_wp2
            go_ret
            exact ⟨rfl, hB⟩
          · have ha := ha _ hB
            go_wp2_with fail
            refine ha.mono ?_
            rintro r w3 ⟨rfl, hb⟩
            have hB := hB.trans (hb.mono hB.size)
            clear ha hb

            have hX := exact10_any hm r0 r1 (hG.later hB)
            go_wp2_with fail
            refine hX.mono ?_
            rintro r w4 ⟨d, f, rfl, hx, _, hb⟩
            have hB := hB.trans (hb.mono hB.size)
            clear hX hb
            obtain ⟨e3, e4⟩ := ex_uniq (sure_ex hm HF.out (by omega)) hx
            have t3 : ((70 : Int) == f) = true := beq_of e4
            have t4 : ((0 : Int) == d) = true := beq_of e3
            clear hx HF e3 e4
            go_wp2
            go_ret
            exact ⟨rfl, hB⟩
          · have ha := ha _ hB
            go_wp2_with fail
            refine ha.mono ?_
            rintro r w3 ⟨rfl, hb⟩
            have hB := hB.trans (hb.mono hB.size)
            clear ha hb

            have hX := exact10_any hm r0 r1 (hG.later hB)
            go_wp2_with fail
            refine hX.mono ?_
            rintro r w4 ⟨d, f, rfl, hx, _, hb⟩
            have hB := hB.trans (hb.mono hB.size)
            clear hX hb
            have z2 : decide (m > 0) = true := by simp; omega
            have z2' : decide (0 < m) = true := by simp; omega
            have z3 : decide (e ≥ -348) = true := by simp; omega
            have z3' : decide (-348 ≤ e) = true := by simp; omega
            have z4 : decide (e ≤ 347) = true := by simp; omega
            clear hx HF
            by_cases hn : e < 0
            · have z5 : decide (e < 0) = true := by simp; omega
              go_wp2
              go_ret
              exact ⟨rfl, hB⟩
            · have z5 : decide (e < 0) = false := by simp; omega
              have z6 : decide (e > 55) = true := by simp; omega
              have z6' : decide (55 < e) = true := by simp; omega
              go_wp2
              go_ret
              exact ⟨rfl, hB⟩
      · have ok : smallOk m e = false := by unfold smallOk; simp; omega
        have hS := lemSmall_any hm i0 i1 hT
        rw [ok] at hS
        have d1 : decide (m ≤ 9007199254740992) = false := by simp; omega
        have g1 : decide (e < -1000) = false := by simp; omega
        have g2 : decide (1000 < e) = false := by simp; omega
        have g2' : decide (e > 1000) = false := by simp; omega

        have ha := fun w1 (h : Below w.heap.size w w1) => alive10_any (hT.later h)
        go_enter Tryz.func4, Tryz.ntmps4
        go_wp2_with fail
        refine hS.mono ?_
        rintro r w1 ⟨b, rfl, hs1, hs2, ub, hB⟩
        go_wp2_with fail
        refine (hF _).mono ?_
        rintro r w2 ⟨c, E, rfl, hf, uc, hb⟩
        have hB := hB.trans (hb.mono hB.size)
        obtain rfl := hs2 trivial
        clear hs1 hs2 hS hF hb ok
        have HF : Hid (FastIs m e c E) := hf
        have hcs := fast_cases hm hf
        clear hf
        rcases hcs with rfl | ⟨rfl, rfl⟩ | ⟨rfl, rfl, hz, q1, q2, q3⟩
        · have ha := ha _ hB
          go_wp2_with fail
          refine ha.mono ?_
          rintro r w3 ⟨rfl, hb⟩
          have hB := hB.trans (hb.mono hB.size)
          clear ha hb

          have hX := exact10_any hm r0 r1 (hG.later hB)
          go_wp2_with fail
          refine hX.mono ?_
          rintro r w4 ⟨d, f, rfl, hx, _, hb⟩
          have hB := hB.trans (hb.mono hB.size)
          clear hX hb
          obtain ⟨e3, e4⟩ := ex_uniq (sure_ex hm HF.out (by omega)) hx
          have t3 : ((0 : Int) == f) = true := beq_of e4
          have t4 : (c == d) = true := beq_of e3
          clear hx HF e3 e4
          go_wp2
          go_ret
          exact ⟨rfl, hB⟩
        · have ha := ha _ hB
          go_wp2_with fail
          refine ha.mono ?_
          rintro r w3 ⟨rfl, hb⟩
          have hB := hB.trans (hb.mono hB.size)
          clear ha hb

          have hX := exact10_any hm r0 r1 (hG.later hB)
          go_wp2_with fail
          refine hX.mono ?_
          rintro r w4 ⟨d, f, rfl, hx, _, hb⟩
          have hB := hB.trans (hb.mono hB.size)
          clear hX hb
          obtain ⟨e3, e4⟩ := ex_uniq (sure_ex hm HF.out (by omega)) hx
          have t3 : ((70 : Int) == f) = true := beq_of e4
          have t4 : ((0 : Int) == d) = true := beq_of e3
          clear hx HF e3 e4
          go_wp2
          go_ret
          exact ⟨rfl, hB⟩
        · have ha := ha _ hB
          go_wp2_with fail
          refine ha.mono ?_
          rintro r w3 ⟨rfl, hb⟩
          have hB := hB.trans (hb.mono hB.size)
          clear ha hb

          have hX := exact10_any hm r0 r1 (hG.later hB)
          go_wp2_with fail
          refine hX.mono ?_
          rintro r w4 ⟨d, f, rfl, hx, _, hb⟩
          have hB := hB.trans (hb.mono hB.size)
          clear hX hb
          have z2 : decide (m > 0) = true := by simp; omega
          have z2' : decide (0 < m) = true := by simp; omega
          have z3 : decide (e ≥ -348) = true := by simp; omega
          have z3' : decide (-348 ≤ e) = true := by simp; omega
          have z4 : decide (e ≤ 347) = true := by simp; omega
          clear hx HF
          by_cases hn : e < 0
          · have z5 : decide (e < 0) = true := by simp; omega
            go_wp2
            go_ret
            exact ⟨rfl, hB⟩
          · have z5 : decide (e < 0) = false := by simp; omega
            have z6 : decide (e > 55) = true := by simp; omega
            have z6' : decide (55 < e) = true := by simp; omega
            go_wp2
            go_ret
            exact ⟨rfl, hB⟩
end Go.Proofs.YtbbmoaipilmmdaaGreatDoor
