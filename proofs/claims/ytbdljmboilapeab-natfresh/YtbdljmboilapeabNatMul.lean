/- package nat: Mul. -/
import Derived.Test.YtbdljmboilapeabNatTimes
import Derived.Deep.RegionWith
namespace Go.Proofs.Ytbdljmboilapeab
open Go.ChangeShapes Go.WideShapes Go.ChangeAt Go.RowKit
open Na Ar
set_option linter.unusedVariables false

namespace Na
theorem bits_le {N : Int} {k : Nat} (h0 : 0 ≤ N) (h : N < 18446744073709551616 ^ k) : bitsN N ≤ 64 * k := by
  by_cases e : N = 0
  · subst e; rw [bits_none]; omega
  · obtain ⟨b, hb, h1, h2⟩ := bits_some (N := N) (by omega)
    rw [wpow2] at h
    have : b < 64 * k := by
      by_cases g : b < 64 * k
      · exact g
      · have := p2mono (show 64 * k ≤ b by omega)
        omega
    omega
theorem mul_huge64 {A B : Int} (hA : 0 < A) (hB : 0 < B) (h : 262144 < bitsN A + bitsN B - 1) : 4096 < (words (A * B)).length := by
  obtain ⟨a, ha, a1, _⟩ := bits_some hA
  obtain ⟨b, hb, b1, _⟩ := bits_some hB
  refine dig_len_ge ?_
  rw [wpow2]
  have m : (2 : Int) ^ a * 2 ^ b ≤ A * B := Int.mul_le_mul a1 b1 (Int.le_of_lt (p2pos b)) (by omega)
  rw [← Int.pow_add] at m
  have := p2mono (show 64 * 4096 ≤ a + b by omega)
  exact Int.le_trans this m
theorem word_none {us : List Int} {k : Nat} (h : Ws us) (hb : num us < 18446744073709551616 ^ k) : us.getD k 0 = 0 := by
  by_cases hk : k < us.length
  · have e : num us = _ := val_atB (B := 18446744073709551616) hk
    have v0 := val_nonneg (B := 18446744073709551616) (by omega) (h.take k)
    have v1 := val_nonneg (B := 18446744073709551616) (by omega) (h.drop (k + 1))
    have g := h.getAnyB k
    have p := wpow_pos k
    by_cases z : us.getD k 0 = 0
    · exact z
    · have m : (18446744073709551616 : Int) ^ k * 1 ≤ 18446744073709551616 ^ k * (us.getD k 0 + 18446744073709551616 * val 18446744073709551616 (us.drop (k + 1))) := Int.mul_le_mul_of_nonneg_left (by omega) (by omega)
      omega
  · exact getD_out (by omega)
def MulJ (ps qs : List Int) (i : Nat) (us : List Int) : Prop := Ws us ∧ us.length = ps.length + qs.length ∧ num us = num (ps.take i) * num qs
theorem mulJ_start (ps qs : List Int) : MulJ ps qs 0 (List.replicate (ps.length + qs.length) 0) :=
  ⟨Dg_zeros (by omega) _, by simp, by unfold num; rw [val_zeros]; simp [val]⟩
theorem getD_drop {xs ys : List Int} {k : Nat} (h : xs.drop k = ys.drop k) : xs.getD k 0 = ys.getD k 0 := by
  have := congrArg (fun l => l.getD 0 0) h
  simpa [List.getD_eq_getElem?_getD, List.getElem?_drop] using this
theorem mulJ_step {ps qs us vs : List Int} {i : Nat} {d : Int} (hp : Ws ps) (hq : Ws qs) (h : MulJ ps qs i us) (hi : i < ps.length) (ht : TimI us qs i (ps.getD i 0) qs.length d vs) (hl : i + qs.length < vs.length) :
    MulJ ps qs (i + 1) (vs.set (i + qs.length) d) := by
  obtain ⟨h1, h2, h3⟩ := h
  have e := timI_done ht
  obtain ⟨t1, t2, t3, t4, _⟩ := ht
  have l1 := num_bd (hp.take i)
  rw [List.length_take, Nat.min_eq_left (by omega)] at l1
  have l2 := num_bd hq
  have n1 := num_nonneg (hp.take i)
  have n2 := num_nonneg hq
  have hb : num us < 18446744073709551616 ^ (i + qs.length) := by
    rw [h3, Int.pow_add]
    have p := wpow_pos i
    have p2 := wpow_pos qs.length
    have a := Int.mul_le_mul_of_nonneg_right (Int.le_of_lt l1) n2
    have b := Int.mul_lt_mul_of_pos_left l2 p
    omega
  have z := word_none h1 hb
  have z2 : vs.getD (i + qs.length) 0 = 0 := by rw [getD_drop t4]; exact z
  refine ⟨t1.set _ t3, by rw [List.length_set, t2, h2], ?_⟩
  have s : num (vs.set (i + qs.length) d) = num vs + 18446744073709551616 ^ (i + qs.length) * (d - vs.getD (i + qs.length) 0) := val_set d hl
  have t : num (ps.take (i + 1)) = num (ps.take i) + 18446744073709551616 ^ i * ps.getD i 0 := take_valB hi
  rw [s, z2, Int.sub_zero, e, h3, t]
  generalize (18446744073709551616 : Int) ^ i = P
  generalize num (ps.take i) = V
  generalize ps.getD i 0 = x
  generalize num qs = Z
  grind
theorem mulJ_done {ps qs us : List Int} (h : MulJ ps qs ps.length us) : num us = num ps * num qs := by
  have := h.2.2
  rw [List.take_of_length_le (Nat.le_refl _)] at this
  exact this
end Na

set_option maxHeartbeats 3200000 in
set_option maxRecDepth 100000 in
theorem natMul_any {a b : Option Addr} {n m c1 c2 : Nat} {xs ys : List Int} {w : World} (hr1 : RowC w a n c1 xs) (hr2 : RowC w b m c2 ys) (hx : Ws xs) (hy : Ws ys) (hn : n ≤ 4000000) (hm : m ≤ 4000000) :
    Calls Try.prog 45 #[.slice a n c1, .slice b m c2] w fun e w' => ∃ v, e = .returned (.tuple #[v, .int .i64 (resE (num xs * num ys))]) ∧ Own .u64 w' w.heap.size 47 v (resL (num xs * num ys)) ∧ Below w.heap.size w w' := by
  obtain ⟨i_u64, hi_u64, hz0_u64, hz1_u64, hz2_u64⟩ := info_parts info_u64
  have p1 := num_nonneg hx
  have p2 := num_nonneg hy
  have v1 := num_words p1
  have v2 := num_words p2
  have d1 := Dg_words (num xs)
  have d2 := Dg_words (num ys)
  have z1 := words_nil p1
  have z2 := words_nil p2
  have hh := fun h1 h2 h3 => mul_huge64 (A := num xs) (B := num ys) h1 h2 h3
  go_enter Try.func45, Try.ntmps45
  go_wp2_with fail
  refine (trim_any hr1 hx hn).mono ?_
  rintro e w' ⟨rfl, r1, _, l1, rfl⟩
  go_wp2_with fail
  refine (trim_any hr2 hy hm).mono ?_
  rintro e w' ⟨rfl, r2, _, l2, rfl⟩
  clear hr1 hr2
  obtain ⟨A, hA⟩ : ∃ A, A = num xs := ⟨_, rfl⟩
  obtain ⟨B, hB⟩ : ∃ B, B = num ys := ⟨_, rfl⟩
  have HA : Hid (num xs = A) := hA.symm
  have HB : Hid (num ys = B) := hB.symm
  rw [← hA] at v1 d1 z1 hh r1 p1 l1 ⊢
  rw [← hB] at v2 d2 z2 hh r2 p2 l2 ⊢
  clear hA hB
  generalize words A = ps at *
  generalize words B = qs at *
  have b1 := bits_le (N := A) (k := ps.length) p1 (by rw [← v1]; exact num_bd d1)
  have b2 := bits_le (N := B) (k := qs.length) p2 (by rw [← v2]; exact num_bd d2)
  have hbx := bits0_any r1 d1 (by omega)
  have hby := bits0_any r2 d2 (by omega)
  rw [v1] at hbx
  rw [v2] at hby
  have V1 : Hid (num ps = A) := v1
  have V2 : Hid (num qs = B) := v2
  obtain ⟨n1, hn1⟩ : ∃ n1, n1 = ps.length := ⟨_, rfl⟩
  obtain ⟨m1, hm1⟩ : ∃ m1, m1 = qs.length := ⟨_, rfl⟩
  rw [← hn1] at r1 z1 b1 hbx l1 ⊢
  rw [← hm1] at r2 z2 b2 hby l2 ⊢
  have HN : Hid (n1 = ps.length) := hn1
  have HM : Hid (m1 = qs.length) := hm1
  have nb1 := bits_nonneg A
  have nb2 := bits_nonneg B
  clear hn1 hm1 v1 v2
  by_cases hz : n1 = 0 ∨ m1 = 0
  · have hzero : A * B = 0 := by
      rcases hz with h | h
      · rw [z1.mp h]; simp
      · rw [z2.mp h]; simp
    have E := res_zero hzero
    have E1 : Hid (resL (num xs * num ys) = []) := by show _ = _; rw [HA.out, HB.out]; exact E.1
    have E2 : Hid (resE (num xs * num ys) = 0) := by show _ = _; rw [HA.out, HB.out]; exact E.2
    clear E hzero z1 z2 hh r1 r2 hbx hby
    by_cases h0 : n1 = 0
    · have t1 : ((n1 : Int) == 0) = true := by simp [h0]
      clear h0 hz
      go_wp2
      go_ret2
      exact ⟨_, by rw [E2.out]; rfl, by rw [E1.out]; exact own_nil _ _ _ _, Below.refl _ _⟩
    · have t1 : ((n1 : Int) == 0) = false := by simp; omega
      have t2 : ((m1 : Int) == 0) = true := by simp; omega
      clear h0 hz
      go_wp2
      go_ret2
      exact ⟨_, by rw [E2.out]; rfl, by rw [E1.out]; exact own_nil _ _ _ _, Below.refl _ _⟩
  · have t1 : ((n1 : Int) == 0) = false := by simp; omega
    have t2 : ((m1 : Int) == 0) = false := by simp; omega
    have pA : 0 < A := by
      have : A ≠ 0 := fun h => hz (Or.inl (z1.mpr h))
      omega
    have pB : 0 < B := by
      have : B ≠ 0 := fun h => hz (Or.inr (z2.mpr h))
      omega
    have hh' := hh pA pB
    generalize bitsN A = bA at *
    generalize bitsN B = bB at *
    clear z1 z2 pA pB p1 p2 hh
    by_cases hbig : 262144 < bA + bB - 1
    · have E := res_huge (hh' hbig)
      have E1 : Hid (resL (num xs * num ys) = []) := by show _ = _; rw [HA.out, HB.out]; exact E.1
      have E2 : Hid (resE (num xs * num ys) = 21) := by show _ = _; rw [HA.out, HB.out]; exact E.2
      clear E hh' r1 r2 hz
      go_wp2_with fail
      refine hbx.mono ?_
      rintro e w' ⟨rfl, rfl⟩
      go_wp2_with fail
      refine hby.mono ?_
      rintro e w' ⟨rfl, rfl⟩
      clear hbx hby
      go_wp2
      go_ret2
      exact ⟨_, by rw [E2.out]; rfl, by rw [E1.out]; exact own_nil _ _ _ _, Below.refl _ _⟩
    · clear hh'
      have hnn : 0 < n1 := by omega
      have hmm : 0 < m1 := by omega
      clear hz
      go_wp2_with fail
      refine hbx.mono ?_
      rintro e w' ⟨rfl, rfl⟩
      go_wp2_with fail
      refine hby.mono ?_
      rintro e w' ⟨rfl, rfl⟩
      clear hbx hby
      go_wp2_with (at_make; refine wpList_make_full _ rfl _ _ 22 rfl w.heap.size 47 i_u64 (.int .u64 0) 1 Try.underlying22 hi_u64 hz0_u64 hz1_u64 .i64 .i64 _ _ (n1 + m1) rfl rfl (by omega) (by omega) (by rw [hz2_u64]; omega) (by unfold maxLen; omega) (Nat.le_refl _) ?_)
      intro w3 hmade hgr
      have hown := own_zeros hmade
      have hb3 : Below w.heap.size w w3 := (Below.refl _ _).grown hgr (Nat.le_refl _) (fun k hk => by cases hk)
      have hst := mulJ_start ps qs
      rw [← HN.out, ← HM.out] at hst
      obtain ⟨g, hg⟩ : ∃ g, g = w.heap.size := ⟨_, rfl⟩
      have hown2 : Own .u64 w3 w.heap.size 47 (.slice (some ⟨g, 0, none⟩) (n1 + m1) (n1 + m1)) (List.replicate (n1 + m1) 0) := by rw [hg]; exact hown
      rw [← hg]
      clear hmade hgr hown hg hbig
      go_wp2
      go_loopw [7, 35] (fun _ i wr => ∃ (k : Nat) (us : List Int), i = .int .i64 k ∧ k ≤ n1 ∧ Own .u64 wr w.heap.size 47 (.slice (some ⟨g, 0, none⟩) (n1 + m1) (n1 + m1)) us ∧ MulJ ps qs k us ∧ Below w.heap.size w wr) (fun _ i _ => n1 - (intOf i).toNat)
      case atStart => exact ⟨0, _, rfl, by omega, hown2, hst, hb3⟩
      case round =>
        obtain ⟨i, us, rfl, hi, hou, hinv, hnx⟩ := hrel
        clear hown2 hst hb3
        have hlu : n1 + m1 = us.length := by rw [hinv.2.1, ← HN.out, ← HM.out]
        by_cases hlt : i < n1
        · obtain ⟨x1, o1, rfl, hx1, hc1⟩ := r1.1.at (by omega)
          have hcx := (hnx.cell (p := ⟨x1, o1 + i, none⟩) hx1).trans (hc1 i hlt)
          have gx : U (ps.getD i 0) := d1.getAnyB i
          have hstep := fun d vs ht hl => mulJ_step (d := d) (vs := vs) d1 d2 hinv (by rw [← HN.out]; exact hlt) ht hl
          rw [← HM.out] at hstep
          have hwu := hinv.1
          have hadd := fun (q : Nat) => addTimes_any (o := i) (dcap := n1 + m1 - i) (cap2 := c2) (x := ps.getD i 0) (w := wr.drewN q) hou hlu hwu r2.1 (below_drewN hnx q) d2 gx (by omega) (by omega)
          have HLU : Hid (n1 + m1 = us.length) := hlu
          generalize ps.getD i 0 = x at *
          clear hc1 hinv r1 r2 hou hnx hwu gx hlu
          obtain ⟨s, hs⟩ : ∃ s, s = i + m1 := ⟨_, rfl⟩
          have hw : IntKind.i64.wrap ((i : Int) + (m1 : Int)) = (s : Int) := by
            have := IntKind.wrap_i64 ((i : Int) + (m1 : Int))
            rw [this]; omega
          have k1 : (s : Int) ≤ (n1 : Int) + (m1 : Int) := by omega
          have k2 : i ≤ s := by omega
          have k3 : ¬ (n1 + m1 = i) := by omega
          have k4 : s - i = m1 := by omega
          have k5 : s < n1 + m1 := by omega
          have k6 : (s : Int) < (n1 : Int) + (m1 : Int) := by omega
          have k7 : (i : Int) < (n1 : Int) := by omega
          have HS : Hid (s = i + m1) := hs
          rw [← hs] at hstep
          clear hs
          go_wp2
          go_region_with (go_at_call 77; refine (hadd _).mono ?_; rintro e w' ⟨d, vs, rfl, hov, hti, hbx⟩; have hce := hov.cellAt (Eq.trans HLU.out hti.2.1.symm) (j := s) k5; have hfz := hov.frozenAt (Eq.trans HLU.out hti.2.1.symm) s)
          have hvl : n1 + m1 = vs.length := HLU.out.trans hti.2.1.symm
          have hO := hov.set hvl s d
          have hJ := hstep d vs hti (by rw [← hvl]; exact k5)
          have hgb := hov.base_le
          clear hstep hadd hov hti hvl
          go_wp2
          go_roundw
          case rel => exact ⟨i + 1, _, by go_num, by omega, hO, hJ, hbx.setCell hgb _⟩
          case measure => simp [intOf]; omega
        · have hin : i = ps.length := by rw [← HN.out]; omega
          rw [hin] at hinv
          have hv := mulJ_done hinv
          rw [V1.out, V2.out] at hv
          have HV : Hid (num us = num xs * num ys) := by show _ = _; rw [HA.out, HB.out]; exact hv
          have hwu := hinv.1
          have HLU : Hid (n1 + m1 = us.length) := hlu
          clear hv hinv hin r1 r2 hlu
          go_wp2_with fail
          refine (answer_any hou HLU.out hwu (by omega)).mono ?_
          rintro e w6 ⟨v, rfl, ho6, rfl⟩
          rw [HV.out]
          rw [HV.out] at ho6
          clear hou
          go_wp2
          go_ret2
          exact ⟨_, rfl, ho6, hnx⟩
end Go.Proofs.Ytbdljmboilapeab
