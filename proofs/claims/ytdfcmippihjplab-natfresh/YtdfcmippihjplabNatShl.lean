/- package nat: Shl, Shr. -/
import Derived.Test.YtdfcmippihjplabNatShift
namespace Go.Proofs.Ytdfcmippihjplab
open Go.ChangeShapes Go.WideShapes Go.ChangeAt Go.RowKit
open Na Ar
set_option linter.unusedVariables false

namespace Na
theorem shl_bits {A : Int} {b t : Nat} (h1 : 2 ^ b ≤ A) (h2 : A < 2 ^ (b + 1)) : (2 : Int) ^ (b + t) ≤ A * 2 ^ t ∧ A * 2 ^ t < 2 ^ (b + t + 1) := by
  have p := p2pos t
  constructor
  · rw [Int.pow_add]; exact Int.mul_le_mul_of_nonneg_right h1 (by omega)
  · have e : b + t + 1 = b + 1 + t := by omega
    rw [e, Int.pow_add]; exact Int.mul_lt_mul_of_pos_right h2 p
theorem res_fits {N : Int} (h : (words N).length ≤ 4096) : resL N = words N ∧ resE N = 0 := by
  unfold resL resE
  rw [if_pos h, if_pos h]
  exact ⟨rfl, rfl⟩
theorem over_drop {L o : Nat} {ps : List Int} (h : o + ps.length ≤ L) : (over (List.replicate L (0 : Int)) ps o).drop o = ps ++ List.replicate (L - (o + ps.length)) 0 := by
  unfold over
  rw [List.append_assoc, List.drop_append_of_le_length (by simp; omega), List.drop_of_length_le (by simp; omega)]
  simp
theorem over_num {L o : Nat} {ps : List Int} (h : o + ps.length ≤ L) : num (over (List.replicate L (0 : Int)) ps o) = 18446744073709551616 ^ o * num ps ∧ num ((over (List.replicate L (0 : Int)) ps o).drop o) = num ps := by
  have d := over_drop h
  have e : num (ps ++ List.replicate (L - (o + ps.length)) 0) = num ps := by
    unfold num; rw [val_append, val_zeros]; simp
  refine ⟨?_, by rw [d, e]⟩
  have s := val_splitB 18446744073709551616 (over (List.replicate L (0 : Int)) ps o) (i := o) (by rw [over_length (by simp; omega)]; simp; omega)
  have t : (over (List.replicate L (0 : Int)) ps o).take o = List.replicate o 0 := by
    unfold over
    rw [List.append_assoc, List.take_append_of_le_length (by simp; omega), List.take_take]
    simp; omega
  unfold num at *
  rw [s, t, val_zeros, d, e]; simp
theorem over_ws {L o : Nat} {ps : List Int} (hp : Ws ps) : Ws (over (List.replicate L (0 : Int)) ps o) := by
  unfold over
  exact (((Dg_zeros (by omega) _).take _).append hp).append ((Dg_zeros (by omega) _).drop _)
/-- behind the whole shift -/
theorem up_whole {L o r t : Nat} {ps us : List Int} {b A : Int} (hA : num ps = A) (ho : o + ps.length ≤ L) (ht : t = 64 * o + r) (h : UpI (over (List.replicate L (0 : Int)) ps o) o r (L - o) b us)
    (hl : (words (A * 2 ^ t)).length = L) : us = words (A * 2 ^ t) := by
  obtain ⟨h1, h2, h3, h4, h5⟩ := h
  have o1 := over_num ho
  have ol : (over (List.replicate L (0 : Int)) ps o).length = L := by rw [over_length (by simp; omega)]; simp
  rw [List.take_of_length_le (by rw [List.length_drop, ol]; omega), o1.1, o1.2, hA, Nat.add_sub_cancel' (by omega)] at h5
  have e : (2 : Int) ^ t = 18446744073709551616 ^ o * 2 ^ r := by rw [ht, wpow2, ← Int.pow_add]
  have e2 : 18446744073709551616 ^ o * A + 18446744073709551616 ^ o * ((2 ^ r - 1) * A) = A * 2 ^ t := by rw [e]; grind
  rw [e2] at h5
  have n0 := num_nonneg h1
  have c0 := cup_nonneg (r := r) h3.1
  have p := wpow_pos L
  have m0 : 0 ≤ (18446744073709551616 : Int) ^ L * cup r b := Int.mul_nonneg (by omega) c0
  have lt : A * 2 ^ t < 18446744073709551616 ^ L := by
    have w0 : 0 ≤ A * 2 ^ t := by omega
    have := num_bd (Dg_words (A * 2 ^ t))
    rw [num_words w0, hl] at this
    exact this
  have cz : cup r b = 0 := by
    by_cases g : cup r b = 0
    · exact g
    · have : (18446744073709551616 : Int) ^ L * 1 ≤ 18446744073709551616 ^ L * cup r b := Int.mul_le_mul_of_nonneg_left (by omega) (by omega)
      omega
  rw [cz, Int.mul_zero, Int.add_zero] at h5
  rw [← h5]
  exact words_same h1 (by rw [h5, hl, h2, ol]; exact Nat.le_refl _)
end Na

theorem wordsOf_any (n : Nat) (hn : n ≤ 1000000) (w : World) : Calls Try.prog 44 #[.int .i64 (n : Int)] w fun e w' => e = .returned (.int .i64 (((n + 63) / 64 : Nat) : Int)) ∧ w = w' := by
  have HE : Hid (((n : Int) + 64 - 1) / 64 = (((n + 63) / 64 : Nat) : Int)) := by show _ = _; omega
  go_enter Try.func44, Try.ntmps44
  go_wp2
  go_ret
  exact ⟨ret_i HE.out, rfl⟩

set_option maxHeartbeats 3200000 in
theorem natShl_any {a : Option Addr} {m c1 : Nat} {xs : List Int} {w : World} (hr1 : RowC w a m c1 xs) (hx : Ws xs) (hm : m ≤ 10000) (n : Int) (hn9 : n ≤ 9223372036854775807) :
    Calls Try.prog 7 #[.slice a m c1, .int .i64 n] w fun e w' => ∃ v, e = .returned (.tuple #[v, .int .i64 (shlE (num xs) n)]) ∧ Own .u64 w' w.heap.size 47 v (shlL (num xs) n) ∧ Below w.heap.size w w' := by
  obtain ⟨i_u64, hi_u64, hz0_u64, hz1_u64, hz2_u64⟩ := info_parts info_u64
  have hsz : (Try.prog.info? 47).map (·.size) = some 1 := by rw [hi_u64]; simp [hz1_u64]
  by_cases hneg : n < 0
  · have E1 : Hid (shlE (num xs) n = 22) := by show _ = _; unfold shlE; rw [if_pos hneg]
    have E2 : Hid (shlL (num xs) n = []) := by show _ = _; unfold shlL; rw [if_pos hneg]
    go_enter Try.func7, Try.ntmps7
    go_wp2
    go_ret2
    exact ⟨_, by rw [E1.out]; rfl, by rw [E2.out]; exact own_nil _ _ _ _, Below.refl _ _⟩
  · obtain ⟨t, rfl⟩ : ∃ t : Nat, n = (t : Int) := ⟨n.toNat, by omega⟩
    have E1 : Hid (shlE (num xs) (t : Int) = resE (num xs * 2 ^ t)) := by show _ = _; unfold shlE; rw [if_neg hneg]; simp
    have E2 : Hid (shlL (num xs) (t : Int) = resL (num xs * 2 ^ t)) := by show _ = _; unfold shlL; rw [if_neg hneg]; simp
    have p1 := num_nonneg hx
    have hbit := bits0_any hr1 hx hm
    have l1 := hr1.1.1
    have hble := bits_le (N := num xs) (k := xs.length) p1 (num_bd hx)
    have hbn := bits_nonneg (num xs)
    clear hneg
    by_cases hz : num xs = 0
    · have E := res_zero (N := num xs * 2 ^ t) (by rw [hz]; simp)
      have F1 : Hid (shlL (num xs) (t : Int) = []) := by show _ = _; rw [E2.out]; exact E.1
      have F2 : Hid (shlE (num xs) (t : Int) = 0) := by show _ = _; rw [E1.out]; exact E.2
      have hb0 : bitsN (num xs) = 0 := by rw [hz]; rfl
      rw [hb0] at hbit
      clear E hz hb0 hble hbn p1 hr1
      go_enter Try.func7, Try.ntmps7
      go_wp2_with fail
      refine hbit.mono ?_
      rintro e w' ⟨rfl, rfl⟩
      go_wp2
      go_ret2
      exact ⟨_, by rw [F2.out]; rfl, by rw [F1.out]; exact own_nil _ _ _ _, Below.refl _ _⟩
    · obtain ⟨b, hb, a1, a2⟩ := bits_some (N := num xs) (by omega)
      rw [hb] at hbit hble
      obtain ⟨q, hq⟩ : ∃ q : Nat, q = b + 1 := ⟨_, rfl⟩
      have hqb : (b : Int) + 1 = (q : Int) := by omega
      rw [hqb] at hbit hble
      have t1 : ((q : Int) == 0) = false := by simp; omega
      have hsb := shl_bits (t := t) a1 a2
      have hwl := words_bits hsb.1 hsb.2
      have hwx := words_bits a1 a2
      by_cases hbig : 262144 - (q : Int) < (t : Int)
      · have E := res_huge (N := num xs * 2 ^ t) (by omega)
        have F1 : Hid (shlL (num xs) (t : Int) = []) := by show _ = _; rw [E2.out]; exact E.1
        have F2 : Hid (shlE (num xs) (t : Int) = 21) := by show _ = _; rw [E1.out]; exact E.2
        have hq9 : q ≤ 640000 := by omega
        clear E hz hbn p1 hr1 hwl hsb a1 a2 hb hwx hqb hq hble l1
        go_enter Try.func7, Try.ntmps7
        go_wp2_with fail
        refine hbit.mono ?_
        rintro e w' ⟨rfl, rfl⟩
        go_wp2
        go_ret2
        exact ⟨_, by rw [F2.out]; rfl, by rw [F1.out]; exact own_nil _ _ _ _, Below.refl _ _⟩
      · have ht : t ≤ 262144 := by omega
        have E := res_fits (N := num xs * 2 ^ t) (by omega)
        have F1 : Hid (shlL (num xs) (t : Int) = words (num xs * 2 ^ t)) := by show _ = _; rw [E2.out]; exact E.1
        have F2 : Hid (shlE (num xs) (t : Int) = 0) := by show _ = _; rw [E1.out]; exact E.2
        have hv := num_words p1
        have hd := Dg_words (num xs)
        have hrw := hr1.own_words hx
        have htr := fun (w1 : World) (h : Below w.heap.size w w1) => trim_any (hr1.later h) hx hm
        have hwo := fun w => wordsOf_any (q + t) (by omega) w
        have eL : (q + t + 63) / 64 = (b + t) / 64 + 1 := by omega
        rw [eL] at hwo
        have cast1 : ((q + t : Nat) : Int) = (q : Int) + (t : Int) := by omega
        rw [cast1] at hwo
        generalize hps : words (num xs) = ps at *
        have HV : Hid (num ps = num xs) := hv
        have HPL : Hid (ps.length = b / 64 + 1) := hwx
        obtain ⟨L, hL⟩ : ∃ L, L = (b + t) / 64 + 1 := ⟨_, rfl⟩
        rw [← hL] at hwo hwl
        have HWL : Hid ((words (num xs * 2 ^ t)).length = L) := hwl
        have hL1 : L ≤ 4096 := by omega
        have hL2 : t / 64 < L := by omega
        have hL3 : t / 64 + ps.length ≤ L := by omega
        have hpl : ps.length ≤ L - t / 64 := by omega
        have hq9 : q ≤ 262144 := by omega
        clear E hz hbn p1 hr1 hwl hsb a1 a2 hb hwx hv hps eL cast1 hL hqb hq hble l1
        go_enter Try.func7, Try.ntmps7
        go_wp2_with fail
        refine hbit.mono ?_
        rintro e w' ⟨rfl, rfl⟩
        clear hbit
        go_wp2_with fail
        refine (hwo _).mono ?_
        rintro e w' ⟨rfl, rfl⟩
        clear hwo
        go_wp2_with (at_make; refine wpList_make_full _ rfl _ _ 22 rfl w.heap.size 47 i_u64 (.int .u64 0) 1 Try.underlying22 hi_u64 hz0_u64 hz1_u64 .i64 .i64 _ _ L rfl rfl (by omega) (by omega) (by rw [hz2_u64]; omega) (by unfold maxLen; omega) (Nat.le_refl _) ?_)
        intro w3 hmade hgr
        have hown := own_zeros hmade
        have hb3 : Below w.heap.size w w3 := (Below.refl _ _).grown hgr (Nat.le_refl _) (fun k hk => by cases hk)
        obtain ⟨g, hg⟩ : ∃ g, g = w.heap.size := ⟨_, rfl⟩
        have hown2 : Own .u64 w3 w.heap.size 47 (.slice (some ⟨g, 0, none⟩) L L) (List.replicate L 0) := by rw [hg]; exact hown
        rw [← hg]
        obtain ⟨w4, hrun, hown4, hb4⟩ := copy_run (P := Try.prog) (w := w3.drew) 22 22 3 47 Try.underlying22 hsz g (t / 64) (L - t / 64) (L - t / 64) L L w.heap.size 47 _ ps hown2 (by simp) a ps.length c1 (hrw.later (below_drewN hb3 1)) (by omega) (by omega)
        have htr3 := htr w3.drew (below_drewN hb3 1)
        have hb5 := (below_drewN hb3 1).trans hb4
        have hol : (over (List.replicate L (0 : Int)) ps (t / 64)).length = L := by rw [over_length (by simp; omega)]; simp
        have hsu := shiftUp_any (w0 := w) (o := t / 64) (m := L - t / 64) (dcap := L - t / 64) (r := t % 64) hown4 hol.symm (over_ws hd) hb5 (by omega) (by omega) (by omega)
        have cast2 : ((t % 64 : Nat) : Int) = (t : Int) % 64 := by omega
        rw [cast2] at hsu
        have hup := fun b us h => up_whole (L := L) (o := t / 64) (r := t % 64) (t := t) (us := us) (b := b) HV.out hL3 (by omega) h HWL.out
        clear hol cast2 hown4 hb5 hd
        have hk1 : ¬ (L = t / 64) := by omega
        have hk2 : ¬ (t / 64 = L) := by omega
        have hk3 : t / 64 ≤ L := by omega
        have hk4 : (t : Int) / 64 ≤ (L : Int) := by omega
        have hq : ((t : Int) / 64).toNat = t / 64 := by omega
        clear hmade hgr hown hg hown2 hrw htr hb3 hb4
        go_wp2
        go_region_with (go_at_call 45; refine htr3.mono ?_; rintro e w' ⟨rfl, _, _, _, rfl⟩)
        all_goals clear hrun htr3
        all_goals go_wp2_with fail
        all_goals refine hsu.mono ?_
        all_goals rintro e w5 ⟨rfl, b', us, hou, hui, hb6⟩
        all_goals have hus := hup b' us hui
        all_goals rw [hus] at hou
        all_goals clear hsu hup hui hus
        all_goals go_wp2
        all_goals go_ret2
        all_goals exact ⟨_, by rw [F2.out]; rfl, by rw [F1.out]; exact hou, hb6⟩
end Go.Proofs.Ytdfcmippihjplab
