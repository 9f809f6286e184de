/- plumbref02.Shl -/
import Derived.Test.YtbdljmboilapeabRefNatMulW
namespace Go.Proofs.Ytbdljmboilapeab
open Go.ChangeShapes Go.WideShapes Go.ChangeAt Go.RowKit
open Na
set_option linter.unusedVariables false

namespace Na
def shlE (N n : Int) : Int := if n < 0 then 22 else resE (N * 2 ^ n.toNat)
def shlL (N n : Int) : List Int := if n < 0 then [] else resL (N * 2 ^ n.toNat)
def ShlI (ps : List Int) (s i : Nat) (f : Int) (fs : List Int) : Prop := Bd 281474976710656 fs ∧ fs.length = s + i ∧ val 65536 fs = 65536 ^ s * (f * val 65536 (ps.take i))
theorem shl_begin (ps : List Int) (s : Nat) (f : Int) : ShlI ps s 0 f (List.replicate s 0) :=
  ⟨fun y hy => by have := List.eq_of_mem_replicate hy; subst this; omega, by simp, by rw [val_zeros]; simp [val]⟩
theorem shl_more {ps fs : List Int} {s i : Nat} {f : Int} (h : ShlI ps s i f fs) (hi : i < ps.length) (hp : 0 ≤ ps.getD i 0 ∧ ps.getD i 0 ≤ 65535) (hf : 0 ≤ f ∧ f ≤ 32768) : ShlI ps s (i + 1) f (fs ++ [ps.getD i 0 * f]) := by
  obtain ⟨h1, h2, h3⟩ := h
  have m0 : 0 ≤ ps.getD i 0 * f := Int.mul_nonneg hp.1 hf.1
  have m1 : ps.getD i 0 * f ≤ 65535 * 32768 := Int.mul_le_mul hp.2 hf.2 hf.1 (by omega)
  refine ⟨h1.append (Bd.one (by omega)), by rw [List.length_append, h2]; simp; omega, ?_⟩
  rw [val_append, h2, h3, take_val hi, Int.pow_add]
  have e4 : val 65536 [ps.getD i 0 * f] = ps.getD i 0 * f := by simp [val]
  rw [e4]
  generalize val 65536 (ps.take i) = V
  generalize (65536 : Int) ^ s = P
  generalize (65536 : Int) ^ i = Q
  generalize ps.getD i 0 = x
  grind
theorem shl_whole {ps fs : List Int} {t : Nat} (h : ShlI ps (t / 16) ps.length (2 ^ (t % 16)) fs) : val 65536 fs = val 65536 ps * 2 ^ t := by
  have := h.2.2
  rw [List.take_of_length_le (Nat.le_refl _)] at this
  rw [this]
  have e : (2 : Int) ^ t = 65536 ^ (t / 16) * 2 ^ (t % 16) := by
    have e1 : (65536 : Int) = 2 ^ 16 := rfl
    rw [e1, ← Int.pow_mul, ← Int.pow_add]
    congr 1; omega
  rw [e]
  grind
theorem pow2_small {k : Nat} (h : k ≤ 15) : 0 ≤ (2 : Int) ^ k ∧ (2 : Int) ^ k ≤ 32768 := by
  have c : ((2 ^ k : Nat) : Int) = (2 : Int) ^ k := by simp
  have l : 2 ^ k ≤ 2 ^ 15 := Nat.pow_le_pow_right (by omega) h
  rw [← c]
  exact ⟨Int.natCast_nonneg _, Int.ofNat_le.mpr l⟩
theorem shl_huge {A : Int} {t k : Nat} (hA : 0 < A) (h : 64 * k ≤ t) : k < (words (A * 2 ^ t)).length := by
  refine dig_len_ge ?_
  have e : (18446744073709551616 : Int) ^ k = 2 ^ (64 * k) := by rw [Int.pow_mul]; rfl
  rw [e]
  have c1 : ((2 ^ (64 * k) : Nat) : Int) = (2 : Int) ^ (64 * k) := by simp
  have c2 : ((2 ^ t : Nat) : Int) = (2 : Int) ^ t := by simp
  have l : 2 ^ (64 * k) ≤ 2 ^ t := Nat.pow_le_pow_right (by omega) h
  have l' := Int.ofNat_le.mpr l
  rw [c1, c2] at l'
  have p : 0 ≤ (2 : Int) ^ t := Int.le_of_lt (Int.pow_pos (by omega))
  have m : 1 * (2 : Int) ^ t ≤ A * 2 ^ t := Int.mul_le_mul_of_nonneg_right (by omega) p
  rw [Int.one_mul] at m
  exact Int.le_trans l' m
theorem shl_len {A : Int} {t n1 : Nat} (h0 : 0 ≤ A) (h : A < 65536 ^ n1) : (digs (A * 2 ^ t)).length ≤ n1 + t := by
  refine digs_len_lt (Int.mul_nonneg h0 (Int.le_of_lt (Int.pow_pos (by omega)))) ?_
  rw [Int.pow_add]
  have p2 : 0 < (2 : Int) ^ t := Int.pow_pos (by omega)
  have p3 : 0 < (65536 : Int) ^ n1 := Int.pow_pos (by omega)
  have l : (2 : Int) ^ t ≤ 65536 ^ t := by
    have c1 : ((2 ^ t : Nat) : Int) = (2 : Int) ^ t := by simp
    have c2 : ((65536 ^ t : Nat) : Int) = (65536 : Int) ^ t := by simp
    have q : 2 ^ t ≤ 65536 ^ t := Nat.pow_le_pow_left (by omega) t
    rw [← c1, ← c2]; exact Int.ofNat_le.mpr q
  have a := Int.mul_lt_mul_of_pos_right h p2
  have b := Int.mul_le_mul_of_nonneg_left l (Int.le_of_lt p3)
  omega
end Na

set_option maxHeartbeats 3200000 in
set_option maxRecDepth 100000 in
theorem refShl_any {a : Option Addr} {m c1 : Nat} {xs : List Int} {w : World} (hr1 : RowAt .u64 w a m xs) (hx : Ws xs) (hm : m ≤ 100000) (n : Int) :
    Calls Try.prog 11 #[.slice a m c1, .int .i64 n] w fun e w' => ∃ v, e = .returned (.tuple #[v, .int .i64 (shlE (num xs) n)]) ∧ Own .u64 w' w.heap.size 47 v (shlL (num xs) n) ∧ Below w.heap.size w w' := by
  obtain ⟨i_i64, hi_i64, hz0_i64, hz1_i64, hz2_i64⟩ := info_parts info_int
  by_cases hneg : n < 0
  · have E1 : Hid (shlE (num xs) n = 22) := by show _ = _; unfold shlE; rw [if_pos hneg]
    have E2 : Hid (shlL (num xs) n = []) := by show _ = _; unfold shlL; rw [if_pos hneg]
    go_enter Try.func11, Try.ntmps11
    go_wp2
    go_ret2
    exact ⟨_, by rw [E1.out]; rfl, by rw [E2.out]; exact own_nil _ _ _ _, Below.refl _ _⟩
  · obtain ⟨t, rfl⟩ : ∃ t : Nat, n = (t : Int) := ⟨n.toNat, by omega⟩
    have E1 : Hid (shlE (num xs) (t : Int) = resE (num xs * 2 ^ t)) := by show _ = _; unfold shlE; rw [if_neg hneg]; simp
    have E2 : Hid (shlL (num xs) (t : Int) = resL (num xs * 2 ^ t)) := by show _ = _; unfold shlL; rw [if_neg hneg]; simp
    have e1 := hr1.1
    have l1 := digs_len hx
    have p1 := num_nonneg hx
    have b1 : (digs (num xs)).length ≤ 400000 := by omega
    have v1 : Hid (val 65536 (digs (num xs)) = num xs) := val_digs p1
    have dx := Dg_digs (num xs)
    have z1 := digs_nil p1
    clear l1 e1 hneg
    go_enter Try.func11, Try.ntmps11
    go_wp2_with fail
    refine (digits_get hr1 hx (by omega)).mono ?_
    rintro e w1 ⟨a1, d1, rfl, _, _, rx, hbb⟩
    have hw1 := hbb.size
    clear hr1
    obtain ⟨A, hA⟩ : ∃ A, A = num xs := ⟨_, rfl⟩
    have HA : Hid (num xs = A) := hA.symm
    rw [← hA] at b1 v1 dx z1 rx p1 ⊢
    clear hA
    generalize digs A = ps at *
    obtain ⟨n1, hn1⟩ : ∃ n1, n1 = ps.length := ⟨_, rfl⟩
    rw [← hn1] at b1 rx z1 ⊢
    have HN : Hid (n1 = ps.length) := hn1
    clear hn1
    by_cases hz : n1 = 0
    · have hzero : A * 2 ^ t = 0 := by rw [z1.mp hz]; simp
      have E := res_zero hzero
      have F1 : Hid (shlL (num xs) (t : Int) = []) := by show _ = _; rw [E2.out, HA.out]; exact E.1
      have F2 : Hid (shlE (num xs) (t : Int) = 0) := by show _ = _; rw [E1.out, HA.out]; exact E.2
      have t1 : ((n1 : Int) == 0) = true := by simp [hz]
      clear E hzero z1 rx hz
      go_wp2
      go_ret2
      exact ⟨_, by rw [F2.out]; rfl, by rw [F1.out]; exact own_nil _ _ _ _, hbb⟩
    · have t1 : ((n1 : Int) == 0) = false := by simp; omega
      have pA : 0 < A := by
        have : A ≠ 0 := fun h => hz (z1.mpr h)
        omega
      by_cases hbig : 262144 < t
      · have E := res_huge (shl_huge (k := 4096) (t := t) pA (by omega))
        have F1 : Hid (shlL (num xs) (t : Int) = []) := by show _ = _; rw [E2.out, HA.out]; exact E.1
        have F2 : Hid (shlE (num xs) (t : Int) = 21) := by show _ = _; rw [E1.out, HA.out]; exact E.2
        clear E z1 rx hz pA p1
        go_wp2
        go_ret2
        exact ⟨_, by rw [F2.out]; rfl, by rw [F1.out]; exact own_nil _ _ _ _, hbb⟩
      · have pA0 : 0 ≤ A := Int.le_of_lt pA
        clear z1 pA p1
        have ht : t ≤ 262144 := by omega
        go_wp2_with (at_make; refine wpList_make_full _ rfl _ _ 71 rfl w1.heap.size 3 i_i64 (.int .i64 0) 1 Try.underlying71 hi_i64 hz0_i64 hz1_i64 .i64 .i64 _ _ (t / 16) rfl rfl (by omega) (by omega) (by rw [hz2_i64]; omega) (by unfold maxLen; omega) (Nat.le_refl _) ?_)
        intro w3 hmade hgr
        have hown := own_zeros hmade
        have hb3 : Below w1.heap.size w1 w3 := (Below.refl _ _).grown hgr (Nat.le_refl _) (fun k hk => by cases hk)
        obtain ⟨dv, hdv⟩ : ∃ dv, dv = Value.slice (some ⟨w1.heap.size, 0, none⟩) (t / 16) (t / 16) := ⟨_, rfl⟩
        rw [← hdv] at hown ⊢
        clear hmade hgr hdv hz hbig
        go_wp2
        go_loop [8, 9] (fun f k => ∃ j : Nat, k = .int .i64 j ∧ f = .int .i64 (2 ^ j) ∧ j ≤ t % 16) (fun _ k => t % 16 - (intOf k).toNat)
        case atStart => exact ⟨0, rfl, rfl, by omega⟩
        case round =>
          obtain ⟨j, rfl, rfl, hj⟩ := hrel
          have hpw := pow2_small (show j ≤ 15 by omega)
          have HP : Hid ((2 : Int) ^ (j + 1) = 2 ^ j * 2) := Int.pow_succ _ _
          by_cases hjl : j < t % 16
          · generalize hf : (2 : Int) ^ j = f at *
            obtain ⟨hf0, hf1⟩ := hpw
            have HF : Hid ((2 : Int) ^ j = f) := hf
            clear hf rx hown hb3 hbb
            go_wp2
            go_round
            case rel => exact ⟨j + 1, by go_num, by rw [HP.out], by omega⟩
            case measure => simp [intOf]; omega
          · have hje : j = t % 16 := by omega
            have hst := shl_begin ps (t / 16) (2 ^ j)
            have HJ : Hid (j = t % 16) := hje
            clear hje HP
            generalize hf : (2 : Int) ^ j = f at *
            have HF : Hid ((2 : Int) ^ j = f) := hf
            obtain ⟨hf0, hf1⟩ := hpw
            clear hf
            go_wp2
            go_loopw [7, 10] (fun d i wr => ∃ (k : Nat) (fs : List Int), i = .int .i64 k ∧ k ≤ n1 ∧ Own .i64 wr w1.heap.size 3 d fs ∧ ShlI ps (t / 16) k f fs ∧ Below w1.heap.size w1 wr) (fun _ i _ => n1 - (intOf i).toNat)
            case atStart => exact ⟨0, _, rfl, by omega, hown, hst, hb3⟩
            case round =>
              obtain ⟨k, fs, rfl, hk, hod, hinv, hnx⟩ := hrel
              have hsz := hnx.size
              have hel := hinv.2.1
              clear hown hst hb3
              by_cases hlt : k < n1
              · obtain ⟨x1, o1, rfl, hx1, hc1⟩ := rx.at (by omega)
                have hcx := (hnx.cell (p := ⟨x1, o1 + k, none⟩) hx1).trans (hc1 k hlt)
                have gp := dx.getAny k
                have hmo := shl_more hinv (by rw [← HN.out]; exact hlt) gp ⟨hf0, hf1⟩
                generalize ps.getD k 0 = x at *
                have m0 : 0 ≤ x * f := Int.mul_nonneg gp.1 hf0
                have m1 : x * f ≤ 2147450880 := by
                  have : x * f ≤ 65535 * 32768 := Int.mul_le_mul gp.2 hf1 hf0 (by omega)
                  omega
                clear hc1 rx hinv gp hbb
                go_wp2_with (at_builtin; refine wpList_append_own _ rfl _ _ 71 rfl w1.heap.size 3 i_i64 (.int .i64 0) 1 8 Try.underlying71 hi_i64 hz0_i64 hz1_i64 hz2_i64 rfl (by decide) _ _ _ rfl (hod.row.alloc _) ⟨wr.heap.size, 0, none⟩ 1 1 [.int .i64 (x * f)] rfl rfl one_new one_cell (by unfold maxLen; omega) (by omega) (by simp; omega) ?_)
                intro v' w4 hown' hgrow _
                have hb' := grow_below hsz hod.row hnx hgrow
                have ho' := own_next hown' (by omega)
                clear hown' hgrow hod hnx hcx
                go_wp2
                go_roundw
                case rel => exact ⟨k + 1, _, by go_num, by omega, ho', hmo, hb'⟩
                case measure => simp [intOf]; omega
              · have hkn : k = ps.length := by rw [← HN.out]; omega
                rw [hkn, ← HF.out, HJ.out] at hinv
                have hv := shl_whole hinv
                rw [v1.out] at hv
                have HV : Hid (val 65536 fs = A * 2 ^ t) := hv
                have hbd : Bd 281474976710656 fs := hinv.1
                obtain ⟨a3, d3, rfl, q1, q2, r3⟩ := hod.reads
                have hfl : fs.length ≤ 10000000 := by omega
                have hbe := hbb.trans (hnx.mono hw1)
                clear hv hinv hod hkn rx hnx hbb hel
                go_wp2_with fail
                refine (carried_any r3 hbd hfl).mono ?_
                rintro e w5 ⟨v5, rfl, hown5, hb5⟩
                rw [HV.out] at hown5
                have hbf := hbe.trans (hb5.mono hbe.size)
                obtain ⟨a6, d6, hv6, s1, s2, r6⟩ := hown5.reads
                rw [hv6]
                have hdl : (digs (A * 2 ^ t)).length ≤ 10000000 := by
                  have hA1 := val_lt (B := 65536) (by omega) dx
                  rw [v1.out, ← HN.out] at hA1
                  have := shl_len (t := t) (n1 := n1) pA0 hA1
                  omega
                have hvd : Hid (val 65536 (digs (A * 2 ^ t)) = A * 2 ^ t) := val_digs (Int.mul_nonneg pA0 (Int.le_of_lt (Int.pow_pos (by omega))))
                clear r3 hbe hb5 hown5 hv6
                go_wp2_with fail
                refine (told_any r6 (Dg_digs _) hdl s1 s2).mono ?_
                rintro e w7 ⟨v7, rfl, hown7, hb7⟩
                have hbg := hbf.trans (hb7.mono hbf.size)
                have hsz2 := hbf.size
                rw [hvd.out] at hown7 ⊢
                clear r6 hbf hb7
                go_wp2
                go_ret2
                exact ⟨_, by rw [E1.out, HA.out]; rfl, by rw [E2.out, HA.out]; exact hown7.wider hsz2, hbg⟩
end Go.Proofs.Ytbdljmboilapeab
