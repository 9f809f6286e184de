/- package nat: Shl, Shr. -/
import Derived.Test.YtbdljmboilapeabNatShift
namespace Go.Proofs.Ytbdljmboilapeab
open Go.ChangeShapes Go.WideShapes Go.ChangeAt Go.RowKit
open Na Ar
set_option linter.unusedVariables false

namespace Na
theorem shl_bits {A : Int} {b t : Nat} (h1 : 2 ^ b ≤ A) (h2 : A < 2 ^ (b + 1)) : (2 : Int) ^ (b + t) ≤ A * 2 ^ t ∧ A * 2 ^ t < 2 ^ (b + t + 1) := by
  have p := p2pos t
  constructor
  · rw [Int.pow_add]; exact Int.mul_le_mul_of_nonneg_right h1 (by omega)
  · have e : b + t + 1 = b + 1 + t := by omega
    rw [e, Int.pow_add]; exact Int.mul_lt_mul_of_pos_right h2 p
theorem res_fits {N : Int} (h : (words N).length ≤ 4096) : resL N = words N ∧ resE N = 0 := by
  unfold resL resE
  rw [if_pos h, if_pos h]
  exact ⟨rfl, rfl⟩
theorem over_drop {L o : Nat} {ps : List Int} (h : o + ps.length ≤ L) : (over (List.replicate L (0 : Int)) ps o).drop o = ps ++ List.replicate (L - (o + ps.length)) 0 := by
  unfold over
  rw [List.append_assoc, List.drop_append_of_le_length (by simp; omega), List.drop_of_length_le (by simp; omega)]
  simp
theorem over_num {L o : Nat} {ps : List Int} (h : o + ps.length ≤ L) : num (over (List.replicate L (0 : Int)) ps o) = 18446744073709551616 ^ o * num ps ∧ num ((over (List.replicate L (0 : Int)) ps o).drop o) = num ps := by
  have d := over_drop h
  have e : num (ps ++ List.replicate (L - (o + ps.length)) 0) = num ps := by
    unfold num; rw [val_append, val_zeros]; simp
  refine ⟨?_, by rw [d, e]⟩
  have s := val_splitB 18446744073709551616 (over (List.replicate L (0 : Int)) ps o) (i := o) (by rw [over_length (by simp; omega)]; simp; omega)
  have t : (over (List.replicate L (0 : Int)) ps o).take o = List.replicate o 0 := by
    unfold over
    rw [List.append_assoc, List.take_append_of_le_length (by simp; omega), List.take_take]
    simp; omega
  unfold num at *
  rw [s, t, val_zeros, d, e]; simp
theorem over_ws {L o : Nat} {ps : List Int} (hp : Ws ps) : Ws (over (List.replicate L (0 : Int)) ps o) := by
  unfold over
  exact (((Dg_zeros (by omega) _).take _).append hp).append ((Dg_zeros (by omega) _).drop _)
/-- behind the whole shift -/
theorem up_num {L o r t : Nat} {ps us : List Int} {b A : Int} (hA : num ps = A) (ho : o + ps.length ≤ L) (ht : t = 64 * o + r) (h : UpI (over (List.replicate L (0 : Int)) ps o) o r (L - o) b us)
    (lt : A * 2 ^ t < 18446744073709551616 ^ L) : num us = A * 2 ^ t ∧ Ws us ∧ us.length = L := by
  obtain ⟨h1, h2, h3, h4, h5⟩ := h
  have o1 := over_num ho
  have ol : (over (List.replicate L (0 : Int)) ps o).length = L := by rw [over_length (by simp; omega)]; simp
  rw [List.take_of_length_le (by rw [List.length_drop, ol]; omega), o1.1, o1.2, hA, Nat.add_sub_cancel' (by omega)] at h5
  have e : (2 : Int) ^ t = 18446744073709551616 ^ o * 2 ^ r := by rw [ht, wpow2, ← Int.pow_add]
  have e2 : 18446744073709551616 ^ o * A + 18446744073709551616 ^ o * ((2 ^ r - 1) * A) = A * 2 ^ t := by rw [e]; grind
  rw [e2] at h5
  have n0 := num_nonneg h1
  have c0 := cup_nonneg (r := r) h3.1
  have p := wpow_pos L
  have m0 : 0 ≤ (18446744073709551616 : Int) ^ L * cup r b := Int.mul_nonneg (by omega) c0
  have cz : cup r b = 0 := by
    by_cases g : cup r b = 0
    · exact g
    · have : (18446744073709551616 : Int) ^ L * 1 ≤ 18446744073709551616 ^ L * cup r b := Int.mul_le_mul_of_nonneg_left (by omega) (by omega)
      omega
  rw [cz, Int.mul_zero, Int.add_zero] at h5
  exact ⟨h5, h1, by rw [h2, ol]⟩
theorem up_room {A : Int} {l t : Nat} (h0 : 0 ≤ A) (h : A < 18446744073709551616 ^ l) : A * 2 ^ t < 18446744073709551616 ^ (t / 64 + l + 1) := by
  have p := p2pos t
  have q : (2 : Int) ^ t ≤ 18446744073709551616 ^ (t / 64 + 1) := by rw [wpow2]; exact p2mono (by omega)
  have a : A * 2 ^ t < 18446744073709551616 ^ l * 2 ^ t := Int.mul_lt_mul_of_pos_right h p
  have b : (18446744073709551616 : Int) ^ l * 2 ^ t ≤ 18446744073709551616 ^ l * 18446744073709551616 ^ (t / 64 + 1) := Int.mul_le_mul_of_nonneg_left q (Int.le_of_lt (wpow_pos l))
  rw [← Int.pow_add] at b
  have e : l + (t / 64 + 1) = t / 64 + l + 1 := by omega
  rw [e] at b
  omega
end Na

theorem RowC.drop {w : World} {b off n cap : Nat} {xs : List Int} (h : RowC w (some ⟨b, off, none⟩) n cap xs) {o : Nat} (ho : o < n) : RowC w (some ⟨b, off + o, none⟩) (n - o) (cap - o) (xs.drop o) := by
  obtain ⟨⟨h1, h2⟩, h3, h4⟩ := h
  refine ⟨⟨by rw [List.length_drop]; omega, Or.inr ⟨b, off + o, rfl, ?_, fun i hi => ?_⟩⟩, by omega, by omega⟩
  · rcases h2 with h2 | ⟨b', off', ha, hlt, hc⟩
    · omega
    · simp only [Option.some.injEq, Addr.mk.injEq] at ha
      omega
  · rcases h2 with h2 | ⟨b', off', ha, hlt, hc⟩
    · omega
    · simp only [Option.some.injEq, Addr.mk.injEq] at ha
      obtain ⟨rfl, rfl, _⟩ := ha
      have := hc (o + i) (by omega)
      have e : (xs.drop o).getD i 0 = xs.getD (o + i) 0 := by simp [List.getD_eq_getElem?_getD, List.getElem?_drop]
      rw [e, ← this, Nat.add_assoc]
namespace Na
theorem num_drop {xs : List Int} (h : Ws xs) {o : Nat} (ho : o ≤ xs.length) : num (xs.drop o) = num xs / 18446744073709551616 ^ o := by
  have s := val_splitB 18446744073709551616 xs ho
  have v0 := val_nonneg (B := 18446744073709551616) (by omega) (h.take o)
  have v1 := val_lt (B := 18446744073709551616) (by omega) (h.take o)
  rw [List.length_take, Nat.min_eq_left ho] at v1
  have p := wpow_pos o
  unfold num
  rw [s, Int.add_mul_ediv_left _ _ (by omega), Int.ediv_eq_zero_of_lt v0 v1, Int.zero_add]
theorem div_shift (A : Int) (t : Nat) : A / 18446744073709551616 ^ (t / 64) / 2 ^ (t % 64) = A / 2 ^ t := by
  rw [wpow2, Int.ediv_ediv_of_nonneg (Int.le_of_lt (p2pos _)), ← Int.pow_add]
  congr 2; omega
theorem shr_bits {A : Int} {b t : Nat} (h1 : 2 ^ b ≤ A) (h2 : A < 2 ^ (b + 1)) (ht : t ≤ b) : (2 : Int) ^ (b - t) ≤ A / 2 ^ t ∧ A / 2 ^ t < 2 ^ (b - t + 1) := by
  have p := p2pos t
  constructor
  · rw [Int.le_ediv_iff_mul_le p, ← Int.pow_add, Nat.sub_add_cancel ht]; exact h1
  · refine Int.ediv_lt_of_lt_mul p ?_
    rw [← Int.pow_add]
    have : b - t + 1 + t = b + 1 := by omega
    rw [this]; exact h2
theorem zeros_lost {A : Int} (hA : 0 < A) (t : Nat) : decide (zerosN A < (t : Int)) = decide (A % 2 ^ t ≠ 0) := by
  obtain ⟨k, m, hk⟩ := odd_part A.toNat (by omega)
  have e : A = 2 ^ k * (2 * (m : Int) + 1) := by
    have : A = ((2 ^ (k + 1) * m + 2 ^ k : Nat) : Int) := by omega
    rw [this, Int.natCast_add, Int.natCast_mul, p2cast, p2cast, Int.pow_succ]
    grind
  have hz : zerosN A = k := zerosN_eq e (by omega) (by omega)
  rw [hz]
  by_cases g : k < t
  · rw [decide_eq_true (by omega), Eq.comm]
    refine decide_eq_true ?_
    intro h0
    have d := Int.dvd_of_emod_eq_zero h0
    have s : (2 : Int) ^ t = 2 ^ k * (2 * 2 ^ (t - k - 1)) := by
      have : t = k + (1 + (t - k - 1)) := by omega
      rw [this, Int.pow_add, Int.pow_add]
      simp
    rw [e, s] at d
    have d2 := Int.dvd_of_mul_dvd_mul_left (a := 2 ^ k) (by have := p2pos k; omega) d
    obtain ⟨z, hz2⟩ := d2
    rw [Int.mul_assoc] at hz2
    omega
  · rw [decide_eq_false (by omega), Eq.comm]
    refine decide_eq_false ?_
    intro h0
    apply h0
    have s : (2 : Int) ^ k = 2 ^ t * 2 ^ (k - t) := by rw [← Int.pow_add]; congr 1; omega
    rw [e, s, Int.mul_assoc]
    exact Int.mul_emod_right _ _
end Na


set_option maxHeartbeats 3200000 in
set_option maxRecDepth 100000 in
theorem up_any {a : Option Addr} {m c1 : Nat} {xs : List Int} {w : World} (hr1 : RowC w a m c1 xs) (hx : Ws xs) (hm : m ≤ 4000000) (t : Nat) (ht : t ≤ 400000000) :
    Calls Try.prog 61 #[.slice a m c1, .int .i64 (t : Int)] w fun e w' => ∃ v, e = .returned v ∧ Own .u64 w' w.heap.size 47 v (words (num xs * 2 ^ t)) ∧ Below w.heap.size w w' := by
  obtain ⟨i_u64, hi_u64, hz0_u64, hz1_u64, hz2_u64⟩ := info_parts info_u64
  have hsz : (Try.prog.info? 47).map (·.size) = some 1 := by rw [hi_u64]; simp [hz1_u64]
  have p1 := num_nonneg hx
  have hl := hr1.1.1
  have hwl := words_le hx
  have hnil := words_nil p1
  have hv := num_words p1
  have hd := Dg_words (num xs)
  have hbd := num_bd hd
  rw [hv] at hbd
  have hroom := up_room (t := t) p1 hbd
  have HZ : Hid (num xs = 0 → words (num xs * 2 ^ t) = []) := fun h => by rw [h, Int.zero_mul]; exact List.length_eq_zero_iff.mp ((words_nil (Int.le_refl _)).mpr rfl)
  go_enter Try.func61, Try.ntmps61
  go_wp2_with fail
  refine (trim_any hr1 hx hm).mono ?_
  rintro e w' ⟨rfl, r1, _, l1, rfl⟩
  obtain ⟨ps, hps⟩ : ∃ ps, ps = words (num xs) := ⟨_, rfl⟩
  rw [← hps] at r1 l1 hnil hv hd hroom ⊢
  obtain ⟨A, hA⟩ : ∃ A, A = num xs := ⟨_, rfl⟩
  rw [← hA] at hnil hv hroom HZ
  have HX : Hid (num xs = A) := hA.symm
  have HA : Hid (num ps = A) := hv
  obtain ⟨n, hn⟩ : ∃ n, n = ps.length := ⟨_, rfl⟩
  rw [← hn] at r1 l1 hnil hroom ⊢
  have HN : Hid (n = ps.length) := hn
  clear hr1 hps hA hv hn hbd hwl hl p1
  by_cases h0 : n = 0
  · have HE : Hid (words (A * 2 ^ t) = []) := HZ.out (hnil.mp h0)
    have t1 : ((n : Int) == 0) = true := by simp [h0]
    clear hnil HZ r1 hroom h0
    go_wp2
    go_ret
    exact ⟨_, rfl, by rw [HX.out, HE.out]; exact own_nil _ _ _ _, Below.refl _ _⟩
  · have t1 : ((n : Int) == 0) = false := by simp; omega
    obtain ⟨L, hL⟩ : ∃ L, L = t / 64 + n + 1 := ⟨_, rfl⟩
    rw [← hL] at hroom
    have hL1 : L ≤ 12000000 := by omega
    have hq : ((t : Int) / 64).toNat = t / 64 := by omega
    have hk4 : (t : Int) / 64 ≤ (L : Int) := by omega
    have cast2 : ((t % 64 : Nat) : Int) = (t : Int) % 64 := by omega
    have cast3 : (t : Int) / 64 + (n : Int) + 1 = (L : Int) := by omega
    have hLo : t / 64 + n ≤ L := by omega
    have hLm : t / 64 + (L - t / 64) ≤ L := by omega
    have hnL : n ≤ L - t / 64 := by omega
    have hlt : t / 64 < L := by omega
    clear hnil HZ h0 hL
    go_wp2_with (at_make; refine wpList_make_full _ rfl _ _ 22 rfl w.heap.size 47 i_u64 (.int .u64 0) 1 Try.underlying22 hi_u64 hz0_u64 hz1_u64 .i64 .i64 _ _ L rfl rfl (by omega) (by omega) (by rw [hz2_u64]; omega) (by unfold maxLen; omega) (Nat.le_refl _) ?_)
    intro w3 hmade hgr
    have hown := own_zeros hmade
    have hb3 : Below w.heap.size w w3 := (Below.refl _ _).grown hgr (Nat.le_refl _) (fun k hk => by cases hk)
    have hr3 := r1.1.later hb3
    obtain ⟨g, hg⟩ : ∃ g, g = w.heap.size := ⟨_, rfl⟩
    have hown2 : Own .u64 w3 w.heap.size 47 (.slice (some ⟨g, 0, none⟩) L L) (List.replicate L 0) := by rw [hg]; exact hown
    rw [← hg]
    clear hmade hgr r1 hown hg
    have hz : Hid (L = (List.replicate L (0 : Int)).length) := by show _ = _; simp
    have hcopy := fun (ops : Array Oper) (rest : List Oper) (o : Oper) (act : Act) (Q : Exit → Act → World → Prop) hgd d s ho hd hs h => copy_own (P := Try.prog) (w := w3) (ops := ops) (rest := rest) (o := o) (act := act) (Q := Q) hgd d s 22 22 ho 47 Try.underlying22 hsz g (t / 64) (L - t / 64) (L - t / 64) L L w.heap.size 47 _ ps hown2 hz.out a n c1 hr3 hd hs hnL hLm h
    have hk1 : ¬ (L = t / 64) := by omega
    have hk2 : ¬ (t / 64 = L) := by omega
    have hk3 : t / 64 ≤ L := by omega
    go_wp2_with (refine hcopy _ _ _ _ _ rfl _ _ rfl rfl rfl ?_)
    intro w4 hown4 hb4
    have hol : (over (List.replicate L (0 : Int)) ps (t / 64)).length = L := by rw [over_length (by rw [← HN.out]; simp; omega)]; simp
    have hb5 := hb3.trans hb4
    have hsu := shiftUp_any (w0 := w) (o := t / 64) (m := L - t / 64) (dcap := L - t / 64) (r := t % 64) hown4 hol.symm (over_ws hd) hb5 (by omega) (by omega) (by omega)
    rw [cast2] at hsu
    have hup := fun b us h => up_num (L := L) (o := t / 64) (r := t % 64) (t := t) (us := us) (b := b) HA.out (by rw [← HN.out]; exact hLo) (by omega) h hroom
    clear hol hown4 hb5 hd hcopy hown2 hr3 hb3 hb4 hz
    go_wp2_with fail
    refine hsu.mono ?_
    rintro e w5 ⟨rfl, b', us, hou, hui, hb6⟩
    obtain ⟨hnu, hwu, hlu⟩ := hup b' us hui
    rw [← hlu] at hou
    have hrc := hou.rowC rfl
    have htr := trimW_any hrc hwu (by omega)
    have hcut := hou.cut (words_le hwu)
    rw [words_take hwu] at hcut
    rw [hlu] at htr
    rw [hlu] at hcut
    rw [hnu] at htr hcut
    clear hsu hup hui hou hrc hnu hwu hlu hroom
    go_wp2_with fail
    refine htr.mono ?_
    rintro e w' ⟨rfl, _, _, _, rfl⟩
    clear htr
    go_wp2
    go_ret
    exact ⟨_, rfl, by rw [HX.out]; exact hcut, hb6⟩

set_option maxHeartbeats 3200000 in
set_option maxRecDepth 100000 in
theorem down_any {a : Option Addr} {m c1 : Nat} {xs : List Int} {w : World} (hr1 : RowC w a m c1 xs) (hx : Ws xs) (hm : m ≤ 4000000) (t : Nat) (ht : t ≤ 400000000) :
    Calls Try.prog 65 #[.slice a m c1, .int .i64 (t : Int)] w fun e w' => ∃ v, e = .returned v ∧ Own .u64 w' w.heap.size 47 v (words (num xs / 2 ^ t)) ∧ Below w.heap.size w w' := by
  obtain ⟨i_u64, hi_u64, hz0_u64, hz1_u64, hz2_u64⟩ := info_parts info_u64
  have hsz : (Try.prog.info? 47).map (·.size) = some 1 := by rw [hi_u64]; simp [hz1_u64]
  have p1 := num_nonneg hx
  have hv := num_words p1
  have hd := Dg_words (num xs)
  go_enter Try.func65, Try.ntmps65
  go_wp2_with fail
  refine (trim_any hr1 hx hm).mono ?_
  rintro e w' ⟨rfl, r1, _, l1, rfl⟩
  obtain ⟨ps, hps⟩ : ∃ ps, ps = words (num xs) := ⟨_, rfl⟩
  rw [← hps] at r1 l1 hv hd ⊢
  obtain ⟨A, hA⟩ : ∃ A, A = num xs := ⟨_, rfl⟩
  rw [← hA] at hv
  have HX : Hid (num xs = A) := hA.symm
  have hq : ((t : Int) / 64).toNat = t / 64 := by omega
  have cast2 : ((t % 64 : Nat) : Int) = (t : Int) % 64 := by omega
  obtain ⟨n, hn⟩ : ∃ n, n = ps.length := ⟨_, rfl⟩
  rw [← hn] at r1 l1 ⊢
  have HN : Hid (n = ps.length) := hn
  -- the lists behind the cut
  obtain ⟨o, qs, ho, hon, hqs⟩ : ∃ (o : Nat) (qs : List Int), (o : Int) = (if (n : Int) < (t : Int) / 64 then (n : Int) else (t : Int) / 64) ∧ o ≤ n ∧ qs = ps.drop o ∧ num qs / 2 ^ (t % 64) = A / 2 ^ t := by
    by_cases g : t / 64 ≤ n
    · refine ⟨t / 64, _, by rw [if_neg (by omega)]; omega, g, rfl, ?_⟩
      rw [num_drop hd (by omega), div_shift, hv]
    · refine ⟨n, _, by rw [if_pos (by omega)], Nat.le_refl _, rfl, ?_⟩
      rw [List.drop_of_length_le (by omega)]
      have b := num_bd hd
      rw [← hn, hv] at b
      have : A < 2 ^ t := by
        have := p2mono (show 64 * n ≤ t by omega)
        rw [wpow2] at b; omega
      rw [Int.ediv_eq_zero_of_lt (by rw [← hv]; exact num_nonneg hd) this]
      simp [num, val]
  obtain ⟨hqs, hdiv⟩ := hqs
  have hwq : Ws qs := by rw [hqs]; exact hd.drop _
  have hlq : qs.length = n - o := by rw [hqs, List.length_drop, ← hn]
  have HD : Hid (num qs / 2 ^ (t % 64) = A / 2 ^ t) := hdiv
  have HO : Hid ((o : Int) = (if (n : Int) < (t : Int) / 64 then (n : Int) else (t : Int) / 64)) := ho
  have hrq : ∀ a2 : Option Addr, (∀ b off, a = some ⟨b, off, none⟩ → o < n → a2 = some ⟨b, off + o, none⟩) → RowAt .u64 w a2 (n - o) qs := by
    intro a2 ha2
    by_cases g : o < n
    · obtain ⟨b, off, e1, _, _⟩ := r1.1.at (by omega)
      have := (show RowC w (some ⟨b, off, none⟩) n c1 ps by rw [← e1]; exact r1).drop g
      rw [ha2 b off e1 g, hqs]
      exact this.1
    · exact ⟨hlq, Or.inl (by omega)⟩
  clear hr1 hps hA hn hv hd hqs hdiv
  have hc1 := r1.2.1
  by_cases hle : (t : Int) / 64 ≤ (n : Int)
  · have ho2 : o = t / 64 := by rw [if_neg (by omega)] at ho; omega
    clear ho HO
    subst ho2
    by_cases hc : c1 = t / 64
    · have hc' : n - t / 64 = 0 := by omega
      have hc2 : c1 - t / 64 = 0 := by omega
      have hrw := hrq (a) (fun _ _ _ h => by omega)
      rw [hc'] at hrw hlq
      have hL1 : 0 ≤ 4000000 := by omega
      clear hrq
      go_wp2_with (at_make; refine wpList_make_full _ rfl _ _ 22 rfl w.heap.size 47 i_u64 (.int .u64 0) 1 Try.underlying22 hi_u64 hz0_u64 hz1_u64 .i64 .i64 _ _ 0 rfl rfl (by omega) (by omega) (by rw [hz2_u64]; omega) (by unfold maxLen; omega) (Nat.le_refl _) ?_)
      intro w3 hmade hgr
      have hown := own_zeros hmade
      have hb3 : Below w.heap.size w w3 := (Below.refl _ _).grown hgr (Nat.le_refl _) (fun k hk => by cases hk)
      have hr3 := hrw.later hb3
      obtain ⟨g, hg⟩ : ∃ g, g = w.heap.size := ⟨_, rfl⟩
      have hown2 : Own .u64 w3 w.heap.size 47 (.slice (some ⟨g, 0, none⟩) 0 0) (List.replicate 0 0) := by rw [hg]; exact hown
      rw [← hg]
      have hz : Hid (0 = (List.replicate 0 (0 : Int)).length) := by show _ = _; simp
      have HLQ : Hid (qs.length = 0) := hlq
      have hcopy := fun (ops : Array Oper) (rest : List Oper) (oo : Oper) (act : Act) (Q : Exit → Act → World → Prop) hgd d s ho hd hs h => copy_own (P := Try.prog) (w := w3) (ops := ops) (rest := rest) (o := oo) (act := act) (Q := Q) hgd d s 22 22 ho 47 Try.underlying22 hsz g 0 0 0 0 0 w.heap.size 47 _ qs hown2 hz.out (a) 0 0 hr3 hd hs (Nat.le_refl _) (by omega) h
      clear hmade hgr hown hg hrw hlq
      go_wp2_with (refine hcopy _ _ _ _ _ rfl _ _ rfl rfl rfl ?_)
      intro w4 hown4 hb4
      have e4 : over [] qs 0 = qs := by unfold over; rw [HLQ.out]; simp
      rw [e4] at hown4
      have hsd := shiftDown_any (w0 := w) (r := t % 64) hown4 HLQ.out.symm hwq (hb3.trans hb4) (by omega) (by omega)
      rw [cast2] at hsd
      clear hcopy hown2 hr3 hb3 hown4 hb4 e4 hz
      go_wp2_with fail
      refine hsd.mono ?_
      rintro e w5 ⟨rfl, us, hou, hlu, hwu, hnu, hb6⟩
      rw [HD.out] at hnu
      have hrc := hou.rowC hlu.symm
      have htr := trimW_any hrc hwu (by omega)
      rw [← hlu] at hou
      have hcut := hou.cut (words_le hwu)
      rw [words_take hwu] at hcut
      rw [hlu] at hcut
      rw [hnu] at htr hcut
      clear hsd hou hrc hnu hwu hlu
      go_wp2_with fail
      refine htr.mono ?_
      rintro e w' ⟨rfl, _, _, _, rfl⟩
      clear htr
      go_wp2
      go_ret
      exact ⟨_, rfl, by rw [HX.out]; exact hcut, hb6⟩
    · have hc2 : ¬ (c1 - t / 64 = 0) := by omega
      have hrw := hrq (Option.map (fun x => x.add (t / 64)) a) (fun b off e1 g => by rw [e1]; unfold Addr.add; by_cases hi0 : t / 64 = 0 <;> simp [hi0])
      skip
      have hL1 : (n - t / 64) ≤ 4000000 := by omega
      clear hrq
      go_wp2_with (at_make; refine wpList_make_full _ rfl _ _ 22 rfl w.heap.size 47 i_u64 (.int .u64 0) 1 Try.underlying22 hi_u64 hz0_u64 hz1_u64 .i64 .i64 _ _ (n - t / 64) rfl rfl (by omega) (by omega) (by rw [hz2_u64]; omega) (by unfold maxLen; omega) (Nat.le_refl _) ?_)
      intro w3 hmade hgr
      have hown := own_zeros hmade
      have hb3 : Below w.heap.size w w3 := (Below.refl _ _).grown hgr (Nat.le_refl _) (fun k hk => by cases hk)
      have hr3 := hrw.later hb3
      obtain ⟨g, hg⟩ : ∃ g, g = w.heap.size := ⟨_, rfl⟩
      have hown2 : Own .u64 w3 w.heap.size 47 (.slice (some ⟨g, 0, none⟩) (n - t / 64) (n - t / 64)) (List.replicate (n - t / 64) 0) := by rw [hg]; exact hown
      rw [← hg]
      have hz : Hid ((n - t / 64) = (List.replicate (n - t / 64) (0 : Int)).length) := by show _ = _; simp
      have HLQ : Hid (qs.length = (n - t / 64)) := hlq
      have hcopy := fun (ops : Array Oper) (rest : List Oper) (oo : Oper) (act : Act) (Q : Exit → Act → World → Prop) hgd d s ho hd hs h => copy_own (P := Try.prog) (w := w3) (ops := ops) (rest := rest) (o := oo) (act := act) (Q := Q) hgd d s 22 22 ho 47 Try.underlying22 hsz g 0 (n - t / 64) (n - t / 64) (n - t / 64) (n - t / 64) w.heap.size 47 _ qs hown2 hz.out (Option.map (fun x => x.add (t / 64)) a) (n - t / 64) (c1 - t / 64) hr3 hd hs (Nat.le_refl _) (by omega) h
      clear hmade hgr hown hg hrw hlq
      go_wp2_with (refine hcopy _ _ _ _ _ rfl _ _ rfl rfl rfl ?_)
      intro w4 hown4 hb4
      have e4 : over (List.replicate (n - t / 64) (0 : Int)) qs 0 = qs := by unfold over; rw [HLQ.out]; simp
      rw [e4] at hown4
      have hsd := shiftDown_any (w0 := w) (r := t % 64) hown4 HLQ.out.symm hwq (hb3.trans hb4) (by omega) (by omega)
      rw [cast2] at hsd
      clear hcopy hown2 hr3 hb3 hown4 hb4 e4 hz
      go_wp2_with fail
      refine hsd.mono ?_
      rintro e w5 ⟨rfl, us, hou, hlu, hwu, hnu, hb6⟩
      rw [HD.out] at hnu
      have hrc := hou.rowC hlu.symm
      have htr := trimW_any hrc hwu (by omega)
      rw [← hlu] at hou
      have hcut := hou.cut (words_le hwu)
      rw [words_take hwu] at hcut
      rw [hlu] at hcut
      rw [hnu] at htr hcut
      clear hsd hou hrc hnu hwu hlu
      go_wp2_with fail
      refine htr.mono ?_
      rintro e w' ⟨rfl, _, _, _, rfl⟩
      clear htr
      go_wp2
      go_ret
      exact ⟨_, rfl, by rw [HX.out]; exact hcut, hb6⟩
  · have ho2 : o = n := by rw [if_pos (by omega)] at ho; omega
    clear ho HO
    subst ho2
    have hc' : o - o = 0 := by omega
    by_cases hc : c1 = o
    · have hc2 : c1 - o = 0 := by omega
      have hrw := hrq (a) (fun _ _ _ h => by omega)
      rw [hc'] at hrw hlq
      have hL1 : 0 ≤ 4000000 := by omega
      clear hrq
      go_wp2_with (at_make; refine wpList_make_full _ rfl _ _ 22 rfl w.heap.size 47 i_u64 (.int .u64 0) 1 Try.underlying22 hi_u64 hz0_u64 hz1_u64 .i64 .i64 _ _ 0 rfl rfl (by omega) (by omega) (by rw [hz2_u64]; omega) (by unfold maxLen; omega) (Nat.le_refl _) ?_)
      intro w3 hmade hgr
      have hown := own_zeros hmade
      have hb3 : Below w.heap.size w w3 := (Below.refl _ _).grown hgr (Nat.le_refl _) (fun k hk => by cases hk)
      have hr3 := hrw.later hb3
      obtain ⟨g, hg⟩ : ∃ g, g = w.heap.size := ⟨_, rfl⟩
      have hown2 : Own .u64 w3 w.heap.size 47 (.slice (some ⟨g, 0, none⟩) 0 0) (List.replicate 0 0) := by rw [hg]; exact hown
      rw [← hg]
      have hz : Hid (0 = (List.replicate 0 (0 : Int)).length) := by show _ = _; simp
      have HLQ : Hid (qs.length = 0) := hlq
      have hcopy := fun (ops : Array Oper) (rest : List Oper) (oo : Oper) (act : Act) (Q : Exit → Act → World → Prop) hgd d s ho hd hs h => copy_own (P := Try.prog) (w := w3) (ops := ops) (rest := rest) (o := oo) (act := act) (Q := Q) hgd d s 22 22 ho 47 Try.underlying22 hsz g 0 0 0 0 0 w.heap.size 47 _ qs hown2 hz.out (a) 0 0 hr3 hd hs (Nat.le_refl _) (by omega) h
      clear hmade hgr hown hg hrw hlq
      go_wp2_with (refine hcopy _ _ _ _ _ rfl _ _ rfl rfl rfl ?_)
      intro w4 hown4 hb4
      have e4 : over [] qs 0 = qs := by unfold over; rw [HLQ.out]; simp
      rw [e4] at hown4
      have hsd := shiftDown_any (w0 := w) (r := t % 64) hown4 HLQ.out.symm hwq (hb3.trans hb4) (by omega) (by omega)
      rw [cast2] at hsd
      clear hcopy hown2 hr3 hb3 hown4 hb4 e4 hz
      go_wp2_with fail
      refine hsd.mono ?_
      rintro e w5 ⟨rfl, us, hou, hlu, hwu, hnu, hb6⟩
      rw [HD.out] at hnu
      have hrc := hou.rowC hlu.symm
      have htr := trimW_any hrc hwu (by omega)
      rw [← hlu] at hou
      have hcut := hou.cut (words_le hwu)
      rw [words_take hwu] at hcut
      rw [hlu] at hcut
      rw [hnu] at htr hcut
      clear hsd hou hrc hnu hwu hlu
      go_wp2_with fail
      refine htr.mono ?_
      rintro e w' ⟨rfl, _, _, _, rfl⟩
      clear htr
      go_wp2
      go_ret
      exact ⟨_, rfl, by rw [HX.out]; exact hcut, hb6⟩
    · have hc2 : ¬ (c1 - o = 0) := by omega
      have hrw := hrq (Option.map (fun x => x.add o) a) (fun _ _ _ h => by omega)
      rw [hc'] at hrw hlq
      have hL1 : 0 ≤ 4000000 := by omega
      clear hrq
      go_wp2_with (at_make; refine wpList_make_full _ rfl _ _ 22 rfl w.heap.size 47 i_u64 (.int .u64 0) 1 Try.underlying22 hi_u64 hz0_u64 hz1_u64 .i64 .i64 _ _ 0 rfl rfl (by omega) (by omega) (by rw [hz2_u64]; omega) (by unfold maxLen; omega) (Nat.le_refl _) ?_)
      intro w3 hmade hgr
      have hown := own_zeros hmade
      have hb3 : Below w.heap.size w w3 := (Below.refl _ _).grown hgr (Nat.le_refl _) (fun k hk => by cases hk)
      have hr3 := hrw.later hb3
      obtain ⟨g, hg⟩ : ∃ g, g = w.heap.size := ⟨_, rfl⟩
      have hown2 : Own .u64 w3 w.heap.size 47 (.slice (some ⟨g, 0, none⟩) 0 0) (List.replicate 0 0) := by rw [hg]; exact hown
      rw [← hg]
      have hz : Hid (0 = (List.replicate 0 (0 : Int)).length) := by show _ = _; simp
      have HLQ : Hid (qs.length = 0) := hlq
      have hcopy := fun (ops : Array Oper) (rest : List Oper) (oo : Oper) (act : Act) (Q : Exit → Act → World → Prop) hgd d s ho hd hs h => copy_own (P := Try.prog) (w := w3) (ops := ops) (rest := rest) (o := oo) (act := act) (Q := Q) hgd d s 22 22 ho 47 Try.underlying22 hsz g 0 0 0 0 0 w.heap.size 47 _ qs hown2 hz.out (Option.map (fun x => x.add o) a) 0 (c1 - o) hr3 hd hs (Nat.le_refl _) (by omega) h
      clear hmade hgr hown hg hrw hlq
      go_wp2_with (refine hcopy _ _ _ _ _ rfl _ _ rfl rfl rfl ?_)
      intro w4 hown4 hb4
      have e4 : over [] qs 0 = qs := by unfold over; rw [HLQ.out]; simp
      rw [e4] at hown4
      have hsd := shiftDown_any (w0 := w) (r := t % 64) hown4 HLQ.out.symm hwq (hb3.trans hb4) (by omega) (by omega)
      rw [cast2] at hsd
      clear hcopy hown2 hr3 hb3 hown4 hb4 e4 hz
      go_wp2_with fail
      refine hsd.mono ?_
      rintro e w5 ⟨rfl, us, hou, hlu, hwu, hnu, hb6⟩
      rw [HD.out] at hnu
      have hrc := hou.rowC hlu.symm
      have htr := trimW_any hrc hwu (by omega)
      rw [← hlu] at hou
      have hcut := hou.cut (words_le hwu)
      rw [words_take hwu] at hcut
      rw [hlu] at hcut
      rw [hnu] at htr hcut
      clear hsd hou hrc hnu hwu hlu
      go_wp2_with fail
      refine htr.mono ?_
      rintro e w' ⟨rfl, _, _, _, rfl⟩
      clear htr
      go_wp2
      go_ret
      exact ⟨_, rfl, by rw [HX.out]; exact hcut, hb6⟩
end Go.Proofs.Ytbdljmboilapeab
