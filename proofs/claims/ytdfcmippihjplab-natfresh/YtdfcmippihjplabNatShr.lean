/- package nat: Shr. -/
import Derived.Test.YtdfcmippihjplabNatShl
namespace Go.Proofs.Ytdfcmippihjplab
open Go.ChangeShapes Go.WideShapes Go.ChangeAt Go.RowKit
open Na Ar
set_option linter.unusedVariables false

theorem RowC.drop {w : World} {b off n cap : Nat} {xs : List Int} (h : RowC w (some ⟨b, off, none⟩) n cap xs) {o : Nat} (ho : o < n) : RowC w (some ⟨b, off + o, none⟩) (n - o) (cap - o) (xs.drop o) := by
  obtain ⟨⟨h1, h2⟩, h3, h4⟩ := h
  refine ⟨⟨by rw [List.length_drop]; omega, Or.inr ⟨b, off + o, rfl, ?_, fun i hi => ?_⟩⟩, by omega, by omega⟩
  · rcases h2 with h2 | ⟨b', off', ha, hlt, hc⟩
    · omega
    · simp only [Option.some.injEq, Addr.mk.injEq] at ha
      omega
  · rcases h2 with h2 | ⟨b', off', ha, hlt, hc⟩
    · omega
    · simp only [Option.some.injEq, Addr.mk.injEq] at ha
      obtain ⟨rfl, rfl, _⟩ := ha
      have := hc (o + i) (by omega)
      have e : (xs.drop o).getD i 0 = xs.getD (o + i) 0 := by simp [List.getD_eq_getElem?_getD, List.getElem?_drop]
      rw [e, ← this, Nat.add_assoc]
namespace Na
theorem num_drop {xs : List Int} (h : Ws xs) {o : Nat} (ho : o ≤ xs.length) : num (xs.drop o) = num xs / 18446744073709551616 ^ o := by
  have s := val_splitB 18446744073709551616 xs ho
  have v0 := val_nonneg (B := 18446744073709551616) (by omega) (h.take o)
  have v1 := val_lt (B := 18446744073709551616) (by omega) (h.take o)
  rw [List.length_take, Nat.min_eq_left ho] at v1
  have p := wpow_pos o
  unfold num
  rw [s, Int.add_mul_ediv_left _ _ (by omega), Int.ediv_eq_zero_of_lt v0 v1, Int.zero_add]
theorem div_shift (A : Int) (t : Nat) : A / 18446744073709551616 ^ (t / 64) / 2 ^ (t % 64) = A / 2 ^ t := by
  rw [wpow2, Int.ediv_ediv_of_nonneg (Int.le_of_lt (p2pos _)), ← Int.pow_add]
  congr 2; omega
theorem shr_bits {A : Int} {b t : Nat} (h1 : 2 ^ b ≤ A) (h2 : A < 2 ^ (b + 1)) (ht : t ≤ b) : (2 : Int) ^ (b - t) ≤ A / 2 ^ t ∧ A / 2 ^ t < 2 ^ (b - t + 1) := by
  have p := p2pos t
  constructor
  · rw [Int.le_ediv_iff_mul_le p, ← Int.pow_add, Nat.sub_add_cancel ht]; exact h1
  · refine Int.ediv_lt_of_lt_mul p ?_
    rw [← Int.pow_add]
    have : b - t + 1 + t = b + 1 := by omega
    rw [this]; exact h2
theorem zeros_lost {A : Int} (hA : 0 < A) (t : Nat) : decide (zerosN A < (t : Int)) = decide (A % 2 ^ t ≠ 0) := by
  obtain ⟨k, m, hk⟩ := odd_part A.toNat (by omega)
  have e : A = 2 ^ k * (2 * (m : Int) + 1) := by
    have : A = ((2 ^ (k + 1) * m + 2 ^ k : Nat) : Int) := by omega
    rw [this, Int.natCast_add, Int.natCast_mul, p2cast, p2cast, Int.pow_succ]
    grind
  have hz : zerosN A = k := zerosN_eq e (by omega) (by omega)
  rw [hz]
  by_cases g : k < t
  · rw [decide_eq_true (by omega), Eq.comm]
    refine decide_eq_true ?_
    intro h0
    have d := Int.dvd_of_emod_eq_zero h0
    have s : (2 : Int) ^ t = 2 ^ k * (2 * 2 ^ (t - k - 1)) := by
      have : t = k + (1 + (t - k - 1)) := by omega
      rw [this, Int.pow_add, Int.pow_add]
      simp
    rw [e, s] at d
    have d2 := Int.dvd_of_mul_dvd_mul_left (a := 2 ^ k) (by have := p2pos k; omega) d
    obtain ⟨z, hz2⟩ := d2
    rw [Int.mul_assoc] at hz2
    omega
  · rw [decide_eq_false (by omega), Eq.comm]
    refine decide_eq_false ?_
    intro h0
    apply h0
    have s : (2 : Int) ^ k = 2 ^ t * 2 ^ (k - t) := by rw [← Int.pow_add]; congr 1; omega
    rw [e, s, Int.mul_assoc]
    exact Int.mul_emod_right _ _
end Na

set_option maxHeartbeats 3200000 in
theorem natShr_any {a : Option Addr} {m c1 : Nat} {xs : List Int} {w : World} (hr1 : RowC w a m c1 xs) (hx : Ws xs) (hm : m ≤ 10000) (n : Int) (hn9 : n ≤ 9223372036854775807) :
    Calls Try.prog 9 #[.slice a m c1, .int .i64 n] w fun e w' => ∃ v, e = .returned (.tuple #[v, .bool (shrB (num xs) n), .int .i64 (shrE (num xs) n)]) ∧ Own .u64 w' w.heap.size 47 v (shrL (num xs) n) ∧ Below w.heap.size w w' := by
  by_cases hneg : n < 0
  · have E1 : Hid (shrE (num xs) n = 22) := by show _ = _; unfold shrE; rw [if_pos hneg]
    have E2 : Hid (shrL (num xs) n = []) := by show _ = _; unfold shrL; rw [if_pos hneg]
    have E3 : Hid (shrB (num xs) n = false) := by show _ = _; unfold shrB; rw [if_pos hneg]
    go_enter Try.func9, Try.ntmps9
    go_wp2
    go_ret3
    exact ⟨_, ret_vbi E3.out.symm E1.out.symm, by rw [E2.out]; exact own_nil _ _ _ _, Below.refl _ _⟩
  · obtain ⟨t, rfl⟩ : ∃ t : Nat, n = (t : Int) := ⟨n.toNat, by omega⟩
    have E1 : Hid (shrE (num xs) (t : Int) = resE (num xs / 2 ^ t)) := by show _ = _; unfold shrE; rw [if_neg hneg]; simp
    have E2 : Hid (shrL (num xs) (t : Int) = resL (num xs / 2 ^ t)) := by show _ = _; unfold shrL; rw [if_neg hneg]; simp
    have E3 : Hid (shrB (num xs) (t : Int) = if resE (num xs / 2 ^ t) = 0 then decide (num xs % 2 ^ t ≠ 0) else false) := by show _ = _; unfold shrB; rw [if_neg hneg]; simp
    have p1 := num_nonneg hx
    have hbit := bits0_any hr1 hx hm
    have l1 := hr1.1.1
    have hble := bits_le (N := num xs) (k := xs.length) p1 (num_bd hx)
    have hbn := bits_nonneg (num xs)
    obtain ⟨q, hq⟩ : ∃ q : Nat, bitsN (num xs) = (q : Int) := ⟨(bitsN (num xs)).toNat, by omega⟩
    rw [hq] at hbit hble
    have hq9 : q ≤ 640000 := by omega
    have hqz : q = 0 ↔ num xs = 0 := by
      constructor
      · intro h
        by_cases g : num xs = 0
        · exact g
        · obtain ⟨b, hb, _, _⟩ := bits_some (N := num xs) (by omega)
          omega
      · intro h; rw [h, bits_none] at hq; omega
    clear hneg hbn
    by_cases hle : q ≤ t
    · have hlt : num xs < 2 ^ t := by
        by_cases g : num xs = 0
        · rw [g]; exact p2pos t
        · obtain ⟨b, hb, _, h2⟩ := bits_some (N := num xs) (by omega)
          have := p2mono (show b + 1 ≤ t by omega)
          omega
      have o1 : num xs / 2 ^ t = 0 := Int.ediv_eq_zero_of_lt p1 hlt
      have o2 : num xs % 2 ^ t = num xs := Int.emod_eq_of_lt p1 hlt
      have E := res_zero o1
      have F2 : Hid (shrL (num xs) (t : Int) = []) := by show _ = _; rw [E2.out]; exact E.1
      have F1 : Hid (0 = shrE (num xs) (t : Int)) := by show _ = _; rw [E1.out]; exact E.2.symm
      have F3 : Hid (((q : Int) != 0) = shrB (num xs) (t : Int)) := by
        show _ = _
        rw [E3.out, E.2, if_pos rfl, o2, Bool.eq_iff_iff]
        simp
        omega
      clear E o1 o2 hlt hqz hq p1 hble l1 hr1 E1 E2 E3
      go_enter Try.func9, Try.ntmps9
      go_wp2_with fail
      refine hbit.mono ?_
      rintro e w' ⟨rfl, rfl⟩
      go_wp2
      go_ret3
      exact ⟨_, ret_vbi F3.out F1.out, by rw [F2.out]; exact own_nil _ _ _ _, Below.refl _ _⟩
    · have hA : 0 < num xs := by
        have : num xs ≠ 0 := fun h => by have := hqz.mpr h; omega
        omega
      obtain ⟨b, hb, a1, a2⟩ := bits_some hA
      have hsb := shr_bits (t := t) a1 a2 (by omega)
      have hwl := words_bits hsb.1 hsb.2
      by_cases hbig : 262144 < (q : Int) - (t : Int)
      · have E := res_huge (N := num xs / 2 ^ t) (by omega)
        have F2 : Hid (shrL (num xs) (t : Int) = []) := by show _ = _; rw [E2.out]; exact E.1
        have F1 : Hid (21 = shrE (num xs) (t : Int)) := by show _ = _; rw [E1.out]; exact E.2.symm
        have F3 : Hid (false = shrB (num xs) (t : Int)) := by
          show _ = _
          rw [E3.out, E.2, if_neg (by omega)]
        clear E hqz hq p1 hble l1 hr1 E1 E2 E3 hwl hsb a1 a2 hb hA
        go_enter Try.func9, Try.ntmps9
        go_wp2_with fail
        refine hbit.mono ?_
        rintro e w' ⟨rfl, rfl⟩
        go_wp2
        go_ret3
        exact ⟨_, ret_vbi F3.out F1.out, by rw [F2.out]; exact own_nil _ _ _ _, Below.refl _ _⟩
      · have E := res_fits (N := num xs / 2 ^ t) (by omega)
        have F2 : Hid (shrL (num xs) (t : Int) = words (num xs / 2 ^ t)) := by show _ = _; rw [E2.out]; exact E.1
        have F1 : Hid (0 = shrE (num xs) (t : Int)) := by show _ = _; rw [E1.out]; exact E.2.symm
        have F3 : Hid (decide (zerosN (num xs) < (t : Int)) = shrB (num xs) (t : Int)) := by
          show _ = _
          rw [E3.out, E.2, if_pos rfl, zeros_lost hA]
        have ho : t / 64 < m := by omega
        obtain ⟨bb, off, rfl, _, _⟩ := hr1.1.at (by omega)
        have hdr := hr1.drop ho
        have hnd := num_drop hx (o := t / 64) (by omega)
        have hdv := div_shift (num xs) t
        rw [← hnd] at hdv
        have hxd : Ws (xs.drop (t / 64)) := hx.drop _
        have hnn := num_nonneg hxd
        have hnorm := norm_any hdr hxd (by omega)
        have hNl := words_le hxd
        rw [List.length_drop] at hNl
        have vN := num_words hnn
        have dN := Dg_words (num (xs.drop (t / 64)))
        have hzer := fun (w1 : World) (h : Below w.heap.size w w1) => zeros0_any (hr1.later h) hx hm
        have hcm := hr1.2
        have HL1 : Hid (xs.length = m) := l1
        have b1 : (words (num (xs.drop (t / 64)))).length ≤ 10000 := by omega
        generalize words (num (xs.drop (t / 64))) = ps at *
        have HD : Hid (num ps / 2 ^ (t % 64) = num xs / 2 ^ t) := by show _ = _; rw [vN]; exact hdv
        obtain ⟨N, hN⟩ : ∃ N, N = ps.length := ⟨_, rfl⟩
        rw [← hN] at hnorm b1
        have HN : Hid (N = ps.length) := hN
        have cast2 : ((t % 64 : Nat) : Int) = (t : Int) % 64 := by omega
        have hsd := fun (g : Nat) (w1 : World) (ho : Own .u64 w1 w.heap.size 47 (.slice (some ⟨g, 0, none⟩) N N) ps) (h : Below w.heap.size w w1) => shiftDown_any (r := t % 64) ho HN.out dN h (by omega) (by omega)
        rw [cast2] at hsd
        have hc1 : t / 64 ≤ c1 := by omega
        have hc2 : ¬ (c1 = t / 64) := by omega
        have hc3 : ¬ (c1 - t / 64 = 0) := by omega
        have hqt : (t : Int) < (q : Int) := by omega
        clear E hqz hq p1 hble l1 hr1 E1 E2 E3 hwl hsb a1 a2 hb hA hdr hnd hdv hNl vN hnn hN cast2 hle
        go_enter Try.func9, Try.ntmps9
        go_wp2_with fail
        refine hbit.mono ?_
        rintro e w' ⟨rfl, rfl⟩
        clear hbit
        go_wp2_with fail
        refine hnorm.mono ?_
        rintro e w2 ⟨g, rfl, hown, hb2⟩
        have hsd2 := hsd g w2 hown hb2
        clear hnorm hsd hown
        go_wp2_with fail
        refine hsd2.mono ?_
        rintro e w3 ⟨rfl, us, hou, hul, hwu, hnu, hb3⟩
        have hz3 := hzer w3 hb3
        rw [HD.out] at hnu
        rw [← hul] at hou ⊢
        obtain ⟨a9, c9, hv9, hrc⟩ := hou.readsC
        simp only [Value.slice.injEq] at hv9
        obtain ⟨e9, _, e8⟩ := hv9
        rw [← e9, ← e8] at hrc
        have htr := trim_any hrc hwu (by omega)
        have hcut := hou.cut (words_le hwu)
        rw [words_take hwu] at hcut
        rw [hnu] at htr hcut
        clear hsd2 hzer hou hrc e9 e8 hul hnu hb2 hwu
        go_wp2_with fail
        refine htr.mono ?_
        rintro e w' ⟨rfl, _, _, _, rfl⟩
        clear htr
        go_wp2_with fail
        refine hz3.mono ?_
        rintro e w' ⟨rfl, rfl⟩
        clear hz3
        go_wp2
        go_ret3
        exact ⟨_, ret_vbi F3.out F1.out, by rw [F2.out]; exact hcut, hb3⟩
end Go.Proofs.Ytdfcmippihjplab
