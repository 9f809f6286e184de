/- package nat: Bits, Bit, Zeros. -/
import Derived.Test.YtbdljmboilapeabNatCmp
namespace Go.Proofs.Ytbdljmboilapeab
open Go.ChangeShapes Go.WideShapes Go.ChangeAt Go.RowKit
open Na Ar
set_option linter.unusedVariables false

theorem bits0_any {a : Option Addr} {m c1 : Nat} {xs : List Int} {w : World} (hr1 : RowC w a m c1 xs) (hx : Ws xs) (hm : m ≤ 4000000) :
    Calls Try.prog 15 #[.slice a m c1] w fun e w' => e = .returned (.int .i64 (bitsN (num xs))) ∧ w = w' := by
  have p1 := num_nonneg hx
  have z1 := words_nil p1
  have hbl := fun L h0 h => bits_list (N := num xs) (L := L) h0 h
  have dg := Dg_words (num xs)
  go_enter Try.func15, Try.ntmps15
  go_wp2_with fail
  refine (trim_any hr1 hx hm).mono ?_
  rintro e w' ⟨rfl, r, _, l, rfl⟩
  have h1 := r.1
  clear hr1 r
  generalize words (num xs) = ps at *
  by_cases hz : ps.length = 0
  · have HE : Hid (0 = bitsN (num xs)) := by show _ = _; rw [z1.mp hz]; rfl
    have t1 : ((ps.length : Int) == 0) = true := by simp [hz]
    generalize ps.length = L at *
    clear z1 h1 hz hbl dg
    go_wp2
    go_ret
    exact ⟨ret_i HE.out, rfl⟩
  · obtain ⟨k, hk⟩ : ∃ k, ps.length = k + 1 := ⟨ps.length - 1, by omega⟩
    have A0 : 0 < num xs := by
      have : num xs ≠ 0 := fun h => hz (z1.mpr h)
      omega
    obtain ⟨g1, g2⟩ := hbl k A0 hk
    have gx := dg.getAnyB k
    have HE : Hid ((k : Int) * 64 + lenW (ps.getD k 0) = bitsN (num xs)) := g2.symm
    rw [hk] at h1 l ⊢
    obtain ⟨b, off, rfl, hb, hc⟩ := h1.at (by omega)
    have hcx := hc k (by omega)
    generalize ps.getD k 0 = x at *
    have hlen := fun w => len_any (x := x) gx w
    have bd := lenW_bd (x := x) gx
    generalize lenW x = y at *
    obtain ⟨bd0, bd1⟩ := bd
    have hk2 : k ≤ 4000000 := by omega
    clear z1 h1 hz hbl dg hc g2 gx hk A0 g1
    go_wp2_with (go_at_call 67; refine (hlen _).mono ?_; rintro e w' ⟨rfl, rfl⟩)
    go_ret
    exact ⟨ret_i HE.out, rfl⟩

theorem natBits_any {a : Option Addr} {m c1 : Nat} {xs : List Int} {w : World} (hr1 : RowC w a m c1 xs) (hx : Ws xs) (hm : m ≤ 4000000) :
    Calls Try.prog 15 #[.slice a m c1] w fun e w' => e = .returned (.int .i64 (bitsN (num xs))) ∧ Below w.heap.size w w' :=
  (bits0_any hr1 hx hm).mono fun _ _ h => ⟨h.1, h.2 ▸ Below.refl _ _⟩

theorem zeros0_any {a : Option Addr} {m c1 : Nat} {xs : List Int} {w : World} (hr1 : RowC w a m c1 xs) (hx : Ws xs) (hm : m ≤ 4000000) :
    Calls Try.prog 19 #[.slice a m c1] w fun e w' => e = .returned (.int .i64 (zerosN (num xs))) ∧ w = w' := by
  have h1 := hr1.1
  have hl := h1.1
  clear hr1
  have HL : Hid (xs.length = m) := hl
  clear hl
  go_enter Try.func19, Try.ntmps19
  go_wp2
  go_loop [3, 4, 7] (fun _ _ i => ∃ k : Nat, i = .int .i64 k ∧ k ≤ m ∧ Hid (num (xs.take k) = 0)) (fun _ _ i => m - (intOf i).toNat)
  case atStart => exact ⟨0, rfl, by omega, (by simp [num, val] : num (xs.take 0) = 0)⟩
  case round =>
    obtain ⟨i, rfl, hi, hz⟩ := hrel
    by_cases hlt : i < m
    · obtain ⟨b, off, rfl, hb, hc⟩ := h1.at (by omega)
      have hcx := hc i hlt
      have gx := hx.getAnyB i
      have hlt' : i < xs.length := by rw [HL.out]; exact hlt
      have hsk := zeros_skip hlt' hz.out
      have hen := fun k m hk e => zeros_word (k := k) (m := m) hx hlt' hz.out hk e
      have hpos := fun h0 => zerosW_pos (x := xs.getD i 0) gx h0
      have bd := zerosW_bd (x := xs.getD i 0) gx
      generalize xs.getD i 0 = x at *
      by_cases h0 : x = 0
      · have t1 : (x != 0) = false := by simp [h0]
        have HS : Hid (num (xs.take (i + 1)) = 0) := hsk h0
        clear hc h1 hsk hen hz h0 hlt' hpos bd gx
        go_wp2
        go_round
        case rel => exact ⟨i + 1, by go_num, by omega, HS⟩
        case measure => simp [intOf]; omega
      · have t1 : (x != 0) = true := by simp [h0]
        obtain ⟨k, q, hk, hzk, hxe, _⟩ := hpos h0
        have HE : Hid ((i : Int) * 64 + zerosW x = zerosN (num xs)) := by
          show _ = _
          rw [hen k q hk hxe, hzk]; omega
        have hze := fun w => zeros_any (x := x) gx w
        obtain ⟨bd0, bd1⟩ := bd
        clear hc h1 hsk hen hz h0 hlt' hpos hzk hxe gx
        generalize zerosW x = y at *
        go_wp2_with (go_at_call 68; refine (hze _).mono ?_; rintro e w' ⟨_, rfl, rfl, rfl⟩)
        go_ret
        exact ⟨ret_i HE.out, rfl⟩
    · have HE : Hid (0 = zerosN (num xs)) := by
        show _ = _
        have h := hz.out
        rw [List.take_of_length_le (by rw [HL.out]; omega)] at h
        rw [h, zerosN_zero]
      clear h1 hz
      go_wp2
      go_ret
      exact ⟨ret_i HE.out, rfl⟩

theorem natZeros_any {a : Option Addr} {m c1 : Nat} {xs : List Int} {w : World} (hr1 : RowC w a m c1 xs) (hx : Ws xs) (hm : m ≤ 4000000) :
    Calls Try.prog 19 #[.slice a m c1] w fun e w' => e = .returned (.int .i64 (zerosN (num xs))) ∧ Below w.heap.size w w' :=
  (zeros0_any hr1 hx hm).mono fun _ _ h => ⟨h.1, h.2 ▸ Below.refl _ _⟩

theorem natBit_any {a : Option Addr} {m c1 : Nat} {xs : List Int} {w : World} (hr1 : RowC w a m c1 xs) (hx : Ws xs) (hm : m ≤ 4000000) (n : Int) (hn9 : n ≤ 9223372036854775807) :
    Calls Try.prog 17 #[.slice a m c1, .int .i64 n] w fun e w' => e = .returned (.int .i64 (bitN (num xs) n)) ∧ Below w.heap.size w w' := by
  have h1 := hr1.1
  have hl := h1.1
  have HL : Hid (xs.length = m) := hl
  clear hr1 hl
  by_cases hneg : n < 0
  · have HE : Hid (0 = bitN (num xs) n) := by show _ = _; unfold bitN; rw [if_pos hneg]
    go_enter Try.func17, Try.ntmps17
    go_wp2
    go_ret
    exact ⟨ret_i HE.out, Below.refl _ _⟩
  · obtain ⟨t, rfl⟩ : ∃ t : Nat, n = (t : Int) := ⟨n.toNat, by omega⟩
    have HB : Hid (bitN (num xs) (t : Int) = num xs / 2 ^ t % 2) := by show _ = _; unfold bitN; rw [if_neg hneg]; simp
    clear hneg
    by_cases hlt : t / 64 < m
    · obtain ⟨b, off, rfl, hb, hc⟩ := h1.at (by omega)
      have hcx := hc (t / 64) hlt
      have gx := hx.getAnyB (t / 64)
      have hbi := word_bit (t := t) hx (by rw [HL.out]; exact hlt)
      generalize xs.getD (t / 64) 0 = x at *
      have HI : Hid (num xs / 2 ^ t % 2 = x / 2 ^ (t % 64) % 2) := hbi
      have hu : U (x / 2 ^ (t % 64)) := U_div_pow (x := x) gx _
      have HE : Hid (wrap64 (bits .and .u64 (x / 2 ^ (t % 64)) 1) = bitN (num xs) (t : Int)) := by
        show _ = _
        rw [HB.out, HI.out, and_one hu]
        unfold wrap64
        omega
      clear hc h1 hbi gx hu
      go_enter Try.func17, Try.ntmps17
      go_wp2
      go_ret
      exact ⟨ret_i HE.out, Below.refl _ _⟩
    · have HE : Hid (0 = bitN (num xs) (t : Int)) := by show _ = _; rw [HB.out, word_bit_out hx (by rw [HL.out]; omega)]; rfl
      clear h1
      go_enter Try.func17, Try.ntmps17
      go_wp2
      go_ret
      exact ⟨ret_i HE.out, Below.refl _ _⟩
end Go.Proofs.Ytbdljmboilapeab
