/- package nat: Shr. -/
import Derived.Test.YtbdljmboilapeabNatShl
namespace Go.Proofs.Ytbdljmboilapeab
open Go.ChangeShapes Go.WideShapes Go.ChangeAt Go.RowKit
open Na Ar
set_option linter.unusedVariables false

set_option maxHeartbeats 3200000 in
set_option maxRecDepth 100000 in
theorem natShr_any {a : Option Addr} {m c1 : Nat} {xs : List Int} {w : World} (hr1 : RowC w a m c1 xs) (hx : Ws xs) (hm : m ≤ 4000000) (n : Int) (hn9 : n ≤ 9223372036854775807) :
    Calls Try.prog 12 #[.slice a m c1, .int .i64 n] w fun e w' => ∃ v, e = .returned (.tuple #[v, .bool (shrB (num xs) n), .int .i64 (shrE (num xs) n)]) ∧ Own .u64 w' w.heap.size 47 v (shrL (num xs) n) ∧ Below w.heap.size w w' := by
  by_cases hneg : n < 0
  · have E1 : Hid (shrE (num xs) n = 22) := by show _ = _; unfold shrE; rw [if_pos hneg]
    have E2 : Hid (shrL (num xs) n = []) := by show _ = _; unfold shrL; rw [if_pos hneg]
    have E3 : Hid (shrB (num xs) n = false) := by show _ = _; unfold shrB; rw [if_pos hneg]
    go_enter Try.func12, Try.ntmps12
    go_wp2
    go_ret3
    exact ⟨_, ret_vbi E3.out.symm E1.out.symm, by rw [E2.out]; exact own_nil _ _ _ _, Below.refl _ _⟩
  · obtain ⟨t, rfl⟩ : ∃ t : Nat, n = (t : Int) := ⟨n.toNat, by omega⟩
    have E1 : Hid (shrE (num xs) (t : Int) = resE (num xs / 2 ^ t)) := by show _ = _; unfold shrE; rw [if_neg hneg]; simp
    have E2 : Hid (shrL (num xs) (t : Int) = resL (num xs / 2 ^ t)) := by show _ = _; unfold shrL; rw [if_neg hneg]; simp
    have E3 : Hid (shrB (num xs) (t : Int) = if resE (num xs / 2 ^ t) = 0 then decide (num xs % 2 ^ t ≠ 0) else false) := by show _ = _; unfold shrB; rw [if_neg hneg]; simp
    have p1 := num_nonneg hx
    have hbit := bits0_any hr1 hx hm
    have l1 := hr1.1.1
    have hble := bits_le (N := num xs) (k := xs.length) p1 (num_bd hx)
    have hbn := bits_nonneg (num xs)
    obtain ⟨q, hq⟩ : ∃ q : Nat, bitsN (num xs) = (q : Int) := ⟨(bitsN (num xs)).toNat, by omega⟩
    rw [hq] at hbit hble
    have hq9 : q ≤ 256000000 := by omega
    have hqz : q = 0 ↔ num xs = 0 := by
      constructor
      · intro h
        by_cases g : num xs = 0
        · exact g
        · obtain ⟨b, hb, _, _⟩ := bits_some (N := num xs) (by omega)
          omega
      · intro h; rw [h, bits_none] at hq; omega
    clear hneg hbn
    by_cases hle : q ≤ t
    · have hlt : num xs < 2 ^ t := by
        by_cases g : num xs = 0
        · rw [g]; exact p2pos t
        · obtain ⟨b, hb, _, h2⟩ := bits_some (N := num xs) (by omega)
          have := p2mono (show b + 1 ≤ t by omega)
          omega
      have o1 : num xs / 2 ^ t = 0 := Int.ediv_eq_zero_of_lt p1 hlt
      have o2 : num xs % 2 ^ t = num xs := Int.emod_eq_of_lt p1 hlt
      have E := res_zero o1
      have F2 : Hid (shrL (num xs) (t : Int) = []) := by show _ = _; rw [E2.out]; exact E.1
      have F1 : Hid (0 = shrE (num xs) (t : Int)) := by show _ = _; rw [E1.out]; exact E.2.symm
      have F3 : Hid (((q : Int) != 0) = shrB (num xs) (t : Int)) := by
        show _ = _
        rw [E3.out, E.2, if_pos rfl, o2, Bool.eq_iff_iff]
        simp
        omega
      clear E o1 o2 hlt hqz hq p1 hble l1 hr1 E1 E2 E3
      go_enter Try.func12, Try.ntmps12
      go_wp2_with fail
      refine hbit.mono ?_
      rintro e w' ⟨rfl, rfl⟩
      go_wp2
      go_ret3
      exact ⟨_, ret_vbi F3.out F1.out, by rw [F2.out]; exact own_nil _ _ _ _, Below.refl _ _⟩
    · have hA : 0 < num xs := by
        have : num xs ≠ 0 := fun h => by have := hqz.mpr h; omega
        omega
      obtain ⟨b, hb, a1, a2⟩ := bits_some hA
      have hsb := shr_bits (t := t) a1 a2 (by omega)
      have hwl := words_bits hsb.1 hsb.2
      by_cases hbig : 262144 < (q : Int) - (t : Int)
      · have E := res_huge (N := num xs / 2 ^ t) (by omega)
        have F2 : Hid (shrL (num xs) (t : Int) = []) := by show _ = _; rw [E2.out]; exact E.1
        have F1 : Hid (21 = shrE (num xs) (t : Int)) := by show _ = _; rw [E1.out]; exact E.2.symm
        have F3 : Hid (false = shrB (num xs) (t : Int)) := by
          show _ = _
          rw [E3.out, E.2, if_neg (by omega)]
        clear E hqz hq p1 hble l1 hr1 E1 E2 E3 hwl hsb a1 a2 hb hA
        go_enter Try.func12, Try.ntmps12
        go_wp2_with fail
        refine hbit.mono ?_
        rintro e w' ⟨rfl, rfl⟩
        go_wp2
        go_ret3
        exact ⟨_, ret_vbi F3.out F1.out, by rw [F2.out]; exact own_nil _ _ _ _, Below.refl _ _⟩
      · have E := res_fits (N := num xs / 2 ^ t) (by omega)
        have F2 : Hid (shrL (num xs) (t : Int) = words (num xs / 2 ^ t)) := by show _ = _; rw [E2.out]; exact E.1
        have F1 : Hid (0 = shrE (num xs) (t : Int)) := by show _ = _; rw [E1.out]; exact E.2.symm
        have F3 : Hid (decide (zerosN (num xs) < (t : Int)) = shrB (num xs) (t : Int)) := by
          show _ = _
          rw [E3.out, E.2, if_pos rfl, zeros_lost hA]
        have hdn := down_any hr1 hx hm t (by omega)
        have hzer := fun (w1 : World) (h : Below w.heap.size w w1) => zeros0_any (hr1.later h) hx hm
        have hqt : (t : Int) < (q : Int) := by omega
        clear E hqz hq p1 hble l1 hr1 E1 E2 E3 hwl hsb a1 a2 hb hA hle
        go_enter Try.func12, Try.ntmps12
        go_wp2_with fail
        refine hbit.mono ?_
        rintro e w' ⟨rfl, rfl⟩
        clear hbit
        go_wp2_with fail
        refine hdn.mono ?_
        rintro e w3 ⟨v, rfl, hcut, hb3⟩
        have hz3 := hzer w3 hb3
        clear hdn hzer
        go_wp2_with fail
        refine hz3.mono ?_
        rintro e w' ⟨rfl, rfl⟩
        clear hz3
        go_wp2
        go_ret3
        exact ⟨_, ret_vbi F3.out F1.out, by rw [F2.out]; exact hcut, hb3⟩
end Go.Proofs.Ytbdljmboilapeab
