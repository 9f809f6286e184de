/- Layer 13: the walk of ExpandCuts. -/
import Derived.Test.YtceecgklgkiffabGreatDoorExpU
import Derived.Test.YtceecgklgkiffabGreatDoorExpM
namespace Go.Proofs.YtceecgklgkiffabGreatDoor
open Go.ChangeShapes Go.WideShapes Go.ChangeAt Go.RowKit
open Na Ar Ep
set_option linter.unusedVariables false
theorem parse13_zero {m : Nat} (hm : 1 ≤ m) (hm9 : m ≤ 4000) (w : World) :
    Calls Tryz.prog 9 #[.string ⟨(dg m 0).toArray⟩, .int .i64 10] w fun e w' => ∃ a c, e = .returned (.tuple #[.slice a 0 c, .nilIface]) ∧ Below w.heap.size w w' := by
  have hX : 0 < 10 ^ m := Nat.pow_pos (by omega)
  have hs : (⟨(dg m 0).toArray⟩ : ByteArray).size = m := by rw [Lib.size_eq]; exact dg_len m 0
  have hd : ∀ i, i < (⟨(dg m 0).toArray⟩ : ByteArray).size → dgt ⟨(dg m 0).toArray⟩ i < 10 := fun i hi => by
    rw [hs] at hi
    rw [dgt_dg hi]
    have := Nat.mod_lt (0 / 10 ^ (m - 1 - i)) (show 0 < 10 by omega)
    omega
  have hp := parse_good ⟨(dg m 0).toArray⟩ 10 (by omega) (by omega) (by omega) (by omega) hd w
  have hn := numB_dg (m := m) (X := 0) m (Nat.le_refl _) hX
  rw [Nat.sub_self, Nat.pow_zero, Nat.div_one] at hn
  rw [hs, hn] at hp
  have z : words ((0 : Nat) : Int) = [] := dig_zero _
  refine hp.mono ?_
  rintro e w' (⟨_, v, rfl, ho, hb⟩ | ⟨h, _⟩)
  · rw [z] at ho
    obtain ⟨a, c, rfl, hr⟩ := ho.readsC
    exact ⟨a, c, rfl, hb⟩
  · rw [z] at h
    simp at h
set_option maxHeartbeats 6400000 in
set_option maxRecDepth 100000 in
theorem cuts_inf {b n0 : Int} (hu : U b) (i0 : -9223372036854775808 ≤ n0) (i1 : n0 ≤ 9223372036854775807) {w : World} (hf : ef b = 2047) :
    Calls Tryz.prog 3 #[.int .u64 b, .int .i64 n0] w fun r w' => r = .returned (.bool true) ∧ Below w.heap.size w w' := by
  obtain ⟨n, hn, hn1, hn9⟩ : ∃ n : Nat, (IntKind.u64.wrap n0).tmod 1100 = (n : Int) - 1 ∧ 1 ≤ n ∧ n ≤ 1100 := by
    have h0 : 0 ≤ IntKind.u64.wrap n0 % 1100 := Int.emod_nonneg _ (by omega)
    have h1 := Int.emod_lt_of_pos (IntKind.u64.wrap n0) (show (0 : Int) < 1100 by omega)
    have h2 : 0 ≤ IntKind.u64.wrap n0 := (U_wrap n0).1
    rw [Int.tmod_eq_emod_of_nonneg h2]
    exact ⟨(IntKind.u64.wrap n0 % 1100).toNat + 1, by omega, by omega, by omega⟩
  have hA := alive13_any
  have hF := finite13_any hu
  have z0 : (n : Int) ≤ 1100 := by omega
  have z1 : (1 : Int) ≤ n := by omega
  have z2 : 1 + ((n : Int) - 1) = (n : Int) := by omega
  have hX := fun w => precise_inf hu hf (n := n) hn1 hn9 w
  have da : decide (ef b ≠ 2047) = false := by simp [hf]
  rw [da] at hF
  go_enter Tryz.func3, Tryz.ntmps3
  go_wp2_with fail
  refine (hX w).mono ?_
  rintro e w1 ⟨rfl, hb1⟩
  go_wp2_with fail
  refine (hA w1).mono ?_
  rintro e w2 ⟨rfl, hb2⟩
  have hB2 := hb1.trans (hb2.mono hb1.size)
  go_wp2_with fail
  refine (hF w2).mono ?_
  rintro e w3 ⟨rfl, rfl⟩
  go_wp2_with fail
  refine (hA _).mono ?_
  rintro e w4 ⟨rfl, hb4⟩
  have hB4 := hB2.trans (hb4.mono hB2.size)
  go_wp2
  go_ret
  exact ⟨rfl, hB4⟩
set_option maxHeartbeats 6400000 in
set_option maxRecDepth 100000 in
theorem cuts_zero {b n0 : Int} (hu : U b) (i0 : -9223372036854775808 ≤ n0) (i1 : n0 ≤ 9223372036854775807) {w : World} (hf : ef b ≠ 2047) (hA0 : szA b = 0) :
    Calls Tryz.prog 3 #[.int .u64 b, .int .i64 n0] w fun r w' => r = .returned (.bool true) ∧ Below w.heap.size w w' := by
  obtain ⟨n, hn, hn1, hn9⟩ : ∃ n : Nat, (IntKind.u64.wrap n0).tmod 1100 = (n : Int) - 1 ∧ 1 ≤ n ∧ n ≤ 1100 := by
    have h0 : 0 ≤ IntKind.u64.wrap n0 % 1100 := Int.emod_nonneg _ (by omega)
    have h1 := Int.emod_lt_of_pos (IntKind.u64.wrap n0) (show (0 : Int) < 1100 by omega)
    have h2 : 0 ≤ IntKind.u64.wrap n0 := (U_wrap n0).1
    rw [Int.tmod_eq_emod_of_nonneg h2]
    exact ⟨(IntKind.u64.wrap n0 % 1100).toNat + 1, by omega, by omega, by omega⟩
  have hA := alive13_any
  have hF := finite13_any hu
  have z0 : (n : Int) ≤ 1100 := by omega
  have z1 : (1 : Int) ≤ n := by omega
  have z2 : 1 + ((n : Int) - 1) = (n : Int) := by omega
  have hX := fun w => precise_fin hu hf (n := n) hn1 hn9 w
  have hDg := fun w => digits_fin hu hf w
  have da : decide (ef b ≠ 2047) = true := by simp [hf]
  rw [da] at hF
  have hs0 : (⟨(dg 1 0).toArray⟩ : ByteArray) = ⟨#[48]⟩ := rfl
  have hPs := fun w => parse13_zero hn1 (by omega) w
  have hsz : (⟨(dg n 0).toArray⟩ : ByteArray).size = n := by rw [Lib.size_eq]; exact dg_len n 0
  have hX2 : ∀ w, Calls Tryz.prog 5 #[.int .u64 b, .int .i64 (n : Int)] w fun e w' => e = .returned (.tuple #[.string ⟨(dg n 0).toArray⟩, .int .i64 0, .int .i64 0]) ∧ Below w.heap.size w w' := fun w => by
    refine (hX w).mono ?_
    rintro e w' ⟨D, X, h1, _, rfl, hb⟩
    obtain ⟨rfl, rfl⟩ := pz_uniq h1 (Or.inl ⟨hA0, rfl, rfl⟩)
    exact ⟨rfl, hb⟩
  have hD2 : ∀ w, Calls Tryz.prog 8 #[.int .u64 b] w fun e w' => e = .returned (.tuple #[.string ⟨#[48]⟩, .int .i64 0, .int .i64 0]) ∧ Below w.heap.size w w' := fun w => by
    refine (hDg w).mono ?_
    rintro e w' ⟨N, L, x, rfl, h1, _, hb⟩
    obtain ⟨rfl, rfl, rfl⟩ := dz_uniq h1 (Or.inl ⟨hA0, rfl, rfl, rfl⟩)
    exact ⟨rfl, hb⟩
  generalize (⟨(dg n 0).toArray⟩ : ByteArray) = s at *
  clear hX hDg hs0 da hf hA0
  go_enter Tryz.func3, Tryz.ntmps3
  go_wp2_with fail
  refine (hX2 w).mono ?_
  rintro e w1 ⟨rfl, hb1⟩
  go_wp2_with fail
  refine (hA w1).mono ?_
  rintro e w2 ⟨rfl, hb2⟩
  have hB2 := hb1.trans (hb2.mono hb1.size)
  go_wp2_with fail
  refine (hF w2).mono ?_
  rintro e w3 ⟨rfl, rfl⟩
  go_wp2_with fail
  refine (hD2 _).mono ?_
  rintro e w4 ⟨rfl, hb4⟩
  have hB4 := hB2.trans (hb4.mono hB2.size)
  go_wp2_with fail
  refine (hPs _).mono ?_
  rintro e w5 ⟨a5, c5, rfl, hb5⟩
  have hB5 := hB4.trans (hb5.mono hB4.size)
  go_wp2
  go_ret
  exact ⟨rfl, hB5⟩
end Go.Proofs.YtceecgklgkiffabGreatDoor
