/- Layer 13: the walk of ExpandRises. -/
import Derived.Test.YtceecgklgkiffaaGreatDoorExpJ
namespace Go.Proofs.YtceecgklgkiffaaGreatDoor
open Go.ChangeShapes Go.WideShapes Go.ChangeAt Go.RowKit
open Na Ar Ep
set_option linter.unusedVariables false
namespace Ep
theorem szA_mono {a b : Int} (ha : U a) (hb : U b) (fa : ef a ≠ 2047) (fb : ef b ≠ 2047) (h : mg a ≤ mg b) : szA a ≤ szA b := by
  have := num_ord ha hb fa fb
  unfold szA
  rcases Int.lt_or_eq_of_le h with q | q
  · have := this.1 q
    omega
  · have := this.2 q
    omega
theorem fxR_mono {A B n : Nat} (h : A ≤ B) : fxR A n ≤ fxR B n := rq_mono dT_pos (Nat.mul_le_mul_right _ h)
theorem mok_lt {R n M : Nat} (h : Mok R n M) : R < 10 ^ M ∧ n + 1 ≤ M := by
  rcases h with ⟨rfl, h⟩ | ⟨h1, h2, h3⟩
  · exact ⟨h, Nat.le_refl _⟩
  · exact ⟨h3, by omega⟩
theorem ordN_le {A B : Nat} (h : A ≤ B) : ∃ K, ordN (A : Int) (B : Int) = K ∧ -1 ≤ K ∧ K ≤ 0 := by
  refine ⟨_, rfl, ?_⟩
  unfold ordN
  split
  · omega
  · split <;> omega
end Ep
/-- Fixed, of a pattern without its sign: the digits that are left of its text -/
theorem fixed_num13 {b : Int} {n : Nat} (hu : U b) (hf : ef b ≠ 2047) (hn : n ≤ 1100) (w : World) :
    Calls Tryz.prog 12 #[.int .u64 b, .int .i64 (n : Int)] w fun e w' => ∃ (s : List UInt8) (M : Nat), e = .returned (.tuple #[.string ⟨s.toArray⟩, .int .i64 0]) ∧ s.length ≤ 10000 ∧ woL s = dg M (fxR (szA b) n) ∧ fxR (szA b) n < 10 ^ M ∧ 1 ≤ M ∧ M ≤ 4000 ∧ Below w.heap.size w w' := by
  refine (fixed_fin hu hf hn w).mono ?_
  rintro e w' ⟨M, hM, hM9, rfl, hb⟩
  obtain ⟨h1, h2⟩ := mok_lt hM
  refine ⟨_, M, rfl, ?_, woL_pt (by omega), h1, by omega, hM9, hb⟩
  rw [List.length_append]
  have a := ptL_len (W := fxR (szA b) n) h2
  have c : (sgL (spS b)).length ≤ 1 := by cases spS b <;> decide
  omega
set_option maxHeartbeats 3200000 in
set_option maxRecDepth 100000 in
theorem rises_walk {a b n0 : Int} (ha : U a) (hb : U b) (i0 : -9223372036854775808 ≤ n0) (i1 : n0 ≤ 9223372036854775807) {w : World} :
    Calls Tryz.prog 3 #[.int .u64 a, .int .u64 b, .int .i64 n0] w fun r w' => r = .returned (.bool true) ∧ Below w.heap.size w w' := by
  obtain ⟨n, hn, hn9⟩ : ∃ n : Nat, (IntKind.u64.wrap n0).tmod 400 = (n : Int) ∧ n < 400 := by
    have h0 : 0 ≤ IntKind.u64.wrap n0 % 400 := Int.emod_nonneg _ (by omega)
    have h1 := Int.emod_lt_of_pos (IntKind.u64.wrap n0) (show (0 : Int) < 400 by omega)
    have h2 : 0 ≤ IntKind.u64.wrap n0 := (U_wrap n0).1
    rw [Int.tmod_eq_emod_of_nonneg h2]
    exact ⟨(IntKind.u64.wrap n0 % 400).toNat, by omega, by omega⟩
  have hA := alive13_any
  have hFa := finite13_any ha
  have hFb := finite13_any hb
  have hSa := size13_any ha
  have hSb := size13_any hb
  have z0 : (n : Int) < 400 := by omega
  go_enter Tryz.func3, Tryz.ntmps3
  go_wp2_with fail
  refine (hA w).mono ?_
  rintro e w1 ⟨rfl, hb1⟩
  by_cases fa : ef a = 2047
  · have da : decide (ef a ≠ 2047) = false := by simp [fa]
    rw [da] at hFa
    go_wp2_with fail
    refine (hFa w1).mono ?_
    rintro e w2 ⟨rfl, rfl⟩
    go_wp2_with fail
    refine (hA _).mono ?_
    rintro e w3 ⟨rfl, hb3⟩
    have hB3 := hb1.trans (hb3.mono hb1.size)
    go_wp2
    go_ret
    exact ⟨rfl, hB3⟩
  · have da : decide (ef a ≠ 2047) = true := by simp [fa]
    rw [da] at hFa
    by_cases fb : ef b = 2047
    · have db : decide (ef b ≠ 2047) = false := by simp [fb]
      rw [db] at hFb
      go_wp2_with fail
      refine (hFa w1).mono ?_
      rintro e w2 ⟨rfl, rfl⟩
      go_wp2_with fail
      refine (hFb w2).mono ?_
      rintro e w3 ⟨rfl, rfl⟩
      go_wp2_with fail
      refine (hA _).mono ?_
      rintro e w4 ⟨rfl, hb3⟩
      have hB3 := hb1.trans (hb3.mono hb1.size)
      go_wp2
      go_ret
      exact ⟨rfl, hB3⟩
    · have db : decide (ef b ≠ 2047) = true := by simp [fb]
      rw [db] at hFb
      go_wp2_with fail
      refine (hFa w1).mono ?_
      rintro e w2 ⟨rfl, rfl⟩
      go_wp2_with fail
      refine (hFb w2).mono ?_
      rintro e w3 ⟨rfl, rfl⟩
      go_wp2_with fail
      refine (hSa w3).mono ?_
      rintro e w4 ⟨rfl, rfl⟩
      go_wp2_with fail
      refine (hSb w4).mono ?_
      rintro e w5 ⟨rfl, rfl⟩
      have ua := Ar.U_mg a
      have ub := Ar.U_mg b
      have ma := ef_mg a
      have mb := ef_mg b
      rw [← ma] at fa
      rw [← mb] at fb
      have hKey : ∀ p q : Int, U p → U q → ef p ≠ 2047 → ef q ≠ 2047 → mg p ≤ mg q → fxR (szA p) n ≤ fxR (szA q) n := fun p q h1 h2 h3 h4 h5 => fxR_mono (szA_mono h1 h2 h3 h4 h5)
      have mma : mg (mg a) = mg a := by unfold mg; omega
      have mmb : mg (mg b) = mg b := by unfold mg; omega
      clear hFa hFb hSa hSb hA da db ma mb
      by_cases hlt : mg b < mg a
      · have hle := hKey (mg b) (mg a) ub ua fb fa (by omega)
        have hXa := fixed_num13 ub fb (n := n) (by omega)
        have hXb := fixed_num13 ua fa (n := n) (by omega)
        generalize fxR (szA (mg b)) n = R1 at *
        generalize fxR (szA (mg a)) n = R2 at *
        clear hKey mma mmb fa fb ua ub
        generalize mg a = ma at *
        generalize mg b = mb at *
        go_wp2_with fail
        refine (hXa _).mono ?_
        rintro e w6 ⟨s1, M1, rfl, l1, o1, r1, m1, m1', hb6⟩
        have hB6 := hb1.trans (hb6.mono hb1.size)
        have hW1 := fun w => without13_any (l := s1) (by omega) w
        rw [o1] at hW1
        have hP1 := fun w => parse13_any m1 m1' r1 w
        generalize dg M1 R1 = D1 at *
        clear hXa hb6 o1 r1
        go_wp2_with fail
        refine (hXb _).mono ?_
        rintro e w7 ⟨s2, M2, rfl, l2, o2, r2, m2, m2', hb7⟩
        have hB7 := hB6.trans (hb7.mono hB6.size)
        have hW2 := fun w => without13_any (l := s2) (by omega) w
        rw [o2] at hW2
        have hP2 := fun w => parse13_any m2 m2' r2 w
        generalize dg M2 R2 = D2 at *
        clear hXb hb7 o2 r2 hB6
        go_wp2_with fail
        refine (hW1 _).mono ?_
        rintro e w8 ⟨rfl, hb8⟩
        have hB8 := hB7.trans (hb8.mono hB7.size)
        clear hW1 hb8 hB7
        go_wp2_with fail
        refine (hP1 _).mono ?_
        rintro e w9 ⟨a9, n9, c9, ls9, rfl, x9, ⟨y9, _⟩, hb9⟩
        have hB9 := hB8.trans (hb9.mono hB8.size)
        clear hP1 hb9 hB8
        go_wp2_with fail
        refine (hW2 _).mono ?_
        rintro e w10 ⟨rfl, hb10⟩
        have hB10 := hB9.trans (hb10.mono hB9.size)
        have x10 := x9.later hb10
        clear hW2 hb10 hB9 x9
        go_wp2_with fail
        refine (hP2 _).mono ?_
        rintro e w11 ⟨a11, n11, c11, ls11, rfl, x11, ⟨y11, _⟩, hb11⟩
        have hB11 := hB10.trans (hb11.mono hB10.size)
        have x12 := x10.later hb11
        obtain ⟨K, hK, hK1, hK2⟩ := ordN_le hle
        have hC := cmpK x12 x11 y9 y11 hK
        clear hP2 hb11 hB10 x10 x12 x11 y9 y11 hK
        go_wp2_with (refine hC.mono ?_; rintro e w12 ⟨rfl, hb12⟩; have hB12 := hB11.trans (hb12.mono hB11.size))
        go_ret
        exact ⟨rfl, hB12⟩
      · have hle := hKey (mg a) (mg b) ua ub fa fb (by omega)
        have hXa := fixed_num13 ua fa (n := n) (by omega)
        have hXb := fixed_num13 ub fb (n := n) (by omega)
        generalize fxR (szA (mg a)) n = R1 at *
        generalize fxR (szA (mg b)) n = R2 at *
        clear hKey mma mmb fa fb ua ub
        generalize mg a = ma at *
        generalize mg b = mb at *
        go_wp2_with fail
        refine (hXa _).mono ?_
        rintro e w6 ⟨s1, M1, rfl, l1, o1, r1, m1, m1', hb6⟩
        have hB6 := hb1.trans (hb6.mono hb1.size)
        have hW1 := fun w => without13_any (l := s1) (by omega) w
        rw [o1] at hW1
        have hP1 := fun w => parse13_any m1 m1' r1 w
        generalize dg M1 R1 = D1 at *
        clear hXa hb6 o1 r1
        go_wp2_with fail
        refine (hXb _).mono ?_
        rintro e w7 ⟨s2, M2, rfl, l2, o2, r2, m2, m2', hb7⟩
        have hB7 := hB6.trans (hb7.mono hB6.size)
        have hW2 := fun w => without13_any (l := s2) (by omega) w
        rw [o2] at hW2
        have hP2 := fun w => parse13_any m2 m2' r2 w
        generalize dg M2 R2 = D2 at *
        clear hXb hb7 o2 r2 hB6
        go_wp2_with fail
        refine (hW1 _).mono ?_
        rintro e w8 ⟨rfl, hb8⟩
        have hB8 := hB7.trans (hb8.mono hB7.size)
        clear hW1 hb8 hB7
        go_wp2_with fail
        refine (hP1 _).mono ?_
        rintro e w9 ⟨a9, n9, c9, ls9, rfl, x9, ⟨y9, _⟩, hb9⟩
        have hB9 := hB8.trans (hb9.mono hB8.size)
        clear hP1 hb9 hB8
        go_wp2_with fail
        refine (hW2 _).mono ?_
        rintro e w10 ⟨rfl, hb10⟩
        have hB10 := hB9.trans (hb10.mono hB9.size)
        have x10 := x9.later hb10
        clear hW2 hb10 hB9 x9
        go_wp2_with fail
        refine (hP2 _).mono ?_
        rintro e w11 ⟨a11, n11, c11, ls11, rfl, x11, ⟨y11, _⟩, hb11⟩
        have hB11 := hB10.trans (hb11.mono hB10.size)
        have x12 := x10.later hb11
        obtain ⟨K, hK, hK1, hK2⟩ := ordN_le hle
        have hC := cmpK x12 x11 y9 y11 hK
        clear hP2 hb11 hB10 x10 x12 x11 y9 y11 hK
        go_wp2_with (refine hC.mono ?_; rintro e w12 ⟨rfl, hb12⟩; have hB12 := hB11.trans (hb12.mono hB11.size))
        go_ret
        exact ⟨rfl, hB12⟩
end Go.Proofs.YtceecgklgkiffaaGreatDoor
