/- FtoaRefuses. -/
import Derived.Test.YtjnmgjcmagnkeaaGreatDoorFtoF
import Derived.Test.YtjnmgjcmagnkeaaGreatDoorFtoP
import Derived.Test.YtjnmgjcmagnkeaaGreatDoorFtoL
namespace Go.Proofs.YtjnmgjcmagnkeaaGreatDoor
open Go.ChangeShapes Go.WideShapes Go.ChangeAt Go.RowKit
open Na Ar Ry Ft Lx Go.Shelf
set_option linter.unusedVariables false
namespace Ft
theorem or_inf {b : Int} (h : U b) : ef (bits .or .u64 b 9218868437227405312) = 2047 ∧ U (bits .or .u64 b 9218868437227405312) := by
  have hu := U_bits_or h (show U 9218868437227405312 by unfold U; omega)
  refine ⟨?_, hu⟩
  unfold U at h
  rw [u64_or b _ h.1 h.2 (by omega) (by omega)] at *
  have e : (9218868437227405312 : Int).toNat = 2047 * 2 ^ 52 := by decide
  rw [e] at *
  have t : ((b.toNat ||| 2047 * 2 ^ 52) / 2 ^ 52) % 2 ^ 11 = 2047 := by
    rw [← Nat.shiftRight_eq_div_pow, Nat.shiftRight_or_distrib, Nat.shiftRight_eq_div_pow (2047 * 2 ^ 52), Nat.mul_div_cancel _ (by decide), Nat.or_mod_two_pow]
    have e2 : 2047 % 2 ^ 11 = 2 ^ 11 - 1 := by decide
    rw [e2]
    apply Nat.eq_of_testBit_eq
    intro i
    rw [Nat.testBit_or, Nat.testBit_two_pow_sub_one, Nat.testBit_mod_two_pow]
    cases decide (i < 11) <;> simp
  generalize b.toNat ||| 2047 * 2 ^ 52 = r at *
  unfold ef
  have e4 : (2 : Nat) ^ 52 = 4503599627370496 := by decide
  have e5 : (2 : Nat) ^ 11 = 2048 := by decide
  rw [e4, e5] at t
  omega
theorem plD_ne (e : Int) : plD [49] e ≠ [] := by
  have e1 : lz [49] = [49] := by decide
  have e2 : tz [49] = [49] := by decide
  unfold plD
  rw [e1, if_neg (by simp), e2]
  unfold plT
  split
  · simp
  · split <;> simp
theorem plD_len1 {e : Int} (e0 : -1100 ≤ e) (e1 : e ≤ 1100) : (plD [49] e).length ≤ 20000 := by
  have q1 : lz [49] = [49] := by decide
  have q2 : tz [49] = [49] := by decide
  unfold plD
  rw [q1, if_neg (by simp), q2]
  have := pl_len (d := [49]) (k := ([49] : B).length + e) (by simp; omega) (by simp; omega)
  simp at this ⊢
  omega
theorem row_three (w : World) (x : Int) : RowAt .u64 (w.alloc (.cells #[.int .u64 0, .int .u64 x, .int .u64 0] 22)) (some ⟨w.heap.size, 0, none⟩) 3 [0, x, 0] := by
  refine ⟨rfl, Or.inr ⟨w.heap.size, 0, rfl, by simp, fun i hi => ?_⟩⟩
  rw [World.cell?_alloc_new]
  match i, hi with
  | 0, _ => rfl
  | 1, _ => rfl
  | 2, _ => rfl
theorem row_nil14 (w : World) : RowAt .u64 w none 0 [] := ⟨rfl, Or.inl rfl⟩
end Ft
set_option maxHeartbeats 6400000 in
set_option maxRecDepth 100000 in
theorem refuses_ok_out {b m e : Int} (hb : U b) (hm : m = 1 ∨ m = 2 ∨ m = 3) (he : e < -1100 ∨ 1100 < e) {w : World} (hz : ZeroVar w) (hT : PowTb w) :
    Calls Tryz.prog 5 #[.int .u64 b, .int .i64 m, .int .i64 e] w fun r w' => r = .returned (.bool true) ∧ Below w.heap.size w w' := by
  obtain ⟨fn, un⟩ := or_inf hb
  obtain ⟨uf, ff⟩ := finW_ok hb
  have hF := fun w => finite14_any hb w
  have hA := alive14_any hz hT
  have hH := fun w => hexF14_inf un fn w
  have T1 := fun w => text14_inf (m := m) un fn hm w
  have T2 := fun (w : World) hz hT => text14_fin (m := m) uf ff hm (w := w) hz hT
  have HU : Hid (∀ z ∈ [0, bits .or .u64 b 9218868437227405312, 0], U z) := (by intro z hz; simp only [List.mem_cons, List.mem_nil_iff, or_false] at hz; rcases hz with rfl | rfl | rfl; exact ⟨by omega, by omega⟩; exact un; exact ⟨by omega, by omega⟩)
  have L1 : ∀ w, ZeroVar w → PowTb w → Calls Tryz.prog 14 #[.slice (some ⟨w.heap.size, 0, none⟩) 3 3, .int .i64 m] (w.alloc (.cells #[.int .u64 0, .int .u64 (bits .or .u64 b 9218868437227405312), .int .u64 0] 22)) fun r w' => r = .returned (.tuple #[.string ⟨#[]⟩, .int .i64 60]) ∧ Below w.heap.size w w' := fun w hz hT => by
    have B : Below w.heap.size w (w.alloc (.cells #[.int .u64 0, .int .u64 (bits .or .u64 b 9218868437227405312), .int .u64 0] 22)) := (Below.refl _ w).alloc (Nat.le_refl _) _
    refine (line14_any (c := 3) (row_three w (bits .or .u64 b 9218868437227405312)) (by omega) HU.out hm (hz.later B) (powTb_later hT B)).mono ?_
    rintro r w' ⟨S, E, rfl, hL, hb'⟩
    rcases hL with ⟨h, _, _⟩ | ⟨_, rfl, rfl⟩
    · exact absurd fn (h _ (by simp))
    · exact ⟨rfl, B.trans (hb'.mono B.size)⟩
  have L2 : ∀ w, ZeroVar w → PowTb w → Calls Tryz.prog 14 #[.slice none 0 0, .int .i64 m] w fun r w' => r = .returned (.tuple #[.string ⟨#[]⟩, .int .i64 0]) ∧ Below w.heap.size w w' := fun w hz hT => by
    refine (line14_any (c := 0) (row_nil14 w) (by omega) (fun z hz => by cases hz) hm hz hT).mono ?_
    rintro r w' ⟨S, E, rfl, hL, hb'⟩
    rcases hL with ⟨_, rfl, rfl⟩ | ⟨⟨z, hz, _⟩, _⟩
    · exact ⟨rfl, hb'⟩
    · cases hz
  generalize textT (finW b) m = X at *
  have k1 : 1 ≤ m := by omega
  have k2 : m ≤ 3 := by omega
  have P1 := fun w => plainF_digit (ByteArray.mk #[]) (by decide) (e := e) (by decide) w
  have P2 := fun w => plainF_digit (ByteArray.mk #[49, 32]) (by decide) (e := e) (by decide) w
  have P3 := fun w => plainF_fixed (ByteArray.mk #[49]) (by decide) (e := e) (by decide) he w
  generalize finW b = fb at *
  generalize hnb : bits .or .u64 b 9218868437227405312 = nb at *
  have HZ : Hid (ZeroVar w ∧ PowTb w) := ⟨hz, hT⟩
  have c0 : ByteArray.mk #[] ++ ByteArray.mk #[] = ByteArray.mk #[] := rfl
  clear hz hT uf ff fn un hm HU
  rcases he with he | he
  all_goals
    go_enter Tryz.func5, Tryz.ntmps5
    go_wp2_with fail
    refine hA.mono ?_
    rintro e' w1 ⟨rfl, B1⟩
    clear hA
    go_wp2_with fail
    refine (T1 _).mono ?_
    rintro e' w2 ⟨rfl, hw⟩
    rw [hw]
    clear T1 hw
    have z1 := HZ.out.1.later B1
    have p1 := powTb_later HZ.out.2 B1
    go_wp2_with fail
    refine (L1 _ z1 p1).mono ?_
    rintro e' w3 ⟨rfl, hb⟩
    have B3 := B1.trans (hb.mono B1.size)
    clear L1 z1 p1 hb B1
    go_wp2_with fail
    refine (hH _).mono ?_
    rintro e' w4 ⟨rfl, hw⟩
    rw [hw]
    clear hH hw
    go_wp2_with fail
    refine (hF _).mono ?_
    rintro e' w4 ⟨rfl, hw⟩
    rw [hw]
    clear hF hw
    have z3 := HZ.out.1.later B3
    have p3 := powTb_later HZ.out.2 B3
    go_wp2_with fail
    refine (T2 _ z3 p3).mono ?_
    rintro e' w5 ⟨rfl, hb⟩
    have B5 := B3.trans (hb.mono B3.size)
    clear T2 z3 p3 hb B3
    have z5 := HZ.out.1.later B5
    have p5 := powTb_later HZ.out.2 B5
    go_wp2_with fail
    refine (L2 _ z5 p5).mono ?_
    rintro e' w6 ⟨rfl, hb⟩
    have B6 := B5.trans (hb.mono B5.size)
    clear L2 z5 p5 hb B5
    go_wp2_with fail
    refine (P1 _).mono ?_
    rintro e' w7 ⟨rfl, hw⟩
    rw [hw]
    clear P1 hw
    go_wp2_with fail
    refine (P2 _).mono ?_
    rintro e' w7 ⟨rfl, hw⟩
    rw [hw]
    clear P2 hw
    go_wp2_with fail
    refine (P3 _).mono ?_
    rintro e' w7 ⟨rfl, hw⟩
    rw [hw]
    clear P3 hw
    go_wp2
    go_ret
    exact ⟨rfl, B6⟩
set_option maxHeartbeats 6400000 in
set_option maxRecDepth 100000 in
theorem refuses_ok_in {b m e : Int} (hb : U b) (hm : m = 1 ∨ m = 2 ∨ m = 3) (e0 : -1100 ≤ e) (e1 : e ≤ 1100) {w : World} (hz : ZeroVar w) (hT : PowTb w) :
    Calls Tryz.prog 5 #[.int .u64 b, .int .i64 m, .int .i64 e] w fun r w' => r = .returned (.bool true) ∧ Below w.heap.size w w' := by
  obtain ⟨fn, un⟩ := or_inf hb
  obtain ⟨uf, ff⟩ := finW_ok hb
  have hF := fun w => finite14_any hb w
  have hA := alive14_any hz hT
  have hH := fun w => hexF14_inf un fn w
  have T1 := fun w => text14_inf (m := m) un fn hm w
  have T2 := fun (w : World) hz hT => text14_fin (m := m) uf ff hm (w := w) hz hT
  have HU : Hid (∀ z ∈ [0, bits .or .u64 b 9218868437227405312, 0], U z) := (by intro z hz; simp only [List.mem_cons, List.mem_nil_iff, or_false] at hz; rcases hz with rfl | rfl | rfl; exact ⟨by omega, by omega⟩; exact un; exact ⟨by omega, by omega⟩)
  have L1 : ∀ w, ZeroVar w → PowTb w → Calls Tryz.prog 14 #[.slice (some ⟨w.heap.size, 0, none⟩) 3 3, .int .i64 m] (w.alloc (.cells #[.int .u64 0, .int .u64 (bits .or .u64 b 9218868437227405312), .int .u64 0] 22)) fun r w' => r = .returned (.tuple #[.string ⟨#[]⟩, .int .i64 60]) ∧ Below w.heap.size w w' := fun w hz hT => by
    have B : Below w.heap.size w (w.alloc (.cells #[.int .u64 0, .int .u64 (bits .or .u64 b 9218868437227405312), .int .u64 0] 22)) := (Below.refl _ w).alloc (Nat.le_refl _) _
    refine (line14_any (c := 3) (row_three w (bits .or .u64 b 9218868437227405312)) (by omega) HU.out hm (hz.later B) (powTb_later hT B)).mono ?_
    rintro r w' ⟨S, E, rfl, hL, hb'⟩
    rcases hL with ⟨h, _, _⟩ | ⟨_, rfl, rfl⟩
    · exact absurd fn (h _ (by simp))
    · exact ⟨rfl, B.trans (hb'.mono B.size)⟩
  have L2 : ∀ w, ZeroVar w → PowTb w → Calls Tryz.prog 14 #[.slice none 0 0, .int .i64 m] w fun r w' => r = .returned (.tuple #[.string ⟨#[]⟩, .int .i64 0]) ∧ Below w.heap.size w w' := fun w hz hT => by
    refine (line14_any (c := 0) (row_nil14 w) (by omega) (fun z hz => by cases hz) hm hz hT).mono ?_
    rintro r w' ⟨S, E, rfl, hL, hb'⟩
    rcases hL with ⟨_, rfl, rfl⟩ | ⟨⟨z, hz, _⟩, _⟩
    · exact ⟨rfl, hb'⟩
    · cases hz
  generalize textT (finW b) m = X at *
  have k1 : 1 ≤ m := by omega
  have k2 : m ≤ 3 := by omega
  have P1 := fun w => plainF_digit (ByteArray.mk #[]) (by decide) (e := e) (by decide) w
  have P2 := fun w => plainF_digit (ByteArray.mk #[49, 32]) (by decide) (e := e) (by decide) w
  have P3 : ∀ w, ZeroVar w → _ := fun w hz => plainF_fin (ByteArray.mk #[49]) (by decide) (e := e) (by decide) e0 e1 (w := w) hz.c1
  have pe : (str (plD (ByteArray.mk #[49]).data.toList e)).toList.isEmpty = false := by rw [Lib.toList_data, str_list]; exact isEmpty_ne (plD_ne e)
  generalize plD (ByteArray.mk #[49]).data.toList e = PD at *
  generalize finW b = fb at *
  generalize hnb : bits .or .u64 b 9218868437227405312 = nb at *
  have HZ : Hid (ZeroVar w ∧ PowTb w) := ⟨hz, hT⟩
  have c0 : ByteArray.mk #[] ++ ByteArray.mk #[] = ByteArray.mk #[] := rfl
  clear hz hT uf ff fn un hm HU
  go_enter Tryz.func5, Tryz.ntmps5
  go_wp2_with fail
  refine hA.mono ?_
  rintro e' w1 ⟨rfl, B1⟩
  clear hA
  go_wp2_with fail
  refine (T1 _).mono ?_
  rintro e' w2 ⟨rfl, hw⟩
  rw [hw]
  clear T1 hw
  have z1 := HZ.out.1.later B1
  have p1 := powTb_later HZ.out.2 B1
  go_wp2_with fail
  refine (L1 _ z1 p1).mono ?_
  rintro e' w3 ⟨rfl, hb⟩
  have B3 := B1.trans (hb.mono B1.size)
  clear L1 z1 p1 hb B1
  go_wp2_with fail
  refine (hH _).mono ?_
  rintro e' w4 ⟨rfl, hw⟩
  rw [hw]
  clear hH hw
  go_wp2_with fail
  refine (hF _).mono ?_
  rintro e' w4 ⟨rfl, hw⟩
  rw [hw]
  clear hF hw
  have z3 := HZ.out.1.later B3
  have p3 := powTb_later HZ.out.2 B3
  go_wp2_with fail
  refine (T2 _ z3 p3).mono ?_
  rintro e' w5 ⟨rfl, hb⟩
  have B5 := B3.trans (hb.mono B3.size)
  clear T2 z3 p3 hb B3
  have z5 := HZ.out.1.later B5
  have p5 := powTb_later HZ.out.2 B5
  go_wp2_with fail
  refine (L2 _ z5 p5).mono ?_
  rintro e' w6 ⟨rfl, hb⟩
  have B6 := B5.trans (hb.mono B5.size)
  clear L2 z5 p5 hb B5
  go_wp2_with fail
  refine (P1 _).mono ?_
  rintro e' w7 ⟨rfl, hw⟩
  rw [hw]
  clear P1 hw
  go_wp2_with fail
  refine (P2 _).mono ?_
  rintro e' w7 ⟨rfl, hw⟩
  rw [hw]
  clear P2 hw
  have z6 := HZ.out.1.later (show Below w.heap.size w _ from B6)
  go_wp2_with fail
  refine (P3 _ z6).mono ?_
  rintro e' w7 ⟨rfl, hb⟩
  have B7 := B6.trans (hb.mono B6.size)
  clear P3 hb B6
  go_wp2
  go_ret
  exact ⟨rfl, B7⟩
set_option maxHeartbeats 6400000 in
set_option maxRecDepth 100000 in
theorem refuses_no_out {b m e : Int} (hb : U b) (h1 : m ≠ 1) (h2 : m ≠ 2) (h3 : m ≠ 3) (he : e < -1100 ∨ 1100 < e) {w : World} (hz : ZeroVar w) (hT : PowTb w) :
    Calls Tryz.prog 5 #[.int .u64 b, .int .i64 m, .int .i64 e] w fun r w' => r = .returned (.bool true) ∧ Below w.heap.size w w' := by
  obtain ⟨fn, un⟩ := or_inf hb
  obtain ⟨uf, ff⟩ := finW_ok hb
  have hF := fun w => finite14_any hb w
  have hA := alive14_any hz hT
  have hH := fun w => hexF14_inf un fn w
  have T1 := fun w => text14_none (b := bits .or .u64 b 9218868437227405312) h1 h2 h3 w
  have T2 := fun w => text14_none (b := finW b) h1 h2 h3 w
  have L1 := fun w v => line14_none (v := v) h1 h2 h3 w
  have L2 := L1
  have kk : (decide (m ≥ 1) && decide (m ≤ 3)) = false := by simp; omega
  have k3 : (if decide (1 ≤ m) = true then decide (m ≤ 3) else false) = false := by simp; omega
  have P1 := fun w => plainF_digit (ByteArray.mk #[]) (by decide) (e := e) (by decide) w
  have P2 := fun w => plainF_digit (ByteArray.mk #[49, 32]) (by decide) (e := e) (by decide) w
  have P3 := fun w => plainF_fixed (ByteArray.mk #[49]) (by decide) (e := e) (by decide) he w
  generalize finW b = fb at *
  generalize hnb : bits .or .u64 b 9218868437227405312 = nb at *
  have HZ : Hid (ZeroVar w ∧ PowTb w) := ⟨hz, hT⟩
  have c0 : ByteArray.mk #[] ++ ByteArray.mk #[] = ByteArray.mk #[] := rfl
  clear hz hT uf ff fn un
  have hk : m < 1 ∨ 3 < m := by omega
  clear h1 h2 h3 kk k3
  rcases hk with hk | hk <;> rcases he with he | he
  all_goals
    try (have d3 : decide (m ≤ 3) = false := (by simp; omega))
    go_enter Tryz.func5, Tryz.ntmps5
    go_wp2_with fail
    refine hA.mono ?_
    rintro e' w1 ⟨rfl, B1⟩
    clear hA
    go_wp2_with fail
    refine (T1 _).mono ?_
    rintro e' w2 ⟨rfl, hw⟩
    rw [hw]
    clear T1 hw
    have B2 : Below w.heap.size w (w1.alloc (.cells #[.int .u64 0, .int .u64 nb, .int .u64 0] 22)) := B1.alloc B1.size _
    go_wp2_with fail
    refine (L1 _ _).mono ?_
    rintro e' w3 ⟨rfl, hw⟩
    rw [hw]
    clear L1 hw B1
    go_wp2_with fail
    refine (hH _).mono ?_
    rintro e' w4 ⟨rfl, hw⟩
    rw [hw]
    clear hH hw
    go_wp2_with fail
    refine (hF _).mono ?_
    rintro e' w4 ⟨rfl, hw⟩
    rw [hw]
    clear hF hw
    go_wp2_with fail
    refine (T2 _).mono ?_
    rintro e' w5 ⟨rfl, hw⟩
    rw [hw]
    clear T2 hw
    go_wp2_with fail
    refine (L2 _ _).mono ?_
    rintro e' w6 ⟨rfl, hw⟩
    rw [hw]
    clear L2 hw
    have B6 := B2
    clear B2
    go_wp2_with fail
    refine (P1 _).mono ?_
    rintro e' w7 ⟨rfl, hw⟩
    rw [hw]
    clear P1 hw
    go_wp2_with fail
    refine (P2 _).mono ?_
    rintro e' w7 ⟨rfl, hw⟩
    rw [hw]
    clear P2 hw
    go_wp2_with fail
    refine (P3 _).mono ?_
    rintro e' w7 ⟨rfl, hw⟩
    rw [hw]
    clear P3 hw
    go_wp2
    go_ret
    exact ⟨rfl, B6⟩
set_option maxHeartbeats 6400000 in
set_option maxRecDepth 100000 in
theorem refuses_no_in {b m e : Int} (hb : U b) (h1 : m ≠ 1) (h2 : m ≠ 2) (h3 : m ≠ 3) (e0 : -1100 ≤ e) (e1 : e ≤ 1100) {w : World} (hz : ZeroVar w) (hT : PowTb w) :
    Calls Tryz.prog 5 #[.int .u64 b, .int .i64 m, .int .i64 e] w fun r w' => r = .returned (.bool true) ∧ Below w.heap.size w w' := by
  obtain ⟨fn, un⟩ := or_inf hb
  obtain ⟨uf, ff⟩ := finW_ok hb
  have hF := fun w => finite14_any hb w
  have hA := alive14_any hz hT
  have hH := fun w => hexF14_inf un fn w
  have T1 := fun w => text14_none (b := bits .or .u64 b 9218868437227405312) h1 h2 h3 w
  have T2 := fun w => text14_none (b := finW b) h1 h2 h3 w
  have L1 := fun w v => line14_none (v := v) h1 h2 h3 w
  have L2 := L1
  have kk : (decide (m ≥ 1) && decide (m ≤ 3)) = false := by simp; omega
  have k3 : (if decide (1 ≤ m) = true then decide (m ≤ 3) else false) = false := by simp; omega
  have P1 := fun w => plainF_digit (ByteArray.mk #[]) (by decide) (e := e) (by decide) w
  have P2 := fun w => plainF_digit (ByteArray.mk #[49, 32]) (by decide) (e := e) (by decide) w
  have P3 : ∀ w, ZeroVar w → _ := fun w hz => plainF_fin (ByteArray.mk #[49]) (by decide) (e := e) (by decide) e0 e1 (w := w) hz.c1
  have pe : (str (plD (ByteArray.mk #[49]).data.toList e)).toList.isEmpty = false := by rw [Lib.toList_data, str_list]; exact isEmpty_ne (plD_ne e)
  generalize plD (ByteArray.mk #[49]).data.toList e = PD at *
  generalize finW b = fb at *
  generalize hnb : bits .or .u64 b 9218868437227405312 = nb at *
  have HZ : Hid (ZeroVar w ∧ PowTb w) := ⟨hz, hT⟩
  have c0 : ByteArray.mk #[] ++ ByteArray.mk #[] = ByteArray.mk #[] := rfl
  clear hz hT uf ff fn un
  have hk : m < 1 ∨ 3 < m := by omega
  clear h1 h2 h3 kk k3
  rcases hk with hk | hk
  all_goals
    try (have d3 : decide (m ≤ 3) = false := (by simp; omega))
    go_enter Tryz.func5, Tryz.ntmps5
    go_wp2_with fail
    refine hA.mono ?_
    rintro e' w1 ⟨rfl, B1⟩
    clear hA
    go_wp2_with fail
    refine (T1 _).mono ?_
    rintro e' w2 ⟨rfl, hw⟩
    rw [hw]
    clear T1 hw
    have B2 : Below w.heap.size w (w1.alloc (.cells #[.int .u64 0, .int .u64 nb, .int .u64 0] 22)) := B1.alloc B1.size _
    go_wp2_with fail
    refine (L1 _ _).mono ?_
    rintro e' w3 ⟨rfl, hw⟩
    rw [hw]
    clear L1 hw B1
    go_wp2_with fail
    refine (hH _).mono ?_
    rintro e' w4 ⟨rfl, hw⟩
    rw [hw]
    clear hH hw
    go_wp2_with fail
    refine (hF _).mono ?_
    rintro e' w4 ⟨rfl, hw⟩
    rw [hw]
    clear hF hw
    go_wp2_with fail
    refine (T2 _).mono ?_
    rintro e' w5 ⟨rfl, hw⟩
    rw [hw]
    clear T2 hw
    go_wp2_with fail
    refine (L2 _ _).mono ?_
    rintro e' w6 ⟨rfl, hw⟩
    rw [hw]
    clear L2 hw
    have B6 := B2
    clear B2
    go_wp2_with fail
    refine (P1 _).mono ?_
    rintro e' w7 ⟨rfl, hw⟩
    rw [hw]
    clear P1 hw
    go_wp2_with fail
    refine (P2 _).mono ?_
    rintro e' w7 ⟨rfl, hw⟩
    rw [hw]
    clear P2 hw
    have z6 := HZ.out.1.later (show Below w.heap.size w _ from B6)
    go_wp2_with fail
    refine (P3 _ z6).mono ?_
    rintro e' w7 ⟨rfl, hb⟩
    have B7 := B6.trans (hb.mono B6.size)
    clear P3 hb B6
    go_wp2
    go_ret
    exact ⟨rfl, B7⟩
theorem refuses_walk14 {b m e : Int} (hb : U b) (m0 : -9223372036854775808 ≤ m) (m1 : m ≤ 9223372036854775807) (e0 : -9223372036854775808 ≤ e) (e1 : e ≤ 9223372036854775807) {w : World} (hz : ZeroVar w) (hT : PowTb w) :
    Calls Tryz.prog 5 #[.int .u64 b, .int .i64 m, .int .i64 e] w fun r w' => r = .returned (.bool true) ∧ Below w.heap.size w w' := by
  by_cases hm : m = 1 ∨ m = 2 ∨ m = 3
  · by_cases he : e < -1100 ∨ 1100 < e
    · exact refuses_ok_out hb hm he hz hT
    · exact refuses_ok_in hb hm (by omega) (by omega) hz hT
  · by_cases he : e < -1100 ∨ 1100 < e
    · exact refuses_no_out hb (by omega) (by omega) (by omega) he hz hT
    · exact refuses_no_in hb (by omega) (by omega) (by omega) (by omega) (by omega) hz hT
end Go.Proofs.YtjnmgjcmagnkeaaGreatDoor
