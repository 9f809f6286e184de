/- FtoaOne. -/
import Derived.Test.YtjnmgjcmagnkeaaGreatDoorFtoF
namespace Go.Proofs.YtjnmgjcmagnkeaaGreatDoor
open Go.ChangeShapes Go.WideShapes Go.ChangeAt Go.RowKit
open Na Ar Ry Ft Lx Go.Shelf
set_option linter.unusedVariables false
set_option maxHeartbeats 3200000 in
set_option maxRecDepth 100000 in
theorem one_walk14 {b0 c0 : Int} (hb0 : U b0) (hc0 : U c0) {w : World} (hz : ZeroVar w) (hT : PowTb w) :
    Calls Tryz.prog 3 #[.int .u64 b0, .int .u64 c0] w fun r w' => r = .returned (.bool true) ∧ Below w.heap.size w w' := by
  have hF1 := fun w => finite14_any hb0 w
  have hF2 := fun w => finite14_any hc0 w
  obtain ⟨ub, fb⟩ := finW_ok hb0
  obtain ⟨uc, fc⟩ := finW_ok hc0
  generalize finW b0 = b at *
  generalize finW c0 = c at *
  have hA := alive14_any hz hT
  have un := U_negW ub
  have fn : ef (negW b) ≠ 2047 := by rw [ef_negW ub]; exact fb
  have hN := fun w => f6Neg_any ub w
  have HF : Hid (U b ∧ U c ∧ U (negW b) ∧ ef b ≠ 2047 ∧ ef c ≠ 2047 ∧ ef (negW b) ≠ 2047) := ⟨ub, uc, un, fb, fc, fn⟩
  have HZ : Hid (ZeroVar w ∧ PowTb w) := ⟨hz, hT⟩
  clear ub uc un fb fc fn hz hT
  go_enter Tryz.func3, Tryz.ntmps3
  go_wp2_with fail
  refine (hF1 _).mono ?_
  rintro e w1 ⟨rfl, hw⟩
  rw [hw]
  clear hF1 hw
  go_wp2_with fail
  refine (hF2 _).mono ?_
  rintro e w1 ⟨rfl, hw⟩
  rw [hw]
  clear hF2 hw
  go_wp2_with fail
  refine hA.mono ?_
  rintro e w1 ⟨rfl, hb1⟩
  clear hA
  go_wp2
  go_loopw [5] (fun v wr => ∃ m : Int, v = .int .i64 m ∧ 1 ≤ m ∧ m ≤ 4 ∧ Below w.heap.size w wr) (fun v _ => (4 - RowKit.intOf v).toNat)
  case atStart => exact ⟨1, rfl, by omega, by omega, hb1⟩
  case round =>
    obtain ⟨m, rfl, m0, m1, hbl⟩ := hrel
    clear hb1
    by_cases q : m ≤ 3
    · have hm : m = 1 ∨ m = 2 ∨ m = 3 := by omega
      obtain ⟨ub, uc, un, fb, fc, fn⟩ := HF.out
      obtain ⟨hz, hT⟩ := HZ.out
      have tb := fun (w : World) hz hT => text14_fin (m := m) ub fb hm (w := w) hz hT
      have tc := fun (w : World) hz hT => text14_fin (m := m) uc fc hm (w := w) hz hT
      have tn := fun (w : World) hz hT => text14_fin (m := m) un fn hm (w := w) hz hT
      have IN : Hid (textT b m = textT c m ↔ b = c) := text_inj (m := m) ub uc fb fc hm
      have TN : Hid ((9223372036854775808 ≤ b → textT b m = 45 :: textT (negW b) m) ∧ (¬ 9223372036854775808 ≤ b → textT (negW b) m = 45 :: textT b m)) := text_neg (m := m) ub
      have lB := text_len (m := m) ub fb hm
      have lN := text_len (m := m) un fn hm
      generalize textT b m = X at *
      generalize textT c m = Y at *
      generalize textT (negW b) m = Z at *
      have zr := hz.later hbl
      have pr := powTb_later hT hbl
      clear ub uc un fb fc fn hm hz hT
      have sX : (str X).size = X.length := str_size X
      have sZ : (str Z).size = Z.length := str_size Z
      go_wp2_with fail
      refine (tb _ zr pr).mono ?_
      rintro e w2 ⟨rfl, hb2⟩
      have z2 := zr.later hb2
      have p2 := powTb_later pr hb2
      have B2 := hbl.trans (hb2.mono hbl.size)
      clear tb zr pr hbl hb2
      go_wp2_with fail
      refine (tc _ z2 p2).mono ?_
      rintro e w3 ⟨rfl, hb3⟩
      have z3 := z2.later hb3
      have p3 := powTb_later p2 hb3
      have B3 := B2.trans (hb3.mono B2.size)
      clear tc z2 p2 hb3 B2
      go_wp2_with fail
      refine (hN _).mono ?_
      rintro e w4 ⟨rfl, hw⟩
      rw [← hw]
      clear hN hw
      go_wp2_with fail
      refine (tn _ z3 p3).mono ?_
      rintro e w4 ⟨rfl, hb4⟩
      have B4 := B3.trans (hb4.mono B3.size)
      clear tn z3 p3 hb4 B3
      by_cases qb : 9223372036854775808 ≤ b
      · have eX : X = 45 :: Z := TN.out.1 qb
        have c1 : ByteArray.mk #[45] ++ str Z = str X := by rw [eX]; exact catS [45] Z
        clear TN eX
        by_cases qc : b = c
        · have eY : X = Y := IN.out.mpr qc
          subst eY
          subst qc
          clear IN
          go_wp2
          go_roundw
          case rel => exact ⟨m + 1, rfl, by omega, by omega, B4⟩
          case measure => simp [RowKit.intOf]; omega
        · have eY : ¬ X = Y := fun h => qc (IN.out.mp h)
          have n1 : (b == c) = false := beq_no qc
          have n2 : ((str X).toList == (str Y).toList) = false := by rw [Lib.toList_data, Lib.toList_data, str_list, str_list]; exact beq_eq_false_iff_ne.mpr eY
          have n3 : ¬ (str X).toList = (str Y).toList := by rw [Lib.toList_data, Lib.toList_data, str_list, str_list]; exact eY
          clear IN
          go_wp2
          go_roundw
          case rel => exact ⟨m + 1, rfl, by omega, by omega, B4⟩
          case measure => simp [RowKit.intOf]; omega
      · have eX : Z = 45 :: X := TN.out.2 (by omega)
        have c1 : ByteArray.mk #[45] ++ str X = str Z := by rw [eX]; exact catS [45] X
        have qb' : b < 9223372036854775808 := by omega
        clear TN eX
        by_cases qc : b = c
        · have eY : X = Y := IN.out.mpr qc
          subst eY
          subst qc
          clear IN
          go_wp2
          go_roundw
          case rel => exact ⟨m + 1, rfl, by omega, by omega, B4⟩
          case measure => simp [RowKit.intOf]; omega
        · have eY : ¬ X = Y := fun h => qc (IN.out.mp h)
          have n1 : (b == c) = false := beq_no qc
          have n2 : ((str X).toList == (str Y).toList) = false := by rw [Lib.toList_data, Lib.toList_data, str_list, str_list]; exact beq_eq_false_iff_ne.mpr eY
          have n3 : ¬ (str X).toList = (str Y).toList := by rw [Lib.toList_data, Lib.toList_data, str_list, str_list]; exact eY
          clear IN
          go_wp2
          go_roundw
          case rel => exact ⟨m + 1, rfl, by omega, by omega, B4⟩
          case measure => simp [RowKit.intOf]; omega
    · have HB : Hid (Below w.heap.size w wr) := hbl
      clear hbl
      go_wp2
      go_ret
      exact ⟨rfl, HB.out⟩
end Go.Proofs.YtjnmgjcmagnkeaaGreatDoor
