/- LexWritten. -/
import Derived.Test.YthibemoincgemaaDoorLexPk
import Derived.Test.YthibemoincgemaaDoorPieArg
namespace Go.Proofs.YthibemoincgemaaDoor
open Go.ChangeShapes Go.WideShapes Go.ChangeAt Go.RowKit
open Lx
set_option linter.unusedVariables false
theorem cutW_any (s : ByteArray) : ∃ C : ByteArray, C.size ≤ 300 ∧ ∀ w, Calls Tryd.prog 15 #[.string s] w fun e w' => e = .returned (.string C) ∧ w' = w := by
  by_cases h : 300 < s.size
  · refine ⟨s.extract 0 300, by rw [ByteArray.size_extract]; omega, fun w => ?_⟩
    have d : decide ((s.size : Int) > 300) = true := by simp; omega
    have d' : decide ((300 : Int) < (s.size : Int)) = true := by simp; omega
    have hl : (300 : Int) ≤ (s.size : Int) := by omega
    go_enter Tryd.func15, Tryd.ntmps15
    go_wp2
    go_ret
    exact ⟨rfl, rfl⟩
  · refine ⟨s, by omega, fun w => ?_⟩
    have d : decide ((s.size : Int) > 300) = false := by simp; omega
    have d' : decide ((300 : Int) < (s.size : Int)) = false := by simp; omega
    go_enter Tryd.func15, Tryd.ntmps15
    go_wp2
    go_ret
    exact ⟨rfl, rfl⟩
set_option maxHeartbeats 3200000 in
set_option maxRecDepth 100000 in
theorem written_walk {w : World} {kd sg e : Int} {a1 a2 : Option Addr} {n1 c1 n2 c2 : Nat} {z1 z2 : List Int} {pt ne plus big : Bool} {sa sb : ByteArray} (hr1 : RowAt .i64 w a1 n1 z1) (hn1 : n1 ≤ 9223372036854775807) (hr2 : RowAt .i64 w a2 n2 z2) (hn2 : n2 ≤ 9223372036854775807) (hsa : sa.size ≤ maxLen) (hsb : sb.size ≤ maxLen) :
    Calls Tryd.prog 5 #[.agg (pieA kd sg (.slice a1 n1 c1) (.slice a2 n2 c2) pt ne e plus big), .string sa, .string sb] w fun r w' => r = .returned (.bool true) ∧ Below w.heap.size w w' := by
  obtain ⟨S, N, hR, hl, hrt, hM⟩ := made9_right (kd := kd) (sg := sg) (e := e) (a1 := a1) (a2 := a2) (c1 := c1) (c2 := c2) (z1 := z1) (z2 := z2) hn1 hn2 pt ne plus big
  obtain ⟨CA, hCA, hcA⟩ := cutW_any sa
  obtain ⟨CB, hCB, hcB⟩ := cutW_any sb
  have lA : CA.data.toList.length = CA.size := (Lib.size_eq CA).symm
  have lB : CB.data.toList.length = CB.size := (Lib.size_eq CB).symm
  have hPa := fun w => parse_good hR (by omega) w
  have hCk := fun w => check9_any N.kind N.neg (str N.num) N.exp (str N.den) (by rw [str_size]; have := (right_len hrt).1; omega) (by rw [str_size]; have := (right_len hrt).2; omega) w
  rw [str_list, str_list, if_pos hrt] at hCk
  have ct : ∀ b : UInt8, CA ++ str S ++ ByteArray.mk #[b] ++ CB = str (CA.data.toList ++ (S ++ (b :: CB.data.toList))) := fun b => by
    have e1 := cat_str9 CA.data.toList S
    rw [str_of] at e1
    have e2 : str (CA.data.toList ++ S) ++ ByteArray.mk #[b] = str (CA.data.toList ++ S ++ [b]) := cat_str9 _ [b]
    have e3 := cat_str9 (CA.data.toList ++ S ++ [b]) CB.data.toList
    rw [str_of] at e3
    rw [e1, e2, e3]
    simp
  have hSc : ∀ (b : UInt8), Stops (b :: CB.data.toList) → ∀ w, Calls Tryd.prog 8 #[.string (CA ++ str S ++ ByteArray.mk #[b] ++ CB), .int .i64 (CA.size : Int)] w fun r w' => r = .returned (.tuple #[.agg (nmA N), .int .i64 ((CA.size : Int) + (S.length : Int)), .nilIface]) ∧ Below w.heap.size w w' := fun b hb w => by
    have := scan_good (A := CA.data.toList) (R := b :: CB.data.toList) hR hb (by rw [lA, List.length_cons, lB]; omega) w
    rw [lA] at this
    rw [ct]
    exact this
  have hS1 := hSc 32 (Stops.cons (by decide))
  have hS2 := hSc 41 (Stops.cons (by decide))
  have hz : (str S).size = S.length := str_size S
  have hzS : (str S).size ≤ 200 := by omega
  have hzI : ((str S).size : Int) = (S.length : Int) := by omega
  have hL0 : 0 ≤ (S.length : Int) := by omega
  have hL1 : (S.length : Int) ≤ 200 := by omega
  have hAI : (CA.size : Int) ≤ 300 := by omega
  have hal := fun w => alive9b_any w
  unfold numC at hCk
  unfold nmA at hM hPa hS1 hS2
  obtain ⟨nk, nb, nn, nx, nd⟩ := N
  simp only at hM hPa hS1 hS2 hCk
  generalize str nn = N1 at *
  generalize str nd = N2 at *
  clear hSc ct hR hrt hz
  generalize (S.length : Int) = LS at *
  generalize str S = SS at *
  obtain ⟨U0, p0, o0⟩ : ∃ T, CA ++ SS = T ∧ T.size ≤ 500 := ⟨_, rfl, by rw [ByteArray.size_append]; omega⟩
  rw [p0] at hS1 hS2
  obtain ⟨U1, p1, o1⟩ : ∃ T, U0 ++ ByteArray.mk #[32] = T ∧ T.size ≤ 501 := ⟨_, rfl, by rw [ByteArray.size_append]; show U0.size + 1 ≤ 501; omega⟩
  rw [p1] at hS1
  obtain ⟨U2, p2, o2⟩ : ∃ T, U0 ++ ByteArray.mk #[41] = T ∧ T.size ≤ 501 := ⟨_, rfl, by rw [ByteArray.size_append]; show U0.size + 1 ≤ 501; omega⟩
  rw [p2] at hS2
  obtain ⟨U3, p3, o3⟩ : ∃ T, U1 ++ CB = T ∧ T.size ≤ 801 := ⟨_, rfl, by rw [ByteArray.size_append]; omega⟩
  rw [p3] at hS1
  obtain ⟨U4, p4, o4⟩ : ∃ T, U2 ++ CB = T ∧ T.size ≤ 801 := ⟨_, rfl, by rw [ByteArray.size_append]; omega⟩
  rw [p4] at hS2
  unfold pieA
  unfold pieA at hM
  have hr1' := hr1.later (alloc_below (w := w) (.cells #[.int .i64 kd, .int .i64 sg, .slice a1 n1 c1, .slice a2 n2 c2, .bool pt, .bool ne, .int .i64 e, .bool plus, .bool big] 44))
  have hr2' := hr2.later (alloc_below (w := w) (.cells #[.int .i64 kd, .int .i64 sg, .slice a1 n1 c1, .slice a2 n2 c2, .bool pt, .bool ne, .int .i64 e, .bool plus, .bool big] 44))
  have hB0 : Below w.heap.size w (w.alloc (.cells #[.int .i64 kd, .int .i64 sg, .slice a1 n1 c1, .slice a2 n2 c2, .bool pt, .bool ne, .int .i64 e, .bool plus, .bool big] 44)) := alloc_below (w := w) _
  clear hr1 hr2 hl hn1 hn2 hsa hsb lA lB
  go_enter Tryd.func5, Tryd.ntmps5
  go_wp2_with fail
  refine (hM _ hr1' hr2').mono ?_
  rintro r w1 ⟨rfl, bw1⟩
  have Bw1 := hB0.trans (bw1.mono hB0.size)
  clear bw1 hB0
  have Cw1 := Bw1.alloc Bw1.size (.cells #[.int .i64 nk, .bool nb, .string N1, .int .i64 nx, .string N2] 25)
  have aw1 := alloc_below (w := w1) (.cells #[.int .i64 nk, .bool nb, .string N1, .int .i64 nx, .string N2] 25)
  have Kw1 : Hid (Bk _ w1.heap.size 25 #[.int .i64 nk, .bool nb, .string N1, .int .i64 nx, .string N2]) := Bk.new w1 25 #[.int .i64 nk, .bool nb, .string N1, .int .i64 nx, .string N2]
  clear aw1 Bw1
  clear hM hr1' hr2'
  go_wp2_with fail
  refine (hal _).mono ?_
  rintro r w2 ⟨rfl, bw2⟩
  have Bw2 := Cw1.trans (bw2.mono Cw1.size)
  replace Kw1 : Hid (Bk _ w1.heap.size 25 #[.int .i64 nk, .bool nb, .string N1, .int .i64 nx, .string N2]) := Kw1.out.later bw2
  clear bw2 Cw1
  have yw10 := Kw1.out.cell 0 rfl
  have yw11 := Kw1.out.cell 1 rfl
  have yw12 := Kw1.out.cell 2 rfl
  have yw13 := Kw1.out.cell 3 rfl
  have yw14 := Kw1.out.cell 4 rfl
  go_wp2_with fail
  refine (hCk _).mono ?_
  rintro r w3 ⟨rfl, bw3⟩
  have Bw3 := Bw2.trans (bw3.mono Bw2.size)
  replace Kw1 : Hid (Bk _ w1.heap.size 25 #[.int .i64 nk, .bool nb, .string N1, .int .i64 nx, .string N2]) := Kw1.out.later bw3
  clear bw3 Bw2
  clear yw10 yw11 yw12 yw13 yw14
  go_wp2_with fail
  refine (hPa _).mono ?_
  rintro r w4 ⟨rfl, bw4⟩
  have Bw4 := Bw3.trans (bw4.mono Bw3.size)
  replace Kw1 : Hid (Bk _ w1.heap.size 25 #[.int .i64 nk, .bool nb, .string N1, .int .i64 nx, .string N2]) := Kw1.out.later bw4
  clear bw4 Bw3
  have Cw4 := Bw4.alloc Bw4.size (.cells #[.int .i64 nk, .bool nb, .string N1, .int .i64 nx, .string N2] 25)
  have aw4 := alloc_below (w := w4) (.cells #[.int .i64 nk, .bool nb, .string N1, .int .i64 nx, .string N2] 25)
  replace Kw1 : Hid (Bk _ w1.heap.size 25 #[.int .i64 nk, .bool nb, .string N1, .int .i64 nx, .string N2]) := Kw1.out.later aw4
  have Kw4 : Hid (Bk _ w4.heap.size 25 #[.int .i64 nk, .bool nb, .string N1, .int .i64 nx, .string N2]) := Bk.new w4 25 #[.int .i64 nk, .bool nb, .string N1, .int .i64 nx, .string N2]
  clear aw4 Bw4
  go_wp2_with fail
  refine (hcA _).mono ?_
  rintro r wc1 ⟨rfl, hwc1⟩
  rw [hwc1]
  clear hwc1
  go_wp2_with fail
  refine (hcB _).mono ?_
  rintro r wc2 ⟨rfl, hwc2⟩
  rw [hwc2]
  clear hwc2
  go_wp2_with fail
  refine (hcA _).mono ?_
  rintro r wc3 ⟨rfl, hwc3⟩
  rw [hwc3]
  clear hwc3
  go_wp2_with fail
  refine (hS1 _).mono ?_
  rintro r w5 ⟨rfl, bw5⟩
  have Bw5 := Cw4.trans (bw5.mono Cw4.size)
  replace Kw1 : Hid (Bk _ w1.heap.size 25 #[.int .i64 nk, .bool nb, .string N1, .int .i64 nx, .string N2]) := Kw1.out.later bw5
  replace Kw4 : Hid (Bk _ w4.heap.size 25 #[.int .i64 nk, .bool nb, .string N1, .int .i64 nx, .string N2]) := Kw4.out.later bw5
  clear bw5 Cw4
  have Cw5 := Bw5.alloc Bw5.size (.cells #[.int .i64 nk, .bool nb, .string N1, .int .i64 nx, .string N2] 25)
  have aw5 := alloc_below (w := w5) (.cells #[.int .i64 nk, .bool nb, .string N1, .int .i64 nx, .string N2] 25)
  replace Kw1 : Hid (Bk _ w1.heap.size 25 #[.int .i64 nk, .bool nb, .string N1, .int .i64 nx, .string N2]) := Kw1.out.later aw5
  replace Kw4 : Hid (Bk _ w4.heap.size 25 #[.int .i64 nk, .bool nb, .string N1, .int .i64 nx, .string N2]) := Kw4.out.later aw5
  have Kw5 : Hid (Bk _ w5.heap.size 25 #[.int .i64 nk, .bool nb, .string N1, .int .i64 nx, .string N2]) := Bk.new w5 25 #[.int .i64 nk, .bool nb, .string N1, .int .i64 nx, .string N2]
  clear aw5 Bw5
  go_wp2_with fail
  refine (hcA _).mono ?_
  rintro r wc4 ⟨rfl, hwc4⟩
  rw [hwc4]
  clear hwc4
  go_wp2_with fail
  refine (hcB _).mono ?_
  rintro r wc5 ⟨rfl, hwc5⟩
  rw [hwc5]
  clear hwc5
  go_wp2_with fail
  refine (hcA _).mono ?_
  rintro r wc6 ⟨rfl, hwc6⟩
  rw [hwc6]
  clear hwc6
  go_wp2_with fail
  refine (hS2 _).mono ?_
  rintro r w6 ⟨rfl, bw6⟩
  have Bw6 := Cw5.trans (bw6.mono Cw5.size)
  replace Kw1 : Hid (Bk _ w1.heap.size 25 #[.int .i64 nk, .bool nb, .string N1, .int .i64 nx, .string N2]) := Kw1.out.later bw6
  replace Kw4 : Hid (Bk _ w4.heap.size 25 #[.int .i64 nk, .bool nb, .string N1, .int .i64 nx, .string N2]) := Kw4.out.later bw6
  replace Kw5 : Hid (Bk _ w5.heap.size 25 #[.int .i64 nk, .bool nb, .string N1, .int .i64 nx, .string N2]) := Kw5.out.later bw6
  clear bw6 Cw5
  have Cw6 := Bw6.alloc Bw6.size (.cells #[.int .i64 nk, .bool nb, .string N1, .int .i64 nx, .string N2] 25)
  have aw6 := alloc_below (w := w6) (.cells #[.int .i64 nk, .bool nb, .string N1, .int .i64 nx, .string N2] 25)
  replace Kw1 : Hid (Bk _ w1.heap.size 25 #[.int .i64 nk, .bool nb, .string N1, .int .i64 nx, .string N2]) := Kw1.out.later aw6
  replace Kw4 : Hid (Bk _ w4.heap.size 25 #[.int .i64 nk, .bool nb, .string N1, .int .i64 nx, .string N2]) := Kw4.out.later aw6
  replace Kw5 : Hid (Bk _ w5.heap.size 25 #[.int .i64 nk, .bool nb, .string N1, .int .i64 nx, .string N2]) := Kw5.out.later aw6
  have Kw6 : Hid (Bk _ w6.heap.size 25 #[.int .i64 nk, .bool nb, .string N1, .int .i64 nx, .string N2]) := Bk.new w6 25 #[.int .i64 nk, .bool nb, .string N1, .int .i64 nx, .string N2]
  clear aw6 Bw6
  have yw10 := Kw1.out.cell 0 rfl
  have yw11 := Kw1.out.cell 1 rfl
  have yw12 := Kw1.out.cell 2 rfl
  have yw13 := Kw1.out.cell 3 rfl
  have yw14 := Kw1.out.cell 4 rfl
  have yw40 := Kw4.out.cell 0 rfl
  have yw41 := Kw4.out.cell 1 rfl
  have yw42 := Kw4.out.cell 2 rfl
  have yw43 := Kw4.out.cell 3 rfl
  have yw44 := Kw4.out.cell 4 rfl
  have yw50 := Kw5.out.cell 0 rfl
  have yw51 := Kw5.out.cell 1 rfl
  have yw52 := Kw5.out.cell 2 rfl
  have yw53 := Kw5.out.cell 3 rfl
  have yw54 := Kw5.out.cell 4 rfl
  have yw60 := Kw6.out.cell 0 rfl
  have yw61 := Kw6.out.cell 1 rfl
  have yw62 := Kw6.out.cell 2 rfl
  have yw63 := Kw6.out.cell 3 rfl
  have yw64 := Kw6.out.cell 4 rfl
  go_wp2_with fail
  refine (hcA _).mono ?_
  rintro r wc7 ⟨rfl, hwc7⟩
  rw [hwc7]
  clear hwc7
  go_wp2
  go_ret
  exact ⟨rfl, Cw6⟩
end Go.Proofs.YthibemoincgemaaDoor
