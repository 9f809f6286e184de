/- LexErrors. -/
import Derived.Test.YthibemoincgemabGreatDoorLexMi
import Derived.Test.YthibemoincgemabGreatDoorPieArg
namespace Go.Proofs.YthibemoincgemabGreatDoor
open Go.ChangeShapes Go.WideShapes Go.ChangeAt Go.RowKit
open Lx
set_option linter.unusedVariables false
namespace Lx
theorem ErrIs.more {w w' : World} {er : Value} {c p : Int} (h : ErrIs w er c p) (hb : Below w.heap.size w w') : ErrIs w' er c p := by
  rcases h with h | ⟨h, g, rfl, hF⟩
  · exact Or.inl h
  · exact Or.inr ⟨h, g, rfl, hF.later hb⟩
end Lx
theorem parseE9 {T : ByteArray} {c p : Int} (hT : T.size ≤ maxLen) (h1 : paC T = c) (h2 : paP T = p) (w : World) :
    Calls Tryz.prog 9 #[.string T] w fun r w' => ∃ k b s1 e s2 er, r = .returned (.tuple #[.agg #[.int .i64 k, .bool b, .string s1, .int .i64 e, .string s2], er]) ∧ ErrIs w' er c p ∧ Below w.heap.size w w' := by
  refine (parse9_all T hT w).mono ?_
  rintro r w' ⟨er, rfl, hE, hb⟩
  rw [h1, h2] at hE
  exact ⟨_, _, _, _, _, er, rfl, hE, hb⟩
set_option maxHeartbeats 3200000 in
set_option maxRecDepth 100000 in
theorem errors_walk {w : World} {kd sg e : Int} {a1 a2 : Option Addr} {n1 c1 n2 c2 : Nat} {z1 z2 : List Int} {pt ne plus big : Bool} {s0 : ByteArray} (hr1 : RowAt .i64 w a1 n1 z1) (hn1 : n1 ≤ 9223372036854775807) (hr2 : RowAt .i64 w a2 n2 z2) (hn2 : n2 ≤ 9223372036854775807) (hs0 : s0.size ≤ maxLen) (hE : ErrVar w) :
    Calls Tryz.prog 3 #[.agg (pieA kd sg (.slice a1 n1 c1) (.slice a2 n2 c2) pt ne e plus big), .string s0] w fun r w' => r = .returned (.bool true) ∧ Below w.heap.size w w' := by
  obtain ⟨S, N, hR, hl, hM⟩ := made9_all (kd := kd) (sg := sg) (e := e) (a1 := a1) (a2 := a2) (c1 := c1) (c2 := c2) (z1 := z1) (z2 := z2) hn1 hn2 true ne plus big
  obtain ⟨t1, t2, t3, t4⟩ := scan_said9 hR (by omega)
  have hSc : ∀ w, Calls Tryz.prog 7 #[.string (str S), .int .i64 0] w fun r w' => r = .returned (.tuple #[.agg (nmA N), .int .i64 (S.length : Int), .nilIface]) ∧ Below w.heap.size w w' := fun w => by
    refine (scan9_all (str S) (by rw [str_size]; unfold maxLen; omega) 0 w).mono ?_
    rintro r w' ⟨er, rfl, hE, hb⟩
    rw [t1, t2]
    rw [t3] at hE
    rcases hE with ⟨_, rfl⟩ | ⟨h, _⟩
    · exact ⟨rfl, hb⟩
    · exact absurd rfl h
  have hc := fun w => cut9_any s0 w
  obtain ⟨C, hC⟩ : ∃ C, C = cutB s0 := ⟨_, rfl⟩
  have hCs : C.size ≤ 300 := by rw [hC]; unfold cutB; split; (rw [ByteArray.size_extract]; omega); omega
  have hCut : ∀ w, Calls Tryz.prog 10 #[.string s0] w fun r w' => r = .returned (.string C) ∧ w' = w := fun w => by
    refine (hc w).mono ?_
    rintro r w' ⟨t, rfl, _, rfl, rfl⟩
    exact ⟨by rw [hC], rfl⟩
  clear hc hC
  have hsz : (str S).size = S.length := str_size S
  obtain ⟨T1, q1, hP1, v1⟩ : ∃ T, str S ++ ByteArray.mk #[45] = T ∧ (∀ w, Calls Tryz.prog 9 #[.string T] w fun r w' => ∃ k b s1 e s2 er, r = .returned (.tuple #[.agg #[.int .i64 k, .bool b, .string s1, .int .i64 e, .string s2], er]) ∧ ErrIs w' er 91 (S.length : Int) ∧ Below w.heap.size w w') ∧ T.size ≤ 600 := by
    refine ⟨_, rfl, ?_, ?_⟩
    · have e1 : str S ++ ByteArray.mk #[45] = str (S ++ 45 :: []) := cat_str9 S [45]
      rw [e1]
      obtain ⟨p1, p2⟩ := parse_more (c := 45) (r := []) hR (by simp; omega) (Stops.cons (by decide))
      intro w
      exact parseE9 (by rw [str_size, List.length_append]; unfold maxLen; simp; omega) (p1.trans (by decide)) p2 w
    · have e1 : str S ++ ByteArray.mk #[45] = str (S ++ [45]) := cat_str9 S [45]
      rw [e1, str_size, List.length_append]
      simp
      omega
  obtain ⟨T2, q2, hP2, v2⟩ : ∃ T, str S ++ ByteArray.mk #[43, 53] = T ∧ (∀ w, Calls Tryz.prog 9 #[.string T] w fun r w' => ∃ k b s1 e s2 er, r = .returned (.tuple #[.agg #[.int .i64 k, .bool b, .string s1, .int .i64 e, .string s2], er]) ∧ ErrIs w' er 91 (S.length : Int) ∧ Below w.heap.size w w') ∧ T.size ≤ 600 := by
    refine ⟨_, rfl, ?_, ?_⟩
    · have e1 : str S ++ ByteArray.mk #[43, 53] = str (S ++ 43 :: [53]) := cat_str9 S [43, 53]
      rw [e1]
      obtain ⟨p1, p2⟩ := parse_more (c := 43) (r := [53]) hR (by simp; omega) (Stops.cons (by decide))
      intro w
      exact parseE9 (by rw [str_size, List.length_append]; unfold maxLen; simp; omega) (p1.trans (by decide)) p2 w
    · have e1 : str S ++ ByteArray.mk #[43, 53] = str (S ++ [43, 53]) := cat_str9 S [43, 53]
      rw [e1, str_size, List.length_append]
      simp
      omega
  obtain ⟨T3, q3, hP3, v3⟩ : ∃ T, str S ++ ByteArray.mk #[32] = T ∧ (∀ w, Calls Tryz.prog 9 #[.string T] w fun r w' => ∃ k b s1 e s2 er, r = .returned (.tuple #[.agg #[.int .i64 k, .bool b, .string s1, .int .i64 e, .string s2], er]) ∧ ErrIs w' er 90 (S.length : Int) ∧ Below w.heap.size w w') ∧ T.size ≤ 600 := by
    refine ⟨_, rfl, ?_, ?_⟩
    · have e1 : str S ++ ByteArray.mk #[32] = str (S ++ 32 :: []) := cat_str9 S [32]
      rw [e1]
      obtain ⟨p1, p2⟩ := parse_more (c := 32) (r := []) hR (by simp; omega) (Stops.cons (by decide))
      intro w
      exact parseE9 (by rw [str_size, List.length_append]; unfold maxLen; simp; omega) (p1.trans (by decide)) p2 w
    · have e1 : str S ++ ByteArray.mk #[32] = str (S ++ [32]) := cat_str9 S [32]
      rw [e1, str_size, List.length_append]
      simp
      omega
  obtain ⟨T4, q4, hP4, v4⟩ : ∃ T, str S ++ ByteArray.mk #[44] ++ C = T ∧ (∀ w, Calls Tryz.prog 9 #[.string T] w fun r w' => ∃ k b s1 e s2 er, r = .returned (.tuple #[.agg #[.int .i64 k, .bool b, .string s1, .int .i64 e, .string s2], er]) ∧ ErrIs w' er 90 (S.length : Int) ∧ Below w.heap.size w w') ∧ T.size ≤ 600 := by
    refine ⟨_, rfl, ?_, ?_⟩
    · have e1 : str S ++ ByteArray.mk #[44] ++ C = str (S ++ 44 :: C.data.toList) := by
        have e2 : str S ++ ByteArray.mk #[44] = str (S ++ [44]) := cat_str9 S [44]
        rw [e2]
        have e3 := cat_str9 (S ++ [44]) C.data.toList
        rw [str_of] at e3
        rw [e3]
        simp
      have hCl : C.data.toList.length ≤ 300 := by rw [← Lib.size_eq]; exact hCs
      rw [e1]
      obtain ⟨p1, p2⟩ := parse_more (c := 44) (r := C.data.toList) hR (by rw [List.length_cons]; omega) (Stops.cons (by decide))
      intro w
      exact parseE9 (by rw [str_size, List.length_append, List.length_cons]; unfold maxLen; omega) (p1.trans (by decide)) p2 w
    · rw [ByteArray.size_append, ByteArray.size_append, str_size]
      show S.length + 1 + C.size ≤ 600
      omega
  obtain ⟨T5, q5, hP5, v5⟩ : ∃ T, str S ++ ByteArray.mk #[112] = T ∧ (∀ w, Calls Tryz.prog 9 #[.string T] w fun r w' => ∃ k b s1 e s2 er, r = .returned (.tuple #[.agg #[.int .i64 k, .bool b, .string s1, .int .i64 e, .string s2], er]) ∧ ErrIs w' er 92 (S.length : Int) ∧ Below w.heap.size w w') ∧ T.size ≤ 600 := by
    refine ⟨_, rfl, ?_, ?_⟩
    · have e1 : str S ++ ByteArray.mk #[112] = str (S ++ 112 :: []) := cat_str9 S [112]
      rw [e1]
      obtain ⟨p1, p2⟩ := parse_more (c := 112) (r := []) hR (by simp; omega) (Stops.cons (by decide))
      intro w
      exact parseE9 (by rw [str_size, List.length_append]; unfold maxLen; simp; omega) (p1.trans (by decide)) p2 w
    · have e1 : str S ++ ByteArray.mk #[112] = str (S ++ [112]) := cat_str9 S [112]
      rw [e1, str_size, List.length_append]
      simp
      omega
  obtain ⟨T6, q6, hP6, v6⟩ : ∃ T, ByteArray.mk #[44] ++ str S = T ∧ (∀ w, Calls Tryz.prog 9 #[.string T] w fun r w' => ∃ k b s1 e s2 er, r = .returned (.tuple #[.agg #[.int .i64 k, .bool b, .string s1, .int .i64 e, .string s2], er]) ∧ ErrIs w' er 90 0 ∧ Below w.heap.size w w') ∧ T.size ≤ 600 := by
    refine ⟨_, rfl, ?_, ?_⟩
    · have e1 : ByteArray.mk #[44] ++ str S = str (44 :: S) := cat_str9 [44] S
      rw [e1]
      obtain ⟨p1, p2⟩ := parse_none (S := 44 :: S) (by rw [List.take_of_length_le (by rw [List.length_cons]; omega)]; exact none_comma _)
      intro w
      exact parseE9 (by rw [str_size, List.length_cons]; unfold maxLen; omega) p1 p2 w
    · rw [ByteArray.size_append, str_size]
      show 1 + S.length ≤ 600
      omega
  obtain ⟨T7, q7, hP7, v7⟩ : ∃ T, ByteArray.mk #[43, 45] ++ str S = T ∧ (∀ w, Calls Tryz.prog 9 #[.string T] w fun r w' => ∃ k b s1 e s2 er, r = .returned (.tuple #[.agg #[.int .i64 k, .bool b, .string s1, .int .i64 e, .string s2], er]) ∧ ErrIs w' er 90 0 ∧ Below w.heap.size w w') ∧ T.size ≤ 600 := by
    refine ⟨_, rfl, ?_, ?_⟩
    · have e1 : ByteArray.mk #[43, 45] ++ str S = str (43 :: 45 :: S) := cat_str9 [43, 45] S
      rw [e1]
      obtain ⟨p1, p2⟩ := parse_none (S := 43 :: 45 :: S) (by rw [List.take_of_length_le (by rw [List.length_cons, List.length_cons]; omega)]; exact none_signs _)
      intro w
      exact parseE9 (by rw [str_size, List.length_cons, List.length_cons]; unfold maxLen; omega) p1 p2 w
    · rw [ByteArray.size_append, str_size]
      show 2 + S.length ≤ 600
      omega
  have hP8 : ∀ w, Calls Tryz.prog 9 #[.string (ByteArray.mk #[])] w fun r w' => ∃ k b s1 e s2 er, r = .returned (.tuple #[.agg #[.int .i64 k, .bool b, .string s1, .int .i64 e, .string s2], er]) ∧ ErrIs w' er 90 0 ∧ Below w.heap.size w w' := fun w => by
    obtain ⟨p1, p2⟩ := parse_none (S := []) none_nil
    exact parseE9 (T := str []) (by decide) p1 p2 w
  unfold nmA at hM hSc
  obtain ⟨nk, nb, nn, nx, nd⟩ := N
  simp only at hM hSc
  generalize str nn = N1 at *
  generalize str nd = N2 at *
  have hzS : (str S).size ≤ 200 := by omega
  have hzI : ((str S).size : Int) = (S.length : Int) := by omega
  clear t1 t2 t3 t4 hR
  generalize (S.length : Int) = LS at *
  generalize str S = SS at *
  unfold pieA
  unfold pieA at hM
  have hr1' := hr1.later (alloc_below (w := w) (.cells #[.int .i64 kd, .int .i64 sg, .slice a1 n1 c1, .slice a2 n2 c2, .bool true, .bool ne, .int .i64 e, .bool plus, .bool big] 24))
  have hr2' := hr2.later (alloc_below (w := w) (.cells #[.int .i64 kd, .int .i64 sg, .slice a1 n1 c1, .slice a2 n2 c2, .bool true, .bool ne, .int .i64 e, .bool plus, .bool big] 24))
  have hB0 : Below w.heap.size w (w.alloc (.cells #[.int .i64 kd, .int .i64 sg, .slice a1 n1 c1, .slice a2 n2 c2, .bool true, .bool ne, .int .i64 e, .bool plus, .bool big] 24)) := alloc_below (w := w) _
  obtain ⟨T0, q0, v0⟩ : ∃ T, SS ++ ByteArray.mk #[44] = T ∧ T.size ≤ 300 := ⟨_, rfl, by rw [ByteArray.size_append]; show SS.size + 1 ≤ 300; omega⟩
  rw [q0] at q4
  clear hr1 hr2 hl hsz hn1 hn2 hs0
  go_enter Tryz.func3, Tryz.ntmps3

  go_wp2_with fail
  refine (hM _ hr1' hr2').mono ?_
  rintro r w1 ⟨rfl, b1⟩
  have B1 := hB0.trans (b1.mono hB0.size)
  have A1 := B1.alloc B1.size (.cells #[.int .i64 nk, .bool nb, .string N1, .int .i64 nx, .string N2] 26)
  clear hM hr1' hr2' b1 hB0
  go_wp2_with fail
  refine (hSc _).mono ?_
  rintro r w2 ⟨rfl, b2⟩
  have B2 := A1.trans (b2.mono A1.size)
  have A2 := B2.alloc B2.size (.cells #[.int .i64 nk, .bool nb, .string N1, .int .i64 nx, .string N2] 26)
  have K1 : Hid (Bk _ w1.heap.size 26 #[.int .i64 nk, .bool nb, .string N1, .int .i64 nx, .string N2]) := ((Bk.new w1 26 #[.int .i64 nk, .bool nb, .string N1, .int .i64 nx, .string N2]).later b2).later (alloc_below (w := w2) (.cells #[.int .i64 nk, .bool nb, .string N1, .int .i64 nx, .string N2] 26))
  have K2 : Hid (Bk _ w2.heap.size 26 #[.int .i64 nk, .bool nb, .string N1, .int .i64 nx, .string N2]) := Bk.new w2 26 #[.int .i64 nk, .bool nb, .string N1, .int .i64 nx, .string N2]
  clear hSc b2 A1 B1
  go_wp2_with fail
  refine (alive9_any _).mono ?_
  rintro r w3 ⟨rfl, b3⟩
  have X3 := A2.trans (b3.mono A2.size)
  have k1 := K1.out.later b3
  have k2 := K2.out.later b3
  have y0 := k1.cell 0 rfl
  have z0 := k2.cell 0 rfl
  have y1 := k1.cell 1 rfl
  have z1 := k2.cell 1 rfl
  have y2 := k1.cell 2 rfl
  have z2 := k2.cell 2 rfl
  have y3 := k1.cell 3 rfl
  have z3 := k2.cell 3 rfl
  have y4 := k1.cell 4 rfl
  have z4 := k2.cell 4 rfl
  clear K1 K2 k1 k2 b3 B2 A2
  go_wp2_with fail
  refine (hP1 _).mono ?_
  rintro r wp1 ⟨k1, b1, s1, e1, u1, er1, rfl, hr1, hb1⟩
  clear y0 y1 y2 y3 y4 z0 z1 z2 z3 z4
  have B1 := X3.trans (hb1.mono X3.size)
  have C1 := B1.alloc B1.size (.cells #[.int .i64 k1, .bool b1, .string s1, .int .i64 e1, .string u1] 26)
  have hv1 := alloc_below (w := wp1) (.cells #[.int .i64 k1, .bool b1, .string s1, .int .i64 e1, .string u1] 26)
  replace hr1 := hr1.more hv1
  clear hb1 hv1 hP1 B1 X3 q1
  go_wp2_with fail
  refine (hP2 _).mono ?_
  rintro r wp2 ⟨k2, b2, s2, e2, u2, er2, rfl, hr2, hb2⟩
  have B2 := C1.trans (hb2.mono C1.size)
  have C2 := B2.alloc B2.size (.cells #[.int .i64 k2, .bool b2, .string s2, .int .i64 e2, .string u2] 26)
  have hv2 := alloc_below (w := wp2) (.cells #[.int .i64 k2, .bool b2, .string s2, .int .i64 e2, .string u2] 26)
  replace hr1 := (hr1.more hb2).more hv2
  replace hr2 := hr2.more hv2
  clear hb2 hv2 hP2 B2 C1 q2
  go_wp2_with fail
  refine (hP3 _).mono ?_
  rintro r wp3 ⟨k3, b3, s3, e3, u3, er3, rfl, hr3, hb3⟩
  have B3 := C2.trans (hb3.mono C2.size)
  have C3 := B3.alloc B3.size (.cells #[.int .i64 k3, .bool b3, .string s3, .int .i64 e3, .string u3] 26)
  have hv3 := alloc_below (w := wp3) (.cells #[.int .i64 k3, .bool b3, .string s3, .int .i64 e3, .string u3] 26)
  replace hr1 := (hr1.more hb3).more hv3
  replace hr2 := (hr2.more hb3).more hv3
  replace hr3 := hr3.more hv3
  clear hb3 hv3 hP3 B3 C2 q3
  go_wp2_with fail
  refine (hCut _).mono ?_
  rintro r wc ⟨rfl, hwc⟩
  rw [hwc]
  clear hwc hCut
  go_wp2_with fail
  refine (hP4 _).mono ?_
  rintro r wp4 ⟨k4, b4, s4, e4, u4, er4, rfl, hr4, hb4⟩
  have B4 := C3.trans (hb4.mono C3.size)
  have C4 := B4.alloc B4.size (.cells #[.int .i64 k4, .bool b4, .string s4, .int .i64 e4, .string u4] 26)
  have hv4 := alloc_below (w := wp4) (.cells #[.int .i64 k4, .bool b4, .string s4, .int .i64 e4, .string u4] 26)
  replace hr1 := (hr1.more hb4).more hv4
  replace hr2 := (hr2.more hb4).more hv4
  replace hr3 := (hr3.more hb4).more hv4
  replace hr4 := hr4.more hv4
  clear hb4 hv4 hP4 B4 C3 q4
  go_wp2_with fail
  refine (hP5 _).mono ?_
  rintro r wp5 ⟨k5, b5, s5, e5, u5, er5, rfl, hr5, hb5⟩
  have B5 := C4.trans (hb5.mono C4.size)
  have C5 := B5.alloc B5.size (.cells #[.int .i64 k5, .bool b5, .string s5, .int .i64 e5, .string u5] 26)
  have hv5 := alloc_below (w := wp5) (.cells #[.int .i64 k5, .bool b5, .string s5, .int .i64 e5, .string u5] 26)
  replace hr1 := (hr1.more hb5).more hv5
  replace hr2 := (hr2.more hb5).more hv5
  replace hr3 := (hr3.more hb5).more hv5
  replace hr4 := (hr4.more hb5).more hv5
  replace hr5 := hr5.more hv5
  clear hb5 hv5 hP5 B5 C4 q5
  go_wp2_with fail
  refine (told9_any hr1 (hE.later C5)).mono ?_
  rintro r wt1 ⟨rfl, ht1⟩
  have D1 := C5.trans (ht1.mono C5.size)
  replace hr2 := hr2.more ht1
  replace hr3 := hr3.more ht1
  replace hr4 := hr4.more ht1
  replace hr5 := hr5.more ht1
  clear hr1 ht1 C5
  go_wp2_with fail
  refine (told9_any hr2 (hE.later D1)).mono ?_
  rintro r wt2 ⟨rfl, ht2⟩
  have D2 := D1.trans (ht2.mono D1.size)
  replace hr3 := hr3.more ht2
  replace hr4 := hr4.more ht2
  replace hr5 := hr5.more ht2
  clear hr2 ht2 D1
  go_wp2_with fail
  refine (told9_any hr3 (hE.later D2)).mono ?_
  rintro r wt3 ⟨rfl, ht3⟩
  have D3 := D2.trans (ht3.mono D2.size)
  replace hr4 := hr4.more ht3
  replace hr5 := hr5.more ht3
  clear hr3 ht3 D2
  go_wp2_with fail
  refine (told9_any hr4 (hE.later D3)).mono ?_
  rintro r wt4 ⟨rfl, ht4⟩
  have D4 := D3.trans (ht4.mono D3.size)
  replace hr5 := hr5.more ht4
  clear hr4 ht4 D3
  go_wp2_with fail
  refine (told9_any hr5 (hE.later D4)).mono ?_
  rintro r wt5 ⟨rfl, ht5⟩
  have D5 := D4.trans (ht5.mono D4.size)
  clear hr5 ht5 D4
  go_wp2_with fail
  refine (hP6 _).mono ?_
  rintro r wp6 ⟨k6, b6, s6, e6, u6, er6, rfl, hr6, hb6⟩
  have B6 := D5.trans (hb6.mono D5.size)
  have C6 := B6.alloc B6.size (.cells #[.int .i64 k6, .bool b6, .string s6, .int .i64 e6, .string u6] 26)
  have hv6 := alloc_below (w := wp6) (.cells #[.int .i64 k6, .bool b6, .string s6, .int .i64 e6, .string u6] 26)
  replace hr6 := hr6.more hv6
  clear hb6 hv6 hP6 B6 D5 q6
  go_wp2_with fail
  refine (hP7 _).mono ?_
  rintro r wp7 ⟨k7, b7, s7, e7, u7, er7, rfl, hr7, hb7⟩
  have B7 := C6.trans (hb7.mono C6.size)
  have C7 := B7.alloc B7.size (.cells #[.int .i64 k7, .bool b7, .string s7, .int .i64 e7, .string u7] 26)
  have hv7 := alloc_below (w := wp7) (.cells #[.int .i64 k7, .bool b7, .string s7, .int .i64 e7, .string u7] 26)
  replace hr6 := (hr6.more hb7).more hv7
  replace hr7 := hr7.more hv7
  clear hb7 hv7 hP7 B7 C6 q7
  go_wp2_with fail
  refine (hP8 _).mono ?_
  rintro r wp8 ⟨k8, b8, s8, e8, u8, er8, rfl, hr8, hb8⟩
  have B8 := C7.trans (hb8.mono C7.size)
  have C8 := B8.alloc B8.size (.cells #[.int .i64 k8, .bool b8, .string s8, .int .i64 e8, .string u8] 26)
  have hv8 := alloc_below (w := wp8) (.cells #[.int .i64 k8, .bool b8, .string s8, .int .i64 e8, .string u8] 26)
  replace hr6 := (hr6.more hb8).more hv8
  replace hr7 := (hr7.more hb8).more hv8
  replace hr8 := hr8.more hv8
  clear hb8 hv8 hP8 B8 C7
  go_wp2_with fail
  refine (told9_any hr6 (hE.later C8)).mono ?_
  rintro r wt6 ⟨rfl, ht6⟩
  have D6 := C8.trans (ht6.mono C8.size)
  replace hr7 := hr7.more ht6
  replace hr8 := hr8.more ht6
  clear hr6 ht6 C8
  go_wp2_with fail
  refine (told9_any hr7 (hE.later D6)).mono ?_
  rintro r wt7 ⟨rfl, ht7⟩
  have D7 := D6.trans (ht7.mono D6.size)
  replace hr8 := hr8.more ht7
  clear hr7 ht7 D6
  go_wp2_with fail
  refine (told9_any hr8 (hE.later D7)).mono ?_
  rintro r wt8 ⟨rfl, ht8⟩
  have D8 := D7.trans (ht8.mono D7.size)
  clear hr8 ht8 D7
  go_wp2
  go_ret
  exact ⟨rfl, D8⟩
end Go.Proofs.YthibemoincgemabGreatDoor
