/- plumblaw02.answers: sixteen lists, each in memory of its own. (Written by genans.py.) -/
import Derived.Test.YthigofcbmgheeabFreshList
namespace Go.Proofs.Ythigofcbmgheeab
open Go.ChangeShapes Go.WideShapes Go.ChangeAt Go.RowKit
open Na Ar
set_option linter.unusedVariables false

set_option maxHeartbeats 1000000 in
set_option maxRecDepth 100000 in
theorem answers_any {a b : Option Addr} {n m c1 c2 : Nat} {xs ys : List Int} {A B : Int} {t : Nat} {w : World} (hr1 : RowC w a n c1 xs) (hr2 : RowC w b m c2 ys) (h1 : Nm xs A) (h2 : Nm ys B) (lA : Lt A 60) (lB : Lt B 60) (ht : t < 200) :
    Calls Try.prog 21 #[.slice a n c1, .slice b m c2, .int .i64 (t : Int)] w fun e w' => ∃ g vs, e = .returned (.tuple #[.slice (some ⟨g, 0, none⟩) 16 16, .bool true]) ∧ w'.heap[g]? = some (.cells vs.toArray 22 (0, 0)) ∧ OL w' w.heap.size g vs (ansL A B t) ∧ Below w.heap.size w w' := by
  have A0 := lA.1
  have l0 := lt_zero
  have lAt : Lt (A * 2 ^ t) 70 := (lA.pow2 (t := t)).mono (by omega)
  have lA0 : Lt (A * 2 ^ 0) 70 := (lA.pow2 (t := 0)).mono (by omega)
  have lS : Lt (A + (B + A)) 182 := (lA.add (lB.add lA)).mono (by omega)
  have lD0 : Lt (A - 0) 60 := by rw [Int.sub_zero]; exact lA
  have lDA : Lt (A - A) 60 := by rw [Int.sub_self]; exact lt_zero.mono (by omega)
  have B_0 := Below.refl w.heap.size w
  have O_0 := ol_nil w w.heap.size w.heap.size
  have hws1 : Wss [xs] := wss_one ⟨h1.ws, h1.len⟩
  have hws3 : Wss [xs, ys, xs] := wss_three ⟨h1.ws, h1.len⟩ ⟨h2.ws, h2.len⟩ ⟨h1.ws, h1.len⟩
  have hs1 : sumN [xs] = A := by rw [sumN_cons, h1.num]; have : sumN [] = 0 := rfl; omega
  have hs3 : sumN [xs, ys, xs] = A + (B + A) := by rw [sumN_cons, sumN_cons, sumN_cons, h1.num, h2.num]; have : sumN [] = 0 := rfl; omega
  go_enter Try.func21, Try.ntmps21
  have z0 := rowC_nil w
  go_wp2_with fail
  refine (addN hr1 hr2 h1 h2 (lA.add lB) (by omega)).mono ?_
  rintro e w1 ⟨v1, rfl, o1, hb1⟩
  obtain ⟨p1, q1, u1, rfl⟩ := o1.slice
  have x_1 := hr1.later hb1
  have y_1 := hr2.later hb1
  have O_1 := O_0.later hb1
  have B_1 := B_0.trans (hb1.mono B_0.size)
  clear hr1 hr2 O_0 B_0 hb1
  have P_1 := O_1.next o1 (Nat.le_refl _) (Nat.le_refl _)
  clear O_1 o1
  have s1 := B_1.size
  go_wp2_with fail
  refine (addN x_1 x_1 h1 h1 (lA.add lA) (by omega)).mono ?_
  rintro e w2 ⟨v2, rfl, o2, hb2⟩
  obtain ⟨p2, q2, u2, rfl⟩ := o2.slice
  have x_2 := x_1.later hb2
  have y_2 := y_1.later hb2
  have O_2 := P_1.later hb2
  have B_2 := B_1.trans (hb2.mono B_1.size)
  clear x_1 y_1 P_1 B_1 hb2
  have P_2 := O_2.next o2 s1 (Nat.le_refl _)
  clear O_2 o2
  have s2 := B_2.size
  clear s1
  go_wp2_with fail
  refine (addN x_2 (rowC_nil _) h1 Nm.nil (lA.add l0) (by omega)).mono ?_
  rintro e w3 ⟨v3, rfl, o3, hb3⟩
  obtain ⟨p3, q3, u3, rfl⟩ := o3.slice
  have x_3 := x_2.later hb3
  have y_3 := y_2.later hb3
  have O_3 := P_2.later hb3
  have B_3 := B_2.trans (hb3.mono B_2.size)
  clear x_2 y_2 P_2 B_2 hb3
  have P_3 := O_3.next o3 s2 (Nat.le_refl _)
  clear O_3 o3
  have s3 := B_3.size
  clear s2
  go_wp2_with fail
  refine (subN x_3 (rowC_nil _) h1 Nm.nil (by omega) lD0 (by omega)).mono ?_
  rintro e w4 ⟨v4, rfl, o4, hb4⟩
  obtain ⟨p4, q4, u4, rfl⟩ := o4.slice
  have x_4 := x_3.later hb4
  have y_4 := y_3.later hb4
  have O_4 := P_3.later hb4
  have B_4 := B_3.trans (hb4.mono B_3.size)
  clear x_3 y_3 P_3 B_3 hb4
  have P_4 := O_4.next o4 s3 (Nat.le_refl _)
  clear O_4 o4
  have s4 := B_4.size
  clear s3
  go_wp2_with fail
  have alm1 := alloc_below (w := w4) (.cells #[.int .u64 1] 47)
  have hsm1 : w4.heap.size ≤ (w4.alloc (.cells #[.int .u64 1] 47)).heap.size := by have := alm1.size; omega
  have x_alm1 := x_4.later alm1
  have y_alm1 := y_4.later alm1
  have O_alm1 := P_4.later alm1
  have B_alm1 := B_4.trans (alm1.mono B_4.size)
  clear x_4 y_4 P_4 B_4 alm1
  have qq1 := rowC_one w4 1 47
  refine (mulN x_alm1 qq1 h1 (Nm.one (x := 1) (by omega)) (lA.mul lt_one) (by omega)).mono ?_
  rintro e w5 ⟨v5, rfl, o5, hb5⟩
  obtain ⟨p5, q5, u5, rfl⟩ := o5.slice
  have x_5 := x_alm1.later hb5
  have y_5 := y_alm1.later hb5
  have O_5 := O_alm1.later hb5
  have B_5 := B_alm1.trans (hb5.mono B_alm1.size)
  clear x_alm1 y_alm1 O_alm1 B_alm1 hb5
  have P_5 := O_5.next o5 s4 (hsm1)
  clear O_5 o5
  have s5 := B_5.size
  clear s4
  clear qq1 hsm1
  go_wp2_with fail
  refine (mulN x_5 x_5 h1 h1 (lA.mul lA) (by omega)).mono ?_
  rintro e w6 ⟨v6, rfl, o6, hb6⟩
  obtain ⟨p6, q6, u6, rfl⟩ := o6.slice
  have x_6 := x_5.later hb6
  have y_6 := y_5.later hb6
  have O_6 := P_5.later hb6
  have B_6 := B_5.trans (hb6.mono B_5.size)
  clear x_5 y_5 P_5 B_5 hb6
  have P_6 := O_6.next o6 s5 (Nat.le_refl _)
  clear O_6 o6
  have s6 := B_6.size
  clear s5
  go_wp2_with fail
  refine (shlN x_6 h1 0 (T := 0) rfl (by omega) lA0 (by omega)).mono ?_
  rintro e w7 ⟨v7, rfl, o7, hb7⟩
  obtain ⟨p7, q7, u7, rfl⟩ := o7.slice
  have x_7 := x_6.later hb7
  have y_7 := y_6.later hb7
  have O_7 := P_6.later hb7
  have B_7 := B_6.trans (hb7.mono B_6.size)
  clear x_6 y_6 P_6 B_6 hb7
  have P_7 := O_7.next o7 s6 (Nat.le_refl _)
  clear O_7 o7
  have s7 := B_7.size
  clear s6
  go_wp2_with fail
  refine (shrN x_7 h1 0 (T := 0) rfl (by omega) lA (by omega)).mono ?_
  rintro e w8 ⟨v8, S8, rfl, o8, hb8⟩
  obtain ⟨p8, q8, u8, rfl⟩ := o8.slice
  have x_8 := x_7.later hb8
  have y_8 := y_7.later hb8
  have O_8 := P_7.later hb8
  have B_8 := B_7.trans (hb8.mono B_7.size)
  clear x_7 y_7 P_7 B_7 hb8
  have P_8 := O_8.next o8 s7 (Nat.le_refl _)
  clear O_8 o8
  have s8 := B_8.size
  clear s7
  go_wp2_with fail
  refine (shlN x_8 h1 t rfl (by omega) lAt (by omega)).mono ?_
  rintro e w9 ⟨v9, rfl, o9, hb9⟩
  obtain ⟨p9, q9, u9, rfl⟩ := o9.slice
  have x_9 := x_8.later hb9
  have y_9 := y_8.later hb9
  have O_9 := P_8.later hb9
  have B_9 := B_8.trans (hb9.mono B_8.size)
  clear x_8 y_8 P_8 B_8 hb9
  have P_9 := O_9.next o9 s8 (Nat.le_refl _)
  clear O_9 o9
  have s9 := B_9.size
  clear s8
  go_wp2_with fail
  refine (shrN x_9 h1 t rfl (by omega) lA (by omega)).mono ?_
  rintro e w10 ⟨v10, S10, rfl, o10, hb10⟩
  obtain ⟨p10, q10, u10, rfl⟩ := o10.slice
  have x_10 := x_9.later hb10
  have y_10 := y_9.later hb10
  have O_10 := P_9.later hb10
  have B_10 := B_9.trans (hb10.mono B_9.size)
  clear x_9 y_9 P_9 B_9 hb10
  have P_10 := O_10.next o10 s9 (Nat.le_refl _)
  clear O_10 o10
  have s10 := B_10.size
  clear s9
  go_wp2_with fail
  have qq2 := rowsC_one 22 x_10
  have alm2 := alloc_below (w := w10) (.cells #[.slice a n c1] 22)
  have hsm2 : w10.heap.size ≤ (w10.alloc (.cells #[.slice a n c1] 22)).heap.size := by have := alm2.size; omega
  have x_alm2 := x_10.later alm2
  have y_alm2 := y_10.later alm2
  have O_alm2 := P_10.later alm2
  have B_alm2 := B_10.trans (alm2.mono B_10.size)
  clear x_10 y_10 P_10 B_10 alm2
  refine (sumO qq2 hws1 (by omega) hs1 lA (by omega)).mono ?_
  rintro e w11 ⟨v11, rfl, o11, hb11⟩
  obtain ⟨p11, q11, u11, rfl⟩ := o11.slice
  have x_11 := x_alm2.later hb11
  have y_11 := y_alm2.later hb11
  have O_11 := O_alm2.later hb11
  have B_11 := B_alm2.trans (hb11.mono B_alm2.size)
  clear x_alm2 y_alm2 O_alm2 B_alm2 hb11
  have P_11 := O_11.next o11 s10 (hsm2)
  clear O_11 o11
  have s11 := B_11.size
  clear s10
  clear qq2 hsm2
  go_wp2_with fail
  have qq3 := rowsC_three 22 x_11 y_11 x_11
  have alm3 := alloc_below (w := w11) (.cells #[.slice a n c1, .slice b m c2, .slice a n c1] 22)
  have hsm3 : w11.heap.size ≤ (w11.alloc (.cells #[.slice a n c1, .slice b m c2, .slice a n c1] 22)).heap.size := by have := alm3.size; omega
  have x_alm3 := x_11.later alm3
  have y_alm3 := y_11.later alm3
  have O_alm3 := P_11.later alm3
  have B_alm3 := B_11.trans (alm3.mono B_11.size)
  clear x_11 y_11 P_11 B_11 alm3
  refine (sumO qq3 hws3 (by omega) hs3 lS (by omega)).mono ?_
  rintro e w12 ⟨v12, rfl, o12, hb12⟩
  obtain ⟨p12, q12, u12, rfl⟩ := o12.slice
  have x_12 := x_alm3.later hb12
  have y_12 := y_alm3.later hb12
  have O_12 := O_alm3.later hb12
  have B_12 := B_alm3.trans (hb12.mono B_alm3.size)
  clear x_alm3 y_alm3 O_alm3 B_alm3 hb12
  have P_12 := O_12.next o12 s11 (hsm3)
  clear O_12 o12
  have s12 := B_12.size
  clear s11
  clear qq3 hsm3
  go_wp2_with fail
  refine (subN x_12 x_12 h1 h1 (by omega) lDA (by omega)).mono ?_
  rintro e w13 ⟨v13, rfl, o13, hb13⟩
  obtain ⟨p13, q13, u13, rfl⟩ := o13.slice
  have x_13 := x_12.later hb13
  have y_13 := y_12.later hb13
  have O_13 := P_12.later hb13
  have B_13 := B_12.trans (hb13.mono B_12.size)
  clear x_12 y_12 P_12 B_12 hb13
  have P_13 := O_13.next o13 s12 (Nat.le_refl _)
  clear O_13 o13
  have s13 := B_13.size
  clear s12
  go_wp2_with fail
  refine (normN x_13 h1).mono ?_
  rintro e w14 ⟨v14, rfl, o14, hb14⟩
  obtain ⟨p14, q14, u14, rfl⟩ := o14.slice
  have x_14 := x_13.later hb14
  have y_14 := y_13.later hb14
  have O_14 := P_13.later hb14
  have B_14 := B_13.trans (hb14.mono B_13.size)
  clear x_13 y_13 P_13 B_13 hb14
  have P_14 := O_14.next o14 s13 (Nat.le_refl _)
  clear O_14 o14
  have s14 := B_14.size
  clear s13
  go_wp2_with fail
  refine (normN y_14 h2).mono ?_
  rintro e w15 ⟨v15, rfl, o15, hb15⟩
  obtain ⟨p15, q15, u15, rfl⟩ := o15.slice
  have x_15 := x_14.later hb15
  have y_15 := y_14.later hb15
  have O_15 := P_14.later hb15
  have B_15 := B_14.trans (hb15.mono B_14.size)
  clear x_14 y_14 P_14 B_14 hb15
  have P_15 := O_15.next o15 s14 (Nat.le_refl _)
  clear O_15 o15
  have s15 := B_15.size
  clear s14
  go_wp2_with fail
  refine (natFrom_any (v := 7) (by omega) _).mono ?_
  rintro e w16 ⟨v16, rfl, o16, hb16⟩
  obtain ⟨p16, q16, u16, rfl⟩ := o16.slice
  have x_16 := x_15.later hb16
  have y_16 := y_15.later hb16
  have O_16 := P_15.later hb16
  have B_16 := B_15.trans (hb16.mono B_15.size)
  clear x_15 y_15 P_15 B_15 hb16
  have P_16 := O_16.next o16 s15 (Nat.le_refl _)
  clear O_16 o16
  have s16 := B_16.size
  clear s15
  clear x_16 y_16
  go_wp2
  have al := alloc_below (w := w16) (.cells #[.slice p1 q1 u1, .slice p2 q2 u2, .slice p3 q3 u3, .slice p4 q4 u4, .slice p5 q5 u5, .slice p6 q6 u6, .slice p7 q7 u7, .slice p8 q8 u8, .slice p9 q9 u9, .slice p10 q10 u10, .slice p11 q11 u11, .slice p12 q12 u12, .slice p13 q13 u13, .slice p14 q14 u14, .slice p15 q15 u15, .slice p16 q16 u16] 22)
  have OO := P_16.later al
  have BB := B_16.trans (al.mono B_16.size)
  go_ret2
  exact ⟨_, [.slice p1 q1 u1, .slice p2 q2 u2, .slice p3 q3 u3, .slice p4 q4 u4, .slice p5 q5 u5, .slice p6 q6 u6, .slice p7 q7 u7, .slice p8 q8 u8, .slice p9 q9 u9, .slice p10 q10 u10, .slice p11 q11 u11, .slice p12 q12 u12, .slice p13 q13 u13, .slice p14 q14 u14, .slice p15 q15 u15, .slice p16 q16 u16], rfl, heap_alloc_new _ _, OO, BB⟩
end Go.Proofs.Ythigofcbmgheeab
