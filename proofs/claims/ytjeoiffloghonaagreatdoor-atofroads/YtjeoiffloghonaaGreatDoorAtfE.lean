/- package atof: shortened. -/
import Derived.Test.YtjeoiffloghonaaGreatDoorAtfC
import Derived.Test.YtjeoiffloghonaaGreatDoorLemC
namespace Go.Proofs.YtjeoiffloghonaaGreatDoor
open Go.ChangeShapes Go.WideShapes Go.ChangeAt Go.RowKit
open Na Ar Lx
set_option linter.unusedVariables false
theorem Bk.drew {w : World} {g : Nat} {t : TypeId} {vs : Array Value} (h : Bk w g t vs) : Bk w.drew g t vs := h
set_option maxHeartbeats 1600000 in
set_option maxRecDepth 100000 in
theorem short_same (k : Int) (ng : Bool) (num : ByteArray) (e : Int) (den : ByteArray) (h : k = 3 ∨ num.size ≤ 768) (w : World) :
    Calls Tryz.prog 75 #[.agg (numC k ng num e den)] w fun r w' => r = .returned (.agg (numC k ng num e den)) ∧ Below w.heap.size w w' := by
  have hb0 : Below w.heap.size w ((w.alloc (.cells (numC k ng num e den) 23)).alloc (.cells zero5 23)) := ((Below.refl _ w).alloc (Nat.le_refl _) _).alloc (by simp) _
  by_cases hk : k = 3
  · have t : (k == 3) = true := beq_of hk
    clear hk h
    unfold numC zero5 at *
    go_enter Tryz.func75, Tryz.ntmps75
    go_wp2
    refine bodyPost_ret (results_cell_row rfl _ _ (w.heap.size + 1) 23 #[.int .i64 k, .bool ng, .string num, .int .i64 e, .string den] (0, 0) _ rfl ?_ Tryz.underlying23 rfl (by kernel_rfl)) rfl ⟨rfl, ((Below.refl _ w).alloc (Nat.le_refl _) _).alloc (by simp) _⟩
    have := Bk.new (w.alloc (.cells #[.int .i64 k, .bool ng, .string num, .int .i64 e, .string den] 23)) 23 #[.int .i64 k, .bool ng, .string num, .int .i64 e, .string den]
    rw [World.size_alloc] at this
    exact this
  · have t : (k == 3) = false := beq_no hk
    have h' : num.size ≤ 768 := h.resolve_left hk
    have t2 : decide ((num.size : Int) ≤ 768) = true := by simp; omega
    clear hk h
    unfold numC zero5 at *
    go_enter Tryz.func75, Tryz.ntmps75
    go_wp2
    refine bodyPost_ret (results_cell_row rfl _ _ (w.heap.size + 1) 23 #[.int .i64 k, .bool ng, .string num, .int .i64 e, .string den] (0, 0) _ rfl ?_ Tryz.underlying23 rfl (by kernel_rfl)) rfl ⟨rfl, ((Below.refl _ w).alloc (Nat.le_refl _) _).alloc (by simp) _⟩
    have := Bk.new (w.alloc (.cells #[.int .i64 k, .bool ng, .string num, .int .i64 e, .string den] 23)) 23 #[.int .i64 k, .bool ng, .string num, .int .i64 e, .string den]
    rw [World.size_alloc] at this
    exact this
set_option maxHeartbeats 3200000 in
set_option maxRecDepth 100000 in
theorem short_long (k : Int) (ng : Bool) (num : ByteArray) (e : Int) (den : ByteArray) (hk : k = 1 ∨ k = 2) (h : 768 < num.size) (hs : num.size ≤ 65536) (e0 : -1073741824 ≤ e) (e1 : e ≤ 1073741824) (w : World) :
    Calls Tryz.prog 75 #[.agg (numC k ng num e den)] w fun r w' => r = .returned (.agg (numC k ng (str (shN k num.data.toList)) (shE k num.data.toList e) den)) ∧ Below w.heap.size w w' := by
  have hl : num.data.toList.length = num.size := (Lib.size_eq num).symm
  have t : (k == 3) = false := beq_no (by omega)
  have t2 : decide ((num.size : Int) ≤ 768) = false := by simp; omega
  have hc : ¬ (k = 3 ∨ num.data.toList.length ≤ 768) := by omega
  have x1 : num.extract 0 768 = str (num.data.toList.take 768) := by rw [ext_str, List.drop_zero, Nat.sub_zero]
  have x2 : num.extract 768 num.size = str (num.data.toList.drop 768) := by rw [ext_str, List.take_of_length_le (by rw [List.length_drop, hl]; exact Nat.le_refl _)]
  have x3 : (str (num.data.toList.drop 768)).extract 1 (num.size - 768) = str (num.data.toList.drop 769) := by
    rw [ext_str, str_list, List.drop_drop, List.take_of_length_le (by rw [List.length_drop, hl]; omega)]
  have hT := fun w => trim_zero (str (num.data.toList.drop 768)) (by rw [str_size, List.length_drop]; omega) w
  rw [str_list] at hT
  have hem := empty_list (trimL [48] (trimR [48] (num.data.toList.drop 768)))
  have hz0 : (trimL [48] (trimR [48] (num.data.toList.drop 768))).isEmpty = zeros (num.data.toList.drop 768) := rfl
  rw [hz0] at hem
  have s1 : (str (num.data.toList.take 768)).size = 768 := by rw [str_size, List.length_take]; omega
  have s2 : (str (num.data.toList.drop 768)).size = num.size - 768 := by rw [str_size, List.length_drop, hl]
  have s3 : (str (num.data.toList.drop 769)).size = num.size - 769 := by rw [str_size, List.length_drop, hl]
  have hadd : str (num.data.toList.take 768) ++ ⟨#[49]⟩ = str (num.data.toList.take 768 ++ [49]) := str_app _ [49]
  have hP := fun w => perDigit_any k w
  have hp4 : 0 ≤ perD k ∧ perD k ≤ 4 := by unfold perD; split <;> omega
  cases hz : zeros (num.data.toList.drop 768)
  · have E1 : shN k num.data.toList = num.data.toList.take 768 ++ [49] := by unfold shN; rw [if_neg hc, if_neg (by rw [hz]; decide)]
    have E2 : shE k num.data.toList e = e + ((num.size - 769 : Nat) : Int) * perD k := by unfold shE; rw [if_neg hc, if_neg (by rw [hz]; decide), hl]
    rw [E1, E2]
    rw [hz] at hem
    have hmul : ((num.size - 769 : Nat) : Int) * perD k ≤ 65536 * 4 := Int.mul_le_mul (by omega) hp4.2 hp4.1 (by omega)
    have hmul0 : 0 ≤ ((num.size - 769 : Nat) : Int) * perD k := Int.mul_nonneg (by omega) hp4.1
    have w1' : IntKind.i64.wrap (((num.size - 769 : Nat) : Int) * perD k) = ((num.size - 769 : Nat) : Int) * perD k := wrapI (by omega) (by omega)
    have w2' : IntKind.i64.wrap (e + ((num.size - 769 : Nat) : Int) * perD k) = e + ((num.size - 769 : Nat) : Int) * perD k := wrapI (by omega) (by omega)
    clear E1 E2 hc hz0 hz hk t2 hl
    generalize str (trimL [48] (trimR [48] (num.data.toList.drop 768))) = T3 at *
    generalize str (num.data.toList.take 768 ++ [49]) = H1 at *
    generalize str (num.data.toList.take 768) = H at *
    generalize str (num.data.toList.drop 768) = T at *
    generalize str (num.data.toList.drop 769) = T1 at *
    have B0 : Bk ((w.alloc (.cells (numC k ng num e den) 23)).alloc (.cells zero5 23)) w.heap.size 23 (numC k ng num e den) := (Bk.new w _ _).later ((Below.refl _ _).alloc (Nat.le_refl _) _)
    have B1 : Bk ((w.alloc (.cells (numC k ng num e den) 23)).alloc (.cells zero5 23)) (w.heap.size + 1) 23 zero5 := by
      have := Bk.new (w.alloc (.cells (numC k ng num e den) 23)) 23 zero5
      rw [World.size_alloc] at this
      exact this
    have hb0 : Below w.heap.size w ((w.alloc (.cells (numC k ng num e den) 23)).alloc (.cells zero5 23)) := ((Below.refl _ w).alloc (Nat.le_refl _) _).alloc (by simp) _
    obtain ⟨w0, hw0⟩ : ∃ w0, w0 = ((w.alloc (.cells #[.int .i64 k, .bool ng, .string num, .int .i64 e, .string den] 23)).alloc (.cells #[.int .i64 0, .bool false, .string ⟨#[]⟩, .int .i64 0, .string ⟨#[]⟩] 23)) := ⟨_, rfl⟩
    unfold numC zero5 at B0 B1 hb0
    rw [← hw0] at B0 B1 hb0
    obtain ⟨g, hg⟩ : ∃ g, g = w.heap.size := ⟨_, rfl⟩
    rw [← hg] at B0 B1 hb0
    have c0 := B0.cell 0 rfl
    have c2 := B0.cell 2 rfl
    have f2 := B0.frozen 2
    have HG : Hid (w.heap.size = g) := hg.symm
    have HB0 : Hid _ := B0
    have HB1 : Hid _ := B1
    clear B0 B1
    unfold numC
    go_enter Tryz.func75, Tryz.ntmps75
    go_wp2
    rw [← hw0, ← hg]
    clear hw0 hg
    go_quiet (fail)
    go_wp2_with fail
    refine (hT _).mono ?_
    rintro r w1 ⟨rfl, hb1⟩
    have A0 : Bk (w0.drewN nq) g 23 #[.int .i64 k, .bool ng, .string num, .int .i64 e, .string den] := HB0.out
    have A1 : Bk (w0.drewN nq) (g + 1) 23 zero5 := HB1.out
    have C0 : Bk w1 g 23 #[.int .i64 k, .bool ng, .string H, .int .i64 e, .string den] := (Bk.set A0 2 (.string H)).later hb1
    have C1 : Bk w1 (g + 1) 23 zero5 := (Bk.tn A1 ((Tn.refl g (w0.drewN nq)).set 2 (.string H)) (by omega)).later hb1
    have hB : Below g w w1 := (Tn.below (below_drewN hb0 nq) ((Tn.refl g _).set 2 (.string H)) (Nat.le_refl _) (by rw [HG.out]; exact Nat.le_refl _)).trans (hb1.mono (by have := hb0.size; have := HG.out; simp; omega))
    clear hT hb1 HB0 HB1 hb0 c0 c2 f2 A0 A1
    have c2 := C0.cell 2 rfl
    have f2 := C0.frozen 2
    have HC0 : Hid (Bk w1 g 23 #[.int .i64 k, .bool ng, .string H, .int .i64 e, .string den]) := C0
    have HC1 : Hid (Bk w1 (g + 1) 23 zero5) := C1
    clear C0 C1
    go_wp2_with fail
    go_region
    have D0 : Bk (w1.setCell ⟨g, 2, none⟩ (.string H1)).drew g 23 #[.int .i64 k, .bool ng, .string H1, .int .i64 e, .string den] := Bk.set HC0.out 2 (.string H1)
    have D1' : Bk (w1.setCell ⟨g, 2, none⟩ (.string H1)) (g + 1) 23 zero5 := Bk.tn HC1.out ((Tn.refl g w1).set 2 (.string H1)) (by omega)
    have D1 : Bk (w1.setCell ⟨g, 2, none⟩ (.string H1)).drew (g + 1) 23 zero5 := D1'
    clear D1'
    have hB2 : Below g w (w1.setCell ⟨g, 2, none⟩ (.string H1)).drew := below_drewN (Tn.below hB ((Tn.refl g _).set 2 (.string H1)) (Nat.le_refl _) (by rw [HG.out]; exact Nat.le_refl _)) 1
    generalize (w1.setCell ⟨g, 2, none⟩ (.string H1)).drew = w2 at *
    clear HC0 HC1 hB c2 f2
    have HD1 : Hid (Bk w2 (g + 1) 23 zero5) := D1
    have HD0 : Hid (Bk w2 g 23 #[.int .i64 k, .bool ng, .string H1, .int .i64 e, .string den]) := D0
    have d0 := D0.cell 0 (v := .int .i64 k) rfl
    have d1 := D0.cell 1 (v := .bool ng) rfl
    have d2 := D0.cell 2 (v := .string H1) rfl
    have d3 := D0.cell 3 (v := .int .i64 e) rfl
    have d4 := D0.cell 4 (v := .string den) rfl
    have f3 := D0.frozen 3
    have z0 := D1.cell 0 rfl
    have z1 := D1.cell 1 rfl
    have z2 := D1.cell 2 rfl
    have z3 := D1.cell 3 rfl
    have z4 := D1.cell 4 rfl
    have y0 := D1.frozen 0
    have y1 := D1.frozen 1
    have y2 := D1.frozen 2
    have y3 := D1.frozen 3
    have y4 := D1.frozen 4
    have E1 : Hid (Bk (w2.setCell ⟨g, 3, none⟩ (.int .i64 (e + ((num.size - 769 : Nat) : Int) * perD k))) (g + 1) 23 zero5) := Bk.tn D1 ((Tn.refl g w2).set 3 _) (by omega)
    have hB3 : Below g w (w2.setCell ⟨g, 3, none⟩ (.int .i64 (e + ((num.size - 769 : Nat) : Int) * perD k))) := Tn.below hB2 ((Tn.refl g _).set 3 _) (Nat.le_refl _) (by rw [HG.out]; exact Nat.le_refl _)
    clear D0 D1
    go_wp2_with fail
    go_region_with ((go_at_call 129; refine (hP _).mono ?_; rintro r wX ⟨rfl, hwX⟩; rw [hwX]))
    all_goals
      go_wp2
      refine bodyPost_ret (results_cell_row rfl _ _ (g + 1) 23 #[.int .i64 k, .bool ng, .string H1, .int .i64 (e + ((num.size - 769 : Nat) : Int) * perD k), .string den] (0, 0) _ rfl (Bk.drew (Bk.all5 E1.out _ _ _ _ _)) Tryz.underlying23 rfl (by kernel_rfl)) rfl ⟨rfl, ?_⟩
      rw [HG.out]
      exact below_drewN (Tn.below hB3 (Tn.all5 ..) (by omega) (by rw [HG.out]; exact Nat.le_refl _)) 1
  · have E1 : shN k num.data.toList = num.data.toList.take 768 := by unfold shN; rw [if_neg hc, if_pos hz]
    have E2 : shE k num.data.toList e = e + ((num.size - 768 : Nat) : Int) * perD k := by unfold shE; rw [if_neg hc, if_pos hz, hl]
    rw [E1, E2]
    rw [hz] at hem
    have hmul : ((num.size - 768 : Nat) : Int) * perD k ≤ 65536 * 4 := Int.mul_le_mul (by omega) hp4.2 hp4.1 (by omega)
    have hmul0 : 0 ≤ ((num.size - 768 : Nat) : Int) * perD k := Int.mul_nonneg (by omega) hp4.1
    have wm1 : IntKind.i64.wrap (((num.size - 768 : Nat) : Int) * perD k) = ((num.size - 768 : Nat) : Int) * perD k := wrapI (by omega) (by omega)
    have wm2 : IntKind.i64.wrap (e + ((num.size - 768 : Nat) : Int) * perD k) = e + ((num.size - 768 : Nat) : Int) * perD k := wrapI (by omega) (by omega)
    clear E1 E2 hc hz0 hz hk t2 hl
    generalize str (trimL [48] (trimR [48] (num.data.toList.drop 768))) = T3 at *
    clear hadd
    generalize str (num.data.toList.take 768) = H at *
    generalize str (num.data.toList.drop 768) = T at *
    generalize str (num.data.toList.drop 769) = T1 at *
    have B0 : Bk ((w.alloc (.cells (numC k ng num e den) 23)).alloc (.cells zero5 23)) w.heap.size 23 (numC k ng num e den) := (Bk.new w _ _).later ((Below.refl _ _).alloc (Nat.le_refl _) _)
    have B1 : Bk ((w.alloc (.cells (numC k ng num e den) 23)).alloc (.cells zero5 23)) (w.heap.size + 1) 23 zero5 := by
      have := Bk.new (w.alloc (.cells (numC k ng num e den) 23)) 23 zero5
      rw [World.size_alloc] at this
      exact this
    have hb0 : Below w.heap.size w ((w.alloc (.cells (numC k ng num e den) 23)).alloc (.cells zero5 23)) := ((Below.refl _ w).alloc (Nat.le_refl _) _).alloc (by simp) _
    obtain ⟨w0, hw0⟩ : ∃ w0, w0 = ((w.alloc (.cells #[.int .i64 k, .bool ng, .string num, .int .i64 e, .string den] 23)).alloc (.cells #[.int .i64 0, .bool false, .string ⟨#[]⟩, .int .i64 0, .string ⟨#[]⟩] 23)) := ⟨_, rfl⟩
    unfold numC zero5 at B0 B1 hb0
    rw [← hw0] at B0 B1 hb0
    obtain ⟨g, hg⟩ : ∃ g, g = w.heap.size := ⟨_, rfl⟩
    rw [← hg] at B0 B1 hb0
    have c0 := B0.cell 0 rfl
    have c2 := B0.cell 2 rfl
    have f2 := B0.frozen 2
    have HG : Hid (w.heap.size = g) := hg.symm
    have HB0 : Hid _ := B0
    have HB1 : Hid _ := B1
    clear B0 B1
    unfold numC
    go_enter Tryz.func75, Tryz.ntmps75
    go_wp2
    rw [← hw0, ← hg]
    clear hw0 hg
    go_quiet (fail)
    go_wp2_with fail
    refine (hT _).mono ?_
    rintro r w1 ⟨rfl, hb1⟩
    have A0 : Bk (w0.drewN nq) g 23 #[.int .i64 k, .bool ng, .string num, .int .i64 e, .string den] := HB0.out
    have A1 : Bk (w0.drewN nq) (g + 1) 23 zero5 := HB1.out
    have C0 : Bk w1 g 23 #[.int .i64 k, .bool ng, .string H, .int .i64 e, .string den] := (Bk.set A0 2 (.string H)).later hb1
    have C1 : Bk w1 (g + 1) 23 zero5 := (Bk.tn A1 ((Tn.refl g (w0.drewN nq)).set 2 (.string H)) (by omega)).later hb1
    have hB : Below g w w1 := (Tn.below (below_drewN hb0 nq) ((Tn.refl g _).set 2 (.string H)) (Nat.le_refl _) (by rw [HG.out]; exact Nat.le_refl _)).trans (hb1.mono (by have := hb0.size; have := HG.out; simp; omega))
    clear hT hb1 HB0 HB1 hb0 c0 c2 f2 A0 A1
    have c2 := C0.cell 2 rfl
    have f2 := C0.frozen 2
    have HC0 : Hid (Bk w1 g 23 #[.int .i64 k, .bool ng, .string H, .int .i64 e, .string den]) := C0
    have HC1 : Hid (Bk w1 (g + 1) 23 zero5) := C1
    clear C0 C1
    have D0 := HC0.out
    have D1 := HC1.out
    have hB2 := hB
    clear HC0 HC1 hB c2 f2
    have HD1 : Hid (Bk w1 (g + 1) 23 zero5) := D1
    have HD0 : Hid (Bk w1 g 23 #[.int .i64 k, .bool ng, .string H, .int .i64 e, .string den]) := D0
    have d0 := D0.cell 0 (v := .int .i64 k) rfl
    have d1 := D0.cell 1 (v := .bool ng) rfl
    have d2 := D0.cell 2 (v := .string H) rfl
    have d3 := D0.cell 3 (v := .int .i64 e) rfl
    have d4 := D0.cell 4 (v := .string den) rfl
    have f3 := D0.frozen 3
    have z0 := D1.cell 0 rfl
    have z1 := D1.cell 1 rfl
    have z2 := D1.cell 2 rfl
    have z3 := D1.cell 3 rfl
    have z4 := D1.cell 4 rfl
    have y0 := D1.frozen 0
    have y1 := D1.frozen 1
    have y2 := D1.frozen 2
    have y3 := D1.frozen 3
    have y4 := D1.frozen 4
    have E1 : Hid (Bk (w1.setCell ⟨g, 3, none⟩ (.int .i64 (e + ((num.size - 768 : Nat) : Int) * perD k))) (g + 1) 23 zero5) := Bk.tn D1 ((Tn.refl g w1).set 3 _) (by omega)
    have hB3 : Below g w (w1.setCell ⟨g, 3, none⟩ (.int .i64 (e + ((num.size - 768 : Nat) : Int) * perD k))) := Tn.below hB2 ((Tn.refl g _).set 3 _) (Nat.le_refl _) (by rw [HG.out]; exact Nat.le_refl _)
    clear D0 D1
    go_wp2_with fail
    go_region_with ((go_at_call 129; refine (hP _).mono ?_; rintro r wX ⟨rfl, hwX⟩; rw [hwX]))
    all_goals
      go_wp2
      refine bodyPost_ret (results_cell_row rfl _ _ (g + 1) 23 #[.int .i64 k, .bool ng, .string H, .int .i64 (e + ((num.size - 768 : Nat) : Int) * perD k), .string den] (0, 0) _ rfl (Bk.drew (Bk.all5 E1.out _ _ _ _ _)) Tryz.underlying23 rfl (by kernel_rfl)) rfl ⟨rfl, ?_⟩
      rw [HG.out]
      exact below_drewN (Tn.below hB3 (Tn.all5 ..) (by omega) (by rw [HG.out]; exact Nat.le_refl _)) 1
end Go.Proofs.YtjeoiffloghonaaGreatDoor
