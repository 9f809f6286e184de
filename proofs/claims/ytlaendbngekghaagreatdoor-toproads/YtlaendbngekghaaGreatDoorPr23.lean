import Derived.Below
import Derived.BigQuiet
import Derived.ChangeOld
import Derived.Deep.CutRange
import Derived.Deep.DeepCutAuto
import Derived.Deep.LoopGhost
import Derived.Deep.QuietTactic
import Derived.Deep.RegionHeld3
import Derived.Deep.RegionWith
import Derived.Deep.WholeRow
import Derived.KernelRfl
import Derived.Laws.BitsAllLaws
import Derived.Laws.CopyRow
import Derived.Laws.EntriesVeiled
import Derived.Laws.Externs
import Derived.Laws.IdiomCopy
import Derived.Laws.IdiomRangeMap
import Derived.Laws.IdiomStrings
import Derived.Laws.RangeAny
import Derived.Laws.RangeString
import Derived.Laws.ResultCell
import Derived.Laws.Runes
import Derived.Laws.Strings3
import Derived.Lib.AsciiSet
import Derived.Lib.AtoiErrMem
import Derived.Lib.Bytealg
import Derived.Lib.ConvBytes
import Derived.Lib.IndexBytes
import Derived.Lib.OthersKept
import Derived.Lib.Strings
import Derived.Lib.TrimByte
import Derived.Lib.Walk
import Derived.OpenShut
import Derived.OwnWalk
import Derived.ProofKit
import Derived.Scope
import Derived.Shelf.Strconv.Clone
import Derived.Shelf.Strings.OnBuilder
import Derived.ShutString
import Derived.WalkKit
import Derived.WalkLawsBesides
import Derived.WalkMore
import Derived.WalkSpells
import Derived.Test.YtlaendbngekghaaGreatDoorPr17
import Derived.Test.YtlaendbngekghaaGreatDoorPr19
import Derived.Test.YtlaendbngekghaaGreatDoorPr20
import Derived.Test.YtlaendbngekghaaGreatDoorPr21
import Derived.Test.YtlaendbngekghaaGreatDoorPr22
/- package atof: shortened. -/
namespace Go.Proofs.YtlaendbngekghaaGreatDoor
open Go.ChangeShapes Go.WideShapes Go.ChangeAt Go.RowKit
open Na Ar Lx
set_option linter.unusedVariables false
theorem Bk.drew {w : World} {g : Nat} {t : TypeId} {vs : Array Value} (h : Bk w g t vs) : Bk w.drew g t vs := h
set_option maxHeartbeats 1600000 in
set_option maxRecDepth 100000 in
theorem short_same (k : Int) (ng : Bool) (num : ByteArray) (e : Int) (den : ByteArray) (h : k = 3 ∨ num.size ≤ 768) (w : World) :
    Calls Tryz.prog 61 #[.agg (numC k ng num e den)] w fun r w' => r = .returned (.agg (numC k ng num e den)) ∧ Below w.heap.size w w' := by
  have hb0 : Below w.heap.size w ((w.alloc (.cells (numC k ng num e den) 30)).alloc (.cells zero5 30)) := ((Below.refl _ w).alloc (Nat.le_refl _) _).alloc (by simp) _
  by_cases hk : k = 3
  · have t : (k == 3) = true := beq_of hk
    clear hk h
    unfold numC zero5 at *
    go_enter Tryz.func61, Tryz.ntmps61
    go_wp2
    refine bodyPost_ret (results_cell_row rfl _ _ (w.heap.size + 1) 30 #[.int .i64 k, .bool ng, .string num, .int .i64 e, .string den] (0, 0) _ rfl ?_ Tryz.underlying30 rfl (by kernel_rfl)) rfl ⟨rfl, ((Below.refl _ w).alloc (Nat.le_refl _) _).alloc (by simp) _⟩
    have := Bk.new (w.alloc (.cells #[.int .i64 k, .bool ng, .string num, .int .i64 e, .string den] 30)) 30 #[.int .i64 k, .bool ng, .string num, .int .i64 e, .string den]
    rw [World.size_alloc] at this
    exact this
  · have t : (k == 3) = false := beq_no hk
    have h' : num.size ≤ 768 := h.resolve_left hk
    have t2 : decide ((num.size : Int) ≤ 768) = true := by simp; omega
    clear hk h
    unfold numC zero5 at *
    go_enter Tryz.func61, Tryz.ntmps61
    go_wp2
    refine bodyPost_ret (results_cell_row rfl _ _ (w.heap.size + 1) 30 #[.int .i64 k, .bool ng, .string num, .int .i64 e, .string den] (0, 0) _ rfl ?_ Tryz.underlying30 rfl (by kernel_rfl)) rfl ⟨rfl, ((Below.refl _ w).alloc (Nat.le_refl _) _).alloc (by simp) _⟩
    have := Bk.new (w.alloc (.cells #[.int .i64 k, .bool ng, .string num, .int .i64 e, .string den] 30)) 30 #[.int .i64 k, .bool ng, .string num, .int .i64 e, .string den]
    rw [World.size_alloc] at this
    exact this
set_option maxHeartbeats 3200000 in
set_option maxRecDepth 100000 in
theorem short_long (k : Int) (ng : Bool) (num : ByteArray) (e : Int) (den : ByteArray) (hk : k = 1 ∨ k = 2) (h : 768 < num.size) (hs : num.size ≤ 65536) (e0 : -1073741824 ≤ e) (e1 : e ≤ 1073741824) (w : World) :
    Calls Tryz.prog 61 #[.agg (numC k ng num e den)] w fun r w' => r = .returned (.agg (numC k ng (str (shN k num.data.toList)) (shE k num.data.toList e) den)) ∧ Below w.heap.size w w' := by
  have hl : num.data.toList.length = num.size := (Lib.size_eq num).symm
  have t : (k == 3) = false := beq_no (by omega)
  have t2 : decide ((num.size : Int) ≤ 768) = false := by simp; omega
  have hc : ¬ (k = 3 ∨ num.data.toList.length ≤ 768) := by omega
  have x1 : num.extract 0 768 = str (num.data.toList.take 768) := by rw [ext_str, List.drop_zero, Nat.sub_zero]
  have x2 : num.extract 768 num.size = str (num.data.toList.drop 768) := by rw [ext_str, List.take_of_length_le (by rw [List.length_drop, hl]; exact Nat.le_refl _)]
  have x3 : (str (num.data.toList.drop 768)).extract 1 (num.size - 768) = str (num.data.toList.drop 769) := by
    rw [ext_str, str_list, List.drop_drop, List.take_of_length_le (by rw [List.length_drop, hl]; omega)]
  have hT := fun w => trim_zero (str (num.data.toList.drop 768)) (by rw [str_size, List.length_drop]; omega) w
  rw [str_list] at hT
  have hem := empty_list (trimL [48] (trimR [48] (num.data.toList.drop 768)))
  have hz0 : (trimL [48] (trimR [48] (num.data.toList.drop 768))).isEmpty = zeros (num.data.toList.drop 768) := rfl
  rw [hz0] at hem
  have s1 : (str (num.data.toList.take 768)).size = 768 := by rw [str_size, List.length_take]; omega
  have s2 : (str (num.data.toList.drop 768)).size = num.size - 768 := by rw [str_size, List.length_drop, hl]
  have s3 : (str (num.data.toList.drop 769)).size = num.size - 769 := by rw [str_size, List.length_drop, hl]
  have hadd : str (num.data.toList.take 768) ++ ⟨#[49]⟩ = str (num.data.toList.take 768 ++ [49]) := str_app _ [49]
  have hP := fun w => perDigit_any k w
  have hp4 : 0 ≤ perD k ∧ perD k ≤ 4 := by unfold perD; split <;> omega
  cases hz : zeros (num.data.toList.drop 768)
  · have E1 : shN k num.data.toList = num.data.toList.take 768 ++ [49] := by unfold shN; rw [if_neg hc, if_neg (by rw [hz]; decide)]
    have E2 : shE k num.data.toList e = e + ((num.size - 769 : Nat) : Int) * perD k := by unfold shE; rw [if_neg hc, if_neg (by rw [hz]; decide), hl]
    rw [E1, E2]
    rw [hz] at hem
    have hmul : ((num.size - 769 : Nat) : Int) * perD k ≤ 65536 * 4 := Int.mul_le_mul (by omega) hp4.2 hp4.1 (by omega)
    have hmul0 : 0 ≤ ((num.size - 769 : Nat) : Int) * perD k := Int.mul_nonneg (by omega) hp4.1
    have w1' : IntKind.i64.wrap (((num.size - 769 : Nat) : Int) * perD k) = ((num.size - 769 : Nat) : Int) * perD k := wrapI (by omega) (by omega)
    have w2' : IntKind.i64.wrap (e + ((num.size - 769 : Nat) : Int) * perD k) = e + ((num.size - 769 : Nat) : Int) * perD k := wrapI (by omega) (by omega)
    clear E1 E2 hc hz0 hz hk t2 hl
    generalize str (trimL [48] (trimR [48] (num.data.toList.drop 768))) = T3 at *
    generalize str (num.data.toList.take 768 ++ [49]) = H1 at *
    generalize str (num.data.toList.take 768) = H at *
    generalize str (num.data.toList.drop 768) = T at *
    generalize str (num.data.toList.drop 769) = T1 at *
    have B0 : Bk ((w.alloc (.cells (numC k ng num e den) 30)).alloc (.cells zero5 30)) w.heap.size 30 (numC k ng num e den) := (Bk.new w _ _).later ((Below.refl _ _).alloc (Nat.le_refl _) _)
    have B1 : Bk ((w.alloc (.cells (numC k ng num e den) 30)).alloc (.cells zero5 30)) (w.heap.size + 1) 30 zero5 := by
      have := Bk.new (w.alloc (.cells (numC k ng num e den) 30)) 30 zero5
      rw [World.size_alloc] at this
      exact this
    have hb0 : Below w.heap.size w ((w.alloc (.cells (numC k ng num e den) 30)).alloc (.cells zero5 30)) := ((Below.refl _ w).alloc (Nat.le_refl _) _).alloc (by simp) _
    obtain ⟨w0, hw0⟩ : ∃ w0, w0 = ((w.alloc (.cells #[.int .i64 k, .bool ng, .string num, .int .i64 e, .string den] 30)).alloc (.cells #[.int .i64 0, .bool false, .string ⟨#[]⟩, .int .i64 0, .string ⟨#[]⟩] 30)) := ⟨_, rfl⟩
    unfold numC zero5 at B0 B1 hb0
    rw [← hw0] at B0 B1 hb0
    obtain ⟨g, hg⟩ : ∃ g, g = w.heap.size := ⟨_, rfl⟩
    rw [← hg] at B0 B1 hb0
    have c0 := B0.cell 0 rfl
    have c2 := B0.cell 2 rfl
    have f2 := B0.frozen 2
    have HG : Hid (w.heap.size = g) := hg.symm
    have HB0 : Hid _ := B0
    have HB1 : Hid _ := B1
    clear B0 B1
    unfold numC
    go_enter Tryz.func61, Tryz.ntmps61
    go_wp2
    rw [← hw0, ← hg]
    clear hw0 hg
    go_quiet (fail)
    go_wp2_with fail
    refine (hT _).mono ?_
    rintro r w1 ⟨rfl, hb1⟩
    have A0 : Bk (w0.drewN nq) g 30 #[.int .i64 k, .bool ng, .string num, .int .i64 e, .string den] := HB0.out
    have A1 : Bk (w0.drewN nq) (g + 1) 30 zero5 := HB1.out
    have C0 : Bk w1 g 30 #[.int .i64 k, .bool ng, .string H, .int .i64 e, .string den] := (Bk.set A0 2 (.string H)).later hb1
    have C1 : Bk w1 (g + 1) 30 zero5 := (Bk.tn A1 ((Tn.refl g (w0.drewN nq)).set 2 (.string H)) (by omega)).later hb1
    have hB : Below g w w1 := (Tn.below (below_drewN hb0 nq) ((Tn.refl g _).set 2 (.string H)) (Nat.le_refl _) (by rw [HG.out]; exact Nat.le_refl _)).trans (hb1.mono (by have := hb0.size; have := HG.out; simp; omega))
    clear hT hb1 HB0 HB1 hb0 c0 c2 f2 A0 A1
    have c2 := C0.cell 2 rfl
    have f2 := C0.frozen 2
    have HC0 : Hid (Bk w1 g 30 #[.int .i64 k, .bool ng, .string H, .int .i64 e, .string den]) := C0
    have HC1 : Hid (Bk w1 (g + 1) 30 zero5) := C1
    clear C0 C1
    go_wp2_with fail
    go_region
    have D0 : Bk (w1.setCell ⟨g, 2, none⟩ (.string H1)).drew g 30 #[.int .i64 k, .bool ng, .string H1, .int .i64 e, .string den] := Bk.set HC0.out 2 (.string H1)
    have D1' : Bk (w1.setCell ⟨g, 2, none⟩ (.string H1)) (g + 1) 30 zero5 := Bk.tn HC1.out ((Tn.refl g w1).set 2 (.string H1)) (by omega)
    have D1 : Bk (w1.setCell ⟨g, 2, none⟩ (.string H1)).drew (g + 1) 30 zero5 := D1'
    clear D1'
    have hB2 : Below g w (w1.setCell ⟨g, 2, none⟩ (.string H1)).drew := below_drewN (Tn.below hB ((Tn.refl g _).set 2 (.string H1)) (Nat.le_refl _) (by rw [HG.out]; exact Nat.le_refl _)) 1
    generalize (w1.setCell ⟨g, 2, none⟩ (.string H1)).drew = w2 at *
    clear HC0 HC1 hB c2 f2
    have HD1 : Hid (Bk w2 (g + 1) 30 zero5) := D1
    have HD0 : Hid (Bk w2 g 30 #[.int .i64 k, .bool ng, .string H1, .int .i64 e, .string den]) := D0
    have d0 := D0.cell 0 (v := .int .i64 k) rfl
    have d1 := D0.cell 1 (v := .bool ng) rfl
    have d2 := D0.cell 2 (v := .string H1) rfl
    have d3 := D0.cell 3 (v := .int .i64 e) rfl
    have d4 := D0.cell 4 (v := .string den) rfl
    have f3 := D0.frozen 3
    have z0 := D1.cell 0 rfl
    have z1 := D1.cell 1 rfl
    have z2 := D1.cell 2 rfl
    have z3 := D1.cell 3 rfl
    have z4 := D1.cell 4 rfl
    have y0 := D1.frozen 0
    have y1 := D1.frozen 1
    have y2 := D1.frozen 2
    have y3 := D1.frozen 3
    have y4 := D1.frozen 4
    have E1 : Hid (Bk (w2.setCell ⟨g, 3, none⟩ (.int .i64 (e + ((num.size - 769 : Nat) : Int) * perD k))) (g + 1) 30 zero5) := Bk.tn D1 ((Tn.refl g w2).set 3 _) (by omega)
    have hB3 : Below g w (w2.setCell ⟨g, 3, none⟩ (.int .i64 (e + ((num.size - 769 : Nat) : Int) * perD k))) := Tn.below hB2 ((Tn.refl g _).set 3 _) (Nat.le_refl _) (by rw [HG.out]; exact Nat.le_refl _)
    clear D0 D1
    go_wp2_with fail
    go_region_with ((go_at_call 105; refine (hP _).mono ?_; rintro r wX ⟨rfl, hwX⟩; rw [hwX]))
    all_goals
      go_wp2
      refine bodyPost_ret (results_cell_row rfl _ _ (g + 1) 30 #[.int .i64 k, .bool ng, .string H1, .int .i64 (e + ((num.size - 769 : Nat) : Int) * perD k), .string den] (0, 0) _ rfl (Bk.drew (Bk.all5 E1.out _ _ _ _ _)) Tryz.underlying30 rfl (by kernel_rfl)) rfl ⟨rfl, ?_⟩
      rw [HG.out]
      exact below_drewN (Tn.below hB3 (Tn.all5 ..) (by omega) (by rw [HG.out]; exact Nat.le_refl _)) 1
  · have E1 : shN k num.data.toList = num.data.toList.take 768 := by unfold shN; rw [if_neg hc, if_pos hz]
    have E2 : shE k num.data.toList e = e + ((num.size - 768 : Nat) : Int) * perD k := by unfold shE; rw [if_neg hc, if_pos hz, hl]
    rw [E1, E2]
    rw [hz] at hem
    have hmul : ((num.size - 768 : Nat) : Int) * perD k ≤ 65536 * 4 := Int.mul_le_mul (by omega) hp4.2 hp4.1 (by omega)
    have hmul0 : 0 ≤ ((num.size - 768 : Nat) : Int) * perD k := Int.mul_nonneg (by omega) hp4.1
    have wm1 : IntKind.i64.wrap (((num.size - 768 : Nat) : Int) * perD k) = ((num.size - 768 : Nat) : Int) * perD k := wrapI (by omega) (by omega)
    have wm2 : IntKind.i64.wrap (e + ((num.size - 768 : Nat) : Int) * perD k) = e + ((num.size - 768 : Nat) : Int) * perD k := wrapI (by omega) (by omega)
    clear E1 E2 hc hz0 hz hk t2 hl
    generalize str (trimL [48] (trimR [48] (num.data.toList.drop 768))) = T3 at *
    clear hadd
    generalize str (num.data.toList.take 768) = H at *
    generalize str (num.data.toList.drop 768) = T at *
    generalize str (num.data.toList.drop 769) = T1 at *
    have B0 : Bk ((w.alloc (.cells (numC k ng num e den) 30)).alloc (.cells zero5 30)) w.heap.size 30 (numC k ng num e den) := (Bk.new w _ _).later ((Below.refl _ _).alloc (Nat.le_refl _) _)
    have B1 : Bk ((w.alloc (.cells (numC k ng num e den) 30)).alloc (.cells zero5 30)) (w.heap.size + 1) 30 zero5 := by
      have := Bk.new (w.alloc (.cells (numC k ng num e den) 30)) 30 zero5
      rw [World.size_alloc] at this
      exact this
    have hb0 : Below w.heap.size w ((w.alloc (.cells (numC k ng num e den) 30)).alloc (.cells zero5 30)) := ((Below.refl _ w).alloc (Nat.le_refl _) _).alloc (by simp) _
    obtain ⟨w0, hw0⟩ : ∃ w0, w0 = ((w.alloc (.cells #[.int .i64 k, .bool ng, .string num, .int .i64 e, .string den] 30)).alloc (.cells #[.int .i64 0, .bool false, .string ⟨#[]⟩, .int .i64 0, .string ⟨#[]⟩] 30)) := ⟨_, rfl⟩
    unfold numC zero5 at B0 B1 hb0
    rw [← hw0] at B0 B1 hb0
    obtain ⟨g, hg⟩ : ∃ g, g = w.heap.size := ⟨_, rfl⟩
    rw [← hg] at B0 B1 hb0
    have c0 := B0.cell 0 rfl
    have c2 := B0.cell 2 rfl
    have f2 := B0.frozen 2
    have HG : Hid (w.heap.size = g) := hg.symm
    have HB0 : Hid _ := B0
    have HB1 : Hid _ := B1
    clear B0 B1
    unfold numC
    go_enter Tryz.func61, Tryz.ntmps61
    go_wp2
    rw [← hw0, ← hg]
    clear hw0 hg
    go_quiet (fail)
    go_wp2_with fail
    refine (hT _).mono ?_
    rintro r w1 ⟨rfl, hb1⟩
    have A0 : Bk (w0.drewN nq) g 30 #[.int .i64 k, .bool ng, .string num, .int .i64 e, .string den] := HB0.out
    have A1 : Bk (w0.drewN nq) (g + 1) 30 zero5 := HB1.out
    have C0 : Bk w1 g 30 #[.int .i64 k, .bool ng, .string H, .int .i64 e, .string den] := (Bk.set A0 2 (.string H)).later hb1
    have C1 : Bk w1 (g + 1) 30 zero5 := (Bk.tn A1 ((Tn.refl g (w0.drewN nq)).set 2 (.string H)) (by omega)).later hb1
    have hB : Below g w w1 := (Tn.below (below_drewN hb0 nq) ((Tn.refl g _).set 2 (.string H)) (Nat.le_refl _) (by rw [HG.out]; exact Nat.le_refl _)).trans (hb1.mono (by have := hb0.size; have := HG.out; simp; omega))
    clear hT hb1 HB0 HB1 hb0 c0 c2 f2 A0 A1
    have c2 := C0.cell 2 rfl
    have f2 := C0.frozen 2
    have HC0 : Hid (Bk w1 g 30 #[.int .i64 k, .bool ng, .string H, .int .i64 e, .string den]) := C0
    have HC1 : Hid (Bk w1 (g + 1) 30 zero5) := C1
    clear C0 C1
    have D0 := HC0.out
    have D1 := HC1.out
    have hB2 := hB
    clear HC0 HC1 hB c2 f2
    have HD1 : Hid (Bk w1 (g + 1) 30 zero5) := D1
    have HD0 : Hid (Bk w1 g 30 #[.int .i64 k, .bool ng, .string H, .int .i64 e, .string den]) := D0
    have d0 := D0.cell 0 (v := .int .i64 k) rfl
    have d1 := D0.cell 1 (v := .bool ng) rfl
    have d2 := D0.cell 2 (v := .string H) rfl
    have d3 := D0.cell 3 (v := .int .i64 e) rfl
    have d4 := D0.cell 4 (v := .string den) rfl
    have f3 := D0.frozen 3
    have z0 := D1.cell 0 rfl
    have z1 := D1.cell 1 rfl
    have z2 := D1.cell 2 rfl
    have z3 := D1.cell 3 rfl
    have z4 := D1.cell 4 rfl
    have y0 := D1.frozen 0
    have y1 := D1.frozen 1
    have y2 := D1.frozen 2
    have y3 := D1.frozen 3
    have y4 := D1.frozen 4
    have E1 : Hid (Bk (w1.setCell ⟨g, 3, none⟩ (.int .i64 (e + ((num.size - 768 : Nat) : Int) * perD k))) (g + 1) 30 zero5) := Bk.tn D1 ((Tn.refl g w1).set 3 _) (by omega)
    have hB3 : Below g w (w1.setCell ⟨g, 3, none⟩ (.int .i64 (e + ((num.size - 768 : Nat) : Int) * perD k))) := Tn.below hB2 ((Tn.refl g _).set 3 _) (Nat.le_refl _) (by rw [HG.out]; exact Nat.le_refl _)
    clear D0 D1
    go_wp2_with fail
    go_region_with ((go_at_call 105; refine (hP _).mono ?_; rintro r wX ⟨rfl, hwX⟩; rw [hwX]))
    all_goals
      go_wp2
      refine bodyPost_ret (results_cell_row rfl _ _ (g + 1) 30 #[.int .i64 k, .bool ng, .string H, .int .i64 (e + ((num.size - 768 : Nat) : Int) * perD k), .string den] (0, 0) _ rfl (Bk.drew (Bk.all5 E1.out _ _ _ _ _)) Tryz.underlying30 rfl (by kernel_rfl)) rfl ⟨rfl, ?_⟩
      rw [HG.out]
      exact below_drewN (Tn.below hB3 (Tn.all5 ..) (by omega) (by rw [HG.out]; exact Nat.le_refl _)) 1
end Go.Proofs.YtlaendbngekghaaGreatDoor

/- package atof: roads. -/
namespace Go.Proofs.YtlaendbngekghaaGreatDoor
open Go.ChangeShapes Go.WideShapes Go.ChangeAt Go.RowKit
open Na Ar Lx
set_option linter.unusedVariables false
theorem short_any (k : Int) (ng : Bool) (num : ByteArray) (e : Int) (den : ByteArray) (hk : k = 1 ∨ k = 2 ∨ k = 3) (hs : num.size ≤ 65536) (e0 : -1073741824 ≤ e) (e1 : e ≤ 1073741824) (w : World) :
    Calls Tryz.prog 61 #[.agg (numC k ng num e den)] w fun r w' => r = .returned (.agg (numC k ng (str (shN k num.data.toList)) (shE k num.data.toList e) den)) ∧ Below w.heap.size w w' := by
  by_cases h : k = 3 ∨ num.size ≤ 768
  · have h' : k = 3 ∨ num.data.toList.length ≤ 768 := by rw [← Lib.size_eq]; exact h
    have E1 : shN k num.data.toList = num.data.toList := by unfold shN; rw [if_pos h']
    have E2 : shE k num.data.toList e = e := by unfold shE; rw [if_pos h']
    rw [E1, E2, str_of]
    exact short_same k ng num e den h w
  · exact short_long k ng num e den (by omega) (by omega) hs e0 e1 w
set_option maxHeartbeats 1600000 in
set_option maxRecDepth 100000 in
theorem roads_other (k : Int) (ng : Bool) (num : ByteArray) (e : Int) (den : ByteArray) (hk : k = 2 ∨ k = 3) (hs : num.size ≤ 65536) (e0 : -1073741824 ≤ e) (e1 : e ≤ 1073741824) (w : World) :
    Calls Tryz.prog 24 #[.agg (numC k ng num e den)] w fun r w' => ∃ g h, r = .returned (.slice (some ⟨h, 0, none⟩) 1 1) ∧ Slow1 w' ⟨h, 0, none⟩ g ∧ Bk w' g 30 (numC k ng (str (shN k num.data.toList)) (shE k num.data.toList e) den) ∧ Below w.heap.size w w' := by
  have hS := fun w => short_any k ng num e den (by omega) hs e0 e1 w
  have hR := fun w => slowRoad_any k ng (str (shN k num.data.toList)) (shE k num.data.toList e) den w
  have t : (k != 1) = true := bne_yes (by omega)
  generalize str (shN k num.data.toList) = N at *
  generalize shE k num.data.toList e = E at *
  have B0 := Bk.new w 30 (numC k ng num e den)
  have hb0 : Below w.heap.size w (w.alloc (.cells (numC k ng num e den) 30)) := (Below.refl _ w).alloc (Nat.le_refl _) _
  obtain ⟨w0, hw0⟩ : ∃ w0, w0 = w.alloc (.cells (numC k ng num e den) 30) := ⟨_, rfl⟩
  rw [← hw0] at B0 hb0
  obtain ⟨g, hg⟩ : ∃ g, g = w.heap.size := ⟨_, rfl⟩
  rw [← hg] at B0
  have hsz := hb0.size
  unfold numC at hS hw0 hR ⊢
  go_enter Tryz.func24, Tryz.ntmps24
  go_wp2_with fail
  refine (hS _).mono ?_
  rintro r w1 ⟨rfl, hb1⟩
  rw [← hw0] at hb1
  clear hS
  go_wp2_with fail
  refine (hR _).mono ?_
  rintro r w2 ⟨g2, h2, rfl, s2, b2, hb2⟩
  have B := hb0.trans ((hb1.trans (hb2.mono hb1.size)).mono hsz)
  have c0 := ((B0.later hb1).later hb2).cell 0 (v := .int .i64 k) rfl
  rw [hg] at c0
  have HS : Hid _ := s2
  have HB : Hid _ := b2
  clear hR s2 b2 B0 hb0 hw0 hg
  go_wp2
  go_ret
  exact ⟨g2, h2, rfl, HS.out, HB.out, B⟩
theorem own_two (w4 : World) (F1 F2 : Value) {base : Nat} (h : base ≤ w4.heap.size) (e : TypeId) : (w4.alloc (.cells #[F1, F2] e)).ownsRow base e 1 (.slice (some ⟨w4.heap.size, 0, none⟩) 2 2) 2 [F1, F2] :=
  ⟨rfl, .inr ⟨w4.heap.size, 2, #[F1, F2], rfl, h, heap_alloc_new _ _, by omega, by unfold maxLen; omega, rfl, rfl⟩⟩
theorem own_three {w : World} {base : Nat} {e : TypeId} {v F1 F2 F3 : Value} (h : w.ownsRow base e 1 v 3 [F1, F2, F3]) :
    ∃ h9 cap, v = .slice (some ⟨h9, 0, none⟩) 3 cap ∧ w.cell? ⟨h9, 0, none⟩ = some F1 ∧ w.cell? ⟨h9, 1, none⟩ = some F2 ∧ w.cell? ⟨h9, 2, none⟩ = some F3 := by
  rcases h.2 with ⟨_, hn⟩ | ⟨h9, cap, cur, rfl, _, hc, _, _, _, ht⟩
  · exact absurd hn (by decide)
  · have key : ∀ i, i < 3 → w.cell? ⟨h9, i, none⟩ = ([F1, F2, F3] : List Value)[i]? := fun i hi => by
      rw [← ht, List.getElem?_take, if_pos (by omega), Array.getElem?_toList]
      unfold World.cell?
      rw [hc]
      rfl
    exact ⟨h9, cap, rfl, key 0 (by omega), key 1 (by omega), key 2 (by omega)⟩
theorem info_road : (Tryz.prog.info? 143).map (fun i => (i.zero, i.size, i.bytes)) = some (some .nilFunc, 1, 8) := by kernel_rfl
set_option maxHeartbeats 3200000 in
set_option maxRecDepth 100000 in
theorem roads_dec (ng : Bool) (num : ByteArray) (e : Int) (den : ByteArray) (h0 : 0 < num.size) (hs : num.size ≤ 65536) (e0 : -1073741824 ≤ e) (e1 : e ≤ 1073741824) (hd : ∀ c ∈ num.data.toList, isD c = true) (w : World) :
    Calls Tryz.prog 24 #[.agg (numC 1 ng num e den)] w fun r w' => ∃ h g gm ge gr c, r = .returned (.slice (some ⟨h, 0, none⟩) 3 c) ∧ Roads3 w' h g gm ge gr ∧ Bk w' g 30 (numC 1 ng (str (shN 1 num.data.toList)) (shE 1 num.data.toList e) den) ∧
      w'.cell? ⟨gm, 0, none⟩ = some (.int .u64 (cutV (trimR [48] num.data.toList))) ∧ w'.cell? ⟨ge, 0, none⟩ = some (.int .i64 (e + num.data.toList.length - cutN (trimR [48] num.data.toList))) ∧ w'.cell? ⟨gr, 0, none⟩ = some (.bool (cutMr (trimR [48] num.data.toList))) ∧ Below w.heap.size w w' := by
  obtain ⟨i_r, hi_r, hz0_r, hz1_r, hz2_r⟩ := info_parts info_road
  have hS := fun w => short_any 1 ng num e den (by omega) hs e0 e1 w
  have hR := fun w => slowRoad_any 1 ng (str (shN 1 num.data.toList)) (shE 1 num.data.toList e) den w
  have hT := fun w => trimRight_zero num (by omega) h0 w
  obtain ⟨z, hz⟩ := trimR_split num.data.toList
  have hlen : num.data.toList.length = (trimR [48] num.data.toList).length + z := by
    have := congrArg List.length hz
    rw [List.length_append, List.length_replicate] at this; exact this
  have hC := fun w => lemCut_any (str (trimR [48] num.data.toList)) (by rw [str_size]; rw [← Lib.size_eq] at hlen; omega) w
  rw [str_list] at hC
  obtain ⟨_, _, _, _, _, hcn, _⟩ := cut_num (l := trimR [48] num.data.toList) (allD_iff.mpr (fun c hc => hd c (by rw [hz]; exact List.mem_append_left _ hc)))
  rw [← Lib.size_eq] at hlen
  rw [show (num.data.toList.length : Int) = (num.size : Int) by rw [← Lib.size_eq]]
  clear hz hd
  generalize str (shN 1 num.data.toList) = N at *
  generalize shE 1 num.data.toList e = E at *
  generalize (trimR [48] num.data.toList).length = L at *
  generalize cutN (trimR [48] num.data.toList) = cn at *
  generalize cutV (trimR [48] num.data.toList) = cv at *
  generalize cutMr (trimR [48] num.data.toList) = cm at *
  generalize cutE (trimR [48] num.data.toList) = ce at *
  generalize str (trimR [48] num.data.toList) = TR at *
  have wm1 : IntKind.i64.wrap (e + (num.size : Int)) = e + (num.size : Int) := wrapI (by omega) (by omega)
  have wm2 : IntKind.i64.wrap (e + (num.size : Int) - (cn : Int)) = e + (num.size : Int) - (cn : Int) := wrapI (by omega) (by omega)
  have hle : cn ≤ num.size := by omega
  clear hlen hcn
  have B0 := Bk.new w 30 (numC 1 ng num e den)
  have hb0 : Below w.heap.size w (w.alloc (.cells (numC 1 ng num e den) 30)) := (Below.refl _ w).alloc (Nat.le_refl _) _
  obtain ⟨w0, hw0⟩ : ∃ w0, w0 = w.alloc (.cells (numC 1 ng num e den) 30) := ⟨_, rfl⟩
  rw [← hw0] at B0 hb0
  obtain ⟨g, hg⟩ : ∃ g, g = w.heap.size := ⟨_, rfl⟩
  rw [← hg] at B0
  have hsz := hb0.size
  unfold numC at hS hw0 hR ⊢
  go_enter Tryz.func24, Tryz.ntmps24
  go_wp2_with fail
  refine (hS _).mono ?_
  rintro r w1 ⟨rfl, hb1⟩
  rw [← hw0] at hb1
  clear hS
  go_wp2_with fail
  refine (hR _).mono ?_
  rintro r w2 ⟨g2, h2, rfl, s2, b2, hb2⟩
  have B := hb0.trans ((hb1.trans (hb2.mono hb1.size)).mono hsz)
  have B2 := (B0.later hb1).later hb2
  rw [hg] at B2
  have c0 := B2.cell 0 (v := .int .i64 1) rfl
  have c2 := B2.cell 2 (v := .string num) rfl
  have c3 := B2.cell 3 (v := .int .i64 e) rfl
  have HS : Hid (Slow1 w2 ⟨h2, 0, none⟩ g2) := s2
  have HB : Hid (Bk w2 g2 30 (numC 1 ng N E den)) := b2
  have HL : Hid (w.heap.size < w2.heap.size) := B2.lt
  clear hR s2 b2 B0 hb0 hw0 hg hb1 hb2
  go_wp2_with fail
  refine (hT _).mono ?_
  rintro r w3 ⟨rfl, hw3⟩
  rw [hw3]
  clear hT hw3
  go_wp2_with fail
  refine (hC _).mono ?_
  rintro r w3 ⟨rfl, hb3⟩
  clear hC
  have B3 := B2.later hb3
  have d0 := B3.cell 0 (v := .int .i64 1) rfl
  have d2 := B3.cell 2 (v := .string num) rfl
  have d3 := B3.cell 3 (v := .int .i64 e) rfl
  have hlt := B3.lt
  clear c0 c2 c3 B2 B3
  obtain ⟨F1, hF1⟩ : ∃ F1, F1 = Value.func (Fn.func 64) #[] #[.pointer (some ⟨w3.heap.size, 0, none⟩), .pointer (some ⟨w3.heap.size + 1 + 1, 0, none⟩), .pointer (some ⟨w3.heap.size + 1, 0, none⟩)] := ⟨_, rfl⟩
  obtain ⟨F2, hF2⟩ : ∃ F2, F2 = Value.func (Fn.func 65) #[] #[.pointer (some ⟨w3.heap.size, 0, none⟩), .pointer (some ⟨w3.heap.size + 1 + 1, 0, none⟩), .pointer (some ⟨w3.heap.size + 1, 0, none⟩)] := ⟨_, rfl⟩
  obtain ⟨F3, hF3⟩ : ∃ F3, F3 = Value.func (Fn.func 56) #[] #[.pointer (some ⟨g2, 0, none⟩)] := ⟨_, rfl⟩

  obtain ⟨W, hW⟩ : ∃ W, W = (((w3.alloc (.cells #[.int .u64 cv] 22)).alloc (.cells #[.bool cm] 4)).alloc (.cells #[.int .i64 (e + (num.size : Int) - (cn : Int))] 3)).alloc (.cells #[F1, F2] 143) := ⟨_, rfl⟩
  have OWN : W.ownsRow w3.heap.size 143 1 (.slice (some ⟨w3.heap.size + 1 + 1 + 1, 0, none⟩) 2 2) 2 [F1, F2] := by
    have := own_two (((w3.alloc (.cells #[.int .u64 cv] 22)).alloc (.cells #[.bool cm] 4)).alloc (.cells #[.int .i64 (e + (num.size : Int) - (cn : Int))] 3)) F1 F2 (base := w3.heap.size) (by simp; omega) 143
    rw [← hW] at this
    simp only [World.size_alloc] at this
    exact this
  have hWb : Below w3.heap.size w3 W := by
    rw [hW]
    exact ((((Below.refl _ w3).alloc (Nat.le_refl _) _).alloc (by simp) _).alloc (by simp; omega) _).alloc (by simp; omega) _
  have NEW : ∀ j u, ([F3] : List Value)[j]? = some u → W.cell? ((⟨h2, 0, none⟩ : Addr).add j) = some u := by
    intro j u hj
    match j, hj with
    | 0, hj =>
      simp at hj
      subst hj
      have q : Slow1 w2 ⟨h2, 0, none⟩ g2 := HS.out
      have l2 := cell_lt7 q
      have l3 := hb3.size
      show W.cell? ⟨h2, 0 + 0, none⟩ = _
      rw [Nat.add_zero, hWb.cell (p := ⟨h2, 0, none⟩) (by show h2 < _; have : h2 < w2.heap.size := l2; omega), hb3.cell (p := ⟨h2, 0, none⟩) l2, hF3]
      exact q
  have ONE : ∀ u ∈ [F3], u.oneCell' = true := by
    intro u hu; simp at hu; subst hu; rw [hF3]; rfl
  have HWS : W.heap.size = w3.heap.size + 1 + 1 + 1 + 1 := by rw [hW]; simp
  have a1 : Below w3.heap.size w3 (w3.alloc (.cells #[.int .u64 cv] 22)) := (Below.refl _ w3).alloc (Nat.le_refl _) _
  have GM : Bk W w3.heap.size 22 #[.int .u64 cv] := by
    rw [hW]
    exact (((Bk.new w3 _ _).later ((Below.refl _ _).alloc (Nat.le_refl _) _)).later ((Below.refl _ _).alloc (Nat.le_refl _) _)).later ((Below.refl _ _).alloc (Nat.le_refl _) _)
  have GR : Bk W (w3.heap.size + 1) 4 #[.bool cm] := by
    rw [hW]
    have := ((Bk.new (w3.alloc (.cells #[.int .u64 cv] 22)) 4 #[.bool cm]).later ((Below.refl _ _).alloc (Nat.le_refl _) (.cells #[.int .i64 (e + (num.size : Int) - (cn : Int))] 3))).later ((Below.refl _ _).alloc (Nat.le_refl _) (.cells #[F1, F2] 143))
    simp only [World.size_alloc] at this
    exact this
  have GE : Bk W (w3.heap.size + 1 + 1) 3 #[.int .i64 (e + (num.size : Int) - (cn : Int))] := by
    rw [hW]
    have := (Bk.new ((w3.alloc (.cells #[.int .u64 cv] 22)).alloc (.cells #[.bool cm] 4)) 3 #[.int .i64 (e + (num.size : Int) - (cn : Int))]).later ((Below.refl _ _).alloc (Nat.le_refl _) (.cells #[F1, F2] 143))
    simp only [World.size_alloc] at this
    exact this
  clear a1
  subst hF1 hF2
  subst hW
  go_wp2_with (first | (at_builtin; (refine wpList_append_own _ rfl _ _ 94 rfl w3.heap.size 143 i_r .nilFunc 1 8 Tryz.underlying94 hi_r hz0_r hz1_r hz2_r rfl (by decide) _ _ _ rfl OWN ⟨h2, 0, none⟩ 1 1 [F3] rfl rfl NEW ONE (by unfold maxLen; omega) (by omega) (by omega) ?_)) | go_step)
  intro v' w' hown' hgrow hiff
  have hb' : Below w3.heap.size w3 w' := hWb.grown hgrow (by omega) (fun k hk => by
    have : some (w3.heap.size + 1 + 1 + 1) = some k := hk
    simp only [Option.some.injEq] at this
    omega)
  obtain ⟨h9, cap, rfl, t0, t1, t2⟩ := own_three hown'
  have G0 : w'.cell? ⟨w3.heap.size, 0, none⟩ = some (.int .u64 cv) := hgrow.cell (GM.cell 0 rfl) (by simp [Value.ownBlock]; omega)
  have G1 : w'.cell? ⟨w3.heap.size + 1, 0, none⟩ = some (.bool cm) := hgrow.cell (GR.cell 0 rfl) (by simp [Value.ownBlock])
  have G2 : w'.cell? ⟨w3.heap.size + 1 + 1, 0, none⟩ = some (.int .i64 (e + (num.size : Int) - (cn : Int))) := hgrow.cell (GE.cell 0 rfl) (by simp [Value.ownBlock])
  have HR : Hid (Roads3 w' h9 g2 w3.heap.size (w3.heap.size + 1 + 1) (w3.heap.size + 1)) := ⟨t0, t1, t2⟩
  have B9 := B.trans ((hb3.trans (hb'.mono hb3.size)).mono B.size)
  have HB9 : Hid (Bk w' g2 30 (numC 1 ng N E den)) := (HB.out.later hb3).later hb'
  clear t0 t1 t2 hgrow hown' OWN NEW ONE HWS hWb hb' hb3 GM GR GE hiff d0 d2 d3
  go_wp2
  go_ret
  exact ⟨h9, g2, _, _, _, cap, rfl, HR.out, HB9.out, G0, G2, G1, B9⟩
end Go.Proofs.YtlaendbngekghaaGreatDoor

/- package atof: refused, pattern, Bits, Slow. -/
namespace Go.Proofs.YtlaendbngekghaaGreatDoor
open Go.ChangeShapes Go.WideShapes Go.ChangeAt Go.RowKit
open Na Ar Lx
set_option linter.unusedVariables false
/-- why a numeral has no number -/
def refE (k : Int) (num : B) (e : Int) (den : B) : Int := if rightB k num e den = true then (if k = 3 ∧ den = [] then 50 else 0) else 110
theorem emp_of {s : ByteArray} (h : s.data.toList = []) : s.toList.isEmpty = true := by rw [Lib.toList_data, h]; rfl
theorem emp_no {s : ByteArray} (h : s.data.toList ≠ []) : s.toList.isEmpty = false := by
  rw [Lib.toList_data]
  cases q : s.data.toList with
  | nil => exact absurd q h
  | cons _ _ => rfl
set_option maxHeartbeats 1600000 in
set_option maxRecDepth 100000 in
theorem refused_any (k : Int) (ng : Bool) (num : ByteArray) (e : Int) (den : ByteArray) (hn : num.size ≤ 9223372036854775807) (hd : den.size ≤ 9223372036854775807) (w : World) :
    Calls Tryz.prog 53 #[.agg (numC k ng num e den)] w fun r w' => r = .returned (.int .i64 (refE k num.data.toList e den.data.toList)) ∧ Below w.heap.size w w' := by
  have hC := fun w => check9_any k ng num e den hn hd w
  have B0 := Bk.new w 30 (numC k ng num e den)
  have hb0 : Below w.heap.size w (w.alloc (.cells (numC k ng num e den) 30)) := (Below.refl _ w).alloc (Nat.le_refl _) _
  obtain ⟨w0, hw0⟩ : ∃ w0, w0 = w.alloc (.cells (numC k ng num e den) 30) := ⟨_, rfl⟩
  rw [← hw0] at B0 hb0
  cases hr : rightB k num.data.toList e den.data.toList
  · have HE : Hid (refE k num.data.toList e den.data.toList = 110) := by show _ = _; unfold refE; rw [hr]; rfl
    rw [hr, if_neg (by decide)] at hC
    rw [HE.out]
    unfold numC at hC hw0 ⊢
    clear hr
    go_enter Tryz.func53, Tryz.ntmps53
    go_wp2_with fail
    refine (hC _).mono ?_
    rintro r w1 ⟨rfl, hb1⟩
    rw [← hw0] at hb1
    have B := hb0.trans (hb1.mono hb0.size)
    clear hC hw0
    go_wp2
    go_ret
    exact ⟨rfl, B⟩
  · rw [hr, if_pos rfl] at hC
    by_cases hk : k = 3
    · have t1 : (k == 3) = true := beq_of hk
      by_cases hden : den.data.toList = []
      · have HE : Hid (refE k num.data.toList e den.data.toList = 50) := by show _ = _; unfold refE; rw [hr, if_pos rfl, if_pos ⟨hk, hden⟩]
        have t2 := emp_of hden
        rw [HE.out]
        unfold numC at hC hw0 ⊢
        clear hr hk hden
        go_enter Tryz.func53, Tryz.ntmps53
        go_wp2_with fail
        refine (hC _).mono ?_
        rintro r w1 ⟨rfl, hb1⟩
        rw [← hw0] at hb1
        have B := hb0.trans (hb1.mono hb0.size)
        have c0 := (B0.later hb1).cell 0 (v := .int .i64 k) rfl
        have c4 := (B0.later hb1).cell 4 (v := .string den) rfl
        clear hC hw0
        go_wp2
        go_ret
        exact ⟨rfl, B⟩
      · have HE : Hid (refE k num.data.toList e den.data.toList = 0) := by show _ = _; unfold refE; rw [hr, if_pos rfl, if_neg (fun q => hden q.2)]
        have t2 := emp_no hden
        rw [HE.out]
        unfold numC at hC hw0 ⊢
        clear hr hk hden
        go_enter Tryz.func53, Tryz.ntmps53
        go_wp2_with fail
        refine (hC _).mono ?_
        rintro r w1 ⟨rfl, hb1⟩
        rw [← hw0] at hb1
        have B := hb0.trans (hb1.mono hb0.size)
        have c0 := (B0.later hb1).cell 0 (v := .int .i64 k) rfl
        have c4 := (B0.later hb1).cell 4 (v := .string den) rfl
        clear hC hw0
        go_wp2
        go_ret
        exact ⟨rfl, B⟩
    · have t1 : (k == 3) = false := beq_no hk
      have HE : Hid (refE k num.data.toList e den.data.toList = 0) := by show _ = _; unfold refE; rw [hr, if_pos rfl, if_neg (fun q => hk q.1)]
      rw [HE.out]
      unfold numC at hC hw0 ⊢
      clear hr hk
      go_enter Tryz.func53, Tryz.ntmps53
      go_wp2_with fail
      refine (hC _).mono ?_
      rintro r w1 ⟨rfl, hb1⟩
      rw [← hw0] at hb1
      have B := hb0.trans (hb1.mono hb0.size)
      have c0 := (B0.later hb1).cell 0 (v := .int .i64 k) rfl
      clear hC hw0
      go_wp2
      go_ret
      exact ⟨rfl, B⟩
/-- with the sign -/
def PatIs (Q : Int → Int → Prop) (ng : Bool) (b E : Int) : Prop := ∃ m F, Q m F ∧ ((F ≠ 0 ∧ b = 0 ∧ E = F) ∨ (F = 0 ∧ E = 0 ∧ b = m + sgB ng))
theorem negW_small {m : Int} (h0 : 0 ≤ m) (h1 : m ≤ mostP) : negW m = m + 9223372036854775808 ∧ U (m + 9223372036854775808) ∧ U m := by
  have : mostP = 9218868437227405311 := rfl
  unfold negW U
  omega
set_option maxHeartbeats 3200000 in
set_option maxRecDepth 100000 in
theorem pat_refused_slow (k : Int) (ng : Bool) (num : ByteArray) (e : Int) (den : ByteArray) (hn : num.size ≤ 9223372036854775807) (hd : den.size ≤ 9223372036854775807) (hE : refE k num.data.toList e den.data.toList ≠ 0) (w : World) :
    Calls Tryz.prog 22 #[.agg (numC k ng num e den), .func (.func 23) #[] #[]] w fun r w' => r = .returned (.tuple #[.int .u64 0, .int .i64 (refE k num.data.toList e den.data.toList)]) ∧ Below w.heap.size w w' := by
  have hR := fun w => refused_any k ng num e den hn hd w
  have B0 := Bk.new w 30 (numC k ng num e den)
  have hb0 : Below w.heap.size w (w.alloc (.cells (numC k ng num e den) 30)) := (Below.refl _ w).alloc (Nat.le_refl _) _
  obtain ⟨w0, hw0⟩ : ∃ w0, w0 = w.alloc (.cells (numC k ng num e den) 30) := ⟨_, rfl⟩
  rw [← hw0] at B0 hb0
  generalize refE k num.data.toList e den.data.toList = F at *
  have t : (F != 0) = true := bne_yes hE
  unfold numC at hR hw0 ⊢
  clear hE
  go_enter Tryz.func22, Tryz.ntmps22
  go_wp2_with fail
  refine (hR _).mono ?_
  rintro r w1 ⟨rfl, hb1⟩
  rw [← hw0] at hb1
  have B := hb0.trans (hb1.mono hb0.size)
  clear hR hw0
  go_wp2
  go_ret2
  exact ⟨rfl, B⟩
set_option maxHeartbeats 3200000 in
set_option maxRecDepth 100000 in
theorem pat_refused_roads (k : Int) (ng : Bool) (num : ByteArray) (e : Int) (den : ByteArray) (hn : num.size ≤ 9223372036854775807) (hd : den.size ≤ 9223372036854775807) (hE : refE k num.data.toList e den.data.toList ≠ 0) (w : World) :
    Calls Tryz.prog 22 #[.agg (numC k ng num e den), .func (.func 24) #[] #[]] w fun r w' => r = .returned (.tuple #[.int .u64 0, .int .i64 (refE k num.data.toList e den.data.toList)]) ∧ Below w.heap.size w w' := by
  have hR := fun w => refused_any k ng num e den hn hd w
  have B0 := Bk.new w 30 (numC k ng num e den)
  have hb0 : Below w.heap.size w (w.alloc (.cells (numC k ng num e den) 30)) := (Below.refl _ w).alloc (Nat.le_refl _) _
  obtain ⟨w0, hw0⟩ : ∃ w0, w0 = w.alloc (.cells (numC k ng num e den) 30) := ⟨_, rfl⟩
  rw [← hw0] at B0 hb0
  generalize refE k num.data.toList e den.data.toList = F at *
  have t : (F != 0) = true := bne_yes hE
  unfold numC at hR hw0 ⊢
  clear hE
  go_enter Tryz.func22, Tryz.ntmps22
  go_wp2_with fail
  refine (hR _).mono ?_
  rintro r w1 ⟨rfl, hb1⟩
  rw [← hw0] at hb1
  have B := hb0.trans (hb1.mono hb0.size)
  clear hR hw0
  go_wp2
  go_ret2
  exact ⟨rfl, B⟩
set_option maxHeartbeats 3200000 in
set_option maxRecDepth 100000 in
theorem pat_zero_slow (k : Int) (ng : Bool) (num : ByteArray) (e : Int) (den : ByteArray) (hn : num.size ≤ 9223372036854775807) (hd : den.size ≤ 9223372036854775807) (hE : refE k num.data.toList e den.data.toList = 0) (hz : num.data.toList = []) (w : World) :
    Calls Tryz.prog 22 #[.agg (numC k ng num e den), .func (.func 23) #[] #[]] w fun r w' => r = .returned (.tuple #[.int .u64 (sgB ng), .int .i64 0]) ∧ Below w.heap.size w w' := by
  have hR := fun w => refused_any k ng num e den hn hd w
  have B0 := Bk.new w 30 (numC k ng num e den)
  have hb0 : Below w.heap.size w (w.alloc (.cells (numC k ng num e den) 30)) := (Below.refl _ w).alloc (Nat.le_refl _) _
  obtain ⟨w0, hw0⟩ : ∃ w0, w0 = w.alloc (.cells (numC k ng num e den) 30) := ⟨_, rfl⟩
  rw [← hw0] at B0 hb0
  rw [hE] at hR
  have t := emp_of hz
  have hN := fun w => f6Neg_any (b := 0) U_zero w
  have e0 : negW 0 = 9223372036854775808 := by decide
  rw [e0] at hN
  unfold numC at hR hw0 ⊢
  clear hE hz
  cases ng
  · go_enter Tryz.func22, Tryz.ntmps22
    go_wp2_with fail
    refine (hR _).mono ?_
    rintro r w1 ⟨rfl, hb1⟩
    rw [← hw0] at hb1
    have B := hb0.trans (hb1.mono hb0.size)
    have c2 := (B0.later hb1).cell 2 (v := .string num) rfl
    have c1 := (B0.later hb1).cell 1 (v := .bool false) rfl
    clear hR hw0 hN
    go_wp2
    go_ret2
    exact ⟨rfl, B⟩
  · go_enter Tryz.func22, Tryz.ntmps22
    go_wp2_with fail
    refine (hR _).mono ?_
    rintro r w1 ⟨rfl, hb1⟩
    rw [← hw0] at hb1
    have B := hb0.trans (hb1.mono hb0.size)
    have c2 := (B0.later hb1).cell 2 (v := .string num) rfl
    have c1 := (B0.later hb1).cell 1 (v := .bool true) rfl
    clear hR hw0
    go_wp2_with fail
    refine (hN _).mono ?_
    rintro r w2 ⟨rfl, hw2⟩
    subst hw2
    clear hN
    go_wp2
    go_ret2
    exact ⟨rfl, B⟩
set_option maxHeartbeats 3200000 in
set_option maxRecDepth 100000 in
theorem pat_zero_roads (k : Int) (ng : Bool) (num : ByteArray) (e : Int) (den : ByteArray) (hn : num.size ≤ 9223372036854775807) (hd : den.size ≤ 9223372036854775807) (hE : refE k num.data.toList e den.data.toList = 0) (hz : num.data.toList = []) (w : World) :
    Calls Tryz.prog 22 #[.agg (numC k ng num e den), .func (.func 24) #[] #[]] w fun r w' => r = .returned (.tuple #[.int .u64 (sgB ng), .int .i64 0]) ∧ Below w.heap.size w w' := by
  have hR := fun w => refused_any k ng num e den hn hd w
  have B0 := Bk.new w 30 (numC k ng num e den)
  have hb0 : Below w.heap.size w (w.alloc (.cells (numC k ng num e den) 30)) := (Below.refl _ w).alloc (Nat.le_refl _) _
  obtain ⟨w0, hw0⟩ : ∃ w0, w0 = w.alloc (.cells (numC k ng num e den) 30) := ⟨_, rfl⟩
  rw [← hw0] at B0 hb0
  rw [hE] at hR
  have t := emp_of hz
  have hN := fun w => f6Neg_any (b := 0) U_zero w
  have e0 : negW 0 = 9223372036854775808 := by decide
  rw [e0] at hN
  unfold numC at hR hw0 ⊢
  clear hE hz
  cases ng
  · go_enter Tryz.func22, Tryz.ntmps22
    go_wp2_with fail
    refine (hR _).mono ?_
    rintro r w1 ⟨rfl, hb1⟩
    rw [← hw0] at hb1
    have B := hb0.trans (hb1.mono hb0.size)
    have c2 := (B0.later hb1).cell 2 (v := .string num) rfl
    have c1 := (B0.later hb1).cell 1 (v := .bool false) rfl
    clear hR hw0 hN
    go_wp2
    go_ret2
    exact ⟨rfl, B⟩
  · go_enter Tryz.func22, Tryz.ntmps22
    go_wp2_with fail
    refine (hR _).mono ?_
    rintro r w1 ⟨rfl, hb1⟩
    rw [← hw0] at hb1
    have B := hb0.trans (hb1.mono hb0.size)
    have c2 := (B0.later hb1).cell 2 (v := .string num) rfl
    have c1 := (B0.later hb1).cell 1 (v := .bool true) rfl
    clear hR hw0
    go_wp2_with fail
    refine (hN _).mono ?_
    rintro r w2 ⟨rfl, hw2⟩
    subst hw2
    clear hN
    go_wp2
    go_ret2
    exact ⟨rfl, B⟩
set_option maxHeartbeats 3200000 in
set_option maxRecDepth 100000 in
theorem pat_slow (k : Int) (ng : Bool) (num : ByteArray) (e : Int) (den : ByteArray) (hn : num.size ≤ 9223372036854775807) (hd : den.size ≤ 9223372036854775807) (hE : refE k num.data.toList e den.data.toList = 0) (hz : num.data.toList ≠ []) {Q : Int → Int → Prop} (num' : ByteArray) (e' : Int) (hQ : ∀ m F, Q m F → (F = 70 ∧ m = 0) ∨ (F = 0 ∧ 0 ≤ m ∧ m ≤ mostP))
    (hRo : ∀ w, Calls Tryz.prog 23 #[.agg (numC k ng num e den)] w fun r w' => ∃ g h, r = .returned (.slice (some ⟨h, 0, none⟩) 1 1) ∧ Slow1 w' ⟨h, 0, none⟩ g ∧ Bk w' g 30 (numC k ng num' e' den) ∧ Below w.heap.size w w')
    (w : World) (hSl : ∀ g w1, Below w.heap.size w w1 → Bk w1 g 30 (numC k ng num' e' den) → Calls Tryz.prog 56 #[.pointer (some ⟨g, 0, none⟩)] w1 fun r w' => ∃ b E, r = .returned (.tuple #[.int .u64 b, .int .i64 E]) ∧ Q b E ∧ U b ∧ Below w1.heap.size w1 w') :
    Calls Tryz.prog 22 #[.agg (numC k ng num e den), .func (.func 23) #[] #[]] w fun r w' => ∃ b E, r = .returned (.tuple #[.int .u64 b, .int .i64 E]) ∧ PatIs Q ng b E ∧ U b ∧ Below w.heap.size w w' := by
  have hR := fun w => refused_any k ng num e den hn hd w
  have B0 := Bk.new w 30 (numC k ng num e den)
  have hb0 : Below w.heap.size w (w.alloc (.cells (numC k ng num e den) 30)) := (Below.refl _ w).alloc (Nat.le_refl _) _
  obtain ⟨w0, hw0⟩ : ∃ w0, w0 = w.alloc (.cells (numC k ng num e den) 30) := ⟨_, rfl⟩
  rw [← hw0] at B0 hb0
  rw [hE] at hR
  have t := emp_no hz
  unfold numC at hR hw0 hRo ⊢
  clear hE hz
  go_enter Tryz.func22, Tryz.ntmps22
  go_wp2_with fail
  refine (hR _).mono ?_
  rintro r w1 ⟨rfl, hb1⟩
  rw [← hw0] at hb1
  have B := hb0.trans (hb1.mono hb0.size)
  have B1 := B0.later hb1
  have c0 := B1.cell 0 (v := .int .i64 k) rfl
  have c1 := B1.cell 1 (v := .bool ng) rfl
  have c2 := B1.cell 2 (v := .string num) rfl
  have c3 := B1.cell 3 (v := .int .i64 e) rfl
  have c4 := B1.cell 4 (v := .string den) rfl
  clear hR hw0 hb0 hb1 B0
  go_wp2_with fail
  refine (hRo _).mono ?_
  rintro r w2 ⟨g, h, rfl, s2, b2, hb2⟩
  have B := B.trans (hb2.mono B.size)
  have c1 := (B1.later hb2).cell 1 (v := .bool ng) rfl
  have hFi := first1_any s2 (hSl g w2 B b2)
  have B2 := B1.later hb2
  clear hRo hSl s2 b2 c0 c2 c3 c4 hb2 B1
  go_wp2_with fail
  refine hFi.mono ?_
  rintro r w3 ⟨b, F, rfl, hq, ub, hb3⟩
  have B := B.trans (hb3.mono B.size)
  have c1 := (B2.later hb3).cell 1 (v := .bool ng) rfl
  clear B2 hb3
  clear hFi
  rcases hQ b F hq with ⟨rfl, rfl⟩ | ⟨rfl, q0, q1⟩
  · have HQ : Hid (PatIs Q ng 0 70) := ⟨0, 70, hq, Or.inl ⟨by decide, rfl, rfl⟩⟩
    clear hq hQ
    go_wp2
    go_ret2
    exact ⟨_, _, rfl, HQ.out, U_zero, B⟩
  · obtain ⟨en, u1, u2⟩ := negW_small q0 q1
    have hN := fun w => f6Neg_any (b := b) ub w
    rw [en] at hN
    have HQ : Hid (PatIs Q ng (b + sgB ng) 0) := ⟨b, 0, hq, Or.inr ⟨rfl, rfl, rfl⟩⟩
    clear hq hQ en
    cases ng
    · have HQ' : Hid (PatIs Q false b 0) := by
        have := HQ.out
        rw [show sgB false = 0 from rfl, Int.add_zero] at this
        exact this
      clear HQ hN
      go_wp2
      go_ret2
      exact ⟨_, _, rfl, HQ'.out, u2, B⟩
    · have HQ' : Hid (PatIs Q true (b + 9223372036854775808) 0) := HQ.out
      clear HQ
      go_wp2_with fail
      refine (hN _).mono ?_
      rintro r w4 ⟨rfl, hw4⟩
      subst hw4
      clear hN
      go_wp2
      go_ret2
      exact ⟨_, _, rfl, HQ'.out, u1, B⟩
set_option maxHeartbeats 3200000 in
set_option maxRecDepth 100000 in
theorem pat_other (k : Int) (ng : Bool) (num : ByteArray) (e : Int) (den : ByteArray) (hn : num.size ≤ 9223372036854775807) (hd : den.size ≤ 9223372036854775807) (hE : refE k num.data.toList e den.data.toList = 0) (hz : num.data.toList ≠ []) {Q : Int → Int → Prop} (num' : ByteArray) (e' : Int) (hQ : ∀ m F, Q m F → (F = 70 ∧ m = 0) ∨ (F = 0 ∧ 0 ≤ m ∧ m ≤ mostP))
    (hRo : ∀ w, Calls Tryz.prog 24 #[.agg (numC k ng num e den)] w fun r w' => ∃ g h, r = .returned (.slice (some ⟨h, 0, none⟩) 1 1) ∧ Slow1 w' ⟨h, 0, none⟩ g ∧ Bk w' g 30 (numC k ng num' e' den) ∧ Below w.heap.size w w')
    (w : World) (hSl : ∀ g w1, Below w.heap.size w w1 → Bk w1 g 30 (numC k ng num' e' den) → Calls Tryz.prog 56 #[.pointer (some ⟨g, 0, none⟩)] w1 fun r w' => ∃ b E, r = .returned (.tuple #[.int .u64 b, .int .i64 E]) ∧ Q b E ∧ U b ∧ Below w1.heap.size w1 w') :
    Calls Tryz.prog 22 #[.agg (numC k ng num e den), .func (.func 24) #[] #[]] w fun r w' => ∃ b E, r = .returned (.tuple #[.int .u64 b, .int .i64 E]) ∧ PatIs Q ng b E ∧ U b ∧ Below w.heap.size w w' := by
  have hR := fun w => refused_any k ng num e den hn hd w
  have B0 := Bk.new w 30 (numC k ng num e den)
  have hb0 : Below w.heap.size w (w.alloc (.cells (numC k ng num e den) 30)) := (Below.refl _ w).alloc (Nat.le_refl _) _
  obtain ⟨w0, hw0⟩ : ∃ w0, w0 = w.alloc (.cells (numC k ng num e den) 30) := ⟨_, rfl⟩
  rw [← hw0] at B0 hb0
  rw [hE] at hR
  have t := emp_no hz
  unfold numC at hR hw0 hRo ⊢
  clear hE hz
  go_enter Tryz.func22, Tryz.ntmps22
  go_wp2_with fail
  refine (hR _).mono ?_
  rintro r w1 ⟨rfl, hb1⟩
  rw [← hw0] at hb1
  have B := hb0.trans (hb1.mono hb0.size)
  have B1 := B0.later hb1
  have c0 := B1.cell 0 (v := .int .i64 k) rfl
  have c1 := B1.cell 1 (v := .bool ng) rfl
  have c2 := B1.cell 2 (v := .string num) rfl
  have c3 := B1.cell 3 (v := .int .i64 e) rfl
  have c4 := B1.cell 4 (v := .string den) rfl
  clear hR hw0 hb0 hb1 B0
  go_wp2_with fail
  refine (hRo _).mono ?_
  rintro r w2 ⟨g, h, rfl, s2, b2, hb2⟩
  have B := B.trans (hb2.mono B.size)
  have c1 := (B1.later hb2).cell 1 (v := .bool ng) rfl
  have hFi := first1_any s2 (hSl g w2 B b2)
  have B2 := B1.later hb2
  clear hRo hSl s2 b2 c0 c2 c3 c4 hb2 B1
  go_wp2_with fail
  refine hFi.mono ?_
  rintro r w3 ⟨b, F, rfl, hq, ub, hb3⟩
  have B := B.trans (hb3.mono B.size)
  have c1 := (B2.later hb3).cell 1 (v := .bool ng) rfl
  clear B2 hb3
  clear hFi
  rcases hQ b F hq with ⟨rfl, rfl⟩ | ⟨rfl, q0, q1⟩
  · have HQ : Hid (PatIs Q ng 0 70) := ⟨0, 70, hq, Or.inl ⟨by decide, rfl, rfl⟩⟩
    clear hq hQ
    go_wp2
    go_ret2
    exact ⟨_, _, rfl, HQ.out, U_zero, B⟩
  · obtain ⟨en, u1, u2⟩ := negW_small q0 q1
    have hN := fun w => f6Neg_any (b := b) ub w
    rw [en] at hN
    have HQ : Hid (PatIs Q ng (b + sgB ng) 0) := ⟨b, 0, hq, Or.inr ⟨rfl, rfl, rfl⟩⟩
    clear hq hQ en
    cases ng
    · have HQ' : Hid (PatIs Q false b 0) := by
        have := HQ.out
        rw [show sgB false = 0 from rfl, Int.add_zero] at this
        exact this
      clear HQ hN
      go_wp2
      go_ret2
      exact ⟨_, _, rfl, HQ'.out, u2, B⟩
    · have HQ' : Hid (PatIs Q true (b + 9223372036854775808) 0) := HQ.out
      clear HQ
      go_wp2_with fail
      refine (hN _).mono ?_
      rintro r w4 ⟨rfl, hw4⟩
      subst hw4
      clear hN
      go_wp2
      go_ret2
      exact ⟨_, _, rfl, HQ'.out, u1, B⟩
set_option maxHeartbeats 3200000 in
set_option maxRecDepth 100000 in
theorem pat_dec (k : Int) (ng : Bool) (num : ByteArray) (e : Int) (den : ByteArray) (hn : num.size ≤ 9223372036854775807) (hd : den.size ≤ 9223372036854775807) (hE : refE k num.data.toList e den.data.toList = 0) (hz : num.data.toList ≠ []) {Q Q1 Q2 : Int → Int → Prop} (num' : ByteArray) (e' cv ce : Int) (cm : Bool) (hQ : ∀ m F, Q m F → (F = 70 ∧ m = 0) ∨ (F = 0 ∧ 0 ≤ m ∧ m ≤ mostP))
    (hRo : ∀ w, Calls Tryz.prog 24 #[.agg (numC k ng num e den)] w fun r w' => ∃ h g gm ge gr c, r = .returned (.slice (some ⟨h, 0, none⟩) 3 c) ∧ Roads3 w' h g gm ge gr ∧ Bk w' g 30 (numC k ng num' e' den) ∧ w'.cell? ⟨gm, 0, none⟩ = some (.int .u64 cv) ∧ w'.cell? ⟨ge, 0, none⟩ = some (.int .i64 ce) ∧ w'.cell? ⟨gr, 0, none⟩ = some (.bool cm) ∧ Below w.heap.size w w')
    (w : World) (hSl : ∀ g w1, Below w.heap.size w w1 → Bk w1 g 30 (numC k ng num' e' den) → Calls Tryz.prog 56 #[.pointer (some ⟨g, 0, none⟩)] w1 fun r w' => ∃ b E, r = .returned (.tuple #[.int .u64 b, .int .i64 E]) ∧ Q b E ∧ U b ∧ Below w1.heap.size w1 w')
    (hR1 : ∀ gm ge gr w1, Below w.heap.size w w1 → w1.cell? ⟨gm, 0, none⟩ = some (.int .u64 cv) → w1.cell? ⟨ge, 0, none⟩ = some (.int .i64 ce) → w1.cell? ⟨gr, 0, none⟩ = some (.bool cm) → Calls Tryz.prog 64 #[.pointer (some ⟨gm, 0, none⟩), .pointer (some ⟨ge, 0, none⟩), .pointer (some ⟨gr, 0, none⟩)] w1 fun r w' => ∃ b E, r = .returned (.tuple #[.int .u64 b, .int .i64 E]) ∧ Q1 b E ∧ U b ∧ Below w1.heap.size w1 w')
    (hR2 : ∀ gm ge gr w1, Below w.heap.size w w1 → w1.cell? ⟨gm, 0, none⟩ = some (.int .u64 cv) → w1.cell? ⟨ge, 0, none⟩ = some (.int .i64 ce) → w1.cell? ⟨gr, 0, none⟩ = some (.bool cm) → Calls Tryz.prog 65 #[.pointer (some ⟨gm, 0, none⟩), .pointer (some ⟨ge, 0, none⟩), .pointer (some ⟨gr, 0, none⟩)] w1 fun r w' => ∃ b E, r = .returned (.tuple #[.int .u64 b, .int .i64 E]) ∧ Q2 b E ∧ U b ∧ Below w1.heap.size w1 w')
    (k1 : ∀ b E, Q1 b E → E ≠ 100 → Q b E) (k2 : ∀ b E, Q2 b E → E ≠ 100 → Q b E) :
    Calls Tryz.prog 22 #[.agg (numC k ng num e den), .func (.func 24) #[] #[]] w fun r w' => ∃ b E, r = .returned (.tuple #[.int .u64 b, .int .i64 E]) ∧ PatIs Q ng b E ∧ U b ∧ Below w.heap.size w w' := by
  have hR := fun w => refused_any k ng num e den hn hd w
  have B0 := Bk.new w 30 (numC k ng num e den)
  have hb0 : Below w.heap.size w (w.alloc (.cells (numC k ng num e den) 30)) := (Below.refl _ w).alloc (Nat.le_refl _) _
  obtain ⟨w0, hw0⟩ : ∃ w0, w0 = w.alloc (.cells (numC k ng num e den) 30) := ⟨_, rfl⟩
  rw [← hw0] at B0 hb0
  rw [hE] at hR
  have t := emp_no hz
  unfold numC at hR hw0 hRo ⊢
  clear hE hz
  go_enter Tryz.func22, Tryz.ntmps22
  go_wp2_with fail
  refine (hR _).mono ?_
  rintro r w1 ⟨rfl, hb1⟩
  rw [← hw0] at hb1
  have B := hb0.trans (hb1.mono hb0.size)
  have B1 := B0.later hb1
  have c0 := B1.cell 0 (v := .int .i64 k) rfl
  have c1 := B1.cell 1 (v := .bool ng) rfl
  have c2 := B1.cell 2 (v := .string num) rfl
  have c3 := B1.cell 3 (v := .int .i64 e) rfl
  have c4 := B1.cell 4 (v := .string den) rfl
  clear hR hw0 hb0 hb1 B0
  go_wp2_with fail
  refine (hRo _).mono ?_
  rintro r w2 ⟨h, g, gm, ge, gr, c, rfl, s2, b2, z1, z2, z3, hb2⟩
  have B := B.trans (hb2.mono B.size)
  have c1 := (B1.later hb2).cell 1 (v := .bool ng) rfl
  have lt1 := cell_lt7 z1
  have lt2 := cell_lt7 z2
  have lt3 := cell_lt7 z3
  have cs : ∀ w3, Below w2.heap.size w2 w3 → w3.cell? ⟨gm, 0, none⟩ = some (.int .u64 cv) ∧ w3.cell? ⟨ge, 0, none⟩ = some (.int .i64 ce) ∧ w3.cell? ⟨gr, 0, none⟩ = some (.bool cm) := fun w3 q =>
    ⟨by rw [q.cell (p := ⟨gm, 0, none⟩) lt1]; exact z1, by rw [q.cell (p := ⟨ge, 0, none⟩) lt2]; exact z2, by rw [q.cell (p := ⟨gr, 0, none⟩) lt3]; exact z3⟩
  have hFi := first3_any (c := c) s2 (Q1 := Q1) (Q2 := Q2) (Q := Q) (fun w3 q => hR1 gm ge gr w3 (B.trans (q.mono B.size)) (cs w3 q).1 (cs w3 q).2.1 (cs w3 q).2.2) (fun w3 q => hR2 gm ge gr w3 (B.trans (q.mono B.size)) (cs w3 q).1 (cs w3 q).2.1 (cs w3 q).2.2) (fun w3 q => hSl g w3 (B.trans (q.mono B.size)) (b2.later q)) k1 k2
  have B2 := B1.later hb2
  clear hRo hSl s2 b2 c0 c2 c3 c4 hb2 B1 k1 k2 hR1 hR2 z1 z2 z3 cs lt1 lt2 lt3
  go_wp2_with fail
  refine hFi.mono ?_
  rintro r w3 ⟨b, F, rfl, hq, ub, hb3⟩
  have B := B.trans (hb3.mono B.size)
  have c1 := (B2.later hb3).cell 1 (v := .bool ng) rfl
  clear B2 hb3
  clear hFi
  rcases hQ b F hq with ⟨rfl, rfl⟩ | ⟨rfl, q0, q1⟩
  · have HQ : Hid (PatIs Q ng 0 70) := ⟨0, 70, hq, Or.inl ⟨by decide, rfl, rfl⟩⟩
    clear hq hQ
    go_wp2
    go_ret2
    exact ⟨_, _, rfl, HQ.out, U_zero, B⟩
  · obtain ⟨en, u1, u2⟩ := negW_small q0 q1
    have hN := fun w => f6Neg_any (b := b) ub w
    rw [en] at hN
    have HQ : Hid (PatIs Q ng (b + sgB ng) 0) := ⟨b, 0, hq, Or.inr ⟨rfl, rfl, rfl⟩⟩
    clear hq hQ en
    cases ng
    · have HQ' : Hid (PatIs Q false b 0) := by
        have := HQ.out
        rw [show sgB false = 0 from rfl, Int.add_zero] at this
        exact this
      clear HQ hN
      go_wp2
      go_ret2
      exact ⟨_, _, rfl, HQ'.out, u2, B⟩
    · have HQ' : Hid (PatIs Q true (b + 9223372036854775808) 0) := HQ.out
      clear HQ
      go_wp2_with fail
      refine (hN _).mono ?_
      rintro r w4 ⟨rfl, hw4⟩
      subst hw4
      clear hN
      go_wp2
      go_ret2
      exact ⟨_, _, rfl, HQ'.out, u1, B⟩
end Go.Proofs.YtlaendbngekghaaGreatDoor

/- package atof: Bits, Slow. -/
namespace Go.Proofs.YtlaendbngekghaaGreatDoor
open Go.ChangeShapes Go.WideShapes Go.ChangeAt Go.RowKit
open Na Ar Lx
set_option linter.unusedVariables false
namespace Lx
set_option maxRecDepth 100000 in
theorem smal_fin : ∀ b : Fin 256, smal9.contains (UInt8.ofNat b.val) = true → valN ((UInt8.ofNat b.val).toNat : Int) < 16 := by decide
theorem smal_val {c : UInt8} (h : smal9.contains c = true) : valN (c.toNat : Int) < 16 := by
  have := smal_fin ⟨c.toNat, c.toNat_lt⟩
  simp only [UInt8.ofNat_toNat] at this
  exact this h
set_option maxRecDepth 100000 in
theorem digs_fin : ∀ b : Fin 256, digs9.contains (UInt8.ofNat b.val) = true → isD (UInt8.ofNat b.val) = true := by decide
theorem digs_isD {c : UInt8} (h : digs9.contains c = true) : isD c = true := by
  have := digs_fin ⟨c.toNat, c.toNat_lt⟩
  simp only [UInt8.ofNat_toNat] at this
  exact this h
theorem lead_of {l : B} (h : fst [48] l = false) (hn : l ≠ []) : lead l := by
  cases l with
  | nil => exact absurd rfl hn
  | cons c r =>
    refine ⟨c, r, rfl, fun hc => ?_⟩
    subst hc
    simp [fst] at h
theorem kept_dec {l : B} (h : keptB digs9 l = true) (hn : l ≠ []) : l.length ≤ 65536 ∧ lead l ∧ (∀ c ∈ l, isD c = true) ∧ 0 < l.length := by
  unfold keptB at h
  simp only [Bool.and_eq_true, decide_eq_true_eq, Bool.not_eq_true', List.all_eq_true] at h
  exact ⟨h.1, lead_of h.2.1 hn, fun c hc => digs_isD (h.2.2 c hc), List.length_pos_iff.mpr hn⟩
theorem kept_hex {l : B} (h : keptB smal9 l = true) (hn : l ≠ []) : l.length ≤ 65536 ∧ lead l ∧ okB 16 l ∧ 0 < l.length := by
  unfold keptB at h
  simp only [Bool.and_eq_true, decide_eq_true_eq, Bool.not_eq_true', List.all_eq_true] at h
  exact ⟨h.1, lead_of h.2.1 hn, fun c hc => smal_val (h.2.2 c hc), List.length_pos_iff.mpr hn⟩
theorem with_bd {e : Int} (h : withB e = true) : -1073741824 ≤ e ∧ e ≤ 1073741824 := by
  unfold withB at h
  simpa using h
/-- the three kinds of right numerals -/
theorem right_kinds {k e : Int} {num den : B} (h : rightB k num e den = true) :
    (k = 1 ∧ keptB digs9 num = true ∧ den = [] ∧ withB e = true) ∨ (k = 2 ∧ keptB smal9 num = true ∧ den = [] ∧ withB e = true) ∨ (k = 3 ∧ keptB digs9 num = true ∧ keptB digs9 den = true ∧ e = 0) := by
  unfold rightB at h
  by_cases h1 : k = 1
  · rw [if_pos h1] at h
    simp only [Bool.and_eq_true, List.isEmpty_iff] at h
    exact Or.inl ⟨h1, h.1, h.2.1, h.2.2⟩
  · rw [if_neg h1] at h
    by_cases h2 : k = 2
    · rw [if_pos h2] at h
      simp only [Bool.and_eq_true, List.isEmpty_iff] at h
      exact Or.inr (Or.inl ⟨h2, h.1, h.2.1, h.2.2⟩)
    · rw [if_neg h2] at h
      by_cases h3 : k = 3
      · rw [if_pos h3] at h
        simp only [Bool.and_eq_true, decide_eq_true_eq] at h
        exact Or.inr (Or.inr ⟨h3, h.1, h.2.1, h.2.2⟩)
      · rw [if_neg h3] at h
        cases h
end Lx
/-- what Bits and Slow tell -/
def BitsIs (k : Int) (ng : Bool) (num : B) (e : Int) (den : B) (b E : Int) : Prop :=
  (refE k num e den ≠ 0 ∧ b = 0 ∧ E = refE k num e den) ∨ (refE k num e den = 0 ∧ num = [] ∧ b = sgB ng ∧ E = 0) ∨ (refE k num e den = 0 ∧ num ≠ [] ∧ PatIs (ValIs k num e den) ng b E)
theorem refE_right {k e : Int} {num den : B} (h : refE k num e den = 0) : rightB k num e den = true ∧ ¬ (k = 3 ∧ den = []) := by
  unfold refE at h
  cases hr : rightB k num e den
  · rw [hr, if_neg (by decide)] at h; exact absurd h (by decide)
  · rw [hr, if_pos rfl] at h
    refine ⟨rfl, fun q => ?_⟩
    rw [if_pos q] at h
    exact absurd h (by decide)
theorem val_pos_den {den : B} (h : keptB digs9 den = true) (hn : den ≠ []) : 0 < nv 10 den := by
  have := (kept_dec h hn).2.1.ge (b := 10) (by omega)
  have p : (0 : Int) < 10 ^ (den.length - 1) := Int.pow_pos (by omega)
  omega
/-- the answer is an error by its number, or a pattern without a sign -/
theorem val_over {k e m F : Int} {num den : B} (h : refE k num e den = 0) (q : ValIs k num e den m F) : (F = 70 ∧ m = 0) ∨ (F = 0 ∧ 0 ≤ m ∧ m ≤ mostP) := by
  obtain ⟨hr, h3⟩ := refE_right h
  have key : ∀ {A B : Int}, 0 < B → RoundIs A B false false 0 m F → (F = 70 ∧ m = 0) ∨ (F = 0 ∧ 0 ≤ m ∧ m ≤ mostP) := fun hB hq => by
    rcases round_over hB hq with ⟨a, b, _⟩ | ⟨a, b, c, _⟩
    · exact Or.inl ⟨a, b⟩
    · exact Or.inr ⟨a, b, c⟩
  unfold ValIs at q
  rcases right_kinds hr with ⟨rfl, _⟩ | ⟨rfl, _⟩ | ⟨rfl, _, hd, _⟩
  · rw [if_pos rfl] at q
    exact key (scB_pos' (exD_pos e)) q
  · rw [if_neg (by decide), if_pos rfl] at q
    exact key (scB_pos' (by omega)) q
  · rw [if_neg (by decide), if_neg (by decide)] at q
    exact key (scB_pos' (val_pos_den hd (fun q => h3 ⟨rfl, q⟩))) q
theorem val_uniq {k e m F m' F' : Int} {num den : B} (h : refE k num e den = 0) (q : ValIs k num e den m F) (q' : ValIs k num e den m' F') : m = m' ∧ F = F' := by
  obtain ⟨hr, h3⟩ := refE_right h
  unfold ValIs at q q'
  rcases right_kinds hr with ⟨rfl, _⟩ | ⟨rfl, _⟩ | ⟨rfl, _, hd, _⟩
  · rw [if_pos rfl] at q q'
    exact ex_uniq q q'
  · rw [if_neg (by decide), if_pos rfl] at q q'
    exact roundIs_uniq (scB_pos' (by omega)) q q'
  · rw [if_neg (by decide), if_neg (by decide)] at q q'
    exact roundIs_uniq (scB_pos' (val_pos_den hd (fun q => h3 ⟨rfl, q⟩))) q q'
theorem bits_uniq {k e b E b' E' : Int} {ng : Bool} {num den : B} (h : BitsIs k ng num e den b E) (h' : BitsIs k ng num e den b' E') : b = b' ∧ E = E' := by
  rcases h with ⟨a1, a2, a3⟩ | ⟨a1, a2, a3, a4⟩ | ⟨a1, a2, m, F, a3, a4⟩ <;> rcases h' with ⟨c1, c2, c3⟩ | ⟨c1, c2, c3, c4⟩ | ⟨c1, c2, m', F', c3, c4⟩
  · exact ⟨a2.trans c2.symm, a3.trans c3.symm⟩
  · exact absurd c1 a1
  · exact absurd c1 a1
  · exact absurd a1 c1
  · exact ⟨a3.trans c3.symm, a4.trans c4.symm⟩
  · exact absurd a2 c2
  · exact absurd a1 c1
  · exact absurd c2 a2
  · obtain ⟨rfl, rfl⟩ := val_uniq a1 a3 c3
    rcases a4 with ⟨x1, x2, x3⟩ | ⟨x1, x2, x3⟩ <;> rcases c4 with ⟨y1, y2, y3⟩ | ⟨y1, y2, y3⟩
    · exact ⟨x2.trans y2.symm, x3.trans y3.symm⟩
    · exact absurd y1 x1
    · exact absurd x1 y1
    · exact ⟨x3.trans y3.symm, x2.trans y2.symm⟩
theorem BitsIs.codes {k e b E : Int} {ng : Bool} {num den : B} (h : BitsIs k ng num e den b E) (hr : refE k num e den = 0) : (E = 0 ∨ E = 70) ∧ (E = 70 → b = 0) := by
  rcases h with ⟨a1, _⟩ | ⟨_, _, _, a4⟩ | ⟨a1, a2, m, F, a3, a4⟩
  · exact absurd hr a1
  · exact ⟨Or.inl a4, fun q => by omega⟩
  · rcases val_over a1 a3 with ⟨rfl, rfl⟩ | ⟨rfl, _⟩
    · rcases a4 with ⟨_, x2, x3⟩ | ⟨x1, _⟩
      · exact ⟨Or.inr x3, fun _ => x2⟩
      · exact absurd x1 (by decide)
    · rcases a4 with ⟨x1, _⟩ | ⟨_, x2, _⟩
      · exact absurd rfl x1
      · exact ⟨Or.inl x2, fun q => by omega⟩
/-- the pattern's answer, by the slow road -/
theorem pat_slow_all (k : Int) (ng : Bool) (num : ByteArray) (e : Int) (den : ByteArray) (hn : num.size ≤ 9223372036854775807) (hd : den.size ≤ 9223372036854775807) {w : World} (hG : GrVar w) :
    Calls Tryz.prog 22 #[.agg (numC k ng num e den), .func (.func 23) #[] #[]] w fun r w' => ∃ b E, r = .returned (.tuple #[.int .u64 b, .int .i64 E]) ∧ BitsIs k ng num.data.toList e den.data.toList b E ∧ U b ∧ Below w.heap.size w w' := by
  by_cases hE : refE k num.data.toList e den.data.toList = 0
  · by_cases hz : num.data.toList = []
    · refine (pat_zero_slow k ng num e den hn hd hE hz w).mono ?_
      rintro r w' ⟨rfl, hb⟩
      exact ⟨_, _, rfl, Or.inr (Or.inl ⟨hE, hz, rfl, rfl⟩), by unfold U; cases ng <;> decide, hb⟩
    · obtain ⟨hr, h3⟩ := refE_right hE
      have fin : ∀ {r : Ending} {w' : World}, (∃ b E, r = .returned (.tuple #[.int .u64 b, .int .i64 E]) ∧ PatIs (ValIs k num.data.toList e den.data.toList) ng b E ∧ U b ∧ Below w.heap.size w w') → ∃ b E, r = .returned (.tuple #[.int .u64 b, .int .i64 E]) ∧ BitsIs k ng num.data.toList e den.data.toList b E ∧ U b ∧ Below w.heap.size w w' := fun {r w'} ⟨b, E, q1, q2, q3, q4⟩ => ⟨b, E, q1, Or.inr (Or.inr ⟨hE, hz, q2⟩), q3, q4⟩
      refine (pat_slow k ng num e den hn hd hE hz num e (fun m F q => val_over hE q) (fun w => slowRoad_any k ng num e den w) w (fun g w1 hb1 B => ?_)).mono fun r w' q => fin q
      have sz : num.size = num.data.toList.length := Lib.size_eq num
      have sd : den.size = den.data.toList.length := Lib.size_eq den
      rcases right_kinds hr with ⟨rfl, q1, q2, q3⟩ | ⟨rfl, q1, q2, q3⟩ | ⟨rfl, q1, q2, q3⟩
      · obtain ⟨k1, k2, k3, k4⟩ := kept_dec q1 hz
        obtain ⟨x0, x1⟩ := with_bd q3
        have hge := k2.ge (b := 10) (by omega)
        rw [← sz] at hge
        refine (slow1_any B (by omega) (by omega) (okB_ten k3) hge (by omega) (by omega) (hG.later hb1)).mono ?_
        rintro r w' ⟨b, E, rfl, h1, h2, h3⟩
        exact ⟨b, E, rfl, by unfold ValIs; rw [if_pos rfl]; exact h1, h2, h3⟩
      · obtain ⟨k1, k2, k3, k4⟩ := kept_hex q1 hz
        obtain ⟨x0, x1⟩ := with_bd q3
        refine (slow2_any B (by omega) (by omega) k3 (by omega) (by omega) (hG.later hb1)).mono ?_
        rintro r w' ⟨b, E, rfl, h1, h2, h3⟩
        exact ⟨b, E, rfl, by unfold ValIs; rw [if_neg (by decide), if_pos rfl]; exact h1, h2, h3⟩
      · obtain ⟨k1, k2, k3, k4⟩ := kept_dec q1 hz
        have dn : den.data.toList ≠ [] := fun q => h3 ⟨rfl, q⟩
        obtain ⟨l1, l2, l3, l4⟩ := kept_dec q2 dn
        refine (slow3_any B (by omega) (by omega) (okB_ten k3) (by omega) (by omega) (okB_ten l3) (val_pos_den q2 dn) (hG.later hb1)).mono ?_
        rintro r w' ⟨b, E, rfl, h1, h2, h3⟩
        exact ⟨b, E, rfl, by unfold ValIs; rw [if_neg (by decide), if_neg (by decide)]; exact h1, h2, h3⟩
  · refine (pat_refused_slow k ng num e den hn hd hE w).mono ?_
    rintro r w' ⟨rfl, hb⟩
    exact ⟨_, _, rfl, Or.inl ⟨hE, rfl, rfl⟩, U_zero, hb⟩
theorem shN_dec {l : B} (h : ∀ c ∈ l, isD c = true) (k : Int) : ∀ c ∈ shN k l, isD c = true := fun c hc => by
  unfold shN at hc
  split at hc
  · exact h c hc
  · split at hc
    · exact h c (List.mem_of_mem_take hc)
    · rcases List.mem_append.mp hc with hc | hc
      · exact h c (List.mem_of_mem_take hc)
      · rw [List.mem_singleton.mp hc]; rfl
theorem shN_hex {l : B} (h : okB 16 l) (k : Int) : okB 16 (shN k l) := fun c hc => by
  unfold shN at hc
  split at hc
  · exact h c hc
  · split at hc
    · exact h c (List.mem_of_mem_take hc)
    · rcases List.mem_append.mp hc with hc | hc
      · exact h c (List.mem_of_mem_take hc)
      · rw [List.mem_singleton.mp hc]; decide
theorem shN_lead {l : B} (h : lead l) (k : Int) : lead (shN k l) := by
  unfold shN
  split
  · exact h
  · have := h.take (n := 768) (by omega)
    split
    · exact this
    · obtain ⟨c, r, e, hc⟩ := this
      exact ⟨c, r ++ [49], by rw [e]; rfl, hc⟩
theorem shN_len {l : B} (h : l.length ≤ 65536) (k : Int) : (shN k l).length ≤ 65536 := by
  unfold shN
  split
  · exact h
  · split
    · rw [List.length_take]; omega
    · rw [List.length_append, List.length_take, List.length_singleton]; omega
theorem shE_bd {l : B} (h : l.length ≤ 65536) {k e : Int} (h0 : -1073741824 ≤ e) (h1 : e ≤ 1073741824) : -2000000000 ≤ shE k l e ∧ shE k l e ≤ 2000000000 := by
  have hp : 0 ≤ perD k ∧ perD k ≤ 4 := by unfold perD; split <;> omega
  have key : ∀ n : Nat, n ≤ 65536 → 0 ≤ (n : Int) * perD k ∧ (n : Int) * perD k ≤ 65536 * 4 := fun n hn => ⟨Int.mul_nonneg (by omega) hp.1, Int.mul_le_mul (by omega) hp.2 hp.1 (by omega)⟩
  unfold shE
  split
  · omega
  · split
    · have := key (l.length - 768) (by omega); omega
    · have := key (l.length - 769) (by omega); omega
/-- the pattern's answer, by the three roads -/
theorem pat_roads_all (k : Int) (ng : Bool) (num : ByteArray) (e : Int) (den : ByteArray) (hn : num.size ≤ 9223372036854775807) (hd : den.size ≤ 9223372036854775807) {w : World} (hG : GrVar w) (hT : TenVar w) :
    Calls Tryz.prog 22 #[.agg (numC k ng num e den), .func (.func 24) #[] #[]] w fun r w' => ∃ b E, r = .returned (.tuple #[.int .u64 b, .int .i64 E]) ∧ BitsIs k ng num.data.toList e den.data.toList b E ∧ U b ∧ Below w.heap.size w w' := by
  by_cases hE : refE k num.data.toList e den.data.toList = 0
  · by_cases hz : num.data.toList = []
    · refine (pat_zero_roads k ng num e den hn hd hE hz w).mono ?_
      rintro r w' ⟨rfl, hb⟩
      exact ⟨_, _, rfl, Or.inr (Or.inl ⟨hE, hz, rfl, rfl⟩), by unfold U; cases ng <;> decide, hb⟩
    · obtain ⟨hr, h3⟩ := refE_right hE
      have fin : ∀ {r : Ending} {w' : World}, (∃ b E, r = .returned (.tuple #[.int .u64 b, .int .i64 E]) ∧ PatIs (ValIs k num.data.toList e den.data.toList) ng b E ∧ U b ∧ Below w.heap.size w w') → ∃ b E, r = .returned (.tuple #[.int .u64 b, .int .i64 E]) ∧ BitsIs k ng num.data.toList e den.data.toList b E ∧ U b ∧ Below w.heap.size w w' := fun {r w'} ⟨b, E, q1, q2, q3, q4⟩ => ⟨b, E, q1, Or.inr (Or.inr ⟨hE, hz, q2⟩), q3, q4⟩
      have sz : num.size = num.data.toList.length := Lib.size_eq num
      have sd : den.size = den.data.toList.length := Lib.size_eq den
      have vo := fun m F q => val_over (m := m) (F := F) hE q
      rcases right_kinds hr with ⟨rfl, q1, q2, q3⟩ | ⟨rfl, q1, q2, q3⟩ | ⟨rfl, q1, q2, q3⟩
      · obtain ⟨k1, k2, k3, k4⟩ := kept_dec q1 hz
        obtain ⟨x0, x1⟩ := with_bd q3
        obtain ⟨y0, y1⟩ := shE_bd k1 (k := 1) x0 x1
        obtain ⟨t, n1, n2, n3, n4, n5, n6⟩ := quick_num k3
        have VI : ∀ b E, ValIs 1 num.data.toList e den.data.toList b E ↔ ExIs (nv 10 num.data.toList) e b E := fun b E => by unfold ValIs; rw [if_pos rfl]
        refine (pat_dec 1 ng num e den hn hd hE hz (Q := ValIs 1 num.data.toList e den.data.toList) (Q1 := Road1 (cutV (trimR [48] num.data.toList)) (e + num.data.toList.length - cutN (trimR [48] num.data.toList)) (cutMr (trimR [48] num.data.toList))) (Q2 := Road2 (cutV (trimR [48] num.data.toList)) (e + num.data.toList.length - cutN (trimR [48] num.data.toList)) (cutMr (trimR [48] num.data.toList))) (str (shN 1 num.data.toList)) (shE 1 num.data.toList e) (cutV (trimR [48] num.data.toList)) (e + num.data.toList.length - cutN (trimR [48] num.data.toList)) (cutMr (trimR [48] num.data.toList)) vo (fun w => roads_dec ng num e den (by omega) (by omega) x0 x1 k3 w) w (fun g w1 hb1 B => ?_) (fun gm ge gr w1 hb1 c1 c2 c3 => ?_) (fun gm ge gr w1 hb1 c1 c2 c3 => ?_) (fun b E h hE => ?_) (fun b E h hE => ?_)).mono fun r w' q => fin q
        · have hge := (shN_lead k2 1).ge (b := 10) (by omega)
          refine (slow1_any B (by rw [str_size]; exact (shN_lead k2 1).pos) (by rw [str_size]; exact shN_len k1 1) (by rw [str_list]; exact okB_ten (shN_dec k3 1)) (by rw [str_size, str_list]; exact hge) y0 y1 (hG.later hb1)).mono ?_
          rintro r w' ⟨b, E, rfl, h1, h2, h3⟩
          rw [str_list, short_dec (okB_ten k3) k2] at h1
          exact ⟨b, E, rfl, (VI b E).mpr h1, h2, h3⟩
        · exact road1_any c1 c2 c3 (by unfold U; omega) (by omega) (by omega) (hT.later hb1)
        · exact road2_any c1 c2 c3 n5 n6 (by omega) (by omega)
        · rcases h with h | ⟨h, h'⟩
          · exact absurd h hE
          · exact (VI b E).mpr (quick_ex k3 h' (fun q => by rw [h] at q; cases q))
        · rcases h with h | ⟨h, h'⟩
          · exact absurd h hE
          · exact (VI b E).mpr (quick_ex k3 h h')
      · obtain ⟨k1, k2, k3, k4⟩ := kept_hex q1 hz
        obtain ⟨x0, x1⟩ := with_bd q3
        obtain ⟨y0, y1⟩ := shE_bd k1 (k := 2) x0 x1
        refine (pat_other 2 ng num e den hn hd hE hz (str (shN 2 num.data.toList)) (shE 2 num.data.toList e) vo (fun w => roads_other 2 ng num e den (by omega) (by omega) x0 x1 w) w (fun g w1 hb1 B => ?_)).mono fun r w' q => fin q
        refine (slow2_any B (by rw [str_size]; exact (shN_lead k2 2).pos) (by rw [str_size]; exact shN_len k1 2) (by rw [str_list]; exact shN_hex k3 2) y0 y1 (hG.later hb1)).mono ?_
        rintro r w' ⟨b, E, rfl, h1, h2, h3⟩
        rw [str_list, short_hex k3 k2] at h1
        exact ⟨b, E, rfl, by unfold ValIs; rw [if_neg (by decide), if_pos rfl]; exact h1, h2, h3⟩
      · obtain ⟨k1, k2, k3, k4⟩ := kept_dec q1 hz
        have dn : den.data.toList ≠ [] := fun q => h3 ⟨rfl, q⟩
        obtain ⟨l1, l2, l3, l4⟩ := kept_dec q2 dn
        have s1 : shN 3 num.data.toList = num.data.toList := by unfold shN; rw [if_pos (Or.inl rfl)]
        refine (pat_other 3 ng num e den hn hd hE hz (str (shN 3 num.data.toList)) (shE 3 num.data.toList e) vo (fun w => roads_other 3 ng num e den (by omega) (by omega) (by omega) (by omega) w) w (fun g w1 hb1 B => ?_)).mono fun r w' q => fin q
        rw [s1, str_of] at B
        refine (slow3_any B (by omega) (by omega) (okB_ten k3) (by omega) (by omega) (okB_ten l3) (val_pos_den q2 dn) (hG.later hb1)).mono ?_
        rintro r w' ⟨b, E, rfl, h1, h2, h3⟩
        exact ⟨b, E, rfl, by unfold ValIs; rw [if_neg (by decide), if_neg (by decide)]; exact h1, h2, h3⟩
  · refine (pat_refused_roads k ng num e den hn hd hE w).mono ?_
    rintro r w' ⟨rfl, hb⟩
    exact ⟨_, _, rfl, Or.inl ⟨hE, rfl, rfl⟩, U_zero, hb⟩
set_option maxHeartbeats 1600000 in
set_option maxRecDepth 100000 in
theorem slow11_any (k : Int) (ng : Bool) (num : ByteArray) (e : Int) (den : ByteArray) (hn : num.size ≤ 9223372036854775807) (hd : den.size ≤ 9223372036854775807) {w : World} (hG : GrVar w) :
    Calls Tryz.prog 7 #[.agg (numC k ng num e den)] w fun r w' => ∃ b E, r = .returned (.tuple #[.int .u64 b, .int .i64 E]) ∧ BitsIs k ng num.data.toList e den.data.toList b E ∧ U b ∧ Below w.heap.size w w' := by
  have hb0 : Below w.heap.size w (w.alloc (.cells (numC k ng num e den) 30)) := (Below.refl _ w).alloc (Nat.le_refl _) _
  have hP := pat_slow_all k ng num e den hn hd (hG.later hb0)
  generalize BitsIs k ng num.data.toList e den.data.toList = Q at *
  unfold numC at hP hb0 ⊢
  go_enter Tryz.func7, Tryz.ntmps7
  go_wp2_with fail
  refine hP.mono ?_
  rintro r w1 ⟨b, E, rfl, hq, ub, hb1⟩
  have HQ : Hid (Q b E) := hq
  have B := hb0.trans (hb1.mono hb0.size)
  clear hq hP
  go_wp2
  go_ret2
  exact ⟨_, _, rfl, HQ.out, ub, B⟩
set_option maxHeartbeats 1600000 in
set_option maxRecDepth 100000 in
theorem bits11_any (k : Int) (ng : Bool) (num : ByteArray) (e : Int) (den : ByteArray) (hn : num.size ≤ 9223372036854775807) (hd : den.size ≤ 9223372036854775807) {w : World} (hG : GrVar w) (hT : TenVar w) :
    Calls Tryz.prog 8 #[.agg (numC k ng num e den)] w fun r w' => ∃ b E, r = .returned (.tuple #[.int .u64 b, .int .i64 E]) ∧ BitsIs k ng num.data.toList e den.data.toList b E ∧ U b ∧ Below w.heap.size w w' := by
  have hb0 : Below w.heap.size w (w.alloc (.cells (numC k ng num e den) 30)) := (Below.refl _ w).alloc (Nat.le_refl _) _
  have hP := pat_roads_all k ng num e den hn hd (hG.later hb0) (hT.later hb0)
  generalize BitsIs k ng num.data.toList e den.data.toList = Q at *
  unfold numC at hP hb0 ⊢
  go_enter Tryz.func8, Tryz.ntmps8
  go_wp2_with fail
  refine hP.mono ?_
  rintro r w1 ⟨b, E, rfl, hq, ub, hb1⟩
  have HQ : Hid (Q b E) := hq
  have B := hb0.trans (hb1.mono hb0.size)
  clear hq hP
  go_wp2
  go_ret2
  exact ⟨_, _, rfl, HQ.out, ub, B⟩
end Go.Proofs.YtlaendbngekghaaGreatDoor

/- plumblaw11: atof.Parse of a numeral, alive. -/
namespace Go.Proofs.YtlaendbngekghaaGreatDoor
open Go.ChangeShapes Go.WideShapes Go.ChangeAt Go.RowKit
open Na Ar Lx
set_option linter.unusedVariables false
theorem parse_said11 {S : B} {p : Pc} (hl : S.length ≤ 60000) (hp : scanP S 0 = p) (hk : p.kind ≠ 0) (hst : p.stop = S.length) (w : World) :
    Calls Tryz.prog 30 #[.string (str S)] w fun r w' => r = .returned (.tuple #[.agg (nmA (Lx.numOf p)), .nilIface]) ∧ Below w.heap.size w w' := by
  refine (parse9_any (str S) (by rw [str_size]; unfold maxLen; omega) w).mono ?_
  rintro r w' ⟨⟨g, at_, c, rfl, _, _, _, hn⟩ | ⟨_, _, rfl⟩, hb⟩
  · exfalso
    rw [str_list, hp] at hn
    rcases hn with ⟨q, _⟩ | ⟨_, q, _⟩
    · exact hk q
    · rw [str_size] at q; omega
  · rw [str_list, hp]
    exact ⟨rfl, hb⟩
set_option maxHeartbeats 1600000 in
set_option maxRecDepth 100000 in
/-- a numeral that is read, and has a pattern -/
theorem parse11_ok {s : ByteArray} {k e : Int} {ng : Bool} {nu de : ByteArray} {V : Int} (hP : ∀ w, Calls Tryz.prog 30 #[.string s] w fun r w' => r = .returned (.tuple #[.agg (numC k ng nu e de), .nilIface]) ∧ Below w.heap.size w w')
    (h1 : nu.size ≤ 65536) (h2 : de.size ≤ 65536) (hV : ∀ b E, BitsIs k ng nu.data.toList e de.data.toList b E → b = V ∧ E = 0) {w : World} (hG : GrVar w) (hT : TenVar w) :
    Calls Tryz.prog 11 #[.string s] w fun r w' => r = .returned (.tuple #[.int .u64 V, .nilIface]) ∧ Below w.heap.size w w' := by
  have hB : ∀ w1, Below w.heap.size w w1 → Calls Tryz.prog 8 #[.agg (numC k ng nu e de)] w1 fun r w' => r = .returned (.tuple #[.int .u64 V, .int .i64 0]) ∧ Below w1.heap.size w1 w' := fun w1 h => by
    refine (bits11_any k ng nu e de (by omega) (by omega) (hG.later h) (hT.later h)).mono ?_
    rintro r w' ⟨b, E, rfl, q, _, hb⟩
    obtain ⟨rfl, rfl⟩ := hV b E q
    exact ⟨rfl, hb⟩
  clear hV h1 h2
  unfold numC at hP hB
  go_enter Tryz.func11, Tryz.ntmps11
  go_wp2_with fail
  refine (hP _).mono ?_
  rintro r w1 ⟨rfl, hb1⟩
  have B : Below w.heap.size w (w1.alloc (.cells #[.int .i64 k, .bool ng, .string nu, .int .i64 e, .string de] 30)) := hb1.alloc hb1.size _
  have hB' := hB _ B
  clear hP hB
  go_wp2_with fail
  refine hB'.mono ?_
  rintro r w2 ⟨rfl, hb2⟩
  have B := B.trans (hb2.mono B.size)
  clear hB'
  go_wp2
  go_ret2
  exact ⟨rfl, B⟩
namespace Ar
set_option maxRecDepth 100000 in
theorem tenth11 : RoundIs (1 * pTwo 1074) (pTen 1) false false 0 4591870180066957722 0 :=
  ⟨4591870180066957721, ⟨by decide, by decide, by decide +kernel, Or.inr (by decide +kernel)⟩, Or.inr ⟨⟨by decide +kernel, by decide +kernel⟩, Or.inr ⟨by decide, by decide, rfl⟩⟩⟩
end Ar
theorem tenth_bits {b E : Int} (h : BitsIs 1 false [49] (-1) [] b E) : b = 4591870180066957722 ∧ E = 0 := by
  have hr : refE 1 [49] (-1) [] = 0 := by decide
  refine bits_uniq h (Or.inr (Or.inr ⟨hr, by decide, 4591870180066957722, 0, ?_, Or.inr ⟨rfl, rfl, rfl⟩⟩))
  unfold ValIs
  rw [if_pos rfl]
  have n1 : nv 10 [49] = 1 := by rw [nv_one]; rfl
  rw [n1]
  exact (ex_neg (k := 1) (by omega)).mpr tenth11
theorem parse_tenth {w : World} (hG : GrVar w) (hT : TenVar w) : Calls Tryz.prog 11 #[.string ⟨#[48, 46, 49]⟩] w fun r w' => r = .returned (.tuple #[.int .u64 4591870180066957722, .nilIface]) ∧ Below w.heap.size w w' := by
  have e : Lx.numOf ⟨1, false, [48], [49], [], [], 3⟩ = ⟨1, false, [49], -1, []⟩ := by rfl
  refine parse11_ok (k := 1) (e := -1) (ng := false) (nu := str [49]) (de := str []) (fun w => ?_) (by decide) (by decide) (fun b E q => tenth_bits q) hG hT
  have := parse_said11 (S := [48, 46, 49]) (p := ⟨1, false, [48], [49], [], [], 3⟩) (by decide) (by rfl) (by decide) rfl w
  rw [e] at this
  exact this
end Go.Proofs.YtlaendbngekghaaGreatDoor

/- Plain numbers: atof: what Bits tells of some numerals. -/
namespace Go.Proofs.YtlaendbngekghaaGreatDoor
open Go.RowKit
open Na Ar Lx
set_option linter.unusedVariables false
theorem bits_val {k e m F b E : Int} {ng : Bool} {num den : B} (hr : refE k num e den = 0) (hn : num ≠ []) (hv : ValIs k num e den m F) (h : BitsIs k ng num e den b E) : (F ≠ 0 → b = 0 ∧ E = F) ∧ (F = 0 → b = m + sgB ng ∧ E = 0) := by
  rcases h with ⟨a1, _⟩ | ⟨_, a2, _⟩ | ⟨a1, a2, m', F', a3, a4⟩
  · exact absurd hr a1
  · exact absurd a2 hn
  · obtain ⟨rfl, rfl⟩ := val_uniq hr hv a3
    rcases a4 with ⟨x1, x2, x3⟩ | ⟨x1, x2, x3⟩
    · exact ⟨fun _ => ⟨x2, x3⟩, fun q => absurd q x1⟩
    · exact ⟨fun q => absurd x1 q, fun _ => ⟨x3, x2⟩⟩
namespace Lx
theorem kept_of {cs l : B} (hl : l.length ≤ 65536) (h : lead l) (ha : ∀ c ∈ l, cs.contains c = true) : keptB cs l = true := by
  unfold keptB
  rw [decide_eq_true hl, List.all_eq_true.mpr ha]
  obtain ⟨c, r, rfl, hc⟩ := h
  simp [fst]
  exact hc
theorem isD_digs {c : UInt8} (h : isD c = true) : digs9.contains c = true := by
  have := digits_has c
  rw [h] at this
  exact this
end Lx
theorem ref_dec {l : B} {e : Int} (hl : l.length ≤ 65536) (h : lead l) (hd : ∀ c ∈ l, isD c = true) (e0 : -1073741824 ≤ e) (e1 : e ≤ 1073741824) : refE 1 l e [] = 0 := by
  have hr : rightB 1 l e [] = true := by
    unfold rightB
    rw [if_pos rfl, kept_of hl h (fun c hc => isD_digs (hd c hc))]
    unfold withB
    simp; omega
  unfold refE
  rw [hr, if_pos rfl, if_neg (fun q => absurd q.1 (by decide))]
end Go.Proofs.YtlaendbngekghaaGreatDoor

/- TopRoads: what the roads tell of a word and an exponent, by numbers. -/
namespace Go.Proofs.YtlaendbngekghaaGreatDoor
open Go.ChangeShapes Go.WideShapes Go.ChangeAt Go.RowKit
open Na Ar Lx
set_option linter.unusedVariables false
namespace Lx
theorem dch_byte {k : Int} (h0 : 0 ≤ k) (h1 : k < 10) : (UInt8.ofNat (dch k).toNat).toNat = (48 + k).toNat := by
  unfold dch
  rw [if_pos h1, UInt8.toNat_ofNat', Nat.mod_eq_of_lt (by omega)]
theorem laid_facts (m : Nat) : ∀ X : Int, 0 ≤ X → X < 10 ^ m → nv 10 (bytesOf (laidD 10 m X)) = X ∧ ∀ c ∈ bytesOf (laidD 10 m X), isD c = true := by
  induction m with
  | zero =>
    intro X h0 h1
    have : X = 0 := by simp at h1; omega
    subst this
    exact ⟨rfl, fun c hc => by simp [bytesOf, laidD] at hc⟩
  | succ m ih =>
    intro X h0 h1
    have p : (0 : Int) < 10 ^ m := Int.pow_pos (by omega)
    have q1 : X / 10 ^ m < 10 := by
      rw [Int.pow_succ] at h1
      exact Int.ediv_lt_of_lt_mul p (by omega)
    have q0 : 0 ≤ X / 10 ^ m := Int.ediv_nonneg h0 (by omega)
    have r0 := Int.emod_nonneg X (show (10 : Int) ^ m ≠ 0 by omega)
    have r1 := Int.emod_lt_of_pos X p
    have d := Int.mul_ediv_add_emod X (10 ^ m)
    obtain ⟨i1, i2⟩ := ih (X % 10 ^ m) r0 r1
    rw [laidD_mod (by omega)] at i1 i2
    have e : X / 10 ^ m % 10 = X / 10 ^ m := Int.emod_eq_of_lt q0 q1
    have hl : (bytesOf (laidD 10 m X)).length = m := by unfold bytesOf; rw [List.length_map, laidD_length]
    rw [laidD_cons (by omega), e]
    have hb := dch_byte q0 q1
    generalize X / 10 ^ m = k at *
    have hc : bytesOf (dch k :: laidD 10 m X) = UInt8.ofNat (dch k).toNat :: bytesOf (laidD 10 m X) := rfl
    rw [hc]
    generalize UInt8.ofNat (dch k).toNat = c at *
    constructor
    · rw [nv_cons, hl, i1, hb]
      have : valN (((48 + k).toNat : Nat) : Int) = k := by unfold valN; rw [if_pos (by omega)]; omega
      rw [this, Int.mul_comm]
      omega
    · intro x hx
      rcases List.mem_cons.mp hx with rfl | hx
      · unfold isD; rw [hb]; simp; omega
      · exact i2 x hx
theorem ten_len : ∀ X : Int, 0 < X → X < 18446744073709551616 → ∃ d : Nat, d < 20 ∧ (10 : Int) ^ d ≤ X ∧ X < 10 ^ (d + 1) := by
  intro X h0 h1
  have key : ∀ n : Nat, X < 10 ^ n → ∃ d : Nat, d < n ∧ (10 : Int) ^ d ≤ X ∧ X < 10 ^ (d + 1) := by
    intro n
    induction n with
    | zero => intro h; simp at h; omega
    | succ n ih =>
      intro h
      by_cases g : X < 10 ^ n
      · obtain ⟨d, a, b⟩ := ih g
        exact ⟨d, by omega, b⟩
      · exact ⟨n, by omega, by omega, h⟩
  exact key 20 (by omega)
theorem text_facts {X : Int} (h0 : 0 < X) (h1 : X < 18446744073709551616) {t : ByteArray} (ht : TextIs X 10 t) : lead t.data.toList ∧ (∀ c ∈ t.data.toList, isD c = true) ∧ nv 10 t.data.toList = X ∧ t.data.toList.length ≤ 20 := by
  obtain ⟨d, a1, a2, a3⟩ := ten_len X h0 h1
  have e := text_bytes ht (by omega) (by omega) a2 a3
  obtain ⟨b1, b2⟩ := laid_facts (d + 1) X (by omega) a3
  rw [e]
  have hl : (bytesOf (laidD 10 (d + 1) X)).length = d + 1 := by unfold bytesOf; rw [List.length_map, laidD_length]
  refine ⟨?_, b2, b1, by omega⟩
  rw [laidD_cons (by omega)]
  have p : (0 : Int) < 10 ^ d := Int.pow_pos (by omega)
  have q1 : X / 10 ^ d < 10 := by
    rw [Int.pow_succ] at a3
    exact Int.ediv_lt_of_lt_mul p (by omega)
  have q0 : 1 ≤ X / 10 ^ d := Int.le_ediv_of_mul_le p (by omega)
  have e2 : X / 10 ^ d % 10 = X / 10 ^ d := Int.emod_eq_of_lt (by omega) q1
  rw [e2]
  have hb := dch_byte (by omega) q1
  refine ⟨UInt8.ofNat (dch (X / 10 ^ d)).toNat, bytesOf (laidD 10 d X), rfl, fun h => ?_⟩
  have := congrArg UInt8.toNat h
  rw [hb] at this
  have h48 : (48 : UInt8).toNat = 48 := rfl
  rw [h48] at this
  omega
end Lx
/-- the exponent that the numeral gets -/
def clampE (e : Int) : Int := if 1073741824 < e then 1073741824 else if e < -1073741824 then -1073741824 else e
theorem clamp_bd (e : Int) : -1073741824 ≤ clampE e ∧ clampE e ≤ 1073741824 := by unfold clampE; split <;> (try split) <;> omega
theorem roads_fit {m e b E : Int} {l : B} (h0 : 0 < m) (h1 : m < 18446744073709551616) (hl : lead l) (hd : ∀ c ∈ l, isD c = true) (hv : nv 10 l = m) (hn : l.length ≤ 20) (h : BitsIs 1 false l (clampE e) [] b E) :
    (E = 0 ∨ E = 70) ∧ (∀ s, smallOk m e = true → SmlI m e s → E = 0 ∧ s = b) ∧ (∀ f F, FastIs m e f F → (F = 0 → E = 0 ∧ f = b) ∧ (F = 70 → E = 70)) := by
  obtain ⟨c0, c1⟩ := clamp_bd e
  have hr := ref_dec (e := clampE e) (by omega) hl hd c0 c1
  have ne : l ≠ [] := by obtain ⟨c, r, rfl, _⟩ := hl; exact List.cons_ne_nil _ _
  have hu : U m := ⟨by omega, h1⟩
  have fin : ∀ x F, ExIs m (clampE e) x F → (F ≠ 0 → b = 0 ∧ E = F) ∧ (F = 0 → b = x ∧ E = 0) := fun x F q => by
    have := bits_val hr ne (m := x) (F := F) (by unfold ValIs; rw [if_pos rfl, hv]; exact q) h
    refine ⟨this.1, fun z => ?_⟩
    obtain ⟨t1, t2⟩ := this.2 z
    have : sgB false = 0 := rfl
    exact ⟨by omega, t2⟩
  refine ⟨(h.codes hr).1, fun s ok q => ?_, fun f F q => ?_⟩
  · have hb : -22 ≤ e ∧ e ≤ 22 := by unfold smallOk at ok; have := of_decide_eq_true ok; omega
    have ce : clampE e = e := by unfold clampE; rw [if_neg (by omega), if_neg (by omega)]
    have := (fin s 0 (by rw [ce]; exact small_ex q)).2 rfl
    exact ⟨this.2, this.1.symm⟩
  · by_cases g1 : 1073741824 < e
    · have ce : clampE e = 1073741824 := by unfold clampE; rw [if_pos g1]
      have hx := (fin 0 70 (by rw [ce]; exact ex_huge (L := 0) (by have : pTen 0 = 1 := rfl; omega) (by omega))).1 (by decide)
      rcases q with ⟨x, _⟩ | ⟨_, _, x2, x3⟩ | ⟨_, x, _⟩
      · omega
      · exact ⟨fun z => by omega, fun _ => hx.2⟩
      · unfold inT at x; omega
    · by_cases g2 : e < -1073741824
      · have ce : clampE e = -1073741824 := by unfold clampE; rw [if_neg g1, if_pos g2]
        have hx := (fin 0 0 (by rw [ce]; exact ex_tiny (L := 20) h0 (by have : pTen 20 = 100000000000000000000 := rfl; omega) (by omega))).2 rfl
        rcases q with ⟨_, x2, x3⟩ | ⟨_, x, _⟩ | ⟨_, x, _⟩
        · exact ⟨fun _ => ⟨hx.2, by rw [x2, hx.1]⟩, fun z => by omega⟩
        · omega
        · unfold inT at x; omega
      · have ce : clampE e = e := by unfold clampE; rw [if_neg g1, if_neg g2]
        rw [ce] at fin
        by_cases hF : F = 100
        · exact ⟨fun z => by omega, fun z => by omega⟩
        · obtain ⟨k1, k2⟩ := fin f F (sure_ex hu q hF)
          refine ⟨fun z => ?_, fun z => ?_⟩
          · obtain ⟨t1, t2⟩ := k2 z
            exact ⟨t2, t1.symm⟩
          · rw [← z]; exact (k1 (by omega)).2
theorem roads_zero {e b E : Int} (h : BitsIs 1 false [] (clampE e) [] b E) : b = 0 ∧ E = 0 ∧ (∀ s, smallOk 0 e = true → SmlI 0 e s → s = 0) ∧ (∀ f F, FastIs 0 e f F → f = 0 ∧ F = 0) := by
  obtain ⟨c0, c1⟩ := clamp_bd e
  have hr : refE 1 [] (clampE e) [] = 0 := by
    have hr : rightB 1 [] (clampE e) [] = true := by
      unfold rightB
      have hw : withB (clampE e) = true := by unfold withB; simp; omega
      rw [if_pos rfl, hw]
      rfl
    unfold refE
    rw [hr, if_pos rfl, if_neg (fun q => absurd q.1 (by decide))]
  have hb : b = 0 ∧ E = 0 := by
    rcases h with ⟨a1, _⟩ | ⟨_, _, a3, a4⟩ | ⟨_, a2, _⟩
    · exact absurd hr a1
    · exact ⟨a3, a4⟩
    · exact absurd rfl a2
  refine ⟨hb.1, hb.2, fun s _ q => ?_, fun f F q => ?_⟩
  · have hs := small_ex q
    have hz : ExIs 0 e 0 0 := by
      unfold ExIs
      have : scA (exN 0 e) 0 = 0 := by unfold scA exN; split <;> simp
      rw [this]
      exact round_none (neg := false) (scB_pos' (exD_pos e))
    exact (ex_uniq hs hz).1
  · rcases q with ⟨_, x2, x3⟩ | ⟨x, _⟩ | ⟨x, _⟩
    · exact ⟨x2, x3⟩
    · exact absurd rfl x
    · exact absurd rfl x
end Go.Proofs.YtlaendbngekghaaGreatDoor

