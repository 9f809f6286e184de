/- Layer 18: the token at a place. -/
import Derived.Test.YtfgpjplfplbcdaaGreatDoorTkC
namespace Go.Proofs.YtfgpjplfplbcdaaGreatDoor
open Go.ChangeShapes Go.WideShapes Go.ChangeAt Go.RowKit
open Lx Tk Go.Shelf
set_option linter.unusedVariables false
theorem Lx.Bk.drew9 {w : World} {g : Nat} {t : TypeId} {vs : Array Value} (h : Bk w g t vs) : Bk w.drew g t vs := h
theorem below_drew9 {n : Nat} {a w : World} (h : Below n a w) : Below n a w.drew := ⟨h.os, h.tape, h.output, h.size, h.block⟩
set_option maxHeartbeats 1600000 in
set_option maxRecDepth 100000 in
theorem tokenAt18_word (s : ByteArray) (f : Nat) (hs : s.size ≤ 1000000000) (hf : f < s.size) (hk : kd (s[f]'hf) = 2) (w : World) :
    Calls Tryz.prog 49 #[.string s, .int .i64 (f : Int)] w fun e w' => e = .returned (.tuple #[.agg (tkA 1 f ((f + ((s.data.toList.drop f).takeWhile isLt).length : Nat) : Int) (((s.data.toList.drop f).takeWhile isLt).map upB) nmZ0), .bool true]) ∧ Below w.heap.size w w' := by
  have c0 := kindOf18_any (s[f]'hf)
  rw [hk] at c0
  have c1 := wordAt18_any s f hs (by omega)
  have hi : (f : Int) < (s.size : Int) := by omega
  clear hk
  have hU : ∀ M : Nat, ∀ U : B, tkA 1 f (M : Int) U nmZ0 = #[.int .i64 1, .int .i64 f, .int .i64 M, .string (str U), .int .i64 0, .bool false, .string ⟨#[]⟩, .int .i64 0, .string ⟨#[]⟩] := fun _ _ => rfl
  rw [hU] at c1 ⊢
  generalize f + ((s.data.toList.drop f).takeWhile isLt).length = M at *
  generalize str (((s.data.toList.drop f).takeWhile isLt).map upB) = U at *
  clear hU
  have b0 := Bk.new w 32 zero9
  have HB : Hid (Bk (w.alloc (.cells zero9 32)) w.heap.size 32 zero9) := b0
  have hb0 : Below w.heap.size w (w.alloc (.cells zero9 32)) := (Below.refl _ w).alloc (Nat.le_refl _) _
  clear b0
  go_enter Tryz.func49, Tryz.ntmps49
  go_wp2_with fail
  refine (c0 _).mono ?_
  rintro e w1 ⟨rfl, rfl⟩
  go_wp2_with fail
  refine (c1 _).mono ?_
  rintro e w2 ⟨rfl, hb2⟩
  have hbB := hb0.trans (hb2.mono hb0.size)
  have B1 := HB.out.later hb2
  clear hb2 hb0 HB c0 c1
  have z := fun i v h => B1.cell i (v := v) h
  have zf := B1.frozen
  have z0 := z 0 _ rfl
  have z1 := z 1 _ rfl
  have z2 := z 2 _ rfl
  have z3 := z 3 _ rfl
  have z4 := z 4 _ rfl
  have z5 := z 5 _ rfl
  have z6 := z 6 _ rfl
  have z7 := z 7 _ rfl
  have z8 := z 8 _ rfl
  have f0 := zf 0
  have f1 := zf 1
  have f2 := zf 2
  have f3 := zf 3
  have f4 := zf 4
  have f5 := zf 5
  have f6 := zf 6
  have f7 := zf 7
  have f8 := zf 8
  have HB1 : Hid (Bk _ w.heap.size 32 zero9) := B1
  clear B1 z zf
  go_wp2
  refine bodyPost_ret (results_c1 rfl _ _ w.heap.size 32 _ _ rfl (Bk.all9 HB1.out _ _ _ _ _ _ _ _ _) Tryz.underlying32 rfl (by kernel_rfl)) rfl ⟨rfl, ?_⟩
  exact Tn.below hbB (Tn.all9 ..) (Nat.le_refl _) (Nat.le_refl _)
set_option maxHeartbeats 1600000 in
set_option maxRecDepth 100000 in
theorem tokenAt18_mark (s : ByteArray) (f : Nat) (hs : s.size ≤ 1000000000) (hf : f < s.size) (kn : Int) (hk : kd (s[f]'hf) = kn + 1) (hkn : kn = 2 ∨ kn = 3 ∨ kn = 4) (w : World) :
    Calls Tryz.prog 49 #[.string s, .int .i64 (f : Int)] w fun e w' => e = .returned (.tuple #[.agg (tkA kn f ((f + 1 : Nat) : Int) [] nmZ0), .bool true]) ∧ Below w.heap.size w w' := by
  have c0 := kindOf18_any (s[f]'hf)
  rw [hk] at c0
  have c1 := markAt18_any kn f (by omega)
  have hi : (f : Int) < (s.size : Int) := by omega
  clear hk
  have hU : ∀ M : Nat, tkA kn f (M : Int) [] nmZ0 = #[.int .i64 kn, .int .i64 f, .int .i64 M, .string ⟨#[]⟩, .int .i64 0, .bool false, .string ⟨#[]⟩, .int .i64 0, .string ⟨#[]⟩] := fun _ => rfl
  rw [hU] at c1 ⊢
  generalize f + 1 = M at *
  clear hU
  have b0 := Bk.new w 32 zero9
  have HB : Hid (Bk (w.alloc (.cells zero9 32)) w.heap.size 32 zero9) := b0
  have hb0 : Below w.heap.size w (w.alloc (.cells zero9 32)) := (Below.refl _ w).alloc (Nat.le_refl _) _
  clear b0
  rcases hkn with rfl | rfl | rfl
  all_goals
    go_enter Tryz.func49, Tryz.ntmps49
    go_wp2_with fail
    refine (c0 _).mono ?_
    rintro e w1 ⟨rfl, rfl⟩
    go_wp2_with fail
    refine (c1 _).mono ?_
    rintro e w2 ⟨rfl, hb2⟩
    have hbB := hb0.trans (hb2.mono hb0.size)
    have B1 := HB.out.later hb2
    clear hb2 hb0 HB c0 c1
    have z := fun i v h => B1.cell i (v := v) h
    have zf := B1.frozen
    have z0 := z 0 _ rfl
    have z1 := z 1 _ rfl
    have z2 := z 2 _ rfl
    have z3 := z 3 _ rfl
    have z4 := z 4 _ rfl
    have z5 := z 5 _ rfl
    have z6 := z 6 _ rfl
    have z7 := z 7 _ rfl
    have z8 := z 8 _ rfl
    have f0 := zf 0
    have f1 := zf 1
    have f2 := zf 2
    have f3 := zf 3
    have f4 := zf 4
    have f5 := zf 5
    have f6 := zf 6
    have f7 := zf 7
    have f8 := zf 8
    have HB1 : Hid (Bk _ w.heap.size 32 zero9) := B1
    clear B1 z zf
    go_wp2
    refine bodyPost_ret (results_c1 rfl _ _ w.heap.size 32 _ _ rfl (Bk.all9 HB1.out _ _ _ _ _ _ _ _ _) Tryz.underlying32 rfl (by kernel_rfl)) rfl ⟨rfl, ?_⟩
    exact Tn.below hbB (Tn.all9 ..) (Nat.le_refl _) (Nat.le_refl _)
set_option maxHeartbeats 3200000 in
set_option maxRecDepth 100000 in
theorem tokenAt18_num (s : ByteArray) (f : Nat) (hs : s.size ≤ 1000000000) (hf : f < s.size) (hk : kd (s[f]'hf) = 0) (w : World) :
    Calls Tryz.prog 49 #[.string s, .int .i64 (f : Int)] w fun e w' => e = .returned (.tuple #[.agg (tkA 5 f (scT s f) [] (scN s f)), .bool (scC s f == 0)]) ∧ Below w.heap.size w w' := by
  have c0 := kindOf18_any (s[f]'hf)
  rw [hk] at c0
  have c1 := fun w => scan9_all s (by unfold maxLen; omega) f w
  have hi : (f : Int) < (s.size : Int) := by omega
  clear hk
  unfold tkA
  unfold nmA at c1
  generalize scT s f = M at *
  generalize scP s f = P at *
  generalize scN s f = NN at *
  generalize scC s f = CC at *
  generalize str NN.num = U1 at *
  generalize str NN.den = U2 at *
  generalize NN.kind = U3 at *
  generalize NN.neg = U4 at *
  generalize NN.exp = U5 at *
  have b0 := Bk.new w 32 zero9
  have HB : Hid (Bk (w.alloc (.cells zero9 32)) w.heap.size 32 zero9) := b0
  have hb0 : Below w.heap.size w (w.alloc (.cells zero9 32)) := (Below.refl _ w).alloc (Nat.le_refl _) _
  clear b0
  cases hbb : (CC == 0)
  · have c2 : ∀ w, Calls Tryz.prog 70 #[.string s, .int .i64 f] w fun e w' => ∃ gq : Nat, e = .returned (.tuple #[.agg #[.int .i64 U3, .bool U4, .string U1, .int .i64 U5, .string U2], .int .i64 M, .iface 52 (.pointer (some ⟨gq, 0, none⟩))]) ∧ Below w.heap.size w w' := fun w => by
      refine (c1 w).mono ?_
      rintro e w' ⟨er, rfl, ⟨h1, rfl⟩ | ⟨h1, g, rfl, _⟩, hb⟩
      · first | exact ⟨rfl, hb⟩ | (rw [h1] at hbb; cases hbb)
      · first | exact ⟨g, rfl, hb⟩ | (exact absurd (eq_of_beq hbb) h1)
    clear c1 hbb
    go_enter Tryz.func49, Tryz.ntmps49
    go_wp2_with fail
    refine (c0 _).mono ?_
    rintro e w1 ⟨rfl, rfl⟩
    go_wp2_with fail
    refine (c2 _).mono ?_
    rintro e w2 ⟨gq, rfl, hb2⟩
    have hbB := hb0.trans (hb2.mono hb0.size)
    have B1 := HB.out.later hb2
    have hlt : w.heap.size < w2.heap.size := B1.lt
    clear hb2 hb0 HB c0 c2
    obtain ⟨W, hW⟩ : ∃ W, W = w2.alloc (.cells #[.int .i64 U3, .bool U4, .string U1, .int .i64 U5, .string U2] 30) := ⟨_, rfl⟩
    have hbW : Below w2.heap.size w2 W := by rw [hW]; exact (Below.refl _ w2).alloc (Nat.le_refl _) _
    have C1 : Bk W w2.heap.size 30 #[.int .i64 U3, .bool U4, .string U1, .int .i64 U5, .string U2] := by rw [hW]; exact Bk.new _ _ _
    have B1 := B1.later hbW
    have hbC := hbB.trans (hbW.mono hbB.size)
    have y0 : W.cell? ⟨w2.heap.size, 0, none⟩ = some (.int .i64 U3) := C1.cell 0 rfl
    have y1 : W.cell? ⟨w2.heap.size, 1, none⟩ = some (.bool U4) := C1.cell 1 rfl
    have y2 : W.cell? ⟨w2.heap.size, 2, none⟩ = some (.string U1) := C1.cell 2 rfl
    have y3 : W.cell? ⟨w2.heap.size, 3, none⟩ = some (.int .i64 U5) := C1.cell 3 rfl
    have y4 : W.cell? ⟨w2.heap.size, 4, none⟩ = some (.string U2) := C1.cell 4 rfl
    clear hbB C1 hbW
    have z := fun i v h => B1.cell i (v := v) h
    have zf := B1.frozen
    have z0 := z 0 _ rfl
    have z1 := z 1 _ rfl
    have z2 := z 2 _ rfl
    have z3 := z 3 _ rfl
    have z4 := z 4 _ rfl
    have z5 := z 5 _ rfl
    have z6 := z 6 _ rfl
    have z7 := z 7 _ rfl
    have z8 := z 8 _ rfl
    have f0 := zf 0
    have f1 := zf 1
    have f2 := zf 2
    have f3 := zf 3
    have f4 := zf 4
    have f5 := zf 5
    have f6 := zf 6
    have f7 := zf 7
    have f8 := zf 8
    have HB1 : Hid (Bk _ w.heap.size 32 zero9) := B1
    clear B1 z zf
    have ne1 : ¬ w.heap.size = w2.heap.size := by omega
    have ne2 : ¬ w2.heap.size = w.heap.size := by omega
    have HW : Hid (w2.alloc (.cells #[.int .i64 U3, .bool U4, .string U1, .int .i64 U5, .string U2] 30) = W) := hW.symm
    clear hW
    go_wp2_with fail
    rw [HW.out]
    go_region
    all_goals
      go_wp2
      refine bodyPost_ret (results_c1 rfl _ _ w.heap.size 32 _ _ rfl (Bk.drew9 (Bk.all9 HB1.out _ _ _ _ _ _ _ _ _)) Tryz.underlying32 rfl (by kernel_rfl)) rfl ⟨rfl, ?_⟩
      exact below_drew9 (Tn.below hbC (Tn.all9 ..) (Nat.le_refl _) (Nat.le_refl _))
  · have c2 : ∀ w, Calls Tryz.prog 70 #[.string s, .int .i64 f] w fun e w' => e = .returned (.tuple #[.agg #[.int .i64 U3, .bool U4, .string U1, .int .i64 U5, .string U2], .int .i64 M, .nilIface]) ∧ Below w.heap.size w w' := fun w => by
      refine (c1 w).mono ?_
      rintro e w' ⟨er, rfl, ⟨h1, rfl⟩ | ⟨h1, g, rfl, _⟩, hb⟩
      · first | exact ⟨rfl, hb⟩ | (rw [h1] at hbb; cases hbb)
      · first | exact ⟨g, rfl, hb⟩ | (exact absurd (eq_of_beq hbb) h1)
    clear c1 hbb
    go_enter Tryz.func49, Tryz.ntmps49
    go_wp2_with fail
    refine (c0 _).mono ?_
    rintro e w1 ⟨rfl, rfl⟩
    go_wp2_with fail
    refine (c2 _).mono ?_
    rintro e w2 ⟨rfl, hb2⟩
    have hbB := hb0.trans (hb2.mono hb0.size)
    have B1 := HB.out.later hb2
    have hlt : w.heap.size < w2.heap.size := B1.lt
    clear hb2 hb0 HB c0 c2
    obtain ⟨W, hW⟩ : ∃ W, W = w2.alloc (.cells #[.int .i64 U3, .bool U4, .string U1, .int .i64 U5, .string U2] 30) := ⟨_, rfl⟩
    have hbW : Below w2.heap.size w2 W := by rw [hW]; exact (Below.refl _ w2).alloc (Nat.le_refl _) _
    have C1 : Bk W w2.heap.size 30 #[.int .i64 U3, .bool U4, .string U1, .int .i64 U5, .string U2] := by rw [hW]; exact Bk.new _ _ _
    have B1 := B1.later hbW
    have hbC := hbB.trans (hbW.mono hbB.size)
    have y0 : W.cell? ⟨w2.heap.size, 0, none⟩ = some (.int .i64 U3) := C1.cell 0 rfl
    have y1 : W.cell? ⟨w2.heap.size, 1, none⟩ = some (.bool U4) := C1.cell 1 rfl
    have y2 : W.cell? ⟨w2.heap.size, 2, none⟩ = some (.string U1) := C1.cell 2 rfl
    have y3 : W.cell? ⟨w2.heap.size, 3, none⟩ = some (.int .i64 U5) := C1.cell 3 rfl
    have y4 : W.cell? ⟨w2.heap.size, 4, none⟩ = some (.string U2) := C1.cell 4 rfl
    clear hbB C1 hbW
    have z := fun i v h => B1.cell i (v := v) h
    have zf := B1.frozen
    have z0 := z 0 _ rfl
    have z1 := z 1 _ rfl
    have z2 := z 2 _ rfl
    have z3 := z 3 _ rfl
    have z4 := z 4 _ rfl
    have z5 := z 5 _ rfl
    have z6 := z 6 _ rfl
    have z7 := z 7 _ rfl
    have z8 := z 8 _ rfl
    have f0 := zf 0
    have f1 := zf 1
    have f2 := zf 2
    have f3 := zf 3
    have f4 := zf 4
    have f5 := zf 5
    have f6 := zf 6
    have f7 := zf 7
    have f8 := zf 8
    have HB1 : Hid (Bk _ w.heap.size 32 zero9) := B1
    clear B1 z zf
    have ne1 : ¬ w.heap.size = w2.heap.size := by omega
    have ne2 : ¬ w2.heap.size = w.heap.size := by omega
    have HW : Hid (w2.alloc (.cells #[.int .i64 U3, .bool U4, .string U1, .int .i64 U5, .string U2] 30) = W) := hW.symm
    clear hW
    go_wp2_with fail
    rw [HW.out]
    go_region
    all_goals
      go_wp2
      refine bodyPost_ret (results_c1 rfl _ _ w.heap.size 32 _ _ rfl (Bk.drew9 (Bk.all9 HB1.out _ _ _ _ _ _ _ _ _)) Tryz.underlying32 rfl (by kernel_rfl)) rfl ⟨rfl, ?_⟩
      exact below_drew9 (Tn.below hbC (Tn.all9 ..) (Nat.le_refl _) (Nat.le_refl _))
end Go.Proofs.YtfgpjplfplbcdaaGreatDoor
