/- Layer 18: cut. -/
import Derived.Test.YtfgpjplfplbcdaaGreatDoorTkD
namespace Go.Proofs.YtfgpjplfplbcdaaGreatDoor
open Go.ChangeShapes Go.WideShapes Go.ChangeAt Go.RowKit
open Lx Tk Go.Shelf
set_option linter.unusedVariables false
theorem below_more {a w : World} (h : Below a.heap.size a w) (o : Obj) : Below a.heap.size a (w.alloc o) := h.alloc h.size o
theorem Lx.Bk.more {w : World} {g : Nat} {t : TypeId} {vs : Array Value} (h : Bk w g t vs) (o : Obj) : Bk (w.alloc o) g t vs := h.later ((Below.refl _ _).alloc (Nat.le_refl _) _)
set_option maxHeartbeats 1600000 in
set_option maxRecDepth 100000 in
theorem cut18_end (s : ByteArray) (k : Nat) (w : World) (c0 : ∀ w, Calls Tryz.prog 48 #[.string s, .int .i64 (k : Int), .int .i64 1] w fun e w' => e = .returned (.int .i64 (s.size : Int)) ∧ w' = w) :
    Calls Tryz.prog 37 #[.string s, .int .i64 (k : Int)] w fun e w' => e = .returned (.tuple #[.agg (tkA 0 s.size s.size [] nmZ0), .int .i64 (-1)]) ∧ Below w.heap.size w w' := by
  have c1 := endOf18_any s
  have hU : tkA 0 s.size s.size [] nmZ0 = #[.int .i64 0, .int .i64 s.size, .int .i64 s.size, .string ⟨#[]⟩, .int .i64 0, .bool false, .string ⟨#[]⟩, .int .i64 0, .string ⟨#[]⟩] := rfl
  rw [hU] at c1 ⊢
  clear hU
  have b0 := Bk.new w 32 zero9
  have HB : Hid (Bk (w.alloc (.cells zero9 32)) w.heap.size 32 zero9) := b0
  have hb0 : Below w.heap.size w (w.alloc (.cells zero9 32)) := (Below.refl _ w).alloc (Nat.le_refl _) _
  clear b0
  go_enter Tryz.func37, Tryz.ntmps37
  go_wp2_with fail
  refine (c0 _).mono ?_
  rintro e w1 ⟨rfl, rfl⟩
  go_wp2_with fail
  refine (c1 _).mono ?_
  rintro e w2 ⟨rfl, hb2⟩
  have hbB := hb0.trans (hb2.mono hb0.size)
  have B1 := HB.out.later hb2
  clear hb2 hb0 HB c0 c1
  have z := fun i v h => B1.cell i (v := v) h
  have zf := B1.frozen
  have z0 := z 0 _ rfl
  have z1 := z 1 _ rfl
  have z2 := z 2 _ rfl
  have z3 := z 3 _ rfl
  have z4 := z 4 _ rfl
  have z5 := z 5 _ rfl
  have z6 := z 6 _ rfl
  have z7 := z 7 _ rfl
  have z8 := z 8 _ rfl
  have f0 := zf 0
  have f1 := zf 1
  have f2 := zf 2
  have f3 := zf 3
  have f4 := zf 4
  have f5 := zf 5
  have f6 := zf 6
  have f7 := zf 7
  have f8 := zf 8
  have HB1 : Hid (Bk _ w.heap.size 32 zero9) := B1
  clear B1 z zf
  go_wp2
  refine bodyPost_ret (results_c1 rfl _ _ w.heap.size 32 _ _ rfl (Bk.all9 HB1.out _ _ _ _ _ _ _ _ _) Tryz.underlying32 rfl (by kernel_rfl)) rfl ⟨rfl, ?_⟩
  exact Tn.below hbB (Tn.all9 ..) (Nat.le_refl _) (Nat.le_refl _)
set_option maxHeartbeats 1600000 in
set_option maxRecDepth 100000 in
theorem cut18_none (s : ByteArray) (k f : Nat) (hf : f < s.size) (kk M U3 U5 : Int) (U4 : Bool) (wd U1 U2 : ByteArray) (w : World) (c0 : ∀ w, Calls Tryz.prog 48 #[.string s, .int .i64 (k : Int), .int .i64 1] w fun e w' => e = .returned (.int .i64 (f : Int)) ∧ w' = w)
    (c1 : ∀ w, Calls Tryz.prog 49 #[.string s, .int .i64 (f : Int)] w fun e w' => e = .returned (.tuple #[.agg #[.int .i64 kk, .int .i64 (f : Int), .int .i64 M, .string wd, .int .i64 U3, .bool U4, .string U1, .int .i64 U5, .string U2], .bool false]) ∧ Below w.heap.size w w') :
    Calls Tryz.prog 37 #[.string s, .int .i64 (k : Int)] w fun e w' => e = .returned (.tuple #[.agg zero9, .int .i64 f]) ∧ Below w.heap.size w w' := by
  unfold zero9
  have hne : ((f : Int) == (s.size : Int)) = false := by rw [beq_eq_false_iff_ne]; omega
  have b0 := Bk.new w 32 zero9
  have HB : Hid (Bk (w.alloc (.cells zero9 32)) w.heap.size 32 zero9) := b0
  have hb0 : Below w.heap.size w (w.alloc (.cells zero9 32)) := (Below.refl _ w).alloc (Nat.le_refl _) _
  clear b0
  go_enter Tryz.func37, Tryz.ntmps37
  go_wp2_with fail
  refine (c0 _).mono ?_
  rintro e w1 ⟨rfl, rfl⟩
  go_wp2_with fail
  refine (c1 _).mono ?_
  rintro e w2 ⟨rfl, hb2⟩
  have hbB := hb0.trans (hb2.mono hb0.size)
  have B1 := HB.out.later hb2
  have hlt : w.heap.size < w2.heap.size := B1.lt
  clear hb2 hb0 HB c0 c1
  have ne1 : ¬ w.heap.size = w2.heap.size := by omega
  have ne2 : ¬ w2.heap.size = w.heap.size := by omega
  have z := fun i v h => B1.cell i (v := v) h
  have zf := B1.frozen
  have z0 := z 0 _ rfl
  have z1 := z 1 _ rfl
  have z2 := z 2 _ rfl
  have z3 := z 3 _ rfl
  have z4 := z 4 _ rfl
  have z5 := z 5 _ rfl
  have z6 := z 6 _ rfl
  have z7 := z 7 _ rfl
  have z8 := z 8 _ rfl
  have f0 := zf 0
  have f1 := zf 1
  have f2 := zf 2
  have f3 := zf 3
  have f4 := zf 4
  have f5 := zf 5
  have f6 := zf 6
  have f7 := zf 7
  have f8 := zf 8
  have HB1 : Hid (Bk _ w.heap.size 32 zero9) := B1
  clear B1 z zf
  go_wp2
  refine bodyPost_ret (results_c1 rfl _ _ w.heap.size 32 _ _ rfl (Bk.more (Bk.all9 HB1.out _ _ _ _ _ _ _ _ _) _) Tryz.underlying32 rfl (by kernel_rfl)) rfl ⟨rfl, ?_⟩
  exact below_more (Tn.below hbB (Tn.all9 ..) (Nat.le_refl _) (Nat.le_refl _)) _
set_option maxHeartbeats 1600000 in
set_option maxRecDepth 100000 in
theorem cut18_mark (s : ByteArray) (k f : Nat) (hf : f < s.size) (kk M U3 U5 : Int) (U4 : Bool) (wd U1 U2 : ByteArray) (w : World) (c0 : ∀ w, Calls Tryz.prog 48 #[.string s, .int .i64 (k : Int), .int .i64 1] w fun e w' => e = .returned (.int .i64 (f : Int)) ∧ w' = w)
    (c1 : ∀ w, Calls Tryz.prog 49 #[.string s, .int .i64 (f : Int)] w fun e w' => e = .returned (.tuple #[.agg #[.int .i64 kk, .int .i64 (f : Int), .int .i64 M, .string wd, .int .i64 U3, .bool U4, .string U1, .int .i64 U5, .string U2], .bool true]) ∧ Below w.heap.size w w')
    (c2 : ∀ w, Calls Tryz.prog 27 #[.agg #[.int .i64 kk, .int .i64 (f : Int), .int .i64 M, .string wd, .int .i64 U3, .bool U4, .string U1, .int .i64 U5, .string U2]] w fun e w' => e = .returned (.bool false) ∧ Below w.heap.size w w') :
    Calls Tryz.prog 37 #[.string s, .int .i64 (k : Int)] w fun e w' => e = .returned (.tuple #[.agg #[.int .i64 kk, .int .i64 (f : Int), .int .i64 M, .string wd, .int .i64 U3, .bool U4, .string U1, .int .i64 U5, .string U2], .int .i64 (-1)]) ∧ Below w.heap.size w w' := by
  have hne : ((f : Int) == (s.size : Int)) = false := by rw [beq_eq_false_iff_ne]; omega
  have b0 := Bk.new w 32 zero9
  have HB : Hid (Bk (w.alloc (.cells zero9 32)) w.heap.size 32 zero9) := b0
  have hb0 : Below w.heap.size w (w.alloc (.cells zero9 32)) := (Below.refl _ w).alloc (Nat.le_refl _) _
  clear b0
  go_enter Tryz.func37, Tryz.ntmps37
  go_wp2_with fail
  refine (c0 _).mono ?_
  rintro e w1 ⟨rfl, rfl⟩
  go_wp2_with fail
  refine (c1 _).mono ?_
  rintro e w2 ⟨rfl, hb2⟩
  have hbB := hb0.trans (hb2.mono hb0.size)
  have B1 := HB.out.later hb2
  have hlt : w.heap.size < w2.heap.size := B1.lt
  clear hb2 hb0 HB c0 c1
  have ne1 : ¬ w.heap.size = w2.heap.size := by omega
  have ne2 : ¬ w2.heap.size = w.heap.size := by omega
  go_wp2_with fail
  refine (c2 _).mono ?_
  rintro e w3 ⟨rfl, hb3⟩
  have hbW : Below w2.heap.size w2 (w2.alloc (.cells #[.int .i64 kk, .int .i64 (f : Int), .int .i64 M, .string wd, .int .i64 U3, .bool U4, .string U1, .int .i64 U5, .string U2] 32)) := (Below.refl _ w2).alloc (Nat.le_refl _) _
  have C1 := Bk.later (Bk.new w2 32 #[.int .i64 kk, .int .i64 (f : Int), .int .i64 M, .string wd, .int .i64 U3, .bool U4, .string U1, .int .i64 U5, .string U2]) hb3
  have B1 := (B1.later hbW).later hb3
  have hbA := hbB.trans (hbW.mono hbB.size)
  have hbB := hbA.trans (hb3.mono hbA.size)
  clear hbA hbW hb3 c2
  have y0 : w3.cell? ⟨w2.heap.size, 0, none⟩ = some (.int .i64 kk) := C1.cell 0 rfl
  have y1 : w3.cell? ⟨w2.heap.size, 1, none⟩ = some (.int .i64 (f : Int)) := C1.cell 1 rfl
  have y2 : w3.cell? ⟨w2.heap.size, 2, none⟩ = some (.int .i64 M) := C1.cell 2 rfl
  have y3 : w3.cell? ⟨w2.heap.size, 3, none⟩ = some (.string wd) := C1.cell 3 rfl
  have y4 : w3.cell? ⟨w2.heap.size, 4, none⟩ = some (.int .i64 U3) := C1.cell 4 rfl
  have y5 : w3.cell? ⟨w2.heap.size, 5, none⟩ = some (.bool U4) := C1.cell 5 rfl
  have y6 : w3.cell? ⟨w2.heap.size, 6, none⟩ = some (.string U1) := C1.cell 6 rfl
  have y7 : w3.cell? ⟨w2.heap.size, 7, none⟩ = some (.int .i64 U5) := C1.cell 7 rfl
  have y8 : w3.cell? ⟨w2.heap.size, 8, none⟩ = some (.string U2) := C1.cell 8 rfl
  have z := fun i v h => B1.cell i (v := v) h
  have zf := B1.frozen
  have z0 := z 0 _ rfl
  have z1 := z 1 _ rfl
  have z2 := z 2 _ rfl
  have z3 := z 3 _ rfl
  have z4 := z 4 _ rfl
  have z5 := z 5 _ rfl
  have z6 := z 6 _ rfl
  have z7 := z 7 _ rfl
  have z8 := z 8 _ rfl
  have f0 := zf 0
  have f1 := zf 1
  have f2 := zf 2
  have f3 := zf 3
  have f4 := zf 4
  have f5 := zf 5
  have f6 := zf 6
  have f7 := zf 7
  have f8 := zf 8
  have HB1 : Hid (Bk _ w.heap.size 32 zero9) := B1
  clear B1 z zf
  go_wp2
  refine bodyPost_ret (results_c1 rfl _ _ w.heap.size 32 _ _ rfl (Bk.all9 HB1.out _ _ _ _ _ _ _ _ _) Tryz.underlying32 rfl (by kernel_rfl)) rfl ⟨rfl, ?_⟩
  exact (Tn.below hbB (Tn.all9 ..) (Nat.le_refl _) (Nat.le_refl _))
set_option maxHeartbeats 1600000 in
set_option maxRecDepth 100000 in
theorem cut18_shut (s : ByteArray) (k f : Nat) (hf : f < s.size) (kk M U3 U5 : Int) (U4 : Bool) (wd U1 U2 : ByteArray) (w : World) (c0 : ∀ w, Calls Tryz.prog 48 #[.string s, .int .i64 (k : Int), .int .i64 1] w fun e w' => e = .returned (.int .i64 (f : Int)) ∧ w' = w)
    (c1 : ∀ w, Calls Tryz.prog 49 #[.string s, .int .i64 (f : Int)] w fun e w' => e = .returned (.tuple #[.agg #[.int .i64 kk, .int .i64 (f : Int), .int .i64 M, .string wd, .int .i64 U3, .bool U4, .string U1, .int .i64 U5, .string U2], .bool true]) ∧ Below w.heap.size w w')
    (c2 : ∀ w, Calls Tryz.prog 27 #[.agg #[.int .i64 kk, .int .i64 (f : Int), .int .i64 M, .string wd, .int .i64 U3, .bool U4, .string U1, .int .i64 U5, .string U2]] w fun e w' => e = .returned (.bool true) ∧ Below w.heap.size w w')
    (c3 : ∀ w, Calls Tryz.prog 50 #[.string s, .int .i64 M] w fun e w' => e = .returned (.bool true) ∧ w' = w) :
    Calls Tryz.prog 37 #[.string s, .int .i64 (k : Int)] w fun e w' => e = .returned (.tuple #[.agg #[.int .i64 kk, .int .i64 (f : Int), .int .i64 M, .string wd, .int .i64 U3, .bool U4, .string U1, .int .i64 U5, .string U2], .int .i64 (-1)]) ∧ Below w.heap.size w w' := by
  have hne : ((f : Int) == (s.size : Int)) = false := by rw [beq_eq_false_iff_ne]; omega
  have b0 := Bk.new w 32 zero9
  have HB : Hid (Bk (w.alloc (.cells zero9 32)) w.heap.size 32 zero9) := b0
  have hb0 : Below w.heap.size w (w.alloc (.cells zero9 32)) := (Below.refl _ w).alloc (Nat.le_refl _) _
  clear b0
  go_enter Tryz.func37, Tryz.ntmps37
  go_wp2_with fail
  refine (c0 _).mono ?_
  rintro e w1 ⟨rfl, rfl⟩
  go_wp2_with fail
  refine (c1 _).mono ?_
  rintro e w2 ⟨rfl, hb2⟩
  have hbB := hb0.trans (hb2.mono hb0.size)
  have B1 := HB.out.later hb2
  have hlt : w.heap.size < w2.heap.size := B1.lt
  clear hb2 hb0 HB c0 c1
  have ne1 : ¬ w.heap.size = w2.heap.size := by omega
  have ne2 : ¬ w2.heap.size = w.heap.size := by omega
  go_wp2_with fail
  refine (c2 _).mono ?_
  rintro e w3 ⟨rfl, hb3⟩
  have hbW : Below w2.heap.size w2 (w2.alloc (.cells #[.int .i64 kk, .int .i64 (f : Int), .int .i64 M, .string wd, .int .i64 U3, .bool U4, .string U1, .int .i64 U5, .string U2] 32)) := (Below.refl _ w2).alloc (Nat.le_refl _) _
  have C1 := Bk.later (Bk.new w2 32 #[.int .i64 kk, .int .i64 (f : Int), .int .i64 M, .string wd, .int .i64 U3, .bool U4, .string U1, .int .i64 U5, .string U2]) hb3
  have B1 := (B1.later hbW).later hb3
  have hbA := hbB.trans (hbW.mono hbB.size)
  have hbB := hbA.trans (hb3.mono hbA.size)
  clear hbA hbW hb3 c2
  have y0 : w3.cell? ⟨w2.heap.size, 0, none⟩ = some (.int .i64 kk) := C1.cell 0 rfl
  have y1 : w3.cell? ⟨w2.heap.size, 1, none⟩ = some (.int .i64 (f : Int)) := C1.cell 1 rfl
  have y2 : w3.cell? ⟨w2.heap.size, 2, none⟩ = some (.int .i64 M) := C1.cell 2 rfl
  have y3 : w3.cell? ⟨w2.heap.size, 3, none⟩ = some (.string wd) := C1.cell 3 rfl
  have y4 : w3.cell? ⟨w2.heap.size, 4, none⟩ = some (.int .i64 U3) := C1.cell 4 rfl
  have y5 : w3.cell? ⟨w2.heap.size, 5, none⟩ = some (.bool U4) := C1.cell 5 rfl
  have y6 : w3.cell? ⟨w2.heap.size, 6, none⟩ = some (.string U1) := C1.cell 6 rfl
  have y7 : w3.cell? ⟨w2.heap.size, 7, none⟩ = some (.int .i64 U5) := C1.cell 7 rfl
  have y8 : w3.cell? ⟨w2.heap.size, 8, none⟩ = some (.string U2) := C1.cell 8 rfl
  have z := fun i v h => B1.cell i (v := v) h
  have zf := B1.frozen
  have z0 := z 0 _ rfl
  have z1 := z 1 _ rfl
  have z2 := z 2 _ rfl
  have z3 := z 3 _ rfl
  have z4 := z 4 _ rfl
  have z5 := z 5 _ rfl
  have z6 := z 6 _ rfl
  have z7 := z 7 _ rfl
  have z8 := z 8 _ rfl
  have f0 := zf 0
  have f1 := zf 1
  have f2 := zf 2
  have f3 := zf 3
  have f4 := zf 4
  have f5 := zf 5
  have f6 := zf 6
  have f7 := zf 7
  have f8 := zf 8
  have HB1 : Hid (Bk _ w.heap.size 32 zero9) := B1
  clear B1 z zf
  go_wp2_with fail
  refine (c3 _).mono ?_
  rintro e w4 ⟨rfl, rfl⟩
  clear c3
  go_wp2
  refine bodyPost_ret (results_c1 rfl _ _ w.heap.size 32 _ _ rfl (Bk.all9 HB1.out _ _ _ _ _ _ _ _ _) Tryz.underlying32 rfl (by kernel_rfl)) rfl ⟨rfl, ?_⟩
  exact (Tn.below hbB (Tn.all9 ..) (Nat.le_refl _) (Nat.le_refl _))
set_option maxHeartbeats 1600000 in
set_option maxRecDepth 100000 in
theorem cut18_open (s : ByteArray) (k f : Nat) (hf : f < s.size) (kk M U3 U5 : Int) (U4 : Bool) (wd U1 U2 : ByteArray) (w : World) (c0 : ∀ w, Calls Tryz.prog 48 #[.string s, .int .i64 (k : Int), .int .i64 1] w fun e w' => e = .returned (.int .i64 (f : Int)) ∧ w' = w)
    (c1 : ∀ w, Calls Tryz.prog 49 #[.string s, .int .i64 (f : Int)] w fun e w' => e = .returned (.tuple #[.agg #[.int .i64 kk, .int .i64 (f : Int), .int .i64 M, .string wd, .int .i64 U3, .bool U4, .string U1, .int .i64 U5, .string U2], .bool true]) ∧ Below w.heap.size w w')
    (c2 : ∀ w, Calls Tryz.prog 27 #[.agg #[.int .i64 kk, .int .i64 (f : Int), .int .i64 M, .string wd, .int .i64 U3, .bool U4, .string U1, .int .i64 U5, .string U2]] w fun e w' => e = .returned (.bool true) ∧ Below w.heap.size w w')
    (c3 : ∀ w, Calls Tryz.prog 50 #[.string s, .int .i64 M] w fun e w' => e = .returned (.bool false) ∧ w' = w) :
    Calls Tryz.prog 37 #[.string s, .int .i64 (k : Int)] w fun e w' => e = .returned (.tuple #[.agg zero9, .int .i64 M]) ∧ Below w.heap.size w w' := by
  unfold zero9
  have hne : ((f : Int) == (s.size : Int)) = false := by rw [beq_eq_false_iff_ne]; omega
  have b0 := Bk.new w 32 zero9
  have HB : Hid (Bk (w.alloc (.cells zero9 32)) w.heap.size 32 zero9) := b0
  have hb0 : Below w.heap.size w (w.alloc (.cells zero9 32)) := (Below.refl _ w).alloc (Nat.le_refl _) _
  clear b0
  go_enter Tryz.func37, Tryz.ntmps37
  go_wp2_with fail
  refine (c0 _).mono ?_
  rintro e w1 ⟨rfl, rfl⟩
  go_wp2_with fail
  refine (c1 _).mono ?_
  rintro e w2 ⟨rfl, hb2⟩
  have hbB := hb0.trans (hb2.mono hb0.size)
  have B1 := HB.out.later hb2
  have hlt : w.heap.size < w2.heap.size := B1.lt
  clear hb2 hb0 HB c0 c1
  have ne1 : ¬ w.heap.size = w2.heap.size := by omega
  have ne2 : ¬ w2.heap.size = w.heap.size := by omega
  go_wp2_with fail
  refine (c2 _).mono ?_
  rintro e w3 ⟨rfl, hb3⟩
  have hbW : Below w2.heap.size w2 (w2.alloc (.cells #[.int .i64 kk, .int .i64 (f : Int), .int .i64 M, .string wd, .int .i64 U3, .bool U4, .string U1, .int .i64 U5, .string U2] 32)) := (Below.refl _ w2).alloc (Nat.le_refl _) _
  have C1 := Bk.later (Bk.new w2 32 #[.int .i64 kk, .int .i64 (f : Int), .int .i64 M, .string wd, .int .i64 U3, .bool U4, .string U1, .int .i64 U5, .string U2]) hb3
  have B1 := (B1.later hbW).later hb3
  have hbA := hbB.trans (hbW.mono hbB.size)
  have hbB := hbA.trans (hb3.mono hbA.size)
  clear hbA hbW hb3 c2
  have y0 : w3.cell? ⟨w2.heap.size, 0, none⟩ = some (.int .i64 kk) := C1.cell 0 rfl
  have y1 : w3.cell? ⟨w2.heap.size, 1, none⟩ = some (.int .i64 (f : Int)) := C1.cell 1 rfl
  have y2 : w3.cell? ⟨w2.heap.size, 2, none⟩ = some (.int .i64 M) := C1.cell 2 rfl
  have y3 : w3.cell? ⟨w2.heap.size, 3, none⟩ = some (.string wd) := C1.cell 3 rfl
  have y4 : w3.cell? ⟨w2.heap.size, 4, none⟩ = some (.int .i64 U3) := C1.cell 4 rfl
  have y5 : w3.cell? ⟨w2.heap.size, 5, none⟩ = some (.bool U4) := C1.cell 5 rfl
  have y6 : w3.cell? ⟨w2.heap.size, 6, none⟩ = some (.string U1) := C1.cell 6 rfl
  have y7 : w3.cell? ⟨w2.heap.size, 7, none⟩ = some (.int .i64 U5) := C1.cell 7 rfl
  have y8 : w3.cell? ⟨w2.heap.size, 8, none⟩ = some (.string U2) := C1.cell 8 rfl
  have z := fun i v h => B1.cell i (v := v) h
  have zf := B1.frozen
  have z0 := z 0 _ rfl
  have z1 := z 1 _ rfl
  have z2 := z 2 _ rfl
  have z3 := z 3 _ rfl
  have z4 := z 4 _ rfl
  have z5 := z 5 _ rfl
  have z6 := z 6 _ rfl
  have z7 := z 7 _ rfl
  have z8 := z 8 _ rfl
  have f0 := zf 0
  have f1 := zf 1
  have f2 := zf 2
  have f3 := zf 3
  have f4 := zf 4
  have f5 := zf 5
  have f6 := zf 6
  have f7 := zf 7
  have f8 := zf 8
  have HB1 : Hid (Bk _ w.heap.size 32 zero9) := B1
  clear B1 z zf
  go_wp2_with fail
  refine (c3 _).mono ?_
  rintro e w4 ⟨rfl, rfl⟩
  clear c3
  go_wp2_with fail
  go_region
  all_goals
    go_wp2
    refine bodyPost_ret (results_c1 rfl _ _ w.heap.size 32 _ _ rfl (Bk.drew9 (Bk.all9 HB1.out _ _ _ _ _ _ _ _ _)) Tryz.underlying32 rfl (by kernel_rfl)) rfl ⟨rfl, ?_⟩
    exact below_drew9 (Tn.below hbB (Tn.all9 ..) (Nat.le_refl _) (Nat.le_refl _))
end Go.Proofs.YtfgpjplfplbcdaaGreatDoor
