/- Layer 18: the reader's step. -/
import Derived.Test.YtfgpjplfplbcdaaGreatDoorTkF
import Derived.Deep.RegionWith
namespace Go.Proofs.YtfgpjplfplbcdaaGreatDoor
open Go.ChangeShapes Go.WideShapes Go.ChangeAt Go.RowKit
open Lx Tk Go.Shelf
set_option linter.unusedVariables false
theorem set10 (x0 x1 x2 x3 x4 x5 x6 x7 x8 x9 x10 x11 y1 y2 y3 y4 y5 y6 y7 y8 y9 y10 : Value) : (((((((((#[x0, x1, x2, x3, x4, x5, x6, x7, x8, x9, x10, x11].setIfInBounds 1 y1).setIfInBounds 2 y2).setIfInBounds 3 y3).setIfInBounds 4 y4).setIfInBounds 5 y5).setIfInBounds 6 y6).setIfInBounds 7 y7).setIfInBounds 8 y8).setIfInBounds 9 y9).setIfInBounds 10 y10 = #[x0, y1, y2, y3, y4, y5, y6, y7, y8, y9, y10, x11] := by kernel_rfl
theorem Lx.Bk.all10 {w : World} {g : Nat} {t : TypeId} {x0 x1 x2 x3 x4 x5 x6 x7 x8 x9 x10 x11 : Value} (h : Bk w g t #[x0, x1, x2, x3, x4, x5, x6, x7, x8, x9, x10, x11]) (y1 y2 y3 y4 y5 y6 y7 y8 y9 y10 : Value) : Bk ((((((((((w.setCell ⟨g, 1, none⟩ y1).setCell ⟨g, 2, none⟩ y2).setCell ⟨g, 3, none⟩ y3).setCell ⟨g, 4, none⟩ y4).setCell ⟨g, 5, none⟩ y5).setCell ⟨g, 6, none⟩ y6).setCell ⟨g, 7, none⟩ y7).setCell ⟨g, 8, none⟩ y8).setCell ⟨g, 9, none⟩ y9).setCell ⟨g, 10, none⟩ y10) g t #[x0, y1, y2, y3, y4, y5, y6, y7, y8, y9, y10, x11] := by
  have := (Bk.set (Bk.set (Bk.set (Bk.set (Bk.set (Bk.set (Bk.set (Bk.set (Bk.set (Bk.set h 1 y1) 2 y2) 3 y3) 4 y4) 5 y5) 6 y6) 7 y7) 8 y8) 9 y9) 10 y10)
  rw [set10] at this
  exact this
theorem Lx.Tn.all10 (w : World) (g : Nat) (y1 y2 y3 y4 y5 y6 y7 y8 y9 y10 : Value) : Tn g w ((((((((((w.setCell ⟨g, 1, none⟩ y1).setCell ⟨g, 2, none⟩ y2).setCell ⟨g, 3, none⟩ y3).setCell ⟨g, 4, none⟩ y4).setCell ⟨g, 5, none⟩ y5).setCell ⟨g, 6, none⟩ y6).setCell ⟨g, 7, none⟩ y7).setCell ⟨g, 8, none⟩ y8).setCell ⟨g, 9, none⟩ y9).setCell ⟨g, 10, none⟩ y10) := (((((((((((Tn.refl g w).set 1 _).set 2 _).set 3 _).set 4 _).set 5 _).set 6 _).set 7 _).set 8 _).set 9 _).set 10 _)
theorem below_drewA (w : World) : Below w.heap.size w w.drew := ⟨rfl, rfl, rfl, Nat.le_refl _, fun _ _ => rfl⟩
theorem Lx.Tn.of_below {g : Nat} {a w : World} (h : Below a.heap.size a w) : Tn g a w := ⟨h.os, h.tape, h.output, h.size, fun k hk _ => h.block k hk⟩
set_option maxRecDepth 100000 in
theorem faultAt18_any (p : Int) (w : World) :
    Calls Tryz.prog 24 #[.int .i64 p] w fun e w' => e = .returned (.pointer (some ⟨w.heap.size, 0, none⟩)) ∧ w' = w.alloc (.cells #[.int .i64 p, .iface 37 (.int .i64 180)] 58) := by
  go_enter Tryz.func24, Tryz.ntmps24
  go_wp2
  go_ret
  exact ⟨rfl, rfl⟩
set_option maxHeartbeats 3200000 in
set_option maxRecDepth 100000 in
theorem step18_ok {w : World} {g K : Nat} {s : ByteArray} {a1 a2 a5 a8 wr : Int} {a6 : Bool} {a4 a7 a9 : ByteArray} {F : Value} (hB : Bk w g 54 #[.string s, .int .i64 a1, .int .i64 a2, .int .i64 (K : Int), .string a4, .int .i64 a5, .bool a6, .string a7, .int .i64 a8, .string a9, .int .i64 wr, F]) {b1 b2 b3 b5 b8 : Int} {b6 : Bool} {b4 b7 b9 : ByteArray}
    (c0 : ∀ w, Calls Tryz.prog 37 #[.string s, .int .i64 (K : Int)] w fun e w' => e = .returned (.tuple #[.agg #[.int .i64 b1, .int .i64 b2, .int .i64 b3, .string b4, .int .i64 b5, .bool b6, .string b7, .int .i64 b8, .string b9], .int .i64 (-1)]) ∧ Below w.heap.size w w') :
    Calls Tryz.prog 22 #[.pointer (some ⟨g, 0, none⟩)] w fun e w' => e = .returned (.tuple #[]) ∧ Bk w' g 54 #[.string s, .int .i64 b1, .int .i64 b2, .int .i64 b3, .string b4, .int .i64 b5, .bool b6, .string b7, .int .i64 b8, .string b9, .int .i64 (-1), F] ∧ Tn g w w' := by
  have p0 : w.cell? ⟨g, 0, none⟩ = some (.string s) := hB.cell 0 rfl
  have p3 : w.cell? ⟨g, 3, none⟩ = some (.int .i64 (K : Int)) := hB.cell 3 rfl
  have hcl : ∀ wX, Below w.heap.size w wX → wX.frozen? ⟨g, 1, none⟩ = false ∧ wX.frozen? ⟨g, 2, none⟩ = false ∧ wX.frozen? ⟨g, 3, none⟩ = false ∧ wX.frozen? ⟨g, 4, none⟩ = false ∧ wX.frozen? ⟨g, 5, none⟩ = false ∧ wX.frozen? ⟨g, 6, none⟩ = false ∧ wX.frozen? ⟨g, 7, none⟩ = false ∧ wX.frozen? ⟨g, 8, none⟩ = false ∧ wX.frozen? ⟨g, 9, none⟩ = false ∧ wX.frozen? ⟨g, 10, none⟩ = false ∧ wX.cell? ⟨g, 1, none⟩ = some (.int .i64 a1) ∧ wX.cell? ⟨g, 2, none⟩ = some (.int .i64 a2) ∧ wX.cell? ⟨g, 3, none⟩ = some (.int .i64 (K : Int)) ∧ wX.cell? ⟨g, 4, none⟩ = some (.string a4) ∧ wX.cell? ⟨g, 5, none⟩ = some (.int .i64 a5) ∧ wX.cell? ⟨g, 6, none⟩ = some (.bool a6) ∧ wX.cell? ⟨g, 7, none⟩ = some (.string a7) ∧ wX.cell? ⟨g, 8, none⟩ = some (.int .i64 a8) ∧ wX.cell? ⟨g, 9, none⟩ = some (.string a9) ∧ wX.cell? ⟨g, 10, none⟩ = some (.int .i64 wr) := fun wX h => ⟨(hB.later h).frozen 1, (hB.later h).frozen 2, (hB.later h).frozen 3, (hB.later h).frozen 4, (hB.later h).frozen 5, (hB.later h).frozen 6, (hB.later h).frozen 7, (hB.later h).frozen 8, (hB.later h).frozen 9, (hB.later h).frozen 10, (hB.later h).cell 1 rfl, (hB.later h).cell 2 rfl, (hB.later h).cell 3 rfl, (hB.later h).cell 4 rfl, (hB.later h).cell 5 rfl, (hB.later h).cell 6 rfl, (hB.later h).cell 7 rfl, (hB.later h).cell 8 rfl, (hB.later h).cell 9 rfl, (hB.later h).cell 10 rfl⟩
  have HB : Hid (Bk w g 54 #[.string s, .int .i64 a1, .int .i64 a2, .int .i64 (K : Int), .string a4, .int .i64 a5, .bool a6, .string a7, .int .i64 a8, .string a9, .int .i64 wr, F]) := hB
  clear hB
  go_enter Tryz.func22, Tryz.ntmps22
  go_wp2_with fail
  go_region_with (go_at_call 37; refine (c0 _).mono ?_; rintro e wX ⟨rfl, hbX⟩; obtain ⟨f1, f2, f3, f4, f5, f6, f7, f8, f9, f10, q1, q2, q3, q4, q5, q6, q7, q8, q9, q10⟩ := hcl wX (by first | exact hbX | exact (below_drewN (Below.refl _ w) _).trans (hbX.mono (Nat.le_refl _))))
  all_goals
    have hb0 : Below w.heap.size w wX := by first | exact hbX | exact (below_drewA w).trans (hbX.mono (Nat.le_refl _))
    have HB2 : Hid _ := Bk.all10 (HB.out.later hb0) (.int .i64 b1) (.int .i64 b2) (.int .i64 b3) (.string b4) (.int .i64 b5) (.bool b6) (.string b7) (.int .i64 b8) (.string b9) (.int .i64 (-1))
    have HT2 : Hid _ := (Tn.of_below hb0).trans (Tn.all10 wX g (.int .i64 b1) (.int .i64 b2) (.int .i64 b3) (.string b4) (.int .i64 b5) (.bool b6) (.string b7) (.int .i64 b8) (.string b9) (.int .i64 (-1)))
    go_wp2
    go_end0
    exact ⟨rfl, HB2.out, HT2.out⟩
set_option maxHeartbeats 3200000 in
set_option maxRecDepth 100000 in
theorem step18_bad {w : World} {g K : Nat} {s : ByteArray} {a1 a2 a5 a8 wr : Int} {a6 : Bool} {a4 a7 a9 : ByteArray} {F : Value} (hB : Bk w g 54 #[.string s, .int .i64 a1, .int .i64 a2, .int .i64 (K : Int), .string a4, .int .i64 a5, .bool a6, .string a7, .int .i64 a8, .string a9, .int .i64 wr, F]) {b1 b2 b3 b5 b8 : Int} {b6 : Bool} {b4 b7 b9 : ByteArray} {P : Int} (hP : P ≠ -1)
    (c0 : ∀ w, Calls Tryz.prog 37 #[.string s, .int .i64 (K : Int)] w fun e w' => e = .returned (.tuple #[.agg #[.int .i64 b1, .int .i64 b2, .int .i64 b3, .string b4, .int .i64 b5, .bool b6, .string b7, .int .i64 b8, .string b9], .int .i64 P]) ∧ Below w.heap.size w w') :
    Calls Tryz.prog 22 #[.pointer (some ⟨g, 0, none⟩)] w fun e w' => ∃ q, e = .returned (.tuple #[]) ∧ Bk w' g 54 #[.string s, .int .i64 b1, .int .i64 b2, .int .i64 b3, .string b4, .int .i64 b5, .bool b6, .string b7, .int .i64 b8, .string b9, .int .i64 P, .pointer (some ⟨q, 0, none⟩)] ∧ Bk w' q 58 #[.int .i64 P, .iface 37 (.int .i64 180)] ∧ w.heap.size ≤ q ∧ Tn g w w' := by
  have dP : (P != -1) = true := by simpa using hP
  have c1 := faultAt18_any P
  have p0 : w.cell? ⟨g, 0, none⟩ = some (.string s) := hB.cell 0 rfl
  have p3 : w.cell? ⟨g, 3, none⟩ = some (.int .i64 (K : Int)) := hB.cell 3 rfl
  have hcl : ∀ wX, Below w.heap.size w wX → wX.frozen? ⟨g, 1, none⟩ = false ∧ wX.frozen? ⟨g, 2, none⟩ = false ∧ wX.frozen? ⟨g, 3, none⟩ = false ∧ wX.frozen? ⟨g, 4, none⟩ = false ∧ wX.frozen? ⟨g, 5, none⟩ = false ∧ wX.frozen? ⟨g, 6, none⟩ = false ∧ wX.frozen? ⟨g, 7, none⟩ = false ∧ wX.frozen? ⟨g, 8, none⟩ = false ∧ wX.frozen? ⟨g, 9, none⟩ = false ∧ wX.frozen? ⟨g, 10, none⟩ = false ∧ wX.cell? ⟨g, 1, none⟩ = some (.int .i64 a1) ∧ wX.cell? ⟨g, 2, none⟩ = some (.int .i64 a2) ∧ wX.cell? ⟨g, 3, none⟩ = some (.int .i64 (K : Int)) ∧ wX.cell? ⟨g, 4, none⟩ = some (.string a4) ∧ wX.cell? ⟨g, 5, none⟩ = some (.int .i64 a5) ∧ wX.cell? ⟨g, 6, none⟩ = some (.bool a6) ∧ wX.cell? ⟨g, 7, none⟩ = some (.string a7) ∧ wX.cell? ⟨g, 8, none⟩ = some (.int .i64 a8) ∧ wX.cell? ⟨g, 9, none⟩ = some (.string a9) ∧ wX.cell? ⟨g, 10, none⟩ = some (.int .i64 wr) := fun wX h => ⟨(hB.later h).frozen 1, (hB.later h).frozen 2, (hB.later h).frozen 3, (hB.later h).frozen 4, (hB.later h).frozen 5, (hB.later h).frozen 6, (hB.later h).frozen 7, (hB.later h).frozen 8, (hB.later h).frozen 9, (hB.later h).frozen 10, (hB.later h).cell 1 rfl, (hB.later h).cell 2 rfl, (hB.later h).cell 3 rfl, (hB.later h).cell 4 rfl, (hB.later h).cell 5 rfl, (hB.later h).cell 6 rfl, (hB.later h).cell 7 rfl, (hB.later h).cell 8 rfl, (hB.later h).cell 9 rfl, (hB.later h).cell 10 rfl⟩
  have HB : Hid (Bk w g 54 #[.string s, .int .i64 a1, .int .i64 a2, .int .i64 (K : Int), .string a4, .int .i64 a5, .bool a6, .string a7, .int .i64 a8, .string a9, .int .i64 wr, F]) := hB
  have hgl : g < w.heap.size := hB.lt
  clear hB hP
  go_enter Tryz.func22, Tryz.ntmps22
  go_wp2_with fail
  go_region_with (go_at_call 37; refine (c0 _).mono ?_; rintro e wX ⟨rfl, hbX⟩; obtain ⟨f1, f2, f3, f4, f5, f6, f7, f8, f9, f10, q1, q2, q3, q4, q5, q6, q7, q8, q9, q10⟩ := hcl wX (by first | exact hbX | exact (below_drewN (Below.refl _ w) _).trans (hbX.mono (Nat.le_refl _))))
  all_goals
    have hb0 : Below w.heap.size w wX := by first | exact hbX | exact (below_drewA w).trans (hbX.mono (Nat.le_refl _))
    have B2 := Bk.all10 (HB.out.later hb0) (.int .i64 b1) (.int .i64 b2) (.int .i64 b3) (.string b4) (.int .i64 b5) (.bool b6) (.string b7) (.int .i64 b8) (.string b9) (.int .i64 P)
    have HT2 : Hid _ := (Tn.of_below hb0).trans (Tn.all10 wX g (.int .i64 b1) (.int .i64 b2) (.int .i64 b3) (.string b4) (.int .i64 b5) (.bool b6) (.string b7) (.int .i64 b8) (.string b9) (.int .i64 P))
    clear q1 q2 q3 q4 q5 q6 q7 q8 q9 q10 f1 f2 f3 f4 f5 f6 f7 f8 f9 f10 p0 p3
    generalize (((((((((wX.setCell ⟨g, 1, none⟩ (.int .i64 b1)).setCell ⟨g, 2, none⟩ (.int .i64 b2)).setCell ⟨g, 3, none⟩ (.int .i64 b3)).setCell ⟨g, 4, none⟩ (.string b4)).setCell ⟨g, 5, none⟩ (.int .i64 b5)).setCell ⟨g, 6, none⟩ (.bool b6)).setCell ⟨g, 7, none⟩ (.string b7)).setCell ⟨g, 8, none⟩ (.int .i64 b8)).setCell ⟨g, 9, none⟩ (.string b9)).setCell ⟨g, 10, none⟩ (.int .i64 P) = W at *
    have p10 : W.cell? ⟨g, 10, none⟩ = some (.int .i64 P) := B2.cell 10 rfl
    have hb1 : Below W.heap.size W (W.alloc (.cells #[.int .i64 P, .iface 37 (.int .i64 180)] 58)) := (Below.refl _ W).alloc (Nat.le_refl _) _
    have B3 := B2.later hb1
    have p11 := B3.cell 11 rfl
    have f11 := B3.frozen 11
    have hgW := B2.lt
    have hsz := HT2.out.size
    have ne1 : ¬ g = W.heap.size := by omega
    have ne2 : ¬ W.heap.size = g := by omega
    have q11 : W.cell? ⟨g, 11, none⟩ = some F := B2.cell 11 rfl
    have g11 : W.frozen? ⟨g, 11, none⟩ = false := B2.frozen 11
    have HB2 : Hid (Bk W g 54 _) := B2
    clear B2 B3 hb1 p11 f11 c0 hcl
    go_wp2_with fail
    refine (c1 _).mono ?_
    rintro e w4 ⟨rfl, hw4⟩
    rw [hw4]
    go_wp2
    go_end0
    have hd := Bk.more (Bk.set HB2.out 11 (.pointer (some ⟨W.heap.size, 0, none⟩))) (.cells #[.int .i64 P, .iface 37 (.int .i64 180)] 58)
    have hsz2 : (W.setCell ⟨g, 11, none⟩ (.pointer (some ⟨W.heap.size, 0, none⟩))).heap.size = W.heap.size := by simp [World.setCell]
    have hn := Bk.new (W.setCell ⟨g, 11, none⟩ (.pointer (some ⟨W.heap.size, 0, none⟩))) 58 #[.int .i64 P, .iface 37 (.int .i64 180)]
    rw [hsz2] at hn
    refine ⟨W.heap.size, rfl, hd, hn, hsz, ?_⟩
    exact (HT2.out.set 11 _).trans (Tn.of_below ((Below.refl _ _).alloc (Nat.le_refl _) _))
end Go.Proofs.YtfgpjplfplbcdaaGreatDoor
