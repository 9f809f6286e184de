/- Layer 18: the reader: Peek. -/
import Derived.Test.YtfgpjplfplbcdaaGreatDoorTkG
namespace Go.Proofs.YtfgpjplfplbcdaaGreatDoor
open Go.ChangeShapes Go.WideShapes Go.ChangeAt Go.RowKit
open Lx Tk Go.Shelf
set_option linter.unusedVariables false
namespace Tk
/-- the error's number of a cut -/
def ctC (c : Ct) : Int := if c.kind = -1 then 180 else 0
/-- a reader of s in memory, at place k -/
def RdS (w : World) (g : Nat) (s : ByteArray) (k : Nat) : Prop :=
  k ≤ s.size ∧ ∃ (b1 b2 b3 b5 b8 : Int) (b6 : Bool) (b4 b7 b9 : ByteArray) (F : Value), ctA k (cutR (s.data.toList.drop k)) = #[.int .i64 b1, .int .i64 b2, .int .i64 b3, .string b4, .int .i64 b5, .bool b6, .string b7, .int .i64 b8, .string b9] ∧ Bk w g 54 #[.string s, .int .i64 b1, .int .i64 b2, .int .i64 b3, .string b4, .int .i64 b5, .bool b6, .string b7, .int .i64 b8, .string b9, .int .i64 (ctW k (cutR (s.data.toList.drop k))), F] ∧
    ((cutR (s.data.toList.drop k)).kind = -1 → ∃ q, F = .pointer (some ⟨q, 0, none⟩) ∧ Bk w q 58 #[.int .i64 (ctW k (cutR (s.data.toList.drop k))), .iface 37 (.int .i64 180)])
theorem RdS.later {w w' : World} {g k : Nat} {s : ByteArray} (h : RdS w g s k) (hb : Below w.heap.size w w') : RdS w' g s k := by
  obtain ⟨h0, b1, b2, b3, b5, b8, b6, b4, b7, b9, F, h1, h2, h3⟩ := h
  refine ⟨h0, b1, b2, b3, b5, b8, b6, b4, b7, b9, F, h1, h2.later hb, fun e => ?_⟩
  obtain ⟨q, h4, h5⟩ := h3 e
  exact ⟨q, h4, h5.later hb⟩
theorem RdS.lt {w : World} {g k : Nat} {s : ByteArray} (h : RdS w g s k) : g < w.heap.size := by
  obtain ⟨h0, b1, b2, b3, b5, b8, b6, b4, b7, b9, F, h1, h2, h3⟩ := h
  exact h2.lt
/-- what Peek answers -/
def PeekR (w : World) (s : ByteArray) (k : Nat) (e : Ending) (w' : World) : Prop :=
  ∃ er, e = .returned (.tuple #[.agg (ctA k (cutR (s.data.toList.drop k))), er]) ∧ ErrIs w' er (ctC (cutR (s.data.toList.drop k))) (ctW k (cutR (s.data.toList.drop k))) ∧ Below w.heap.size w w'
end Tk
set_option maxHeartbeats 3200000 in
set_option maxRecDepth 100000 in
theorem peek18_ok (w : World) (g : Nat) (s : ByteArray) (b1 b2 b3 b5 b8 : Int) (b6 : Bool) (b4 b7 b9 : ByteArray) (F : Value) (hB : Bk w g 54 #[.string s, .int .i64 b1, .int .i64 b2, .int .i64 b3, .string b4, .int .i64 b5, .bool b6, .string b7, .int .i64 b8, .string b9, .int .i64 (-1), F]) :
    Calls Tryz.prog 10 #[.pointer (some ⟨g, 0, none⟩)] w fun e w' => e = .returned (.tuple #[.agg #[.int .i64 b1, .int .i64 b2, .int .i64 b3, .string b4, .int .i64 b5, .bool b6, .string b7, .int .i64 b8, .string b9], .nilIface]) ∧ Below w.heap.size w w' := by
  have p1 : w.cell? ⟨g, 1, none⟩ = some (.int .i64 b1) := hB.cell 1 rfl
  have p2 : w.cell? ⟨g, 2, none⟩ = some (.int .i64 b2) := hB.cell 2 rfl
  have p3 : w.cell? ⟨g, 3, none⟩ = some (.int .i64 b3) := hB.cell 3 rfl
  have p4 : w.cell? ⟨g, 4, none⟩ = some (.string b4) := hB.cell 4 rfl
  have p5 : w.cell? ⟨g, 5, none⟩ = some (.int .i64 b5) := hB.cell 5 rfl
  have p6 : w.cell? ⟨g, 6, none⟩ = some (.bool b6) := hB.cell 6 rfl
  have p7 : w.cell? ⟨g, 7, none⟩ = some (.string b7) := hB.cell 7 rfl
  have p8 : w.cell? ⟨g, 8, none⟩ = some (.int .i64 b8) := hB.cell 8 rfl
  have p9 : w.cell? ⟨g, 9, none⟩ = some (.string b9) := hB.cell 9 rfl
  have p10 : w.cell? ⟨g, 10, none⟩ = some (.int .i64 (-1)) := hB.cell 10 rfl
  have hgl : g < w.heap.size := hB.lt
  have ne1 : ¬ g = w.heap.size := by omega
  have ne2 : ¬ w.heap.size = g := by omega
  have b := Bk.new w 32 #[.int .i64 b1, .int .i64 b2, .int .i64 b3, .string b4, .int .i64 b5, .bool b6, .string b7, .int .i64 b8, .string b9]
  clear hB
  go_enter Tryz.func10, Tryz.ntmps10
  go_wp2
  refine bodyPost_ret (results_c1 rfl _ _ w.heap.size 32 _ _ rfl b Tryz.underlying32 rfl (by kernel_rfl)) rfl ⟨rfl, ?_⟩
  exact (Below.refl _ w).alloc (Nat.le_refl _) _
theorem guard18 (P : Int) (x y : Operand) (w : World) : Sem.run Tryz.prog (eqGuard .neq 58 x y (.agg #[.int .i64 P, .iface 37 (.int .i64 180)]) (.agg #[.int .i64 P, .iface 37 (.int .i64 180)])) w = .ok () w := by kernel_rfl
theorem same18 (w : World) : Sem.run Tryz.prog (Op.equalIn 9999 26 (.iface 37 (.int .i64 180)) (.iface 37 (.int .i64 180))) w = .ok true w := by kernel_rfl
set_option maxHeartbeats 3200000 in
set_option maxRecDepth 100000 in
theorem peek18_bad (w : World) (g q : Nat) (s : ByteArray) (b1 b2 b3 b5 b8 : Int) (b6 : Bool) (b4 b7 b9 : ByteArray) (P : Int) (hP : P ≠ -1) (hB : Bk w g 54 #[.string s, .int .i64 b1, .int .i64 b2, .int .i64 b3, .string b4, .int .i64 b5, .bool b6, .string b7, .int .i64 b8, .string b9, .int .i64 (P), .pointer (some ⟨q, 0, none⟩)]) (hQ : Bk w q 58 #[.int .i64 P, .iface 37 (.int .i64 180)]) :
    Calls Tryz.prog 10 #[.pointer (some ⟨g, 0, none⟩)] w fun e w' => e = .returned (.tuple #[.agg zero9, .iface 52 (.pointer (some ⟨q, 0, none⟩))]) ∧ Below w.heap.size w w' := by
  have dP : (P == -1) = false := by simpa using hP
  have c1 := faultAt18_any P
  have p10 : w.cell? ⟨g, 10, none⟩ = some (.int .i64 P) := hB.cell 10 rfl
  have p11 : w.cell? ⟨g, 11, none⟩ = some (.pointer (some ⟨q, 0, none⟩)) := hB.cell 11 rfl
  have q0 : w.cell? ⟨q, 0, none⟩ = some (.int .i64 P) := hQ.cell 0 rfl
  have q1 : w.cell? ⟨q, 1, none⟩ = some (.iface 37 (.int .i64 180)) := hQ.cell 1 rfl
  have hgl : g < w.heap.size := hB.lt
  have hql : q < w.heap.size := hQ.lt
  have b0 := Bk.new w 32 zero9
  have hb0 : Below w.heap.size w (w.alloc (.cells zero9 32)) := (Below.refl _ w).alloc (Nat.le_refl _) _
  obtain ⟨W, hW⟩ : ∃ W, W = (w.alloc (.cells zero9 32)).alloc (.cells #[.int .i64 P, .iface 37 (.int .i64 180)] 58) := ⟨_, rfl⟩
  have hb1 : Below (w.alloc (.cells zero9 32)).heap.size (w.alloc (.cells zero9 32)) W := by rw [hW]; exact (Below.refl _ _).alloc (Nat.le_refl _) _
  have hbB := hb0.trans (hb1.mono hb0.size)
  have B1 := b0.later hb1
  have N1 : Bk W (w.heap.size + 1) 58 #[.int .i64 P, .iface 37 (.int .i64 180)] := by
    have := Bk.new (w.alloc (.cells zero9 32)) 58 #[.int .i64 P, .iface 37 (.int .i64 180)]
    rw [← hW] at this
    simpa using this
  have r10 : W.cell? ⟨g, 10, none⟩ = some (.int .i64 P) := (hbB.cell (p := ⟨g, 10, none⟩) hgl).trans p10
  have r11 : W.cell? ⟨g, 11, none⟩ = some (.pointer (some ⟨q, 0, none⟩)) := (hbB.cell (p := ⟨g, 11, none⟩) hgl).trans p11
  have s0 : W.cell? ⟨q, 0, none⟩ = some (.int .i64 P) := (hbB.cell (p := ⟨q, 0, none⟩) hql).trans q0
  have s1 : W.cell? ⟨q, 1, none⟩ = some (.iface 37 (.int .i64 180)) := (hbB.cell (p := ⟨q, 1, none⟩) hql).trans q1
  have n0 : W.cell? ⟨w.heap.size + 1, 0, none⟩ = some (.int .i64 P) := N1.cell 0 rfl
  have n1 : W.cell? ⟨w.heap.size + 1, 1, none⟩ = some (.iface 37 (.int .i64 180)) := N1.cell 1 rfl
  have ne1 : ¬ g = w.heap.size := by omega
  have ne2 : ¬ w.heap.size = g := by omega
  have z := fun i v h => B1.cell i (v := v) h
  have zf := B1.frozen
  have z0 := z 0 _ rfl
  have z1 := z 1 _ rfl
  have z2 := z 2 _ rfl
  have z3 := z 3 _ rfl
  have z4 := z 4 _ rfl
  have z5 := z 5 _ rfl
  have z6 := z 6 _ rfl
  have z7 := z 7 _ rfl
  have z8 := z 8 _ rfl
  have f0 := zf 0
  have f1 := zf 1
  have f2 := zf 2
  have f3 := zf 3
  have f4 := zf 4
  have f5 := zf 5
  have f6 := zf 6
  have f7 := zf 7
  have f8 := zf 8
  have HB1 : Hid (Bk _ w.heap.size 32 zero9) := B1
  clear B1 z zf
  have HW : Hid ((w.alloc (.cells zero9 32)).alloc (.cells #[.int .i64 P, .iface 37 (.int .i64 180)] 58) = W) := hW.symm
  clear hW hb1 hb0 b0 hB hQ N1 hP
  go_enter Tryz.func10, Tryz.ntmps10
  go_wp2_with fail
  refine (c1 _).mono ?_
  rintro e w4 ⟨rfl, hw4⟩
  have hw5 : w4 = W := hw4.trans HW.out
  clear hw4
  subst hw5
  clear q0 q1 p10 p11 c1 HW
  have eG := guard18 P
  have eS := same18
  go_wp2_with fail
  go_region
  all_goals go_wp2_with fail
  all_goals go_region
  all_goals
    go_wp2
    refine bodyPost_ret (results_c1 rfl _ _ w.heap.size 32 zero9 _ rfl (Bk.drew9 (Bk.drew9 (Bk.all9 HB1.out _ _ _ _ _ _ _ _ _))) Tryz.underlying32 rfl (by kernel_rfl)) rfl ⟨rfl, ?_⟩
    exact below_drew9 (below_drew9 (Tn.below hbB (Tn.all9 ..) (Nat.le_refl _) (Nat.le_refl _)))
namespace Tk
theorem ctA_zero {k : Nat} {c : Ct} (h : c.kind = -1) : ctA k c = zero9 := if_pos h
theorem ctW_wrong {k : Nat} {c : Ct} (h : c.kind = -1) : ctW k c = ((k + c.fr : Nat) : Int) := if_pos h
theorem ctW_none {k : Nat} {c : Ct} (h : c.kind ≠ -1) : ctW k c = -1 := if_neg h
theorem ctA_form (k : Nat) (c : Ct) : ∃ (b1 b2 b3 b5 b8 : Int) (b6 : Bool) (b4 b7 b9 : ByteArray), ctA k c = #[.int .i64 b1, .int .i64 b2, .int .i64 b3, .string b4, .int .i64 b5, .bool b6, .string b7, .int .i64 b8, .string b9] := by
  unfold ctA
  split
  · exact ⟨_, _, _, _, _, _, _, _, _, rfl⟩
  · exact ⟨_, _, _, _, _, _, _, _, _, rfl⟩
end Tk
theorem peek18_any {w : World} {g k : Nat} {s : ByteArray} (h : RdS w g s k) :
    Calls Tryz.prog 10 #[.pointer (some ⟨g, 0, none⟩)] w (PeekR w s k) := by
  obtain ⟨h0, b1, b2, b3, b5, b8, b6, b4, b7, b9, F, h1, h2, h3⟩ := h
  unfold PeekR
  by_cases hk : (cutR (s.data.toList.drop k)).kind = -1
  · obtain ⟨q, rfl, h5⟩ := h3 hk
    have e1 := ctA_zero (k := k) hk
    have e2 := ctW_wrong (k := k) hk
    have e3 : ctC (cutR (s.data.toList.drop k)) = 180 := if_pos hk
    refine (peek18_bad w g q s b1 b2 b3 b5 b8 b6 b4 b7 b9 _ (by rw [e2]; omega) h2 h5).mono ?_
    rintro e w' ⟨rfl, hb⟩
    rw [e1, e3]
    have h6 := h5.later hb
    exact ⟨_, rfl, Or.inr ⟨by omega, q, rfl, h6.cell 0 rfl, h6.cell 1 rfl⟩, hb⟩
  · have e2 := ctW_none (k := k) hk
    have e3 : ctC (cutR (s.data.toList.drop k)) = 0 := if_neg hk
    rw [e2] at h2
    refine (peek18_ok w g s b1 b2 b3 b5 b8 b6 b4 b7 b9 F h2).mono ?_
    rintro e w' ⟨rfl, hb⟩
    rw [h1, e3]
    exact ⟨_, rfl, Or.inl ⟨rfl, rfl⟩, hb⟩
end Go.Proofs.YtfgpjplfplbcdaaGreatDoor
