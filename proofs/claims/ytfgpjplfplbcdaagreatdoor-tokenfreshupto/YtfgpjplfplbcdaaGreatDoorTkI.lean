/- Layer 18: the reader: New, Next. -/
import Derived.Test.YtfgpjplfplbcdaaGreatDoorTkH
namespace Go.Proofs.YtfgpjplfplbcdaaGreatDoor
open Go.ChangeShapes Go.WideShapes Go.ChangeAt Go.RowKit
open Lx Tk Go.Shelf
set_option linter.unusedVariables false
theorem step18_any {w : World} {g K : Nat} {s : ByteArray} (hs : s.size ≤ 1000000000) (hK : K ≤ s.size) {a1 a2 a5 a8 wr : Int} {a6 : Bool} {a4 a7 a9 : ByteArray} {F : Value} (hB : Bk w g 54 #[.string s, .int .i64 a1, .int .i64 a2, .int .i64 (K : Int), .string a4, .int .i64 a5, .bool a6, .string a7, .int .i64 a8, .string a9, .int .i64 wr, F]) :
    Calls Tryz.prog 22 #[.pointer (some ⟨g, 0, none⟩)] w fun e w' => e = .returned (.tuple #[]) ∧ RdS w' g s K ∧ Tn g w w' := by
  obtain ⟨b1, b2, b3, b5, b8, b6, b4, b7, b9, e1⟩ := ctA_form K (cutR (s.data.toList.drop K))
  have c0 := cut18_any s K hs hK
  rw [e1] at c0
  by_cases hk : (cutR (s.data.toList.drop K)).kind = -1
  · have hP : ctW K (cutR (s.data.toList.drop K)) ≠ -1 := by rw [ctW_wrong hk]; omega
    refine (step18_bad hB hP c0).mono ?_
    rintro e w' ⟨q, rfl, h1, h2, h3, h4⟩
    exact ⟨rfl, ⟨hK, b1, b2, b3, b5, b8, b6, b4, b7, b9, _, e1, h1, fun _ => ⟨q, rfl, h2⟩⟩, h4⟩
  · have e2 := ctW_none (k := K) hk
    rw [e2] at c0
    refine (step18_ok hB c0).mono ?_
    rintro e w' ⟨rfl, h1, h4⟩
    exact ⟨rfl, ⟨hK, b1, b2, b3, b5, b8, b6, b4, b7, b9, _, e1, by rw [e2]; exact h1, fun h => absurd h hk⟩, h4⟩
set_option maxHeartbeats 1600000 in
set_option maxRecDepth 100000 in
theorem new18_any (s : ByteArray) (hs : s.size ≤ 1000000000) (w : World) :
    Calls Tryz.prog 7 #[.string s] w fun e w' => e = .returned (.pointer (some ⟨w.heap.size, 0, none⟩)) ∧ RdS w' w.heap.size s 0 ∧ Below w.heap.size w w' := by
  have b := Bk.new w 54 #[.string s, .int .i64 0, .int .i64 0, .int .i64 ((0 : Nat) : Int), .string ⟨#[]⟩, .int .i64 0, .bool false, .string ⟨#[]⟩, .int .i64 0, .string ⟨#[]⟩, .int .i64 0, .pointer none]
  have c := step18_any hs (Nat.zero_le _) b
  have hb0 : Below w.heap.size w (w.alloc (.cells #[.string s, .int .i64 0, .int .i64 0, .int .i64 ((0 : Nat) : Int), .string ⟨#[]⟩, .int .i64 0, .bool false, .string ⟨#[]⟩, .int .i64 0, .string ⟨#[]⟩, .int .i64 0, .pointer none] 54)) := (Below.refl _ w).alloc (Nat.le_refl _) _
  have HB : Hid _ := hb0
  clear b hb0
  go_enter Tryz.func7, Tryz.ntmps7
  go_wp2_with fail
  refine c.mono ?_
  rintro e w1 ⟨rfl, h1, h2⟩
  have HR : Hid _ := h1
  have HT : Hid _ := h2
  clear h1 h2 c
  go_wp2
  go_ret
  exact ⟨rfl, HR.out, Tn.below HB.out HT.out (Nat.le_refl _) (Nat.le_refl _)⟩
namespace Tk
/-- where the reader is behind a cut -/
def nxK (k : Nat) (c : Ct) : Nat := if c.kind = -1 then k else k + c.to
theorem nxK_le {s : ByteArray} {k : Nat} (hk : k ≤ s.size) : nxK k (cutR (s.data.toList.drop k)) ≤ s.size := by
  unfold nxK
  split
  · exact hk
  · have := (cut_f (s.data.toList.drop k)).to
    rw [List.length_drop, ← Lib.size_eq] at this
    omega
/-- what Next answers -/
def NextR (w : World) (g : Nat) (s : ByteArray) (k : Nat) (e : Ending) (w' : World) : Prop :=
  ∃ er, e = .returned (.tuple #[.agg (ctA k (cutR (s.data.toList.drop k))), er]) ∧ ErrIs w' er (ctC (cutR (s.data.toList.drop k))) (ctW k (cutR (s.data.toList.drop k))) ∧ RdS w' g s (nxK k (cutR (s.data.toList.drop k))) ∧ Tn g w w'
theorem RdS.tn {w w' : World} {g h k : Nat} {s : ByteArray} (hR : RdS w g s k) (hT : Tn h w w') (hne : g ≠ h) (hf : ∀ q, w.heap[h]? = some (.cells q 58 (0, 0)) → False) : RdS w' g s k := by
  obtain ⟨h0, b1, b2, b3, b5, b8, b6, b4, b7, b9, F, h1, h2, h3⟩ := hR
  have keep : ∀ {i : Nat} {t : TypeId} {vs : Array Value}, Bk w i t vs → i ≠ h → Bk w' i t vs := fun hb hi => by
    have := hb.lt
    unfold Bk at *
    rw [hT.block _ this hi]; exact hb
  refine ⟨h0, b1, b2, b3, b5, b8, b6, b4, b7, b9, F, h1, keep h2 hne, fun e => ?_⟩
  obtain ⟨q, h4, h5⟩ := h3 e
  refine ⟨q, h4, keep h5 (fun e => ?_)⟩
  subst e
  exact hf _ h5
theorem ctA_to {k : Nat} {c : Ct} {b1 b2 b3 b5 b8 : Int} {b6 : Bool} {b4 b7 b9 : ByteArray} (h : c.kind ≠ -1) (e : ctA k c = #[.int .i64 b1, .int .i64 b2, .int .i64 b3, .string b4, .int .i64 b5, .bool b6, .string b7, .int .i64 b8, .string b9]) : b3 = ((k + c.to : Nat) : Int) := by
  unfold ctA at e
  rw [if_neg h] at e
  have := congrArg (fun a => a[2]?) e
  simp [tkA] at this
  omega
end Tk
theorem FaultAt.tn {w w' : World} {q x : Nat} {p c : Int} (h : FaultAt w q p c) (hT : Tn x w w') (hq : q ≠ x) : FaultAt w' q p c :=
  ⟨(hT.cell (a := ⟨q, 0, none⟩) (cell_lt h.1) hq).trans h.1, (hT.cell (a := ⟨q, 1, none⟩) (cell_lt h.2) hq).trans h.2⟩
theorem Lx.Bk.tn9 {w w' : World} {i x : Nat} {t : TypeId} {vs : Array Value} (h : Bk w i t vs) (hT : Tn x w w') (hi : i ≠ x) : Bk w' i t vs := by
  have := h.lt
  unfold Bk at *
  rw [hT.block _ this hi]; exact h
set_option maxHeartbeats 3200000 in
set_option maxRecDepth 100000 in
theorem next18_any {w : World} {g k : Nat} {s : ByteArray} (hs : s.size ≤ 1000000000) (h : RdS w g s k) :
    Calls Tryz.prog 11 #[.pointer (some ⟨g, 0, none⟩)] w (NextR w g s k) := by
  have hgl := h.lt
  obtain ⟨h0, b1, b2, b3, b5, b8, b6, b4, b7, b9, F, h1, h2, h3⟩ := h
  have b0 := Bk.new w 32 zero9
  have hb0 : Below w.heap.size w (w.alloc (.cells zero9 32)) := (Below.refl _ w).alloc (Nat.le_refl _) _
  have hR0 : RdS (w.alloc (.cells zero9 32)) g s k := RdS.later ⟨h0, b1, b2, b3, b5, b8, b6, b4, b7, b9, F, h1, h2, h3⟩ hb0
  have c0 := peek18_any hR0
  unfold PeekR at c0
  rw [h1] at c0
  unfold NextR
  rw [h1]
  have HB : Hid (Bk (w.alloc (.cells zero9 32)) w.heap.size 32 zero9) := b0
  clear b0 h2 h3
  by_cases hk : (cutR (s.data.toList.drop k)).kind = -1
  · have e3 : ctC (cutR (s.data.toList.drop k)) = 180 := if_pos hk
    have e4 : nxK k (cutR (s.data.toList.drop k)) = k := if_pos hk
    rw [e3] at c0 ⊢
    rw [e4]
    clear hk e3 e4
    have c2 : Calls Tryz.prog 10 #[.pointer (some ⟨g, 0, none⟩)] (w.alloc (.cells zero9 32)) fun e w' => ∃ q, e = .returned (.tuple #[.agg #[.int .i64 b1, .int .i64 b2, .int .i64 b3, .string b4, .int .i64 b5, .bool b6, .string b7, .int .i64 b8, .string b9], .iface 52 (.pointer (some ⟨q, 0, none⟩))]) ∧ FaultAt w' q (ctW k (cutR (s.data.toList.drop k))) 180 ∧ Below (w.alloc (.cells zero9 32)).heap.size (w.alloc (.cells zero9 32)) w' := by
      refine c0.mono ?_
      rintro e w' ⟨er, rfl, ⟨h, _⟩ | ⟨_, q, rfl, hF⟩, hb⟩
      · omega
      · exact ⟨q, rfl, hF, hb⟩
    generalize ctW k (cutR (s.data.toList.drop k)) = P at *
    clear c0 h1
    go_enter Tryz.func11, Tryz.ntmps11
    go_wp2_with fail
    refine c2.mono ?_
    rintro e w2 ⟨q, rfl, hF, hb2⟩
    have hbB := hb0.trans (hb2.mono hb0.size)
    have B1 := HB.out.later hb2
    have hlt : w.heap.size < w2.heap.size := B1.lt
    have HR2 : Hid (RdS w2 g s k) := hR0.later hb2
    have HF : Hid (FaultAt w2 q P 180) := hF
    clear hb2 hb0 HB c2 hR0 hF
    have ne1 : ¬ w.heap.size = w2.heap.size := by omega
    have ne2 : ¬ w2.heap.size = w.heap.size := by omega
    have z := fun i v h => B1.cell i (v := v) h
    have zf := B1.frozen
    have z0 := z 0 _ rfl
    have z1 := z 1 _ rfl
    have z2 := z 2 _ rfl
    have z3 := z 3 _ rfl
    have z4 := z 4 _ rfl
    have z5 := z 5 _ rfl
    have z6 := z 6 _ rfl
    have z7 := z 7 _ rfl
    have z8 := z 8 _ rfl
    have f0 := zf 0
    have f1 := zf 1
    have f2 := zf 2
    have f3 := zf 3
    have f4 := zf 4
    have f5 := zf 5
    have f6 := zf 6
    have f7 := zf 7
    have f8 := zf 8
    have HB1 : Hid (Bk _ w.heap.size 32 zero9) := B1
    clear B1 z zf
    have hz1 : w2.cell? ⟨w.heap.size, 1, none⟩ = some (.int .i64 0) := z1
    go_wp2
    have hT9 := Tn.all9 w2 w.heap.size (.int .i64 b1) (.int .i64 b2) (.int .i64 b3) (.string b4) (.int .i64 b5) (.bool b6) (.string b7) (.int .i64 b8) (.string b9)
    refine bodyPost_ret (results_c1 rfl _ _ w.heap.size 32 _ _ rfl (Bk.more (Bk.all9 HB1.out _ _ _ _ _ _ _ _ _) _) Tryz.underlying32 rfl (by kernel_rfl)) rfl ⟨_, rfl, ?_, ?_, ?_⟩
    · refine Or.inr ⟨by omega, q, rfl, ?_⟩
      have hF := HF.out
      have hq : q ≠ w.heap.size := fun e => by
        have := hF.2
        rw [e, hz1] at this
        cases this
      exact FaultAt.later (FaultAt.tn hF hT9 hq) ((Below.refl _ _).alloc (Nat.le_refl _) _)
    · refine RdS.later (RdS.tn HR2.out hT9 (by omega) (fun q e => ?_)) ((Below.refl _ _).alloc (Nat.le_refl _) _)
      have := HB1.out
      unfold Bk at this
      rw [this] at e
      cases e
    · exact Tn.of_below (below_more (Tn.below hbB hT9 (Nat.le_refl _) (Nat.le_refl _)) _)
  · have e3 : ctC (cutR (s.data.toList.drop k)) = 0 := if_neg hk
    have e4 : nxK k (cutR (s.data.toList.drop k)) = k + (cutR (s.data.toList.drop k)).to := if_neg hk
    have e5 := ctA_to hk h1
    have hle := nxK_le h0
    rw [e4] at hle
    rw [e3] at c0 ⊢
    rw [e4]
    obtain ⟨h0', b1', b2', b3', b5', b8', b6', b4', b7', b9', F', h1', hB', h3'⟩ := hR0
    rw [h1] at h1'
    simp only [Array.mk.injEq, List.cons.injEq, Value.int.injEq, Value.string.injEq, Value.bool.injEq, true_and, and_true] at h1'
    obtain ⟨rfl, rfl, rfl, rfl, rfl, rfl, rfl, rfl, rfl⟩ := h1'
    subst e5
    generalize ctW k (cutR (s.data.toList.drop k)) = P at *
    generalize k + (cutR (s.data.toList.drop k)).to = KK at *
    have HRd : Hid (Bk (w.alloc (.cells zero9 32)) g 54 #[.string s, .int .i64 b1, .int .i64 b2, .int .i64 (KK : Int), .string b4, .int .i64 b5, .bool b6, .string b7, .int .i64 b8, .string b9, .int .i64 P, F']) := hB'
    clear h3' e3 e4 h0' hB' h1
    have c2 : Calls Tryz.prog 10 #[.pointer (some ⟨g, 0, none⟩)] (w.alloc (.cells zero9 32)) fun e w' => e = .returned (.tuple #[.agg #[.int .i64 b1, .int .i64 b2, .int .i64 (KK : Int), .string b4, .int .i64 b5, .bool b6, .string b7, .int .i64 b8, .string b9], .nilIface]) ∧ Below (w.alloc (.cells zero9 32)).heap.size (w.alloc (.cells zero9 32)) w' := by
      refine c0.mono ?_
      rintro e w' ⟨er, rfl, ⟨_, rfl⟩ | ⟨h, _⟩, hb⟩
      · exact ⟨rfl, hb⟩
      · exact absurd rfl h
    clear c0 hk
    go_enter Tryz.func11, Tryz.ntmps11
    go_wp2_with fail
    refine c2.mono ?_
    rintro e w2 ⟨rfl, hb2⟩
    have hbB := hb0.trans (hb2.mono hb0.size)
    have hbW : Below w2.heap.size w2 (w2.alloc (.cells #[.int .i64 b1, .int .i64 b2, .int .i64 (KK : Int), .string b4, .int .i64 b5, .bool b6, .string b7, .int .i64 b8, .string b9] 32)) := (Below.refl _ w2).alloc (Nat.le_refl _) _
    have B1 := (HB.out.later hb2).later hbW
    have R2 := (HRd.out.later hb2).later hbW
    have T2 := Bk.new w2 32 #[.int .i64 b1, .int .i64 b2, .int .i64 (KK : Int), .string b4, .int .i64 b5, .bool b6, .string b7, .int .i64 b8, .string b9]
    have hlt : w.heap.size < w2.heap.size := (HB.out.later hb2).lt
    have hbC := hbB.trans (hbW.mono hbB.size)
    have c3 := step18_any hs hle R2
    clear hb2 hb0 HB c2 HRd hbW hbB R2
    have ne1 : ¬ w.heap.size = w2.heap.size := by omega
    have ne2 : ¬ w2.heap.size = w.heap.size := by omega
    have HB1 : Hid _ := B1
    have HT2 : Hid _ := T2
    clear B1 T2
    go_wp2_with fail
    refine c3.mono ?_
    rintro e w3 ⟨rfl, hR3, hT3⟩
    have B3 := Bk.tn9 HB1.out hT3 (by omega)
    have T3 := Bk.tn9 HT2.out hT3 (by omega)
    have hsz := hT3.size
    have HR3 : Hid _ := hR3
    have HT3 : Hid _ := hT3
    clear c3 hR3 hT3
    have y0 := T3.cell 0 rfl
    have y1 := T3.cell 1 rfl
    have y2 := T3.cell 2 rfl
    have y3 := T3.cell 3 rfl
    have y4 := T3.cell 4 rfl
    have y5 := T3.cell 5 rfl
    have y6 := T3.cell 6 rfl
    have y7 := T3.cell 7 rfl
    have y8 := T3.cell 8 rfl
    clear T3
    have z := fun i v h => B3.cell i (v := v) h
    have zf := B3.frozen
    have z0 := z 0 _ rfl
    have z1 := z 1 _ rfl
    have z2 := z 2 _ rfl
    have z3 := z 3 _ rfl
    have z4 := z 4 _ rfl
    have z5 := z 5 _ rfl
    have z6 := z 6 _ rfl
    have z7 := z 7 _ rfl
    have z8 := z 8 _ rfl
    have f0 := zf 0
    have f1 := zf 1
    have f2 := zf 2
    have f3 := zf 3
    have f4 := zf 4
    have f5 := zf 5
    have f6 := zf 6
    have f7 := zf 7
    have f8 := zf 8
    have HB3 : Hid (Bk _ w.heap.size 32 zero9) := B3
    clear B3 z zf
    go_wp2
    have hT9 := Tn.all9 w3 w.heap.size (.int .i64 b1) (.int .i64 b2) (.int .i64 (KK : Int)) (.string b4) (.int .i64 b5) (.bool b6) (.string b7) (.int .i64 b8) (.string b9)
    refine bodyPost_ret (results_c1 rfl _ _ w.heap.size 32 _ _ rfl (Bk.all9 HB3.out _ _ _ _ _ _ _ _ _) Tryz.underlying32 rfl (by kernel_rfl)) rfl ⟨_, rfl, Or.inl ⟨rfl, rfl⟩, ?_, ?_⟩
    · refine RdS.tn HR3.out hT9 (by omega) (fun q e => ?_)
      have := HB3.out
      unfold Bk at this
      rw [this] at e
      cases e
    · refine ⟨?_, ?_, ?_, ?_, fun i hi hne => ?_⟩
      · exact hT9.os.trans (HT3.out.os.trans hbC.os)
      · exact hT9.tape.trans (HT3.out.tape.trans hbC.tape)
      · exact hT9.output.trans (HT3.out.output.trans hbC.output)
      · exact Nat.le_trans hbC.size (Nat.le_trans hsz hT9.size)
      · have h1 := hbC.size
        rw [hT9.block i (by omega) (by omega), HT3.out.block i (by omega) hne, hbC.block i hi]
end Go.Proofs.YtfgpjplfplbcdaaGreatDoor
