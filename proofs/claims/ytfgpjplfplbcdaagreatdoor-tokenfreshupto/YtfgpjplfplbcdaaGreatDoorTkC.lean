/- Layer 18: words, tokenAt, cut. -/
import Derived.Test.YtfgpjplfplbcdaaGreatDoorTkB
import Derived.Test.YtfgpjplfplbcdaaGreatDoorLexSk
namespace Go.Proofs.YtfgpjplfplbcdaaGreatDoor
open Go.ChangeShapes Go.WideShapes Go.ChangeAt Go.RowKit
open Lx Tk Go.Shelf
set_option linter.unusedVariables false
namespace Tk
theorem nmZ_same : nmZ = nmZ0 := rfl
theorem lt_ascii {l : B} (h : l.all isLt = true) : ∀ (j : Nat) (b : UInt8), l[j]? = some b → b.toNat < 128 := by
  intro j b hb
  have := List.all_eq_true.mp h b (List.mem_of_getElem? hb)
  unfold isLt at this
  simp only [Bool.or_eq_true, Bool.and_eq_true, decide_eq_true_eq] at this
  omega
theorem up_eq {l : B} (h : l.all isLt = true) : Lib.toUpperA l = l.map upB := by
  unfold Lib.toUpperA
  apply List.map_congr_left
  intro b hb
  have hl := List.all_eq_true.mp h b hb
  have := all_bytes (p := fun b => !isLt b || (Lib.upperB b == upB b)) (by kernel_rfl) b
  rw [hl] at this
  exact eq_of_beq (by simpa using this)
/-- a piece of a text -/
theorem piece_of (s : ByteArray) (f m : Nat) : s.extract f (f + m) = str ((s.data.toList.drop f).take m) := by
  rw [ext_str, Nat.add_sub_cancel_left]
end Tk
theorem toUpper18_any (l : B) (h : l.all isLt = true) (hs : l.length ≤ 1000000000) (w : World) :
    Calls Tryz.prog 89 #[.string (str l)] w fun e w' => e = .returned (.string (str (l.map upB))) ∧ Below w.heap.size w w' := by
  have := Any.strings_ToUpper_ascii lays158 layBuilderExtra (str l) w (by rw [str_size]; omega) (by rw [str_list]; exact lt_ascii h)
  rw [str_list, up_eq h] at this
  exact this
theorem clone18_any (l : B) (hs : l.length ≤ 1000000000) (w : World) :
    Calls Tryz.prog 88 #[.string (str l)] w fun e w' => e = .returned (.string (str l)) ∧ Below w.heap.size w w' := by
  have c : ∀ w, Calls Tryz.prog 108 #[.string (str l)] w fun e w' => e = .returned (.string (str l)) ∧ Below w.heap.size w w' := fun w => Any.stringslite_Clone lays316m (str l) w (by rw [str_size]; omega)
  go_enter Tryz.func88, Tryz.ntmps88
  go_wp2_with (go_at_call 108; refine (c _).mono ?_; rintro e w' ⟨rfl, hb⟩)
  go_ret
  exact ⟨rfl, hb⟩
set_option maxHeartbeats 1600000 in
set_option maxRecDepth 100000 in
theorem wordAt18_any (s : ByteArray) (f : Nat) (hs : s.size ≤ 1000000000) (hf : f ≤ s.size) (w : World) :
    Calls Tryz.prog 68 #[.string s, .int .i64 (f : Int)] w fun e w' => e = .returned (.agg (tkA 1 f ((f + ((s.data.toList.drop f).takeWhile isLt).length : Nat) : Int) (((s.data.toList.drop f).takeWhile isLt).map upB) nmZ0)) ∧ Below w.heap.size w w' := by
  have c0 := behind18_any s f 2 hs hf
  rw [isK_lt] at c0
  have hl : (s.data.toList.drop f).length = s.size - f := by rw [List.length_drop, ← Lib.size_eq]
  have hd := dk_len isLt (s.data.toList.drop f)
  have ht := take_tk isLt (s.data.toList.drop f)
  have ha := all_tk isLt (s.data.toList.drop f)
  have hp := piece_of s f ((s.data.toList.drop f).takeWhile isLt).length
  rw [ht] at hp
  generalize (s.data.toList.drop f).takeWhile isLt = L at *
  have hm : f + L.length ≤ s.size := by omega
  generalize hM : f + L.length = M at *
  have c1 := toUpper18_any L ha (by omega)
  have c2 := clone18_any (L.map upB) (by rw [List.length_map]; omega)
  have h1 : (f : Int) ≤ (M : Int) := by omega
  have h2 : (M : Int) ≤ (s.size : Int) := by omega
  have h0 : (0 : Int) ≤ (f : Int) := by omega
  have b0 := Bk.new w 32 zero9
  have HB : Hid (Bk (w.alloc (.cells zero9 32)) w.heap.size 32 zero9) := b0
  have hb0 : Below w.heap.size w (w.alloc (.cells zero9 32)) := (Below.refl _ w).alloc (Nat.le_refl _) _
  clear hl hd ht ha hM b0
  have hU : tkA 1 f (M : Int) (L.map upB) nmZ0 = #[.int .i64 1, .int .i64 f, .int .i64 M, .string (str (L.map upB)), .int .i64 0, .bool false, .string ⟨#[]⟩, .int .i64 0, .string ⟨#[]⟩] := rfl
  rw [hU]
  clear hU
  generalize str (L.map upB) = U at *
  go_enter Tryz.func68, Tryz.ntmps68
  go_wp2_with fail
  refine (c0 _).mono ?_
  rintro e w1 ⟨rfl, rfl⟩
  go_wp2_with fail
  refine (c1 _).mono ?_
  rintro e w2 ⟨rfl, hb2⟩
  go_wp2_with fail
  refine (c2 _).mono ?_
  rintro e w3 ⟨rfl, hb3⟩
  have hbA := hb0.trans (hb2.mono hb0.size)
  have hbB := hbA.trans (hb3.mono hbA.size)
  have B1 := (HB.out.later hb2).later hb3
  have z := fun i v h => B1.cell i (v := v) h
  have zf := B1.frozen
  have HB1 : Hid (Bk w3 w.heap.size 32 zero9) := B1
  clear B1 hb2 hb3 hb0 hbA HB
  have z0 := z 0 _ rfl
  have z1 := z 1 _ rfl
  have z2 := z 2 _ rfl
  have z3 := z 3 _ rfl
  have z4 := z 4 _ rfl
  have z5 := z 5 _ rfl
  have z6 := z 6 _ rfl
  have z7 := z 7 _ rfl
  have z8 := z 8 _ rfl
  have f0 := zf 0
  have f1 := zf 1
  have f2 := zf 2
  have f3 := zf 3
  have f4 := zf 4
  have f5 := zf 5
  have f6 := zf 6
  have f7 := zf 7
  have f8 := zf 8
  clear z zf
  go_wp2
  refine bodyPost_ret (results_cell_row rfl _ _ w.heap.size 32 _ (0, 0) _ rfl (Bk.all9 HB1.out _ _ _ _ _ _ _ _ _) Tryz.underlying32 rfl (by kernel_rfl)) rfl ⟨rfl, ?_⟩
  exact Tn.below hbB (Tn.all9 ..) (Nat.le_refl _) (Nat.le_refl _)
end Go.Proofs.YtfgpjplfplbcdaaGreatDoor
