import Derived.Deep.RegionWith
import Derived.Below
import Derived.BigQuiet
import Derived.ChangeOld
import Derived.Deep.CutRange
import Derived.Deep.LoopGhost
import Derived.Deep.QuietTactic
import Derived.Deep.RegionHeld3
import Derived.Deep.WholeRow
import Derived.KernelRfl
import Derived.LaidEql
import Derived.Laws.BitsAllLaws
import Derived.Laws.CopyRow
import Derived.Laws.EntriesVeiled
import Derived.Laws.Externs
import Derived.Laws.IdiomCopy
import Derived.Laws.IdiomRangeMap
import Derived.Laws.RangeString
import Derived.Laws.ResultCell
import Derived.Laws.Runes
import Derived.Laws.Strings3
import Derived.Lib.AsciiSet
import Derived.Lib.Bytealg
import Derived.Lib.IndexBytes
import Derived.Lib.Strings
import Derived.Lib.TrimByte
import Derived.Lib.Walk
import Derived.OpenShut
import Derived.OwnWalk
import Derived.ProofKit
import Derived.RowKitTokens
import Derived.Shelf.Strconv.Clone
import Derived.Shelf.Strings.OnBuilder
import Derived.ShutString
import Derived.Stop.Asserts
import Derived.WalkKit
import Derived.WalkLawsBesides
import Derived.WalkSpells
import Derived.Test.YtfgpjplfplbcdaaGreatDoorPt6
import Derived.Test.YtfgpjplfplbcdaaGreatDoorPt8
import Derived.Test.YtfgpjplfplbcdaaGreatDoorPt11
/- Layer 9: Scan and Parse of the program, by one answer. -/
namespace Go.Proofs.YtfgpjplfplbcdaaGreatDoor
open Go.ChangeShapes Go.WideShapes Go.ChangeAt Go.RowKit
open Lx
set_option linter.unusedVariables false
namespace Lx
/-- is there a numeral at this place? -/
def scOk (s : ByteArray) (fr : Int) : Prop := 0 ≤ fr ∧ fr ≤ (s.size : Int) ∧ (scanP s.data.toList fr.toNat).kind ≠ 0
instance (s : ByteArray) (fr : Int) : Decidable (scOk s fr) := by unfold scOk; infer_instance
def scN (s : ByteArray) (fr : Int) : Nm := if scOk s fr then Lx.numOf (scanP s.data.toList fr.toNat) else nmZ
def scT (s : ByteArray) (fr : Int) : Int := if scOk s fr then fr + (scanP s.data.toList fr.toNat).stop else 0
def scC (s : ByteArray) (fr : Int) : Int := if scOk s fr then 0 else 90
def scP (s : ByteArray) (fr : Int) : Int := if scOk s fr then -1 else fr
/-- an error value that says this -/
def ErrIs (w : World) (er : Value) (c p : Int) : Prop := (c = 0 ∧ er = .nilIface) ∨ (c ≠ 0 ∧ ∃ g, er = .iface 52 (.pointer (some ⟨g, 0, none⟩)) ∧ FaultAt w g p c)
end Lx
theorem scan9_all (s : ByteArray) (hs : s.size ≤ maxLen) (fr : Int) (w : World) :
    Calls Tryz.prog 70 #[.string s, .int .i64 fr] w fun e w' => ∃ er, e = .returned (.tuple #[.agg (nmA (scN s fr)), .int .i64 (scT s fr), er]) ∧ ErrIs w' er (scC s fr) (scP s fr) ∧ Below w.heap.size w w' := by
  have h : Calls Tryz.prog 70 #[.string s, .int .i64 fr] w (ScanR w s fr) := by
    by_cases h : fr < 0 ∨ (s.size : Int) < fr
    · exact scan_out s fr h w
    · obtain ⟨f, rfl⟩ : ∃ f : Nat, fr = f := ⟨fr.toNat, by omega⟩
      exact scan_in s hs f (by omega) w
  refine h.mono ?_
  rintro e w' ⟨⟨g, rfl, hF, _, _, hn⟩ | ⟨h0, h1, hk, rfl⟩, hb⟩
  · have hno : ¬ scOk s fr := fun q => by
      obtain ⟨q0, q1, q2⟩ := q
      rcases hn with hn | hn | hn
      · omega
      · omega
      · exact q2 hn
    unfold scN scT scC scP
    rw [if_neg hno, if_neg hno, if_neg hno, if_neg hno]
    exact ⟨_, rfl, Or.inr ⟨by omega, g, rfl, hF⟩, hb⟩
  · have hyes : scOk s fr := ⟨h0, h1, hk⟩
    unfold scN scT scC scP
    rw [if_pos hyes, if_pos hyes, if_pos hyes, if_pos hyes]
    exact ⟨_, rfl, Or.inl ⟨rfl, rfl⟩, hb⟩
end Go.Proofs.YtfgpjplfplbcdaaGreatDoor

/- Layer 18: words, tokenAt, cut. -/
namespace Go.Proofs.YtfgpjplfplbcdaaGreatDoor
open Go.ChangeShapes Go.WideShapes Go.ChangeAt Go.RowKit
open Lx Tk Go.Shelf
set_option linter.unusedVariables false
namespace Tk
theorem lt_ascii {l : B} (h : l.all isLt = true) : ∀ (j : Nat) (b : UInt8), l[j]? = some b → b.toNat < 128 := by
  intro j b hb
  have := List.all_eq_true.mp h b (List.mem_of_getElem? hb)
  unfold isLt at this
  simp only [Bool.or_eq_true, Bool.and_eq_true, decide_eq_true_eq] at this
  omega
theorem up_eq {l : B} (h : l.all isLt = true) : Lib.toUpperA l = l.map upB := by
  unfold Lib.toUpperA
  apply List.map_congr_left
  intro b hb
  have hl := List.all_eq_true.mp h b hb
  have := all_bytes (p := fun b => !isLt b || (Lib.upperB b == upB b)) (by kernel_rfl) b
  rw [hl] at this
  exact eq_of_beq (by simpa using this)
/-- a piece of a text -/
theorem piece_of (s : ByteArray) (f m : Nat) : s.extract f (f + m) = str ((s.data.toList.drop f).take m) := by
  rw [ext_str, Nat.add_sub_cancel_left]
end Tk
theorem toUpper18_any (l : B) (h : l.all isLt = true) (hs : l.length ≤ 1000000000) (w : World) :
    Calls Tryz.prog 89 #[.string (str l)] w fun e w' => e = .returned (.string (str (l.map upB))) ∧ Below w.heap.size w w' := by
  have := Any.strings_ToUpper_ascii lays158 layBuilderExtra (str l) w (by rw [str_size]; omega) (by rw [str_list]; exact lt_ascii h)
  rw [str_list, up_eq h] at this
  exact this
theorem clone18_any (l : B) (hs : l.length ≤ 1000000000) (w : World) :
    Calls Tryz.prog 88 #[.string (str l)] w fun e w' => e = .returned (.string (str l)) ∧ Below w.heap.size w w' := by
  have c : ∀ w, Calls Tryz.prog 108 #[.string (str l)] w fun e w' => e = .returned (.string (str l)) ∧ Below w.heap.size w w' := fun w => Any.stringslite_Clone lays316m (str l) w (by rw [str_size]; omega)
  go_enter Tryz.func88, Tryz.ntmps88
  go_wp2_with (go_at_call 108; refine (c _).mono ?_; rintro e w' ⟨rfl, hb⟩)
  go_ret
  exact ⟨rfl, hb⟩
set_option maxHeartbeats 1600000 in
set_option maxRecDepth 100000 in
theorem wordAt18_any (s : ByteArray) (f : Nat) (hs : s.size ≤ 1000000000) (hf : f ≤ s.size) (w : World) :
    Calls Tryz.prog 68 #[.string s, .int .i64 (f : Int)] w fun e w' => e = .returned (.agg (tkA 1 f ((f + ((s.data.toList.drop f).takeWhile isLt).length : Nat) : Int) (((s.data.toList.drop f).takeWhile isLt).map upB) nmZ0)) ∧ Below w.heap.size w w' := by
  have c0 := behind18_any s f 2 hs hf
  rw [isK_lt] at c0
  have hl : (s.data.toList.drop f).length = s.size - f := by rw [List.length_drop, ← Lib.size_eq]
  have hd := dk_len isLt (s.data.toList.drop f)
  have ht := take_tk isLt (s.data.toList.drop f)
  have ha := all_tk isLt (s.data.toList.drop f)
  have hp := piece_of s f ((s.data.toList.drop f).takeWhile isLt).length
  rw [ht] at hp
  generalize (s.data.toList.drop f).takeWhile isLt = L at *
  have hm : f + L.length ≤ s.size := by omega
  generalize hM : f + L.length = M at *
  have c1 := toUpper18_any L ha (by omega)
  have c2 := clone18_any (L.map upB) (by rw [List.length_map]; omega)
  have h1 : (f : Int) ≤ (M : Int) := by omega
  have h2 : (M : Int) ≤ (s.size : Int) := by omega
  have h0 : (0 : Int) ≤ (f : Int) := by omega
  have b0 := Bk.new w 32 zero9
  have HB : Hid (Bk (w.alloc (.cells zero9 32)) w.heap.size 32 zero9) := b0
  have hb0 : Below w.heap.size w (w.alloc (.cells zero9 32)) := (Below.refl _ w).alloc (Nat.le_refl _) _
  clear hl hd ht ha hM b0
  have hU : tkA 1 f (M : Int) (L.map upB) nmZ0 = #[.int .i64 1, .int .i64 f, .int .i64 M, .string (str (L.map upB)), .int .i64 0, .bool false, .string ⟨#[]⟩, .int .i64 0, .string ⟨#[]⟩] := rfl
  rw [hU]
  clear hU
  generalize str (L.map upB) = U at *
  go_enter Tryz.func68, Tryz.ntmps68
  go_wp2_with fail
  refine (c0 _).mono ?_
  rintro e w1 ⟨rfl, rfl⟩
  go_wp2_with fail
  refine (c1 _).mono ?_
  rintro e w2 ⟨rfl, hb2⟩
  go_wp2_with fail
  refine (c2 _).mono ?_
  rintro e w3 ⟨rfl, hb3⟩
  have hbA := hb0.trans (hb2.mono hb0.size)
  have hbB := hbA.trans (hb3.mono hbA.size)
  have B1 := (HB.out.later hb2).later hb3
  have z := fun i v h => B1.cell i (v := v) h
  have zf := B1.frozen
  have HB1 : Hid (Bk w3 w.heap.size 32 zero9) := B1
  clear B1 hb2 hb3 hb0 hbA HB
  have z0 := z 0 _ rfl
  have z1 := z 1 _ rfl
  have z2 := z 2 _ rfl
  have z3 := z 3 _ rfl
  have z4 := z 4 _ rfl
  have z5 := z 5 _ rfl
  have z6 := z 6 _ rfl
  have z7 := z 7 _ rfl
  have z8 := z 8 _ rfl
  have f0 := zf 0
  have f1 := zf 1
  have f2 := zf 2
  have f3 := zf 3
  have f4 := zf 4
  have f5 := zf 5
  have f6 := zf 6
  have f7 := zf 7
  have f8 := zf 8
  clear z zf
  go_wp2
  refine bodyPost_ret (results_cell_row rfl _ _ w.heap.size 32 _ (0, 0) _ rfl (Bk.all9 HB1.out _ _ _ _ _ _ _ _ _) Tryz.underlying32 rfl (by kernel_rfl)) rfl ⟨rfl, ?_⟩
  exact Tn.below hbB (Tn.all9 ..) (Nat.le_refl _) (Nat.le_refl _)
end Go.Proofs.YtfgpjplfplbcdaaGreatDoor

/- Layer 18: the token at a place. -/
namespace Go.Proofs.YtfgpjplfplbcdaaGreatDoor
open Go.ChangeShapes Go.WideShapes Go.ChangeAt Go.RowKit
open Lx Tk Go.Shelf
set_option linter.unusedVariables false
theorem Lx.Bk.drew9 {w : World} {g : Nat} {t : TypeId} {vs : Array Value} (h : Bk w g t vs) : Bk w.drew g t vs := h
theorem below_drew9 {n : Nat} {a w : World} (h : Below n a w) : Below n a w.drew := ⟨h.os, h.tape, h.output, h.size, h.block⟩
set_option maxHeartbeats 1600000 in
set_option maxRecDepth 100000 in
theorem tokenAt18_word (s : ByteArray) (f : Nat) (hs : s.size ≤ 1000000000) (hf : f < s.size) (hk : kd (s[f]'hf) = 2) (w : World) :
    Calls Tryz.prog 49 #[.string s, .int .i64 (f : Int)] w fun e w' => e = .returned (.tuple #[.agg (tkA 1 f ((f + ((s.data.toList.drop f).takeWhile isLt).length : Nat) : Int) (((s.data.toList.drop f).takeWhile isLt).map upB) nmZ0), .bool true]) ∧ Below w.heap.size w w' := by
  have c0 := kindOf18_any (s[f]'hf)
  rw [hk] at c0
  have c1 := wordAt18_any s f hs (by omega)
  have hi : (f : Int) < (s.size : Int) := by omega
  clear hk
  have hU : ∀ M : Nat, ∀ U : B, tkA 1 f (M : Int) U nmZ0 = #[.int .i64 1, .int .i64 f, .int .i64 M, .string (str U), .int .i64 0, .bool false, .string ⟨#[]⟩, .int .i64 0, .string ⟨#[]⟩] := fun _ _ => rfl
  rw [hU] at c1 ⊢
  generalize f + ((s.data.toList.drop f).takeWhile isLt).length = M at *
  generalize str (((s.data.toList.drop f).takeWhile isLt).map upB) = U at *
  clear hU
  have b0 := Bk.new w 32 zero9
  have HB : Hid (Bk (w.alloc (.cells zero9 32)) w.heap.size 32 zero9) := b0
  have hb0 : Below w.heap.size w (w.alloc (.cells zero9 32)) := (Below.refl _ w).alloc (Nat.le_refl _) _
  clear b0
  go_enter Tryz.func49, Tryz.ntmps49
  go_wp2_with fail
  refine (c0 _).mono ?_
  rintro e w1 ⟨rfl, rfl⟩
  go_wp2_with fail
  refine (c1 _).mono ?_
  rintro e w2 ⟨rfl, hb2⟩
  have hbB := hb0.trans (hb2.mono hb0.size)
  have B1 := HB.out.later hb2
  clear hb2 hb0 HB c0 c1
  have z := fun i v h => B1.cell i (v := v) h
  have zf := B1.frozen
  have z0 := z 0 _ rfl
  have z1 := z 1 _ rfl
  have z2 := z 2 _ rfl
  have z3 := z 3 _ rfl
  have z4 := z 4 _ rfl
  have z5 := z 5 _ rfl
  have z6 := z 6 _ rfl
  have z7 := z 7 _ rfl
  have z8 := z 8 _ rfl
  have f0 := zf 0
  have f1 := zf 1
  have f2 := zf 2
  have f3 := zf 3
  have f4 := zf 4
  have f5 := zf 5
  have f6 := zf 6
  have f7 := zf 7
  have f8 := zf 8
  have HB1 : Hid (Bk _ w.heap.size 32 zero9) := B1
  clear B1 z zf
  go_wp2
  refine bodyPost_ret (results_c1 rfl _ _ w.heap.size 32 _ _ rfl (Bk.all9 HB1.out _ _ _ _ _ _ _ _ _) Tryz.underlying32 rfl (by kernel_rfl)) rfl ⟨rfl, ?_⟩
  exact Tn.below hbB (Tn.all9 ..) (Nat.le_refl _) (Nat.le_refl _)
set_option maxHeartbeats 1600000 in
set_option maxRecDepth 100000 in
theorem tokenAt18_mark (s : ByteArray) (f : Nat) (hs : s.size ≤ 1000000000) (hf : f < s.size) (kn : Int) (hk : kd (s[f]'hf) = kn + 1) (hkn : kn = 2 ∨ kn = 3 ∨ kn = 4) (w : World) :
    Calls Tryz.prog 49 #[.string s, .int .i64 (f : Int)] w fun e w' => e = .returned (.tuple #[.agg (tkA kn f ((f + 1 : Nat) : Int) [] nmZ0), .bool true]) ∧ Below w.heap.size w w' := by
  have c0 := kindOf18_any (s[f]'hf)
  rw [hk] at c0
  have c1 := markAt18_any kn f (by omega)
  have hi : (f : Int) < (s.size : Int) := by omega
  clear hk
  have hU : ∀ M : Nat, tkA kn f (M : Int) [] nmZ0 = #[.int .i64 kn, .int .i64 f, .int .i64 M, .string ⟨#[]⟩, .int .i64 0, .bool false, .string ⟨#[]⟩, .int .i64 0, .string ⟨#[]⟩] := fun _ => rfl
  rw [hU] at c1 ⊢
  generalize f + 1 = M at *
  clear hU
  have b0 := Bk.new w 32 zero9
  have HB : Hid (Bk (w.alloc (.cells zero9 32)) w.heap.size 32 zero9) := b0
  have hb0 : Below w.heap.size w (w.alloc (.cells zero9 32)) := (Below.refl _ w).alloc (Nat.le_refl _) _
  clear b0
  rcases hkn with rfl | rfl | rfl
  all_goals
    go_enter Tryz.func49, Tryz.ntmps49
    go_wp2_with fail
    refine (c0 _).mono ?_
    rintro e w1 ⟨rfl, rfl⟩
    go_wp2_with fail
    refine (c1 _).mono ?_
    rintro e w2 ⟨rfl, hb2⟩
    have hbB := hb0.trans (hb2.mono hb0.size)
    have B1 := HB.out.later hb2
    clear hb2 hb0 HB c0 c1
    have z := fun i v h => B1.cell i (v := v) h
    have zf := B1.frozen
    have z0 := z 0 _ rfl
    have z1 := z 1 _ rfl
    have z2 := z 2 _ rfl
    have z3 := z 3 _ rfl
    have z4 := z 4 _ rfl
    have z5 := z 5 _ rfl
    have z6 := z 6 _ rfl
    have z7 := z 7 _ rfl
    have z8 := z 8 _ rfl
    have f0 := zf 0
    have f1 := zf 1
    have f2 := zf 2
    have f3 := zf 3
    have f4 := zf 4
    have f5 := zf 5
    have f6 := zf 6
    have f7 := zf 7
    have f8 := zf 8
    have HB1 : Hid (Bk _ w.heap.size 32 zero9) := B1
    clear B1 z zf
    go_wp2
    refine bodyPost_ret (results_c1 rfl _ _ w.heap.size 32 _ _ rfl (Bk.all9 HB1.out _ _ _ _ _ _ _ _ _) Tryz.underlying32 rfl (by kernel_rfl)) rfl ⟨rfl, ?_⟩
    exact Tn.below hbB (Tn.all9 ..) (Nat.le_refl _) (Nat.le_refl _)
set_option maxHeartbeats 3200000 in
set_option maxRecDepth 100000 in
theorem tokenAt18_num (s : ByteArray) (f : Nat) (hs : s.size ≤ 1000000000) (hf : f < s.size) (hk : kd (s[f]'hf) = 0) (w : World) :
    Calls Tryz.prog 49 #[.string s, .int .i64 (f : Int)] w fun e w' => e = .returned (.tuple #[.agg (tkA 5 f (scT s f) [] (scN s f)), .bool (scC s f == 0)]) ∧ Below w.heap.size w w' := by
  have c0 := kindOf18_any (s[f]'hf)
  rw [hk] at c0
  have c1 := fun w => scan9_all s (by unfold maxLen; omega) f w
  have hi : (f : Int) < (s.size : Int) := by omega
  clear hk
  unfold tkA
  unfold nmA at c1
  generalize scT s f = M at *
  generalize scP s f = P at *
  generalize scN s f = NN at *
  generalize scC s f = CC at *
  generalize str NN.num = U1 at *
  generalize str NN.den = U2 at *
  generalize NN.kind = U3 at *
  generalize NN.neg = U4 at *
  generalize NN.exp = U5 at *
  have b0 := Bk.new w 32 zero9
  have HB : Hid (Bk (w.alloc (.cells zero9 32)) w.heap.size 32 zero9) := b0
  have hb0 : Below w.heap.size w (w.alloc (.cells zero9 32)) := (Below.refl _ w).alloc (Nat.le_refl _) _
  clear b0
  cases hbb : (CC == 0)
  · have c2 : ∀ w, Calls Tryz.prog 70 #[.string s, .int .i64 f] w fun e w' => ∃ gq : Nat, e = .returned (.tuple #[.agg #[.int .i64 U3, .bool U4, .string U1, .int .i64 U5, .string U2], .int .i64 M, .iface 52 (.pointer (some ⟨gq, 0, none⟩))]) ∧ Below w.heap.size w w' := fun w => by
      refine (c1 w).mono ?_
      rintro e w' ⟨er, rfl, ⟨h1, rfl⟩ | ⟨h1, g, rfl, _⟩, hb⟩
      · first | exact ⟨rfl, hb⟩ | (rw [h1] at hbb; cases hbb)
      · first | exact ⟨g, rfl, hb⟩ | (exact absurd (eq_of_beq hbb) h1)
    clear c1 hbb
    go_enter Tryz.func49, Tryz.ntmps49
    go_wp2_with fail
    refine (c0 _).mono ?_
    rintro e w1 ⟨rfl, rfl⟩
    go_wp2_with fail
    refine (c2 _).mono ?_
    rintro e w2 ⟨gq, rfl, hb2⟩
    have hbB := hb0.trans (hb2.mono hb0.size)
    have B1 := HB.out.later hb2
    have hlt : w.heap.size < w2.heap.size := B1.lt
    clear hb2 hb0 HB c0 c2
    obtain ⟨W, hW⟩ : ∃ W, W = w2.alloc (.cells #[.int .i64 U3, .bool U4, .string U1, .int .i64 U5, .string U2] 30) := ⟨_, rfl⟩
    have hbW : Below w2.heap.size w2 W := by rw [hW]; exact (Below.refl _ w2).alloc (Nat.le_refl _) _
    have C1 : Bk W w2.heap.size 30 #[.int .i64 U3, .bool U4, .string U1, .int .i64 U5, .string U2] := by rw [hW]; exact Bk.new _ _ _
    have B1 := B1.later hbW
    have hbC := hbB.trans (hbW.mono hbB.size)
    have y0 : W.cell? ⟨w2.heap.size, 0, none⟩ = some (.int .i64 U3) := C1.cell 0 rfl
    have y1 : W.cell? ⟨w2.heap.size, 1, none⟩ = some (.bool U4) := C1.cell 1 rfl
    have y2 : W.cell? ⟨w2.heap.size, 2, none⟩ = some (.string U1) := C1.cell 2 rfl
    have y3 : W.cell? ⟨w2.heap.size, 3, none⟩ = some (.int .i64 U5) := C1.cell 3 rfl
    have y4 : W.cell? ⟨w2.heap.size, 4, none⟩ = some (.string U2) := C1.cell 4 rfl
    clear hbB C1 hbW
    have z := fun i v h => B1.cell i (v := v) h
    have zf := B1.frozen
    have z0 := z 0 _ rfl
    have z1 := z 1 _ rfl
    have z2 := z 2 _ rfl
    have z3 := z 3 _ rfl
    have z4 := z 4 _ rfl
    have z5 := z 5 _ rfl
    have z6 := z 6 _ rfl
    have z7 := z 7 _ rfl
    have z8 := z 8 _ rfl
    have f0 := zf 0
    have f1 := zf 1
    have f2 := zf 2
    have f3 := zf 3
    have f4 := zf 4
    have f5 := zf 5
    have f6 := zf 6
    have f7 := zf 7
    have f8 := zf 8
    have HB1 : Hid (Bk _ w.heap.size 32 zero9) := B1
    clear B1 z zf
    have ne1 : ¬ w.heap.size = w2.heap.size := by omega
    have ne2 : ¬ w2.heap.size = w.heap.size := by omega
    have HW : Hid (w2.alloc (.cells #[.int .i64 U3, .bool U4, .string U1, .int .i64 U5, .string U2] 30) = W) := hW.symm
    clear hW
    go_wp2_with fail
    rw [HW.out]
    go_region
    all_goals
      go_wp2
      refine bodyPost_ret (results_c1 rfl _ _ w.heap.size 32 _ _ rfl (Bk.drew9 (Bk.all9 HB1.out _ _ _ _ _ _ _ _ _)) Tryz.underlying32 rfl (by kernel_rfl)) rfl ⟨rfl, ?_⟩
      exact below_drew9 (Tn.below hbC (Tn.all9 ..) (Nat.le_refl _) (Nat.le_refl _))
  · have c2 : ∀ w, Calls Tryz.prog 70 #[.string s, .int .i64 f] w fun e w' => e = .returned (.tuple #[.agg #[.int .i64 U3, .bool U4, .string U1, .int .i64 U5, .string U2], .int .i64 M, .nilIface]) ∧ Below w.heap.size w w' := fun w => by
      refine (c1 w).mono ?_
      rintro e w' ⟨er, rfl, ⟨h1, rfl⟩ | ⟨h1, g, rfl, _⟩, hb⟩
      · first | exact ⟨rfl, hb⟩ | (rw [h1] at hbb; cases hbb)
      · first | exact ⟨g, rfl, hb⟩ | (exact absurd (eq_of_beq hbb) h1)
    clear c1 hbb
    go_enter Tryz.func49, Tryz.ntmps49
    go_wp2_with fail
    refine (c0 _).mono ?_
    rintro e w1 ⟨rfl, rfl⟩
    go_wp2_with fail
    refine (c2 _).mono ?_
    rintro e w2 ⟨rfl, hb2⟩
    have hbB := hb0.trans (hb2.mono hb0.size)
    have B1 := HB.out.later hb2
    have hlt : w.heap.size < w2.heap.size := B1.lt
    clear hb2 hb0 HB c0 c2
    obtain ⟨W, hW⟩ : ∃ W, W = w2.alloc (.cells #[.int .i64 U3, .bool U4, .string U1, .int .i64 U5, .string U2] 30) := ⟨_, rfl⟩
    have hbW : Below w2.heap.size w2 W := by rw [hW]; exact (Below.refl _ w2).alloc (Nat.le_refl _) _
    have C1 : Bk W w2.heap.size 30 #[.int .i64 U3, .bool U4, .string U1, .int .i64 U5, .string U2] := by rw [hW]; exact Bk.new _ _ _
    have B1 := B1.later hbW
    have hbC := hbB.trans (hbW.mono hbB.size)
    have y0 : W.cell? ⟨w2.heap.size, 0, none⟩ = some (.int .i64 U3) := C1.cell 0 rfl
    have y1 : W.cell? ⟨w2.heap.size, 1, none⟩ = some (.bool U4) := C1.cell 1 rfl
    have y2 : W.cell? ⟨w2.heap.size, 2, none⟩ = some (.string U1) := C1.cell 2 rfl
    have y3 : W.cell? ⟨w2.heap.size, 3, none⟩ = some (.int .i64 U5) := C1.cell 3 rfl
    have y4 : W.cell? ⟨w2.heap.size, 4, none⟩ = some (.string U2) := C1.cell 4 rfl
    clear hbB C1 hbW
    have z := fun i v h => B1.cell i (v := v) h
    have zf := B1.frozen
    have z0 := z 0 _ rfl
    have z1 := z 1 _ rfl
    have z2 := z 2 _ rfl
    have z3 := z 3 _ rfl
    have z4 := z 4 _ rfl
    have z5 := z 5 _ rfl
    have z6 := z 6 _ rfl
    have z7 := z 7 _ rfl
    have z8 := z 8 _ rfl
    have f0 := zf 0
    have f1 := zf 1
    have f2 := zf 2
    have f3 := zf 3
    have f4 := zf 4
    have f5 := zf 5
    have f6 := zf 6
    have f7 := zf 7
    have f8 := zf 8
    have HB1 : Hid (Bk _ w.heap.size 32 zero9) := B1
    clear B1 z zf
    have ne1 : ¬ w.heap.size = w2.heap.size := by omega
    have ne2 : ¬ w2.heap.size = w.heap.size := by omega
    have HW : Hid (w2.alloc (.cells #[.int .i64 U3, .bool U4, .string U1, .int .i64 U5, .string U2] 30) = W) := hW.symm
    clear hW
    go_wp2_with fail
    rw [HW.out]
    go_region
    all_goals
      go_wp2
      refine bodyPost_ret (results_c1 rfl _ _ w.heap.size 32 _ _ rfl (Bk.drew9 (Bk.all9 HB1.out _ _ _ _ _ _ _ _ _)) Tryz.underlying32 rfl (by kernel_rfl)) rfl ⟨rfl, ?_⟩
      exact below_drew9 (Tn.below hbC (Tn.all9 ..) (Nat.le_refl _) (Nat.le_refl _))
end Go.Proofs.YtfgpjplfplbcdaaGreatDoor

/- Layer 18: cut. -/
namespace Go.Proofs.YtfgpjplfplbcdaaGreatDoor
open Go.ChangeShapes Go.WideShapes Go.ChangeAt Go.RowKit
open Lx Tk Go.Shelf
set_option linter.unusedVariables false
theorem below_more {a w : World} (h : Below a.heap.size a w) (o : Obj) : Below a.heap.size a (w.alloc o) := h.alloc h.size o
theorem Lx.Bk.more {w : World} {g : Nat} {t : TypeId} {vs : Array Value} (h : Bk w g t vs) (o : Obj) : Bk (w.alloc o) g t vs := h.later ((Below.refl _ _).alloc (Nat.le_refl _) _)
set_option maxHeartbeats 1600000 in
set_option maxRecDepth 100000 in
theorem cut18_end (s : ByteArray) (k : Nat) (w : World) (c0 : ∀ w, Calls Tryz.prog 48 #[.string s, .int .i64 (k : Int), .int .i64 1] w fun e w' => e = .returned (.int .i64 (s.size : Int)) ∧ w' = w) :
    Calls Tryz.prog 37 #[.string s, .int .i64 (k : Int)] w fun e w' => e = .returned (.tuple #[.agg (tkA 0 s.size s.size [] nmZ0), .int .i64 (-1)]) ∧ Below w.heap.size w w' := by
  have c1 := endOf18_any s
  have hU : tkA 0 s.size s.size [] nmZ0 = #[.int .i64 0, .int .i64 s.size, .int .i64 s.size, .string ⟨#[]⟩, .int .i64 0, .bool false, .string ⟨#[]⟩, .int .i64 0, .string ⟨#[]⟩] := rfl
  rw [hU] at c1 ⊢
  clear hU
  have b0 := Bk.new w 32 zero9
  have HB : Hid (Bk (w.alloc (.cells zero9 32)) w.heap.size 32 zero9) := b0
  have hb0 : Below w.heap.size w (w.alloc (.cells zero9 32)) := (Below.refl _ w).alloc (Nat.le_refl _) _
  clear b0
  go_enter Tryz.func37, Tryz.ntmps37
  go_wp2_with fail
  refine (c0 _).mono ?_
  rintro e w1 ⟨rfl, rfl⟩
  go_wp2_with fail
  refine (c1 _).mono ?_
  rintro e w2 ⟨rfl, hb2⟩
  have hbB := hb0.trans (hb2.mono hb0.size)
  have B1 := HB.out.later hb2
  clear hb2 hb0 HB c0 c1
  have z := fun i v h => B1.cell i (v := v) h
  have zf := B1.frozen
  have z0 := z 0 _ rfl
  have z1 := z 1 _ rfl
  have z2 := z 2 _ rfl
  have z3 := z 3 _ rfl
  have z4 := z 4 _ rfl
  have z5 := z 5 _ rfl
  have z6 := z 6 _ rfl
  have z7 := z 7 _ rfl
  have z8 := z 8 _ rfl
  have f0 := zf 0
  have f1 := zf 1
  have f2 := zf 2
  have f3 := zf 3
  have f4 := zf 4
  have f5 := zf 5
  have f6 := zf 6
  have f7 := zf 7
  have f8 := zf 8
  have HB1 : Hid (Bk _ w.heap.size 32 zero9) := B1
  clear B1 z zf
  go_wp2
  refine bodyPost_ret (results_c1 rfl _ _ w.heap.size 32 _ _ rfl (Bk.all9 HB1.out _ _ _ _ _ _ _ _ _) Tryz.underlying32 rfl (by kernel_rfl)) rfl ⟨rfl, ?_⟩
  exact Tn.below hbB (Tn.all9 ..) (Nat.le_refl _) (Nat.le_refl _)
set_option maxHeartbeats 1600000 in
set_option maxRecDepth 100000 in
theorem cut18_none (s : ByteArray) (k f : Nat) (hf : f < s.size) (kk M U3 U5 : Int) (U4 : Bool) (wd U1 U2 : ByteArray) (w : World) (c0 : ∀ w, Calls Tryz.prog 48 #[.string s, .int .i64 (k : Int), .int .i64 1] w fun e w' => e = .returned (.int .i64 (f : Int)) ∧ w' = w)
    (c1 : ∀ w, Calls Tryz.prog 49 #[.string s, .int .i64 (f : Int)] w fun e w' => e = .returned (.tuple #[.agg #[.int .i64 kk, .int .i64 (f : Int), .int .i64 M, .string wd, .int .i64 U3, .bool U4, .string U1, .int .i64 U5, .string U2], .bool false]) ∧ Below w.heap.size w w') :
    Calls Tryz.prog 37 #[.string s, .int .i64 (k : Int)] w fun e w' => e = .returned (.tuple #[.agg zero9, .int .i64 f]) ∧ Below w.heap.size w w' := by
  unfold zero9
  have hne : ((f : Int) == (s.size : Int)) = false := by rw [beq_eq_false_iff_ne]; omega
  have b0 := Bk.new w 32 zero9
  have HB : Hid (Bk (w.alloc (.cells zero9 32)) w.heap.size 32 zero9) := b0
  have hb0 : Below w.heap.size w (w.alloc (.cells zero9 32)) := (Below.refl _ w).alloc (Nat.le_refl _) _
  clear b0
  go_enter Tryz.func37, Tryz.ntmps37
  go_wp2_with fail
  refine (c0 _).mono ?_
  rintro e w1 ⟨rfl, rfl⟩
  go_wp2_with fail
  refine (c1 _).mono ?_
  rintro e w2 ⟨rfl, hb2⟩
  have hbB := hb0.trans (hb2.mono hb0.size)
  have B1 := HB.out.later hb2
  have hlt : w.heap.size < w2.heap.size := B1.lt
  clear hb2 hb0 HB c0 c1
  have ne1 : ¬ w.heap.size = w2.heap.size := by omega
  have ne2 : ¬ w2.heap.size = w.heap.size := by omega
  have z := fun i v h => B1.cell i (v := v) h
  have zf := B1.frozen
  have z0 := z 0 _ rfl
  have z1 := z 1 _ rfl
  have z2 := z 2 _ rfl
  have z3 := z 3 _ rfl
  have z4 := z 4 _ rfl
  have z5 := z 5 _ rfl
  have z6 := z 6 _ rfl
  have z7 := z 7 _ rfl
  have z8 := z 8 _ rfl
  have f0 := zf 0
  have f1 := zf 1
  have f2 := zf 2
  have f3 := zf 3
  have f4 := zf 4
  have f5 := zf 5
  have f6 := zf 6
  have f7 := zf 7
  have f8 := zf 8
  have HB1 : Hid (Bk _ w.heap.size 32 zero9) := B1
  clear B1 z zf
  go_wp2
  refine bodyPost_ret (results_c1 rfl _ _ w.heap.size 32 _ _ rfl (Bk.more (Bk.all9 HB1.out _ _ _ _ _ _ _ _ _) _) Tryz.underlying32 rfl (by kernel_rfl)) rfl ⟨rfl, ?_⟩
  exact below_more (Tn.below hbB (Tn.all9 ..) (Nat.le_refl _) (Nat.le_refl _)) _
set_option maxHeartbeats 1600000 in
set_option maxRecDepth 100000 in
theorem cut18_mark (s : ByteArray) (k f : Nat) (hf : f < s.size) (kk M U3 U5 : Int) (U4 : Bool) (wd U1 U2 : ByteArray) (w : World) (c0 : ∀ w, Calls Tryz.prog 48 #[.string s, .int .i64 (k : Int), .int .i64 1] w fun e w' => e = .returned (.int .i64 (f : Int)) ∧ w' = w)
    (c1 : ∀ w, Calls Tryz.prog 49 #[.string s, .int .i64 (f : Int)] w fun e w' => e = .returned (.tuple #[.agg #[.int .i64 kk, .int .i64 (f : Int), .int .i64 M, .string wd, .int .i64 U3, .bool U4, .string U1, .int .i64 U5, .string U2], .bool true]) ∧ Below w.heap.size w w')
    (c2 : ∀ w, Calls Tryz.prog 27 #[.agg #[.int .i64 kk, .int .i64 (f : Int), .int .i64 M, .string wd, .int .i64 U3, .bool U4, .string U1, .int .i64 U5, .string U2]] w fun e w' => e = .returned (.bool false) ∧ Below w.heap.size w w') :
    Calls Tryz.prog 37 #[.string s, .int .i64 (k : Int)] w fun e w' => e = .returned (.tuple #[.agg #[.int .i64 kk, .int .i64 (f : Int), .int .i64 M, .string wd, .int .i64 U3, .bool U4, .string U1, .int .i64 U5, .string U2], .int .i64 (-1)]) ∧ Below w.heap.size w w' := by
  have hne : ((f : Int) == (s.size : Int)) = false := by rw [beq_eq_false_iff_ne]; omega
  have b0 := Bk.new w 32 zero9
  have HB : Hid (Bk (w.alloc (.cells zero9 32)) w.heap.size 32 zero9) := b0
  have hb0 : Below w.heap.size w (w.alloc (.cells zero9 32)) := (Below.refl _ w).alloc (Nat.le_refl _) _
  clear b0
  go_enter Tryz.func37, Tryz.ntmps37
  go_wp2_with fail
  refine (c0 _).mono ?_
  rintro e w1 ⟨rfl, rfl⟩
  go_wp2_with fail
  refine (c1 _).mono ?_
  rintro e w2 ⟨rfl, hb2⟩
  have hbB := hb0.trans (hb2.mono hb0.size)
  have B1 := HB.out.later hb2
  have hlt : w.heap.size < w2.heap.size := B1.lt
  clear hb2 hb0 HB c0 c1
  have ne1 : ¬ w.heap.size = w2.heap.size := by omega
  have ne2 : ¬ w2.heap.size = w.heap.size := by omega
  go_wp2_with fail
  refine (c2 _).mono ?_
  rintro e w3 ⟨rfl, hb3⟩
  have hbW : Below w2.heap.size w2 (w2.alloc (.cells #[.int .i64 kk, .int .i64 (f : Int), .int .i64 M, .string wd, .int .i64 U3, .bool U4, .string U1, .int .i64 U5, .string U2] 32)) := (Below.refl _ w2).alloc (Nat.le_refl _) _
  have C1 := Bk.later (Bk.new w2 32 #[.int .i64 kk, .int .i64 (f : Int), .int .i64 M, .string wd, .int .i64 U3, .bool U4, .string U1, .int .i64 U5, .string U2]) hb3
  have B1 := (B1.later hbW).later hb3
  have hbA := hbB.trans (hbW.mono hbB.size)
  have hbB := hbA.trans (hb3.mono hbA.size)
  clear hbA hbW hb3 c2
  have y0 : w3.cell? ⟨w2.heap.size, 0, none⟩ = some (.int .i64 kk) := C1.cell 0 rfl
  have y1 : w3.cell? ⟨w2.heap.size, 1, none⟩ = some (.int .i64 (f : Int)) := C1.cell 1 rfl
  have y2 : w3.cell? ⟨w2.heap.size, 2, none⟩ = some (.int .i64 M) := C1.cell 2 rfl
  have y3 : w3.cell? ⟨w2.heap.size, 3, none⟩ = some (.string wd) := C1.cell 3 rfl
  have y4 : w3.cell? ⟨w2.heap.size, 4, none⟩ = some (.int .i64 U3) := C1.cell 4 rfl
  have y5 : w3.cell? ⟨w2.heap.size, 5, none⟩ = some (.bool U4) := C1.cell 5 rfl
  have y6 : w3.cell? ⟨w2.heap.size, 6, none⟩ = some (.string U1) := C1.cell 6 rfl
  have y7 : w3.cell? ⟨w2.heap.size, 7, none⟩ = some (.int .i64 U5) := C1.cell 7 rfl
  have y8 : w3.cell? ⟨w2.heap.size, 8, none⟩ = some (.string U2) := C1.cell 8 rfl
  have z := fun i v h => B1.cell i (v := v) h
  have zf := B1.frozen
  have z0 := z 0 _ rfl
  have z1 := z 1 _ rfl
  have z2 := z 2 _ rfl
  have z3 := z 3 _ rfl
  have z4 := z 4 _ rfl
  have z5 := z 5 _ rfl
  have z6 := z 6 _ rfl
  have z7 := z 7 _ rfl
  have z8 := z 8 _ rfl
  have f0 := zf 0
  have f1 := zf 1
  have f2 := zf 2
  have f3 := zf 3
  have f4 := zf 4
  have f5 := zf 5
  have f6 := zf 6
  have f7 := zf 7
  have f8 := zf 8
  have HB1 : Hid (Bk _ w.heap.size 32 zero9) := B1
  clear B1 z zf
  go_wp2
  refine bodyPost_ret (results_c1 rfl _ _ w.heap.size 32 _ _ rfl (Bk.all9 HB1.out _ _ _ _ _ _ _ _ _) Tryz.underlying32 rfl (by kernel_rfl)) rfl ⟨rfl, ?_⟩
  exact (Tn.below hbB (Tn.all9 ..) (Nat.le_refl _) (Nat.le_refl _))
set_option maxHeartbeats 1600000 in
set_option maxRecDepth 100000 in
theorem cut18_shut (s : ByteArray) (k f : Nat) (hf : f < s.size) (kk M U3 U5 : Int) (U4 : Bool) (wd U1 U2 : ByteArray) (w : World) (c0 : ∀ w, Calls Tryz.prog 48 #[.string s, .int .i64 (k : Int), .int .i64 1] w fun e w' => e = .returned (.int .i64 (f : Int)) ∧ w' = w)
    (c1 : ∀ w, Calls Tryz.prog 49 #[.string s, .int .i64 (f : Int)] w fun e w' => e = .returned (.tuple #[.agg #[.int .i64 kk, .int .i64 (f : Int), .int .i64 M, .string wd, .int .i64 U3, .bool U4, .string U1, .int .i64 U5, .string U2], .bool true]) ∧ Below w.heap.size w w')
    (c2 : ∀ w, Calls Tryz.prog 27 #[.agg #[.int .i64 kk, .int .i64 (f : Int), .int .i64 M, .string wd, .int .i64 U3, .bool U4, .string U1, .int .i64 U5, .string U2]] w fun e w' => e = .returned (.bool true) ∧ Below w.heap.size w w')
    (c3 : ∀ w, Calls Tryz.prog 50 #[.string s, .int .i64 M] w fun e w' => e = .returned (.bool true) ∧ w' = w) :
    Calls Tryz.prog 37 #[.string s, .int .i64 (k : Int)] w fun e w' => e = .returned (.tuple #[.agg #[.int .i64 kk, .int .i64 (f : Int), .int .i64 M, .string wd, .int .i64 U3, .bool U4, .string U1, .int .i64 U5, .string U2], .int .i64 (-1)]) ∧ Below w.heap.size w w' := by
  have hne : ((f : Int) == (s.size : Int)) = false := by rw [beq_eq_false_iff_ne]; omega
  have b0 := Bk.new w 32 zero9
  have HB : Hid (Bk (w.alloc (.cells zero9 32)) w.heap.size 32 zero9) := b0
  have hb0 : Below w.heap.size w (w.alloc (.cells zero9 32)) := (Below.refl _ w).alloc (Nat.le_refl _) _
  clear b0
  go_enter Tryz.func37, Tryz.ntmps37
  go_wp2_with fail
  refine (c0 _).mono ?_
  rintro e w1 ⟨rfl, rfl⟩
  go_wp2_with fail
  refine (c1 _).mono ?_
  rintro e w2 ⟨rfl, hb2⟩
  have hbB := hb0.trans (hb2.mono hb0.size)
  have B1 := HB.out.later hb2
  have hlt : w.heap.size < w2.heap.size := B1.lt
  clear hb2 hb0 HB c0 c1
  have ne1 : ¬ w.heap.size = w2.heap.size := by omega
  have ne2 : ¬ w2.heap.size = w.heap.size := by omega
  go_wp2_with fail
  refine (c2 _).mono ?_
  rintro e w3 ⟨rfl, hb3⟩
  have hbW : Below w2.heap.size w2 (w2.alloc (.cells #[.int .i64 kk, .int .i64 (f : Int), .int .i64 M, .string wd, .int .i64 U3, .bool U4, .string U1, .int .i64 U5, .string U2] 32)) := (Below.refl _ w2).alloc (Nat.le_refl _) _
  have C1 := Bk.later (Bk.new w2 32 #[.int .i64 kk, .int .i64 (f : Int), .int .i64 M, .string wd, .int .i64 U3, .bool U4, .string U1, .int .i64 U5, .string U2]) hb3
  have B1 := (B1.later hbW).later hb3
  have hbA := hbB.trans (hbW.mono hbB.size)
  have hbB := hbA.trans (hb3.mono hbA.size)
  clear hbA hbW hb3 c2
  have y0 : w3.cell? ⟨w2.heap.size, 0, none⟩ = some (.int .i64 kk) := C1.cell 0 rfl
  have y1 : w3.cell? ⟨w2.heap.size, 1, none⟩ = some (.int .i64 (f : Int)) := C1.cell 1 rfl
  have y2 : w3.cell? ⟨w2.heap.size, 2, none⟩ = some (.int .i64 M) := C1.cell 2 rfl
  have y3 : w3.cell? ⟨w2.heap.size, 3, none⟩ = some (.string wd) := C1.cell 3 rfl
  have y4 : w3.cell? ⟨w2.heap.size, 4, none⟩ = some (.int .i64 U3) := C1.cell 4 rfl
  have y5 : w3.cell? ⟨w2.heap.size, 5, none⟩ = some (.bool U4) := C1.cell 5 rfl
  have y6 : w3.cell? ⟨w2.heap.size, 6, none⟩ = some (.string U1) := C1.cell 6 rfl
  have y7 : w3.cell? ⟨w2.heap.size, 7, none⟩ = some (.int .i64 U5) := C1.cell 7 rfl
  have y8 : w3.cell? ⟨w2.heap.size, 8, none⟩ = some (.string U2) := C1.cell 8 rfl
  have z := fun i v h => B1.cell i (v := v) h
  have zf := B1.frozen
  have z0 := z 0 _ rfl
  have z1 := z 1 _ rfl
  have z2 := z 2 _ rfl
  have z3 := z 3 _ rfl
  have z4 := z 4 _ rfl
  have z5 := z 5 _ rfl
  have z6 := z 6 _ rfl
  have z7 := z 7 _ rfl
  have z8 := z 8 _ rfl
  have f0 := zf 0
  have f1 := zf 1
  have f2 := zf 2
  have f3 := zf 3
  have f4 := zf 4
  have f5 := zf 5
  have f6 := zf 6
  have f7 := zf 7
  have f8 := zf 8
  have HB1 : Hid (Bk _ w.heap.size 32 zero9) := B1
  clear B1 z zf
  go_wp2_with fail
  refine (c3 _).mono ?_
  rintro e w4 ⟨rfl, rfl⟩
  clear c3
  go_wp2
  refine bodyPost_ret (results_c1 rfl _ _ w.heap.size 32 _ _ rfl (Bk.all9 HB1.out _ _ _ _ _ _ _ _ _) Tryz.underlying32 rfl (by kernel_rfl)) rfl ⟨rfl, ?_⟩
  exact (Tn.below hbB (Tn.all9 ..) (Nat.le_refl _) (Nat.le_refl _))
set_option maxHeartbeats 1600000 in
set_option maxRecDepth 100000 in
theorem cut18_open (s : ByteArray) (k f : Nat) (hf : f < s.size) (kk M U3 U5 : Int) (U4 : Bool) (wd U1 U2 : ByteArray) (w : World) (c0 : ∀ w, Calls Tryz.prog 48 #[.string s, .int .i64 (k : Int), .int .i64 1] w fun e w' => e = .returned (.int .i64 (f : Int)) ∧ w' = w)
    (c1 : ∀ w, Calls Tryz.prog 49 #[.string s, .int .i64 (f : Int)] w fun e w' => e = .returned (.tuple #[.agg #[.int .i64 kk, .int .i64 (f : Int), .int .i64 M, .string wd, .int .i64 U3, .bool U4, .string U1, .int .i64 U5, .string U2], .bool true]) ∧ Below w.heap.size w w')
    (c2 : ∀ w, Calls Tryz.prog 27 #[.agg #[.int .i64 kk, .int .i64 (f : Int), .int .i64 M, .string wd, .int .i64 U3, .bool U4, .string U1, .int .i64 U5, .string U2]] w fun e w' => e = .returned (.bool true) ∧ Below w.heap.size w w')
    (c3 : ∀ w, Calls Tryz.prog 50 #[.string s, .int .i64 M] w fun e w' => e = .returned (.bool false) ∧ w' = w) :
    Calls Tryz.prog 37 #[.string s, .int .i64 (k : Int)] w fun e w' => e = .returned (.tuple #[.agg zero9, .int .i64 M]) ∧ Below w.heap.size w w' := by
  unfold zero9
  have hne : ((f : Int) == (s.size : Int)) = false := by rw [beq_eq_false_iff_ne]; omega
  have b0 := Bk.new w 32 zero9
  have HB : Hid (Bk (w.alloc (.cells zero9 32)) w.heap.size 32 zero9) := b0
  have hb0 : Below w.heap.size w (w.alloc (.cells zero9 32)) := (Below.refl _ w).alloc (Nat.le_refl _) _
  clear b0
  go_enter Tryz.func37, Tryz.ntmps37
  go_wp2_with fail
  refine (c0 _).mono ?_
  rintro e w1 ⟨rfl, rfl⟩
  go_wp2_with fail
  refine (c1 _).mono ?_
  rintro e w2 ⟨rfl, hb2⟩
  have hbB := hb0.trans (hb2.mono hb0.size)
  have B1 := HB.out.later hb2
  have hlt : w.heap.size < w2.heap.size := B1.lt
  clear hb2 hb0 HB c0 c1
  have ne1 : ¬ w.heap.size = w2.heap.size := by omega
  have ne2 : ¬ w2.heap.size = w.heap.size := by omega
  go_wp2_with fail
  refine (c2 _).mono ?_
  rintro e w3 ⟨rfl, hb3⟩
  have hbW : Below w2.heap.size w2 (w2.alloc (.cells #[.int .i64 kk, .int .i64 (f : Int), .int .i64 M, .string wd, .int .i64 U3, .bool U4, .string U1, .int .i64 U5, .string U2] 32)) := (Below.refl _ w2).alloc (Nat.le_refl _) _
  have C1 := Bk.later (Bk.new w2 32 #[.int .i64 kk, .int .i64 (f : Int), .int .i64 M, .string wd, .int .i64 U3, .bool U4, .string U1, .int .i64 U5, .string U2]) hb3
  have B1 := (B1.later hbW).later hb3
  have hbA := hbB.trans (hbW.mono hbB.size)
  have hbB := hbA.trans (hb3.mono hbA.size)
  clear hbA hbW hb3 c2
  have y0 : w3.cell? ⟨w2.heap.size, 0, none⟩ = some (.int .i64 kk) := C1.cell 0 rfl
  have y1 : w3.cell? ⟨w2.heap.size, 1, none⟩ = some (.int .i64 (f : Int)) := C1.cell 1 rfl
  have y2 : w3.cell? ⟨w2.heap.size, 2, none⟩ = some (.int .i64 M) := C1.cell 2 rfl
  have y3 : w3.cell? ⟨w2.heap.size, 3, none⟩ = some (.string wd) := C1.cell 3 rfl
  have y4 : w3.cell? ⟨w2.heap.size, 4, none⟩ = some (.int .i64 U3) := C1.cell 4 rfl
  have y5 : w3.cell? ⟨w2.heap.size, 5, none⟩ = some (.bool U4) := C1.cell 5 rfl
  have y6 : w3.cell? ⟨w2.heap.size, 6, none⟩ = some (.string U1) := C1.cell 6 rfl
  have y7 : w3.cell? ⟨w2.heap.size, 7, none⟩ = some (.int .i64 U5) := C1.cell 7 rfl
  have y8 : w3.cell? ⟨w2.heap.size, 8, none⟩ = some (.string U2) := C1.cell 8 rfl
  have z := fun i v h => B1.cell i (v := v) h
  have zf := B1.frozen
  have z0 := z 0 _ rfl
  have z1 := z 1 _ rfl
  have z2 := z 2 _ rfl
  have z3 := z 3 _ rfl
  have z4 := z 4 _ rfl
  have z5 := z 5 _ rfl
  have z6 := z 6 _ rfl
  have z7 := z 7 _ rfl
  have z8 := z 8 _ rfl
  have f0 := zf 0
  have f1 := zf 1
  have f2 := zf 2
  have f3 := zf 3
  have f4 := zf 4
  have f5 := zf 5
  have f6 := zf 6
  have f7 := zf 7
  have f8 := zf 8
  have HB1 : Hid (Bk _ w.heap.size 32 zero9) := B1
  clear B1 z zf
  go_wp2_with fail
  refine (c3 _).mono ?_
  rintro e w4 ⟨rfl, rfl⟩
  clear c3
  go_wp2_with fail
  go_region
  all_goals
    go_wp2
    refine bodyPost_ret (results_c1 rfl _ _ w.heap.size 32 _ _ rfl (Bk.drew9 (Bk.all9 HB1.out _ _ _ _ _ _ _ _ _)) Tryz.underlying32 rfl (by kernel_rfl)) rfl ⟨rfl, ?_⟩
    exact below_drew9 (Tn.below hbB (Tn.all9 ..) (Nat.le_refl _) (Nat.le_refl _))
end Go.Proofs.YtfgpjplfplbcdaaGreatDoor

/- Layer 18: cut, in all. -/
namespace Go.Proofs.YtfgpjplfplbcdaaGreatDoor
open Go.ChangeShapes Go.WideShapes Go.ChangeAt Go.RowKit
open Lx Tk Go.Shelf
set_option linter.unusedVariables false
namespace Tk
/-- the cells of a cut at a place; the wrong place -/
def ctA (k : Nat) (c : Ct) : Array Value := if c.kind = -1 then zero9 else tkA c.kind ((k + c.fr : Nat) : Int) ((k + c.to : Nat) : Int) c.word c.num
def ctW (k : Nat) (c : Ct) : Int := if c.kind = -1 then ((k + c.fr : Nat) : Int) else -1
theorem cutR_cons {r : B} {c : UInt8} {q : B} (h : r.dropWhile isBl = c :: q) : cutR r = (tokB c q).move (r.takeWhile isBl).length := by
  unfold cutR
  rw [h]
theorem cutR_nil {r : B} (h : r.dropWhile isBl = []) : cutR r = ⟨0, r.length, r.length, [], nmZ0⟩ := by
  unfold cutR
  rw [h]
theorem kd_bl {c : UInt8} (h : isBl c = false) : kd c ≠ 1 := by
  have := all_bytes (p := fun c => isBl c || !(kd c == 1)) (by kernel_rfl) c
  rw [h] at this
  simpa using this
theorem kd_lt {c : UInt8} (h : kd c = 2) : isLt c = true := by
  have := all_bytes (p := fun c => !(kd c == 2) || isLt c) (by kernel_rfl) c
  rw [h] at this
  simpa using this
theorem kd_mark {c : UInt8} {k : Int} (h : kd c = k + 1) (hk : k = 2 ∨ k = 3 ∨ k = 4) (q : B) : tokB c q = ⟨k, 0, 1, [], nmZ0⟩ := by
  rcases hk with rfl | rfl | rfl
  · have e : c = 40 := by
      have := all_bytes (p := fun c => !(kd c == 3) || c == 40) (by kernel_rfl) c
      rw [show kd c = 3 from h] at this
      simpa using this
    subst e; rfl
  · have e : c = 41 := by
      have := all_bytes (p := fun c => !(kd c == 4) || c == 41) (by kernel_rfl) c
      rw [show kd c = 4 from h] at this
      simpa using this
    subst e; rfl
  · have e : c = 44 := by
      have := all_bytes (p := fun c => !(kd c == 5) || c == 44) (by kernel_rfl) c
      rw [show kd c = 5 from h] at this
      simpa using this
    subst e; rfl
theorem tokB_lt {c : UInt8} (h : isLt c = true) (q : B) : tokB c q = shutC (c :: q) ⟨1, 0, ((c :: q).takeWhile isLt).length, ((c :: q).takeWhile isLt).map upB, nmZ0⟩ := by
  unfold tokB
  rw [if_pos h]
theorem tokB_num {c : UInt8} (h : kd c = 0) (q : B) : tokB c q = if (longestL ((c :: q).take 65536)).kind = 0 then Ct.bad 0 else shutC (c :: q) ⟨5, 0, (longestL ((c :: q).take 65536)).stop, [], numOf (longestL ((c :: q).take 65536))⟩ := by
  have := all_bytes (p := fun c => !(kd c == 0) || (!isLt c && !(c == 40) && !(c == 41) && !(c == 44))) (by kernel_rfl) c
  rw [h] at this
  simp at this
  unfold tokB
  rw [if_neg (by simp [this.1.1.1]), if_neg this.1.1.2, if_neg this.1.2, if_neg this.2]
theorem ctA_bad {k n j : Nat} : ctA k ((Ct.bad j).move n) = zero9 := if_pos rfl
theorem ctW_bad {k n j : Nat} : ctW k ((Ct.bad j).move n) = ((k + n + j : Nat) : Int) := by
  show ((k + (n + j) : Nat) : Int) = _
  rw [Nat.add_assoc]
theorem ctA_ok {k n : Nat} {c : Ct} (h : c.kind ≠ -1) (h0 : c.fr = 0) : ctA k (c.move n) = tkA c.kind ((k + n : Nat) : Int) ((k + n + c.to : Nat) : Int) c.word c.num := by
  unfold ctA Ct.move
  rw [if_neg h, h0, Nat.add_zero, Nat.add_assoc]
theorem ctW_ok {k n : Nat} {c : Ct} (h : c.kind ≠ -1) : ctW k (c.move n) = -1 := if_neg h
end Tk
theorem cut18_any (s : ByteArray) (k : Nat) (hs : s.size ≤ 1000000000) (hk : k ≤ s.size) (w : World) :
    Calls Tryz.prog 37 #[.string s, .int .i64 (k : Int)] w fun e w' => e = .returned (.tuple #[.agg (ctA k (cutR (s.data.toList.drop k))), .int .i64 (ctW k (cutR (s.data.toList.drop k)))]) ∧ Below w.heap.size w w' := by
  have c0 := behind18_any s k 1 hs hk
  rw [isK_bl] at c0
  have hl : (s.data.toList.drop k).length = s.size - k := by rw [List.length_drop, ← Lib.size_eq]
  have hd := dk_len isBl (s.data.toList.drop k)
  have hdr : (s.data.toList.drop k).dropWhile isBl = s.data.toList.drop (k + ((s.data.toList.drop k).takeWhile isBl).length) := by
    rw [← drop_dk, List.drop_drop]
  generalize hn : ((s.data.toList.drop k).takeWhile isBl).length = n at *
  by_cases hf : k + n < s.size
  · have hc := drop_cons_of hf
    have hcut : cutR (s.data.toList.drop k) = (tokB (s[k + n]'hf) (s.data.toList.drop (k + n + 1))).move n := by
      rw [cutR_cons (hdr.trans hc), hn]
    have hb := dk_head (hdr.trans hc)
    have hne1 := kd_bl hb
    rw [hcut]
    rcases kd_cases (s[k + n]'hf) with h0 | h1 | h2 | h3
    · have c1 := tokenAt18_num s (k + n) hs hf h0
      rw [tokB_num h0, ← hc]
      have hok : scOk s ((k + n : Nat) : Int) ↔ (longestL ((s.data.toList.drop (k + n)).take 65536)).kind ≠ 0 := by
        unfold scOk scanP
        rw [Int.toNat_natCast]
        exact ⟨fun h => h.2.2, fun h => ⟨by omega, by omega, h⟩⟩
      by_cases hz : (longestL ((s.data.toList.drop (k + n)).take 65536)).kind = 0
      · rw [if_pos hz]
        have hno : ¬ scOk s ((k + n : Nat) : Int) := fun h => (hok.mp h) hz
        have e4 : scC s ((k + n : Nat) : Int) = 90 := by unfold scC; rw [if_neg hno]
        rw [e4] at c1
        rw [ctA_bad, ctW_bad]
        exact cut18_none s k (k + n) hf _ _ _ _ _ _ _ _ w c0 c1
      · rw [if_neg hz]
        have hyes : scOk s ((k + n : Nat) : Int) := hok.mpr hz
        have e1 : scT s ((k + n : Nat) : Int) = ((k + n + (longestL ((s.data.toList.drop (k + n)).take 65536)).stop : Nat) : Int) := by unfold scT scanP; rw [if_pos hyes, Int.toNat_natCast]; omega
        have e2 : scN s ((k + n : Nat) : Int) = numOf (longestL ((s.data.toList.drop (k + n)).take 65536)) := by unfold scN scanP; rw [if_pos hyes, Int.toNat_natCast]
        have e4 : scC s ((k + n : Nat) : Int) = 0 := by unfold scC; rw [if_pos hyes]
        rw [e1, e2, e4] at c1
        have hle := longest_le ((s.data.toList.drop (k + n)).take 65536)
        have hl2 : ((s.data.toList.drop (k + n)).take 65536).length ≤ s.size - (k + n) := by rw [List.length_take, List.length_drop, ← Lib.size_eq]; omega
        generalize (longestL ((s.data.toList.drop (k + n)).take 65536)).stop = M at *
        generalize numOf (longestL ((s.data.toList.drop (k + n)).take 65536)) = NN at *
        have c2 := needsGap18_any 5 ((k + n : Nat) : Int) ((k + n + M : Nat) : Int) [] NN
        have c3 := endsToken18_any s (k + n + M) (by omega)
        have hsh : (s.data.toList.drop (k + n)).drop M = s.data.toList.drop (k + n + M) := by rw [List.drop_drop]
        unfold shutC
        show Calls _ _ _ _ fun e w' => e = .returned (.tuple #[.agg (ctA k ((if shutB ((s.data.toList.drop (k + n)).drop M) then _ else _ : Ct).move n)), .int .i64 (ctW k ((if shutB ((s.data.toList.drop (k + n)).drop M) then _ else _ : Ct).move n))]) ∧ _
        rw [hsh]
        cases hb2 : shutB (s.data.toList.drop (k + n + M))
        · rw [hb2] at c3
          rw [if_neg (by simp), ctA_bad, ctW_bad]
          exact cut18_open s k (k + n) hf _ _ _ _ _ _ _ _ w c0 c1 c2 c3
        · rw [hb2] at c3
          rw [if_pos rfl, ctA_ok (by show (5 : Int) ≠ -1; omega) rfl, ctW_ok (by show (5 : Int) ≠ -1; omega)]
          exact cut18_shut s k (k + n) hf _ _ _ _ _ _ _ _ w c0 c1 c2 c3
    · exact absurd h1 hne1
    · have c1 := tokenAt18_word s (k + n) hs hf h2
      rw [tokB_lt (kd_lt h2), ← hc]
      have hle := dk_len isLt (s.data.toList.drop (k + n))
      have hl2 : (s.data.toList.drop (k + n)).length = s.size - (k + n) := by rw [List.length_drop, ← Lib.size_eq]
      generalize (s.data.toList.drop (k + n)).takeWhile isLt = L at *
      have c2 := needsGap18_any 1 ((k + n : Nat) : Int) ((k + n + L.length : Nat) : Int) (L.map upB) nmZ0
      have c3 := endsToken18_any s (k + n + L.length) (by omega)
      have hsh : (s.data.toList.drop (k + n)).drop L.length = s.data.toList.drop (k + n + L.length) := by rw [List.drop_drop]
      unfold shutC
      show Calls _ _ _ _ fun e w' => e = .returned (.tuple #[.agg (ctA k ((if shutB ((s.data.toList.drop (k + n)).drop L.length) then _ else _ : Ct).move n)), .int .i64 (ctW k ((if shutB ((s.data.toList.drop (k + n)).drop L.length) then _ else _ : Ct).move n))]) ∧ _
      rw [hsh]
      cases hb2 : shutB (s.data.toList.drop (k + n + L.length))
      · rw [hb2] at c3
        rw [if_neg (by simp), ctA_bad, ctW_bad]
        exact cut18_open s k (k + n) hf _ _ _ _ _ _ _ _ w c0 c1 c2 c3
      · rw [hb2] at c3
        rw [if_pos rfl, ctA_ok (by show (1 : Int) ≠ -1; omega) rfl, ctW_ok (by show (1 : Int) ≠ -1; omega)]
        exact cut18_shut s k (k + n) hf _ _ _ _ _ _ _ _ w c0 c1 c2 c3
    · obtain ⟨kn, hkn, hk3⟩ : ∃ kn : Int, (kn = 2 ∨ kn = 3 ∨ kn = 4) ∧ kd (s[k + n]'hf) = kn + 1 := by
        rcases h3 with h | h | h
        · exact ⟨2, by omega, by omega⟩
        · exact ⟨3, by omega, by omega⟩
        · exact ⟨4, by omega, by omega⟩
      have c1 := tokenAt18_mark s (k + n) hs hf kn hk3 hkn
      have c2 := needsGap18_any kn ((k + n : Nat) : Int) ((k + n + 1 : Nat) : Int) [] nmZ0
      have hq : (kn == 1 || kn == 5) = false := by rcases hkn with rfl | rfl | rfl <;> rfl
      rw [hq] at c2
      rw [kd_mark hk3 hkn, ctA_ok (by show kn ≠ -1; omega) rfl, ctW_ok (by show kn ≠ -1; omega)]
      exact cut18_mark s k (k + n) hf _ _ _ _ _ _ _ _ w c0 c1 c2
  · have hfe : k + n = s.size := by omega
    have hnil := hdr.trans (drop_nil_of (s := s) (k := k + n) (by omega))
    rw [cutR_nil hnil, hl]
    rw [hfe] at c0
    have e : ctA k ⟨0, s.size - k, s.size - k, [], nmZ0⟩ = tkA 0 s.size s.size [] nmZ0 := by
      unfold ctA
      rw [if_neg (by show (0 : Int) ≠ -1; omega)]
      show tkA 0 ((k + (s.size - k) : Nat) : Int) ((k + (s.size - k) : Nat) : Int) [] nmZ0 = _
      rw [show k + (s.size - k) = s.size from by omega]
    rw [e, show ctW k ⟨0, s.size - k, s.size - k, [], nmZ0⟩ = -1 from rfl]
    exact cut18_end s k w c0
end Go.Proofs.YtfgpjplfplbcdaaGreatDoor

/- Layer 18: the reader's step. -/
namespace Go.Proofs.YtfgpjplfplbcdaaGreatDoor
open Go.ChangeShapes Go.WideShapes Go.ChangeAt Go.RowKit
open Lx Tk Go.Shelf
set_option linter.unusedVariables false
theorem set10 (x0 x1 x2 x3 x4 x5 x6 x7 x8 x9 x10 x11 y1 y2 y3 y4 y5 y6 y7 y8 y9 y10 : Value) : (((((((((#[x0, x1, x2, x3, x4, x5, x6, x7, x8, x9, x10, x11].setIfInBounds 1 y1).setIfInBounds 2 y2).setIfInBounds 3 y3).setIfInBounds 4 y4).setIfInBounds 5 y5).setIfInBounds 6 y6).setIfInBounds 7 y7).setIfInBounds 8 y8).setIfInBounds 9 y9).setIfInBounds 10 y10 = #[x0, y1, y2, y3, y4, y5, y6, y7, y8, y9, y10, x11] := by kernel_rfl
theorem Lx.Bk.all10 {w : World} {g : Nat} {t : TypeId} {x0 x1 x2 x3 x4 x5 x6 x7 x8 x9 x10 x11 : Value} (h : Bk w g t #[x0, x1, x2, x3, x4, x5, x6, x7, x8, x9, x10, x11]) (y1 y2 y3 y4 y5 y6 y7 y8 y9 y10 : Value) : Bk ((((((((((w.setCell ⟨g, 1, none⟩ y1).setCell ⟨g, 2, none⟩ y2).setCell ⟨g, 3, none⟩ y3).setCell ⟨g, 4, none⟩ y4).setCell ⟨g, 5, none⟩ y5).setCell ⟨g, 6, none⟩ y6).setCell ⟨g, 7, none⟩ y7).setCell ⟨g, 8, none⟩ y8).setCell ⟨g, 9, none⟩ y9).setCell ⟨g, 10, none⟩ y10) g t #[x0, y1, y2, y3, y4, y5, y6, y7, y8, y9, y10, x11] := by
  have := (Bk.set (Bk.set (Bk.set (Bk.set (Bk.set (Bk.set (Bk.set (Bk.set (Bk.set (Bk.set h 1 y1) 2 y2) 3 y3) 4 y4) 5 y5) 6 y6) 7 y7) 8 y8) 9 y9) 10 y10)
  rw [set10] at this
  exact this
theorem Lx.Tn.all10 (w : World) (g : Nat) (y1 y2 y3 y4 y5 y6 y7 y8 y9 y10 : Value) : Tn g w ((((((((((w.setCell ⟨g, 1, none⟩ y1).setCell ⟨g, 2, none⟩ y2).setCell ⟨g, 3, none⟩ y3).setCell ⟨g, 4, none⟩ y4).setCell ⟨g, 5, none⟩ y5).setCell ⟨g, 6, none⟩ y6).setCell ⟨g, 7, none⟩ y7).setCell ⟨g, 8, none⟩ y8).setCell ⟨g, 9, none⟩ y9).setCell ⟨g, 10, none⟩ y10) := (((((((((((Tn.refl g w).set 1 _).set 2 _).set 3 _).set 4 _).set 5 _).set 6 _).set 7 _).set 8 _).set 9 _).set 10 _)
theorem below_drewA (w : World) : Below w.heap.size w w.drew := ⟨rfl, rfl, rfl, Nat.le_refl _, fun _ _ => rfl⟩
theorem Lx.Tn.of_below {g : Nat} {a w : World} (h : Below a.heap.size a w) : Tn g a w := ⟨h.os, h.tape, h.output, h.size, fun k hk _ => h.block k hk⟩
set_option maxRecDepth 100000 in
theorem faultAt18_any (p : Int) (w : World) :
    Calls Tryz.prog 24 #[.int .i64 p] w fun e w' => e = .returned (.pointer (some ⟨w.heap.size, 0, none⟩)) ∧ w' = w.alloc (.cells #[.int .i64 p, .iface 37 (.int .i64 180)] 58) := by
  go_enter Tryz.func24, Tryz.ntmps24
  go_wp2
  go_ret
  exact ⟨rfl, rfl⟩
set_option maxHeartbeats 3200000 in
set_option maxRecDepth 100000 in
theorem step18_ok {w : World} {g K : Nat} {s : ByteArray} {a1 a2 a5 a8 wr : Int} {a6 : Bool} {a4 a7 a9 : ByteArray} {F : Value} (hB : Bk w g 54 #[.string s, .int .i64 a1, .int .i64 a2, .int .i64 (K : Int), .string a4, .int .i64 a5, .bool a6, .string a7, .int .i64 a8, .string a9, .int .i64 wr, F]) {b1 b2 b3 b5 b8 : Int} {b6 : Bool} {b4 b7 b9 : ByteArray}
    (c0 : ∀ w, Calls Tryz.prog 37 #[.string s, .int .i64 (K : Int)] w fun e w' => e = .returned (.tuple #[.agg #[.int .i64 b1, .int .i64 b2, .int .i64 b3, .string b4, .int .i64 b5, .bool b6, .string b7, .int .i64 b8, .string b9], .int .i64 (-1)]) ∧ Below w.heap.size w w') :
    Calls Tryz.prog 22 #[.pointer (some ⟨g, 0, none⟩)] w fun e w' => e = .returned (.tuple #[]) ∧ Bk w' g 54 #[.string s, .int .i64 b1, .int .i64 b2, .int .i64 b3, .string b4, .int .i64 b5, .bool b6, .string b7, .int .i64 b8, .string b9, .int .i64 (-1), F] ∧ Tn g w w' := by
  have p0 : w.cell? ⟨g, 0, none⟩ = some (.string s) := hB.cell 0 rfl
  have p3 : w.cell? ⟨g, 3, none⟩ = some (.int .i64 (K : Int)) := hB.cell 3 rfl
  have hcl : ∀ wX, Below w.heap.size w wX → wX.frozen? ⟨g, 1, none⟩ = false ∧ wX.frozen? ⟨g, 2, none⟩ = false ∧ wX.frozen? ⟨g, 3, none⟩ = false ∧ wX.frozen? ⟨g, 4, none⟩ = false ∧ wX.frozen? ⟨g, 5, none⟩ = false ∧ wX.frozen? ⟨g, 6, none⟩ = false ∧ wX.frozen? ⟨g, 7, none⟩ = false ∧ wX.frozen? ⟨g, 8, none⟩ = false ∧ wX.frozen? ⟨g, 9, none⟩ = false ∧ wX.frozen? ⟨g, 10, none⟩ = false ∧ wX.cell? ⟨g, 1, none⟩ = some (.int .i64 a1) ∧ wX.cell? ⟨g, 2, none⟩ = some (.int .i64 a2) ∧ wX.cell? ⟨g, 3, none⟩ = some (.int .i64 (K : Int)) ∧ wX.cell? ⟨g, 4, none⟩ = some (.string a4) ∧ wX.cell? ⟨g, 5, none⟩ = some (.int .i64 a5) ∧ wX.cell? ⟨g, 6, none⟩ = some (.bool a6) ∧ wX.cell? ⟨g, 7, none⟩ = some (.string a7) ∧ wX.cell? ⟨g, 8, none⟩ = some (.int .i64 a8) ∧ wX.cell? ⟨g, 9, none⟩ = some (.string a9) ∧ wX.cell? ⟨g, 10, none⟩ = some (.int .i64 wr) := fun wX h => ⟨(hB.later h).frozen 1, (hB.later h).frozen 2, (hB.later h).frozen 3, (hB.later h).frozen 4, (hB.later h).frozen 5, (hB.later h).frozen 6, (hB.later h).frozen 7, (hB.later h).frozen 8, (hB.later h).frozen 9, (hB.later h).frozen 10, (hB.later h).cell 1 rfl, (hB.later h).cell 2 rfl, (hB.later h).cell 3 rfl, (hB.later h).cell 4 rfl, (hB.later h).cell 5 rfl, (hB.later h).cell 6 rfl, (hB.later h).cell 7 rfl, (hB.later h).cell 8 rfl, (hB.later h).cell 9 rfl, (hB.later h).cell 10 rfl⟩
  have HB : Hid (Bk w g 54 #[.string s, .int .i64 a1, .int .i64 a2, .int .i64 (K : Int), .string a4, .int .i64 a5, .bool a6, .string a7, .int .i64 a8, .string a9, .int .i64 wr, F]) := hB
  clear hB
  go_enter Tryz.func22, Tryz.ntmps22
  go_wp2_with fail
  go_region_with (go_at_call 37; refine (c0 _).mono ?_; rintro e wX ⟨rfl, hbX⟩; obtain ⟨f1, f2, f3, f4, f5, f6, f7, f8, f9, f10, q1, q2, q3, q4, q5, q6, q7, q8, q9, q10⟩ := hcl wX (by first | exact hbX | exact (below_drewN (Below.refl _ w) _).trans (hbX.mono (Nat.le_refl _))))
  all_goals
    have hb0 : Below w.heap.size w wX := by first | exact hbX | exact (below_drewA w).trans (hbX.mono (Nat.le_refl _))
    have HB2 : Hid _ := Bk.all10 (HB.out.later hb0) (.int .i64 b1) (.int .i64 b2) (.int .i64 b3) (.string b4) (.int .i64 b5) (.bool b6) (.string b7) (.int .i64 b8) (.string b9) (.int .i64 (-1))
    have HT2 : Hid _ := (Tn.of_below hb0).trans (Tn.all10 wX g (.int .i64 b1) (.int .i64 b2) (.int .i64 b3) (.string b4) (.int .i64 b5) (.bool b6) (.string b7) (.int .i64 b8) (.string b9) (.int .i64 (-1)))
    go_wp2
    go_end0
    exact ⟨rfl, HB2.out, HT2.out⟩
set_option maxHeartbeats 3200000 in
set_option maxRecDepth 100000 in
theorem step18_bad {w : World} {g K : Nat} {s : ByteArray} {a1 a2 a5 a8 wr : Int} {a6 : Bool} {a4 a7 a9 : ByteArray} {F : Value} (hB : Bk w g 54 #[.string s, .int .i64 a1, .int .i64 a2, .int .i64 (K : Int), .string a4, .int .i64 a5, .bool a6, .string a7, .int .i64 a8, .string a9, .int .i64 wr, F]) {b1 b2 b3 b5 b8 : Int} {b6 : Bool} {b4 b7 b9 : ByteArray} {P : Int} (hP : P ≠ -1)
    (c0 : ∀ w, Calls Tryz.prog 37 #[.string s, .int .i64 (K : Int)] w fun e w' => e = .returned (.tuple #[.agg #[.int .i64 b1, .int .i64 b2, .int .i64 b3, .string b4, .int .i64 b5, .bool b6, .string b7, .int .i64 b8, .string b9], .int .i64 P]) ∧ Below w.heap.size w w') :
    Calls Tryz.prog 22 #[.pointer (some ⟨g, 0, none⟩)] w fun e w' => ∃ q, e = .returned (.tuple #[]) ∧ Bk w' g 54 #[.string s, .int .i64 b1, .int .i64 b2, .int .i64 b3, .string b4, .int .i64 b5, .bool b6, .string b7, .int .i64 b8, .string b9, .int .i64 P, .pointer (some ⟨q, 0, none⟩)] ∧ Bk w' q 58 #[.int .i64 P, .iface 37 (.int .i64 180)] ∧ w.heap.size ≤ q ∧ Tn g w w' := by
  have dP : (P != -1) = true := by simpa using hP
  have c1 := faultAt18_any P
  have p0 : w.cell? ⟨g, 0, none⟩ = some (.string s) := hB.cell 0 rfl
  have p3 : w.cell? ⟨g, 3, none⟩ = some (.int .i64 (K : Int)) := hB.cell 3 rfl
  have hcl : ∀ wX, Below w.heap.size w wX → wX.frozen? ⟨g, 1, none⟩ = false ∧ wX.frozen? ⟨g, 2, none⟩ = false ∧ wX.frozen? ⟨g, 3, none⟩ = false ∧ wX.frozen? ⟨g, 4, none⟩ = false ∧ wX.frozen? ⟨g, 5, none⟩ = false ∧ wX.frozen? ⟨g, 6, none⟩ = false ∧ wX.frozen? ⟨g, 7, none⟩ = false ∧ wX.frozen? ⟨g, 8, none⟩ = false ∧ wX.frozen? ⟨g, 9, none⟩ = false ∧ wX.frozen? ⟨g, 10, none⟩ = false ∧ wX.cell? ⟨g, 1, none⟩ = some (.int .i64 a1) ∧ wX.cell? ⟨g, 2, none⟩ = some (.int .i64 a2) ∧ wX.cell? ⟨g, 3, none⟩ = some (.int .i64 (K : Int)) ∧ wX.cell? ⟨g, 4, none⟩ = some (.string a4) ∧ wX.cell? ⟨g, 5, none⟩ = some (.int .i64 a5) ∧ wX.cell? ⟨g, 6, none⟩ = some (.bool a6) ∧ wX.cell? ⟨g, 7, none⟩ = some (.string a7) ∧ wX.cell? ⟨g, 8, none⟩ = some (.int .i64 a8) ∧ wX.cell? ⟨g, 9, none⟩ = some (.string a9) ∧ wX.cell? ⟨g, 10, none⟩ = some (.int .i64 wr) := fun wX h => ⟨(hB.later h).frozen 1, (hB.later h).frozen 2, (hB.later h).frozen 3, (hB.later h).frozen 4, (hB.later h).frozen 5, (hB.later h).frozen 6, (hB.later h).frozen 7, (hB.later h).frozen 8, (hB.later h).frozen 9, (hB.later h).frozen 10, (hB.later h).cell 1 rfl, (hB.later h).cell 2 rfl, (hB.later h).cell 3 rfl, (hB.later h).cell 4 rfl, (hB.later h).cell 5 rfl, (hB.later h).cell 6 rfl, (hB.later h).cell 7 rfl, (hB.later h).cell 8 rfl, (hB.later h).cell 9 rfl, (hB.later h).cell 10 rfl⟩
  have HB : Hid (Bk w g 54 #[.string s, .int .i64 a1, .int .i64 a2, .int .i64 (K : Int), .string a4, .int .i64 a5, .bool a6, .string a7, .int .i64 a8, .string a9, .int .i64 wr, F]) := hB
  have hgl : g < w.heap.size := hB.lt
  clear hB hP
  go_enter Tryz.func22, Tryz.ntmps22
  go_wp2_with fail
  go_region_with (go_at_call 37; refine (c0 _).mono ?_; rintro e wX ⟨rfl, hbX⟩; obtain ⟨f1, f2, f3, f4, f5, f6, f7, f8, f9, f10, q1, q2, q3, q4, q5, q6, q7, q8, q9, q10⟩ := hcl wX (by first | exact hbX | exact (below_drewN (Below.refl _ w) _).trans (hbX.mono (Nat.le_refl _))))
  all_goals
    have hb0 : Below w.heap.size w wX := by first | exact hbX | exact (below_drewA w).trans (hbX.mono (Nat.le_refl _))
    have B2 := Bk.all10 (HB.out.later hb0) (.int .i64 b1) (.int .i64 b2) (.int .i64 b3) (.string b4) (.int .i64 b5) (.bool b6) (.string b7) (.int .i64 b8) (.string b9) (.int .i64 P)
    have HT2 : Hid _ := (Tn.of_below hb0).trans (Tn.all10 wX g (.int .i64 b1) (.int .i64 b2) (.int .i64 b3) (.string b4) (.int .i64 b5) (.bool b6) (.string b7) (.int .i64 b8) (.string b9) (.int .i64 P))
    clear q1 q2 q3 q4 q5 q6 q7 q8 q9 q10 f1 f2 f3 f4 f5 f6 f7 f8 f9 f10 p0 p3
    generalize (((((((((wX.setCell ⟨g, 1, none⟩ (.int .i64 b1)).setCell ⟨g, 2, none⟩ (.int .i64 b2)).setCell ⟨g, 3, none⟩ (.int .i64 b3)).setCell ⟨g, 4, none⟩ (.string b4)).setCell ⟨g, 5, none⟩ (.int .i64 b5)).setCell ⟨g, 6, none⟩ (.bool b6)).setCell ⟨g, 7, none⟩ (.string b7)).setCell ⟨g, 8, none⟩ (.int .i64 b8)).setCell ⟨g, 9, none⟩ (.string b9)).setCell ⟨g, 10, none⟩ (.int .i64 P) = W at *
    have p10 : W.cell? ⟨g, 10, none⟩ = some (.int .i64 P) := B2.cell 10 rfl
    have hb1 : Below W.heap.size W (W.alloc (.cells #[.int .i64 P, .iface 37 (.int .i64 180)] 58)) := (Below.refl _ W).alloc (Nat.le_refl _) _
    have B3 := B2.later hb1
    have p11 := B3.cell 11 rfl
    have f11 := B3.frozen 11
    have hgW := B2.lt
    have hsz := HT2.out.size
    have ne1 : ¬ g = W.heap.size := by omega
    have ne2 : ¬ W.heap.size = g := by omega
    have q11 : W.cell? ⟨g, 11, none⟩ = some F := B2.cell 11 rfl
    have g11 : W.frozen? ⟨g, 11, none⟩ = false := B2.frozen 11
    have HB2 : Hid (Bk W g 54 _) := B2
    clear B2 B3 hb1 p11 f11 c0 hcl
    go_wp2_with fail
    refine (c1 _).mono ?_
    rintro e w4 ⟨rfl, hw4⟩
    rw [hw4]
    go_wp2
    go_end0
    have hd := Bk.more (Bk.set HB2.out 11 (.pointer (some ⟨W.heap.size, 0, none⟩))) (.cells #[.int .i64 P, .iface 37 (.int .i64 180)] 58)
    have hsz2 : (W.setCell ⟨g, 11, none⟩ (.pointer (some ⟨W.heap.size, 0, none⟩))).heap.size = W.heap.size := by simp [World.setCell]
    have hn := Bk.new (W.setCell ⟨g, 11, none⟩ (.pointer (some ⟨W.heap.size, 0, none⟩))) 58 #[.int .i64 P, .iface 37 (.int .i64 180)]
    rw [hsz2] at hn
    refine ⟨W.heap.size, rfl, hd, hn, hsz, ?_⟩
    exact (HT2.out.set 11 _).trans (Tn.of_below ((Below.refl _ _).alloc (Nat.le_refl _) _))
end Go.Proofs.YtfgpjplfplbcdaaGreatDoor

/- Layer 18: the reader: Peek. -/
namespace Go.Proofs.YtfgpjplfplbcdaaGreatDoor
open Go.ChangeShapes Go.WideShapes Go.ChangeAt Go.RowKit
open Lx Tk Go.Shelf
set_option linter.unusedVariables false
namespace Tk
/-- the error's number of a cut -/
def ctC (c : Ct) : Int := if c.kind = -1 then 180 else 0
/-- a reader of s in memory, at place k -/
def RdS (w : World) (g : Nat) (s : ByteArray) (k : Nat) : Prop :=
  k ≤ s.size ∧ ∃ (b1 b2 b3 b5 b8 : Int) (b6 : Bool) (b4 b7 b9 : ByteArray) (F : Value), ctA k (cutR (s.data.toList.drop k)) = #[.int .i64 b1, .int .i64 b2, .int .i64 b3, .string b4, .int .i64 b5, .bool b6, .string b7, .int .i64 b8, .string b9] ∧ Bk w g 54 #[.string s, .int .i64 b1, .int .i64 b2, .int .i64 b3, .string b4, .int .i64 b5, .bool b6, .string b7, .int .i64 b8, .string b9, .int .i64 (ctW k (cutR (s.data.toList.drop k))), F] ∧
    ((cutR (s.data.toList.drop k)).kind = -1 → ∃ q, F = .pointer (some ⟨q, 0, none⟩) ∧ Bk w q 58 #[.int .i64 (ctW k (cutR (s.data.toList.drop k))), .iface 37 (.int .i64 180)])
theorem RdS.later {w w' : World} {g k : Nat} {s : ByteArray} (h : RdS w g s k) (hb : Below w.heap.size w w') : RdS w' g s k := by
  obtain ⟨h0, b1, b2, b3, b5, b8, b6, b4, b7, b9, F, h1, h2, h3⟩ := h
  refine ⟨h0, b1, b2, b3, b5, b8, b6, b4, b7, b9, F, h1, h2.later hb, fun e => ?_⟩
  obtain ⟨q, h4, h5⟩ := h3 e
  exact ⟨q, h4, h5.later hb⟩
theorem RdS.lt {w : World} {g k : Nat} {s : ByteArray} (h : RdS w g s k) : g < w.heap.size := by
  obtain ⟨h0, b1, b2, b3, b5, b8, b6, b4, b7, b9, F, h1, h2, h3⟩ := h
  exact h2.lt
/-- what Peek answers -/
def PeekR (w : World) (s : ByteArray) (k : Nat) (e : Ending) (w' : World) : Prop :=
  ∃ er, e = .returned (.tuple #[.agg (ctA k (cutR (s.data.toList.drop k))), er]) ∧ ErrIs w' er (ctC (cutR (s.data.toList.drop k))) (ctW k (cutR (s.data.toList.drop k))) ∧ Below w.heap.size w w'
end Tk
set_option maxHeartbeats 3200000 in
set_option maxRecDepth 100000 in
theorem peek18_ok (w : World) (g : Nat) (s : ByteArray) (b1 b2 b3 b5 b8 : Int) (b6 : Bool) (b4 b7 b9 : ByteArray) (F : Value) (hB : Bk w g 54 #[.string s, .int .i64 b1, .int .i64 b2, .int .i64 b3, .string b4, .int .i64 b5, .bool b6, .string b7, .int .i64 b8, .string b9, .int .i64 (-1), F]) :
    Calls Tryz.prog 10 #[.pointer (some ⟨g, 0, none⟩)] w fun e w' => e = .returned (.tuple #[.agg #[.int .i64 b1, .int .i64 b2, .int .i64 b3, .string b4, .int .i64 b5, .bool b6, .string b7, .int .i64 b8, .string b9], .nilIface]) ∧ Below w.heap.size w w' := by
  have p1 : w.cell? ⟨g, 1, none⟩ = some (.int .i64 b1) := hB.cell 1 rfl
  have p2 : w.cell? ⟨g, 2, none⟩ = some (.int .i64 b2) := hB.cell 2 rfl
  have p3 : w.cell? ⟨g, 3, none⟩ = some (.int .i64 b3) := hB.cell 3 rfl
  have p4 : w.cell? ⟨g, 4, none⟩ = some (.string b4) := hB.cell 4 rfl
  have p5 : w.cell? ⟨g, 5, none⟩ = some (.int .i64 b5) := hB.cell 5 rfl
  have p6 : w.cell? ⟨g, 6, none⟩ = some (.bool b6) := hB.cell 6 rfl
  have p7 : w.cell? ⟨g, 7, none⟩ = some (.string b7) := hB.cell 7 rfl
  have p8 : w.cell? ⟨g, 8, none⟩ = some (.int .i64 b8) := hB.cell 8 rfl
  have p9 : w.cell? ⟨g, 9, none⟩ = some (.string b9) := hB.cell 9 rfl
  have p10 : w.cell? ⟨g, 10, none⟩ = some (.int .i64 (-1)) := hB.cell 10 rfl
  have hgl : g < w.heap.size := hB.lt
  have ne1 : ¬ g = w.heap.size := by omega
  have ne2 : ¬ w.heap.size = g := by omega
  have b := Bk.new w 32 #[.int .i64 b1, .int .i64 b2, .int .i64 b3, .string b4, .int .i64 b5, .bool b6, .string b7, .int .i64 b8, .string b9]
  clear hB
  go_enter Tryz.func10, Tryz.ntmps10
  go_wp2
  refine bodyPost_ret (results_c1 rfl _ _ w.heap.size 32 _ _ rfl b Tryz.underlying32 rfl (by kernel_rfl)) rfl ⟨rfl, ?_⟩
  exact (Below.refl _ w).alloc (Nat.le_refl _) _
theorem guard18 (P : Int) (x y : Operand) (w : World) : Sem.run Tryz.prog (eqGuard .neq 58 x y (.agg #[.int .i64 P, .iface 37 (.int .i64 180)]) (.agg #[.int .i64 P, .iface 37 (.int .i64 180)])) w = .ok () w := by kernel_rfl
theorem same18 (w : World) : Sem.run Tryz.prog (Op.equalIn 9999 26 (.iface 37 (.int .i64 180)) (.iface 37 (.int .i64 180))) w = .ok true w := by kernel_rfl
set_option maxHeartbeats 3200000 in
set_option maxRecDepth 100000 in
theorem peek18_bad (w : World) (g q : Nat) (s : ByteArray) (b1 b2 b3 b5 b8 : Int) (b6 : Bool) (b4 b7 b9 : ByteArray) (P : Int) (hP : P ≠ -1) (hB : Bk w g 54 #[.string s, .int .i64 b1, .int .i64 b2, .int .i64 b3, .string b4, .int .i64 b5, .bool b6, .string b7, .int .i64 b8, .string b9, .int .i64 (P), .pointer (some ⟨q, 0, none⟩)]) (hQ : Bk w q 58 #[.int .i64 P, .iface 37 (.int .i64 180)]) :
    Calls Tryz.prog 10 #[.pointer (some ⟨g, 0, none⟩)] w fun e w' => e = .returned (.tuple #[.agg zero9, .iface 52 (.pointer (some ⟨q, 0, none⟩))]) ∧ Below w.heap.size w w' := by
  have dP : (P == -1) = false := by simpa using hP
  have c1 := faultAt18_any P
  have p10 : w.cell? ⟨g, 10, none⟩ = some (.int .i64 P) := hB.cell 10 rfl
  have p11 : w.cell? ⟨g, 11, none⟩ = some (.pointer (some ⟨q, 0, none⟩)) := hB.cell 11 rfl
  have q0 : w.cell? ⟨q, 0, none⟩ = some (.int .i64 P) := hQ.cell 0 rfl
  have q1 : w.cell? ⟨q, 1, none⟩ = some (.iface 37 (.int .i64 180)) := hQ.cell 1 rfl
  have hgl : g < w.heap.size := hB.lt
  have hql : q < w.heap.size := hQ.lt
  have b0 := Bk.new w 32 zero9
  have hb0 : Below w.heap.size w (w.alloc (.cells zero9 32)) := (Below.refl _ w).alloc (Nat.le_refl _) _
  obtain ⟨W, hW⟩ : ∃ W, W = (w.alloc (.cells zero9 32)).alloc (.cells #[.int .i64 P, .iface 37 (.int .i64 180)] 58) := ⟨_, rfl⟩
  have hb1 : Below (w.alloc (.cells zero9 32)).heap.size (w.alloc (.cells zero9 32)) W := by rw [hW]; exact (Below.refl _ _).alloc (Nat.le_refl _) _
  have hbB := hb0.trans (hb1.mono hb0.size)
  have B1 := b0.later hb1
  have N1 : Bk W (w.heap.size + 1) 58 #[.int .i64 P, .iface 37 (.int .i64 180)] := by
    have := Bk.new (w.alloc (.cells zero9 32)) 58 #[.int .i64 P, .iface 37 (.int .i64 180)]
    rw [← hW] at this
    simpa using this
  have r10 : W.cell? ⟨g, 10, none⟩ = some (.int .i64 P) := (hbB.cell (p := ⟨g, 10, none⟩) hgl).trans p10
  have r11 : W.cell? ⟨g, 11, none⟩ = some (.pointer (some ⟨q, 0, none⟩)) := (hbB.cell (p := ⟨g, 11, none⟩) hgl).trans p11
  have s0 : W.cell? ⟨q, 0, none⟩ = some (.int .i64 P) := (hbB.cell (p := ⟨q, 0, none⟩) hql).trans q0
  have s1 : W.cell? ⟨q, 1, none⟩ = some (.iface 37 (.int .i64 180)) := (hbB.cell (p := ⟨q, 1, none⟩) hql).trans q1
  have n0 : W.cell? ⟨w.heap.size + 1, 0, none⟩ = some (.int .i64 P) := N1.cell 0 rfl
  have n1 : W.cell? ⟨w.heap.size + 1, 1, none⟩ = some (.iface 37 (.int .i64 180)) := N1.cell 1 rfl
  have ne1 : ¬ g = w.heap.size := by omega
  have ne2 : ¬ w.heap.size = g := by omega
  have z := fun i v h => B1.cell i (v := v) h
  have zf := B1.frozen
  have z0 := z 0 _ rfl
  have z1 := z 1 _ rfl
  have z2 := z 2 _ rfl
  have z3 := z 3 _ rfl
  have z4 := z 4 _ rfl
  have z5 := z 5 _ rfl
  have z6 := z 6 _ rfl
  have z7 := z 7 _ rfl
  have z8 := z 8 _ rfl
  have f0 := zf 0
  have f1 := zf 1
  have f2 := zf 2
  have f3 := zf 3
  have f4 := zf 4
  have f5 := zf 5
  have f6 := zf 6
  have f7 := zf 7
  have f8 := zf 8
  have HB1 : Hid (Bk _ w.heap.size 32 zero9) := B1
  clear B1 z zf
  have HW : Hid ((w.alloc (.cells zero9 32)).alloc (.cells #[.int .i64 P, .iface 37 (.int .i64 180)] 58) = W) := hW.symm
  clear hW hb1 hb0 b0 hB hQ N1 hP
  go_enter Tryz.func10, Tryz.ntmps10
  go_wp2_with fail
  refine (c1 _).mono ?_
  rintro e w4 ⟨rfl, hw4⟩
  have hw5 : w4 = W := hw4.trans HW.out
  clear hw4
  subst hw5
  clear q0 q1 p10 p11 c1 HW
  have eG := guard18 P
  have eS := same18
  go_wp2_with fail
  go_region
  all_goals go_wp2_with fail
  all_goals go_region
  all_goals
    go_wp2
    refine bodyPost_ret (results_c1 rfl _ _ w.heap.size 32 zero9 _ rfl (Bk.drew9 (Bk.drew9 (Bk.all9 HB1.out _ _ _ _ _ _ _ _ _))) Tryz.underlying32 rfl (by kernel_rfl)) rfl ⟨rfl, ?_⟩
    exact below_drew9 (below_drew9 (Tn.below hbB (Tn.all9 ..) (Nat.le_refl _) (Nat.le_refl _)))
namespace Tk
theorem ctA_zero {k : Nat} {c : Ct} (h : c.kind = -1) : ctA k c = zero9 := if_pos h
theorem ctW_wrong {k : Nat} {c : Ct} (h : c.kind = -1) : ctW k c = ((k + c.fr : Nat) : Int) := if_pos h
theorem ctW_none {k : Nat} {c : Ct} (h : c.kind ≠ -1) : ctW k c = -1 := if_neg h
theorem ctA_form (k : Nat) (c : Ct) : ∃ (b1 b2 b3 b5 b8 : Int) (b6 : Bool) (b4 b7 b9 : ByteArray), ctA k c = #[.int .i64 b1, .int .i64 b2, .int .i64 b3, .string b4, .int .i64 b5, .bool b6, .string b7, .int .i64 b8, .string b9] := by
  unfold ctA
  split
  · exact ⟨_, _, _, _, _, _, _, _, _, rfl⟩
  · exact ⟨_, _, _, _, _, _, _, _, _, rfl⟩
end Tk
theorem peek18_any {w : World} {g k : Nat} {s : ByteArray} (h : RdS w g s k) :
    Calls Tryz.prog 10 #[.pointer (some ⟨g, 0, none⟩)] w (PeekR w s k) := by
  obtain ⟨h0, b1, b2, b3, b5, b8, b6, b4, b7, b9, F, h1, h2, h3⟩ := h
  unfold PeekR
  by_cases hk : (cutR (s.data.toList.drop k)).kind = -1
  · obtain ⟨q, rfl, h5⟩ := h3 hk
    have e1 := ctA_zero (k := k) hk
    have e2 := ctW_wrong (k := k) hk
    have e3 : ctC (cutR (s.data.toList.drop k)) = 180 := if_pos hk
    refine (peek18_bad w g q s b1 b2 b3 b5 b8 b6 b4 b7 b9 _ (by rw [e2]; omega) h2 h5).mono ?_
    rintro e w' ⟨rfl, hb⟩
    rw [e1, e3]
    have h6 := h5.later hb
    exact ⟨_, rfl, Or.inr ⟨by omega, q, rfl, h6.cell 0 rfl, h6.cell 1 rfl⟩, hb⟩
  · have e2 := ctW_none (k := k) hk
    have e3 : ctC (cutR (s.data.toList.drop k)) = 0 := if_neg hk
    rw [e2] at h2
    refine (peek18_ok w g s b1 b2 b3 b5 b8 b6 b4 b7 b9 F h2).mono ?_
    rintro e w' ⟨rfl, hb⟩
    rw [h1, e3]
    exact ⟨_, rfl, Or.inl ⟨rfl, rfl⟩, hb⟩
end Go.Proofs.YtfgpjplfplbcdaaGreatDoor

/- Layer 18: the reader: New, Next. -/
namespace Go.Proofs.YtfgpjplfplbcdaaGreatDoor
open Go.ChangeShapes Go.WideShapes Go.ChangeAt Go.RowKit
open Lx Tk Go.Shelf
set_option linter.unusedVariables false
theorem step18_any {w : World} {g K : Nat} {s : ByteArray} (hs : s.size ≤ 1000000000) (hK : K ≤ s.size) {a1 a2 a5 a8 wr : Int} {a6 : Bool} {a4 a7 a9 : ByteArray} {F : Value} (hB : Bk w g 54 #[.string s, .int .i64 a1, .int .i64 a2, .int .i64 (K : Int), .string a4, .int .i64 a5, .bool a6, .string a7, .int .i64 a8, .string a9, .int .i64 wr, F]) :
    Calls Tryz.prog 22 #[.pointer (some ⟨g, 0, none⟩)] w fun e w' => e = .returned (.tuple #[]) ∧ RdS w' g s K ∧ Tn g w w' := by
  obtain ⟨b1, b2, b3, b5, b8, b6, b4, b7, b9, e1⟩ := ctA_form K (cutR (s.data.toList.drop K))
  have c0 := cut18_any s K hs hK
  rw [e1] at c0
  by_cases hk : (cutR (s.data.toList.drop K)).kind = -1
  · have hP : ctW K (cutR (s.data.toList.drop K)) ≠ -1 := by rw [ctW_wrong hk]; omega
    refine (step18_bad hB hP c0).mono ?_
    rintro e w' ⟨q, rfl, h1, h2, h3, h4⟩
    exact ⟨rfl, ⟨hK, b1, b2, b3, b5, b8, b6, b4, b7, b9, _, e1, h1, fun _ => ⟨q, rfl, h2⟩⟩, h4⟩
  · have e2 := ctW_none (k := K) hk
    rw [e2] at c0
    refine (step18_ok hB c0).mono ?_
    rintro e w' ⟨rfl, h1, h4⟩
    exact ⟨rfl, ⟨hK, b1, b2, b3, b5, b8, b6, b4, b7, b9, _, e1, by rw [e2]; exact h1, fun h => absurd h hk⟩, h4⟩
set_option maxHeartbeats 1600000 in
set_option maxRecDepth 100000 in
theorem new18_any (s : ByteArray) (hs : s.size ≤ 1000000000) (w : World) :
    Calls Tryz.prog 7 #[.string s] w fun e w' => e = .returned (.pointer (some ⟨w.heap.size, 0, none⟩)) ∧ RdS w' w.heap.size s 0 ∧ Below w.heap.size w w' := by
  have b := Bk.new w 54 #[.string s, .int .i64 0, .int .i64 0, .int .i64 ((0 : Nat) : Int), .string ⟨#[]⟩, .int .i64 0, .bool false, .string ⟨#[]⟩, .int .i64 0, .string ⟨#[]⟩, .int .i64 0, .pointer none]
  have c := step18_any hs (Nat.zero_le _) b
  have hb0 : Below w.heap.size w (w.alloc (.cells #[.string s, .int .i64 0, .int .i64 0, .int .i64 ((0 : Nat) : Int), .string ⟨#[]⟩, .int .i64 0, .bool false, .string ⟨#[]⟩, .int .i64 0, .string ⟨#[]⟩, .int .i64 0, .pointer none] 54)) := (Below.refl _ w).alloc (Nat.le_refl _) _
  have HB : Hid _ := hb0
  clear b hb0
  go_enter Tryz.func7, Tryz.ntmps7
  go_wp2_with fail
  refine c.mono ?_
  rintro e w1 ⟨rfl, h1, h2⟩
  have HR : Hid _ := h1
  have HT : Hid _ := h2
  clear h1 h2 c
  go_wp2
  go_ret
  exact ⟨rfl, HR.out, Tn.below HB.out HT.out (Nat.le_refl _) (Nat.le_refl _)⟩
namespace Tk
/-- where the reader is behind a cut -/
def nxK (k : Nat) (c : Ct) : Nat := if c.kind = -1 then k else k + c.to
theorem nxK_le {s : ByteArray} {k : Nat} (hk : k ≤ s.size) : nxK k (cutR (s.data.toList.drop k)) ≤ s.size := by
  unfold nxK
  split
  · exact hk
  · have := (cut_f (s.data.toList.drop k)).to
    rw [List.length_drop, ← Lib.size_eq] at this
    omega
/-- what Next answers -/
def NextR (w : World) (g : Nat) (s : ByteArray) (k : Nat) (e : Ending) (w' : World) : Prop :=
  ∃ er, e = .returned (.tuple #[.agg (ctA k (cutR (s.data.toList.drop k))), er]) ∧ ErrIs w' er (ctC (cutR (s.data.toList.drop k))) (ctW k (cutR (s.data.toList.drop k))) ∧ RdS w' g s (nxK k (cutR (s.data.toList.drop k))) ∧ Tn g w w'
theorem RdS.tn {w w' : World} {g h k : Nat} {s : ByteArray} (hR : RdS w g s k) (hT : Tn h w w') (hne : g ≠ h) (hf : ∀ q, w.heap[h]? = some (.cells q 58 (0, 0)) → False) : RdS w' g s k := by
  obtain ⟨h0, b1, b2, b3, b5, b8, b6, b4, b7, b9, F, h1, h2, h3⟩ := hR
  have keep : ∀ {i : Nat} {t : TypeId} {vs : Array Value}, Bk w i t vs → i ≠ h → Bk w' i t vs := fun hb hi => by
    have := hb.lt
    unfold Bk at *
    rw [hT.block _ this hi]; exact hb
  refine ⟨h0, b1, b2, b3, b5, b8, b6, b4, b7, b9, F, h1, keep h2 hne, fun e => ?_⟩
  obtain ⟨q, h4, h5⟩ := h3 e
  refine ⟨q, h4, keep h5 (fun e => ?_)⟩
  subst e
  exact hf _ h5
theorem ctA_to {k : Nat} {c : Ct} {b1 b2 b3 b5 b8 : Int} {b6 : Bool} {b4 b7 b9 : ByteArray} (h : c.kind ≠ -1) (e : ctA k c = #[.int .i64 b1, .int .i64 b2, .int .i64 b3, .string b4, .int .i64 b5, .bool b6, .string b7, .int .i64 b8, .string b9]) : b3 = ((k + c.to : Nat) : Int) := by
  unfold ctA at e
  rw [if_neg h] at e
  have := congrArg (fun a => a[2]?) e
  simp [tkA] at this
  omega
end Tk
theorem FaultAt.tn {w w' : World} {q x : Nat} {p c : Int} (h : FaultAt w q p c) (hT : Tn x w w') (hq : q ≠ x) : FaultAt w' q p c :=
  ⟨(hT.cell (a := ⟨q, 0, none⟩) (cell_lt h.1) hq).trans h.1, (hT.cell (a := ⟨q, 1, none⟩) (cell_lt h.2) hq).trans h.2⟩
theorem Lx.Bk.tn9 {w w' : World} {i x : Nat} {t : TypeId} {vs : Array Value} (h : Bk w i t vs) (hT : Tn x w w') (hi : i ≠ x) : Bk w' i t vs := by
  have := h.lt
  unfold Bk at *
  rw [hT.block _ this hi]; exact h
set_option maxHeartbeats 3200000 in
set_option maxRecDepth 100000 in
theorem next18_any {w : World} {g k : Nat} {s : ByteArray} (hs : s.size ≤ 1000000000) (h : RdS w g s k) :
    Calls Tryz.prog 11 #[.pointer (some ⟨g, 0, none⟩)] w (NextR w g s k) := by
  have hgl := h.lt
  obtain ⟨h0, b1, b2, b3, b5, b8, b6, b4, b7, b9, F, h1, h2, h3⟩ := h
  have b0 := Bk.new w 32 zero9
  have hb0 : Below w.heap.size w (w.alloc (.cells zero9 32)) := (Below.refl _ w).alloc (Nat.le_refl _) _
  have hR0 : RdS (w.alloc (.cells zero9 32)) g s k := RdS.later ⟨h0, b1, b2, b3, b5, b8, b6, b4, b7, b9, F, h1, h2, h3⟩ hb0
  have c0 := peek18_any hR0
  unfold PeekR at c0
  rw [h1] at c0
  unfold NextR
  rw [h1]
  have HB : Hid (Bk (w.alloc (.cells zero9 32)) w.heap.size 32 zero9) := b0
  clear b0 h2 h3
  by_cases hk : (cutR (s.data.toList.drop k)).kind = -1
  · have e3 : ctC (cutR (s.data.toList.drop k)) = 180 := if_pos hk
    have e4 : nxK k (cutR (s.data.toList.drop k)) = k := if_pos hk
    rw [e3] at c0 ⊢
    rw [e4]
    clear hk e3 e4
    have c2 : Calls Tryz.prog 10 #[.pointer (some ⟨g, 0, none⟩)] (w.alloc (.cells zero9 32)) fun e w' => ∃ q, e = .returned (.tuple #[.agg #[.int .i64 b1, .int .i64 b2, .int .i64 b3, .string b4, .int .i64 b5, .bool b6, .string b7, .int .i64 b8, .string b9], .iface 52 (.pointer (some ⟨q, 0, none⟩))]) ∧ FaultAt w' q (ctW k (cutR (s.data.toList.drop k))) 180 ∧ Below (w.alloc (.cells zero9 32)).heap.size (w.alloc (.cells zero9 32)) w' := by
      refine c0.mono ?_
      rintro e w' ⟨er, rfl, ⟨h, _⟩ | ⟨_, q, rfl, hF⟩, hb⟩
      · omega
      · exact ⟨q, rfl, hF, hb⟩
    generalize ctW k (cutR (s.data.toList.drop k)) = P at *
    clear c0 h1
    go_enter Tryz.func11, Tryz.ntmps11
    go_wp2_with fail
    refine c2.mono ?_
    rintro e w2 ⟨q, rfl, hF, hb2⟩
    have hbB := hb0.trans (hb2.mono hb0.size)
    have B1 := HB.out.later hb2
    have hlt : w.heap.size < w2.heap.size := B1.lt
    have HR2 : Hid (RdS w2 g s k) := hR0.later hb2
    have HF : Hid (FaultAt w2 q P 180) := hF
    clear hb2 hb0 HB c2 hR0 hF
    have ne1 : ¬ w.heap.size = w2.heap.size := by omega
    have ne2 : ¬ w2.heap.size = w.heap.size := by omega
    have z := fun i v h => B1.cell i (v := v) h
    have zf := B1.frozen
    have z0 := z 0 _ rfl
    have z1 := z 1 _ rfl
    have z2 := z 2 _ rfl
    have z3 := z 3 _ rfl
    have z4 := z 4 _ rfl
    have z5 := z 5 _ rfl
    have z6 := z 6 _ rfl
    have z7 := z 7 _ rfl
    have z8 := z 8 _ rfl
    have f0 := zf 0
    have f1 := zf 1
    have f2 := zf 2
    have f3 := zf 3
    have f4 := zf 4
    have f5 := zf 5
    have f6 := zf 6
    have f7 := zf 7
    have f8 := zf 8
    have HB1 : Hid (Bk _ w.heap.size 32 zero9) := B1
    clear B1 z zf
    have hz1 : w2.cell? ⟨w.heap.size, 1, none⟩ = some (.int .i64 0) := z1
    go_wp2
    have hT9 := Tn.all9 w2 w.heap.size (.int .i64 b1) (.int .i64 b2) (.int .i64 b3) (.string b4) (.int .i64 b5) (.bool b6) (.string b7) (.int .i64 b8) (.string b9)
    refine bodyPost_ret (results_c1 rfl _ _ w.heap.size 32 _ _ rfl (Bk.more (Bk.all9 HB1.out _ _ _ _ _ _ _ _ _) _) Tryz.underlying32 rfl (by kernel_rfl)) rfl ⟨_, rfl, ?_, ?_, ?_⟩
    · refine Or.inr ⟨by omega, q, rfl, ?_⟩
      have hF := HF.out
      have hq : q ≠ w.heap.size := fun e => by
        have := hF.2
        rw [e, hz1] at this
        cases this
      exact FaultAt.later (FaultAt.tn hF hT9 hq) ((Below.refl _ _).alloc (Nat.le_refl _) _)
    · refine RdS.later (RdS.tn HR2.out hT9 (by omega) (fun q e => ?_)) ((Below.refl _ _).alloc (Nat.le_refl _) _)
      have := HB1.out
      unfold Bk at this
      rw [this] at e
      cases e
    · exact Tn.of_below (below_more (Tn.below hbB hT9 (Nat.le_refl _) (Nat.le_refl _)) _)
  · have e3 : ctC (cutR (s.data.toList.drop k)) = 0 := if_neg hk
    have e4 : nxK k (cutR (s.data.toList.drop k)) = k + (cutR (s.data.toList.drop k)).to := if_neg hk
    have e5 := ctA_to hk h1
    have hle := nxK_le h0
    rw [e4] at hle
    rw [e3] at c0 ⊢
    rw [e4]
    obtain ⟨h0', b1', b2', b3', b5', b8', b6', b4', b7', b9', F', h1', hB', h3'⟩ := hR0
    rw [h1] at h1'
    simp only [Array.mk.injEq, List.cons.injEq, Value.int.injEq, Value.string.injEq, Value.bool.injEq, true_and, and_true] at h1'
    obtain ⟨rfl, rfl, rfl, rfl, rfl, rfl, rfl, rfl, rfl⟩ := h1'
    subst e5
    generalize ctW k (cutR (s.data.toList.drop k)) = P at *
    generalize k + (cutR (s.data.toList.drop k)).to = KK at *
    have HRd : Hid (Bk (w.alloc (.cells zero9 32)) g 54 #[.string s, .int .i64 b1, .int .i64 b2, .int .i64 (KK : Int), .string b4, .int .i64 b5, .bool b6, .string b7, .int .i64 b8, .string b9, .int .i64 P, F']) := hB'
    clear h3' e3 e4 h0' hB' h1
    have c2 : Calls Tryz.prog 10 #[.pointer (some ⟨g, 0, none⟩)] (w.alloc (.cells zero9 32)) fun e w' => e = .returned (.tuple #[.agg #[.int .i64 b1, .int .i64 b2, .int .i64 (KK : Int), .string b4, .int .i64 b5, .bool b6, .string b7, .int .i64 b8, .string b9], .nilIface]) ∧ Below (w.alloc (.cells zero9 32)).heap.size (w.alloc (.cells zero9 32)) w' := by
      refine c0.mono ?_
      rintro e w' ⟨er, rfl, ⟨_, rfl⟩ | ⟨h, _⟩, hb⟩
      · exact ⟨rfl, hb⟩
      · exact absurd rfl h
    clear c0 hk
    go_enter Tryz.func11, Tryz.ntmps11
    go_wp2_with fail
    refine c2.mono ?_
    rintro e w2 ⟨rfl, hb2⟩
    have hbB := hb0.trans (hb2.mono hb0.size)
    have hbW : Below w2.heap.size w2 (w2.alloc (.cells #[.int .i64 b1, .int .i64 b2, .int .i64 (KK : Int), .string b4, .int .i64 b5, .bool b6, .string b7, .int .i64 b8, .string b9] 32)) := (Below.refl _ w2).alloc (Nat.le_refl _) _
    have B1 := (HB.out.later hb2).later hbW
    have R2 := (HRd.out.later hb2).later hbW
    have T2 := Bk.new w2 32 #[.int .i64 b1, .int .i64 b2, .int .i64 (KK : Int), .string b4, .int .i64 b5, .bool b6, .string b7, .int .i64 b8, .string b9]
    have hlt : w.heap.size < w2.heap.size := (HB.out.later hb2).lt
    have hbC := hbB.trans (hbW.mono hbB.size)
    have c3 := step18_any hs hle R2
    clear hb2 hb0 HB c2 HRd hbW hbB R2
    have ne1 : ¬ w.heap.size = w2.heap.size := by omega
    have ne2 : ¬ w2.heap.size = w.heap.size := by omega
    have HB1 : Hid _ := B1
    have HT2 : Hid _ := T2
    clear B1 T2
    go_wp2_with fail
    refine c3.mono ?_
    rintro e w3 ⟨rfl, hR3, hT3⟩
    have B3 := Bk.tn9 HB1.out hT3 (by omega)
    have T3 := Bk.tn9 HT2.out hT3 (by omega)
    have hsz := hT3.size
    have HR3 : Hid _ := hR3
    have HT3 : Hid _ := hT3
    clear c3 hR3 hT3
    have y0 := T3.cell 0 rfl
    have y1 := T3.cell 1 rfl
    have y2 := T3.cell 2 rfl
    have y3 := T3.cell 3 rfl
    have y4 := T3.cell 4 rfl
    have y5 := T3.cell 5 rfl
    have y6 := T3.cell 6 rfl
    have y7 := T3.cell 7 rfl
    have y8 := T3.cell 8 rfl
    clear T3
    have z := fun i v h => B3.cell i (v := v) h
    have zf := B3.frozen
    have z0 := z 0 _ rfl
    have z1 := z 1 _ rfl
    have z2 := z 2 _ rfl
    have z3 := z 3 _ rfl
    have z4 := z 4 _ rfl
    have z5 := z 5 _ rfl
    have z6 := z 6 _ rfl
    have z7 := z 7 _ rfl
    have z8 := z 8 _ rfl
    have f0 := zf 0
    have f1 := zf 1
    have f2 := zf 2
    have f3 := zf 3
    have f4 := zf 4
    have f5 := zf 5
    have f6 := zf 6
    have f7 := zf 7
    have f8 := zf 8
    have HB3 : Hid (Bk _ w.heap.size 32 zero9) := B3
    clear B3 z zf
    go_wp2
    have hT9 := Tn.all9 w3 w.heap.size (.int .i64 b1) (.int .i64 b2) (.int .i64 (KK : Int)) (.string b4) (.int .i64 b5) (.bool b6) (.string b7) (.int .i64 b8) (.string b9)
    refine bodyPost_ret (results_c1 rfl _ _ w.heap.size 32 _ _ rfl (Bk.all9 HB3.out _ _ _ _ _ _ _ _ _) Tryz.underlying32 rfl (by kernel_rfl)) rfl ⟨_, rfl, Or.inl ⟨rfl, rfl⟩, ?_, ?_⟩
    · refine RdS.tn HR3.out hT9 (by omega) (fun q e => ?_)
      have := HB3.out
      unfold Bk at this
      rw [this] at e
      cases e
    · refine ⟨?_, ?_, ?_, ?_, fun i hi hne => ?_⟩
      · exact hT9.os.trans (HT3.out.os.trans hbC.os)
      · exact hT9.tape.trans (HT3.out.tape.trans hbC.tape)
      · exact hT9.output.trans (HT3.out.output.trans hbC.output)
      · exact Nat.le_trans hbC.size (Nat.le_trans hsz hT9.size)
      · have h1 := hbC.size
        rw [hT9.block i (by omega) (by omega), HT3.out.block i (by omega) hne, hbC.block i hi]
end Go.Proofs.YtfgpjplfplbcdaaGreatDoor

