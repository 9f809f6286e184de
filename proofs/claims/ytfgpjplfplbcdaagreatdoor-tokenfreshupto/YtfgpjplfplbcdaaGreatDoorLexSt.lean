/- Layer 9: the states of the reader. -/
import Derived.Test.YtfgpjplfplbcdaaGreatDoorLexRd
namespace Go.Proofs.YtfgpjplfplbcdaaGreatDoor
open Go.ChangeShapes Go.WideShapes Go.ChangeAt Go.RowKit
open Lx
set_option linter.unusedVariables false
namespace Lx
section
variable {w : World} {g : Nat} {t : ByteArray} {k : Nat} {st : Value} {rd wh : Pc}
theorem RB.kind (h : RB w g t k st rd wh) (x : Int) : RB (w.setCell ⟨g, 3, none⟩ (.int .i64 x)) g t k st { rd with kind := x } wh := Bk.set h 3 _
theorem RB.neg (h : RB w g t k st rd wh) (x : Bool) : RB (w.setCell ⟨g, 4, none⟩ (.bool x)) g t k st { rd with neg := x } wh := Bk.set h 4 _
theorem RB.ahead (h : RB w g t k st rd wh) (x : B) : RB (w.setCell ⟨g, 5, none⟩ (.string (str x))) g t k st { rd with ahead := x } wh := Bk.set h 5 _
theorem RB.behind (h : RB w g t k st rd wh) (x : B) : RB (w.setCell ⟨g, 6, none⟩ (.string (str x))) g t k st { rd with behind := x } wh := Bk.set h 6 _
theorem RB.expo (h : RB w g t k st rd wh) (x : B) : RB (w.setCell ⟨g, 7, none⟩ (.string (str x))) g t k st { rd with expo := x } wh := Bk.set h 7 _
theorem RB.den (h : RB w g t k st rd wh) (x : B) : RB (w.setCell ⟨g, 8, none⟩ (.string (str x))) g t k st { rd with den := x } wh := Bk.set h 8 _
theorem RB.stop (h : RB w g t k st rd wh) (x : Nat) : RB (w.setCell ⟨g, 9, none⟩ (.int .i64 x)) g t k st { rd with stop := x } wh := Bk.set h 9 _
theorem RB.wkind (h : RB w g t k st rd wh) (x : Int) : RB (w.setCell ⟨g, 10, none⟩ (.int .i64 x)) g t k st rd { wh with kind := x } := Bk.set h 10 _
theorem RB.wneg (h : RB w g t k st rd wh) (x : Bool) : RB (w.setCell ⟨g, 11, none⟩ (.bool x)) g t k st rd { wh with neg := x } := Bk.set h 11 _
theorem RB.wahead (h : RB w g t k st rd wh) (x : B) : RB (w.setCell ⟨g, 12, none⟩ (.string (str x))) g t k st rd { wh with ahead := x } := Bk.set h 12 _
theorem RB.wbehind (h : RB w g t k st rd wh) (x : B) : RB (w.setCell ⟨g, 13, none⟩ (.string (str x))) g t k st rd { wh with behind := x } := Bk.set h 13 _
theorem RB.wexpo (h : RB w g t k st rd wh) (x : B) : RB (w.setCell ⟨g, 14, none⟩ (.string (str x))) g t k st rd { wh with expo := x } := Bk.set h 14 _
theorem RB.wden (h : RB w g t k st rd wh) (x : B) : RB (w.setCell ⟨g, 15, none⟩ (.string (str x))) g t k st rd { wh with den := x } := Bk.set h 15 _
theorem RB.wstop (h : RB w g t k st rd wh) (x : Nat) : RB (w.setCell ⟨g, 16, none⟩ (.int .i64 x)) g t k st rd { wh with stop := x } := Bk.set h 16 _
theorem RB.toWhole (h : RB w g t k st rd wh) (p : Pc) : RB (((((((w.setCell ⟨g, 10, none⟩ (.int .i64 p.kind)).setCell ⟨g, 11, none⟩ (.bool p.neg)).setCell ⟨g, 12, none⟩ (.string (str p.ahead))).setCell ⟨g, 13, none⟩ (.string (str p.behind))).setCell ⟨g, 14, none⟩ (.string (str p.expo))).setCell ⟨g, 15, none⟩ (.string (str p.den))).setCell ⟨g, 16, none⟩ (.int .i64 p.stop)) g t k st rd p :=
  ((((((h.wkind p.kind).wneg p.neg).wahead p.ahead).wbehind p.behind).wexpo p.expo).wden p.den).wstop p.stop
end
theorem str_empty (l : B) : (str l).toList.isEmpty = l.isEmpty := by rw [Lib.toList_data, str_list]
/-- the function that a state is -/
def stV (g : Nat) : St → Value
  | .start => .func (.func 112) #[.pointer (some ⟨g, 0, none⟩)] #[]
  | .sign => .func (.func 127) #[.pointer (some ⟨g, 0, none⟩)] #[]
  | .digits => .func (.func 140) #[.pointer (some ⟨g, 0, none⟩)] #[]
  | .point => .func (.func 141) #[.pointer (some ⟨g, 0, none⟩)] #[]
  | .e => .func (.func 147) #[.pointer (some ⟨g, 0, none⟩)] #[]
  | .slash => .func (.func 148) #[.pointer (some ⟨g, 0, none⟩)] #[]
  | .x => .func (.func 149) #[.pointer (some ⟨g, 0, none⟩)] #[]
  | .hexPoint => .func (.func 151) #[.pointer (some ⟨g, 0, none⟩)] #[]
  | .stop => .nilFunc
/-- what a state's call leaves: a state with the same end, nearer to it -/
def Post (s : St) (w : World) (g : Nat) (t : ByteArray) (k : Nat) (rd wh : Pc) (e : Ending) (w' : World) : Prop :=
  e = .returned (.tuple #[]) ∧ ∃ s' k' rd' wh', RB w' g t k' (stV g s') rd' wh' ∧ k' ≤ t.size ∧ fin s' rd' wh' k' (t.data.toList.drop k') = fin s rd wh k (t.data.toList.drop k) ∧ s'.rank < s.rank ∧ Tn g w w'
theorem isD_set (b : UInt8) : ([48, 49, 50, 51, 52, 53, 54, 55, 56, 57] : B).contains b = isD b := by
  have h := List.all_eq_true.mp (show (List.range 256).all (fun n => ([48, 49, 50, 51, 52, 53, 54, 55, 56, 57] : B).contains (UInt8.ofNat n) == isD (UInt8.ofNat n)) = true from by kernel_rfl) b.toNat (List.mem_range.mpr (UInt8.toNat_lt b))
  rw [UInt8.ofNat_toNat] at h
  exact eq_of_beq h
theorem isH_set (b : UInt8) : ([48, 49, 50, 51, 52, 53, 54, 55, 56, 57, 97, 98, 99, 100, 101, 102, 65, 66, 67, 68, 69, 70] : B).contains b = isH b := by
  have h := List.all_eq_true.mp (show (List.range 256).all (fun n => ([48, 49, 50, 51, 52, 53, 54, 55, 56, 57, 97, 98, 99, 100, 101, 102, 65, 66, 67, 68, 69, 70] : B).contains (UInt8.ofNat n) == isH (UInt8.ofNat n)) = true from by kernel_rfl) b.toNat (List.mem_range.mpr (UInt8.toNat_lt b))
  rw [UInt8.ofNat_toNat] at h
  exact eq_of_beq h
theorem drop_run (t : ByteArray) (k : Nat) (p : UInt8 → Bool) : t.data.toList.drop (k + ((t.data.toList.drop k).takeWhile p).length) = (t.data.toList.drop k).dropWhile p := by
  rw [← List.drop_drop, drop_dk]
theorem run_le {t : ByteArray} {k : Nat} (p : UInt8 → Bool) (hk : k ≤ t.size) : k + ((t.data.toList.drop k).takeWhile p).length ≤ t.size := by
  have := run_num p hk; omega
end Lx
section
variable {w : World} {g : Nat} {t : ByteArray} {k : Nat} {st : Value} {rd wh : Pc}
theorem runD_any (h : RB w g t k st rd wh) (ht : t.size ≤ 65536) (hk : k ≤ t.size) :
    Calls Tryz.prog 137 #[.pointer (some ⟨g, 0, none⟩), .string ⟨#[48, 49, 50, 51, 52, 53, 54, 55, 56, 57]⟩] w fun e w' => e = .returned (.string (str (tkD (t.data.toList.drop k)))) ∧
      RB w' g t (k + (tkD (t.data.toList.drop k)).length) st rd wh ∧ Tn g w w' :=
  run_any [48, 49, 50, 51, 52, 53, 54, 55, 56, 57] isD isD_set (by decide) (by decide) (by decide) h ht hk
theorem runH_any (h : RB w g t k st rd wh) (ht : t.size ≤ 65536) (hk : k ≤ t.size) :
    Calls Tryz.prog 137 #[.pointer (some ⟨g, 0, none⟩), .string ⟨#[48, 49, 50, 51, 52, 53, 54, 55, 56, 57, 97, 98, 99, 100, 101, 102, 65, 66, 67, 68, 69, 70]⟩] w fun e w' => e = .returned (.string (str (tkH (t.data.toList.drop k)))) ∧
      RB w' g t (k + (tkH (t.data.toList.drop k)).length) st rd wh ∧ Tn g w w' :=
  run_any [48, 49, 50, 51, 52, 53, 54, 55, 56, 57, 97, 98, 99, 100, 101, 102, 65, 66, 67, 68, 69, 70] isH isH_set (by decide) (by decide) (by decide) h ht hk
end
set_option maxRecDepth 100000 in
theorem has_any {w : World} {g : Nat} {t : ByteArray} {k : Nat} {st : Value} {rd wh : Pc} (h : RB w g t k st rd wh) :
    Calls Tryz.prog 138 #[.pointer (some ⟨g, 0, none⟩)] w fun e w' => e = .returned (.bool rd.has) ∧ w' = w := by
  obtain ⟨c0, c1, c2⟩ := h.head
  obtain ⟨c3, c4, c5, c6, c7, c8, c9⟩ := h.read
  have e1 := str_empty rd.ahead
  have e2 := str_empty rd.behind
  have hh : rd.has = (!rd.ahead.isEmpty || !rd.behind.isEmpty) := rfl
  rw [hh]
  clear h hh
  cases h1 : rd.ahead.isEmpty <;> rw [h1] at e1 <;> cases h2 : rd.behind.isEmpty <;> rw [h2] at e2
  all_goals
    clear h1 h2
    go_enter Tryz.func138, Tryz.ntmps138
    go_wp2
    go_ret
    exact ⟨rfl, rfl⟩
set_option maxHeartbeats 800000 in
set_option maxRecDepth 100000 in
theorem keep_any {w : World} {g : Nat} {t : ByteArray} {k : Nat} {st : Value} {rd wh : Pc} (h : RB w g t k st rd wh) :
    Calls Tryz.prog 139 #[.pointer (some ⟨g, 0, none⟩)] w fun e w' => e = .returned (.tuple #[]) ∧ RB w' g t k st { rd with stop := k } { rd with stop := k } ∧ Tn g w w' := by
  obtain ⟨c0, c1, c2⟩ := h.head
  obtain ⟨c3, c4, c5, c6, c7, c8, c9⟩ := h.read
  have cf9 := Bk.frozen h 9
  obtain ⟨d0, d1, d2, d3, d4, d5, d6⟩ := h.whole
  have df10 := Bk.frozen h 10
  have df11 := Bk.frozen h 11
  have df12 := Bk.frozen h 12
  have df13 := Bk.frozen h 13
  have df14 := Bk.frozen h 14
  have df15 := Bk.frozen h 15
  have df16 := Bk.frozen h 16
  have HB : Hid (RB w g t k st rd wh) := h
  clear h
  go_enter Tryz.func139, Tryz.ntmps139
  go_wp2
  go_end0
  exact ⟨rfl, (HB.out.stop k).toWhole { rd with stop := k }, (((((((((Tn.refl g w).set 9 _).set 10 _).set 11 _).set 12 _).set 13 _).set 14 _).set 15 _).set 16 _)⟩

end Go.Proofs.YtfgpjplfplbcdaaGreatDoor
