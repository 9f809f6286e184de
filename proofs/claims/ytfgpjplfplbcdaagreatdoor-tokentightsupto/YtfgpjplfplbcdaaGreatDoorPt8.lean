import Derived.Deep.RegionWith
import Derived.Below
import Derived.BigQuiet
import Derived.Deep.LoopGhost
import Derived.Deep.QuietTactic
import Derived.Deep.WholeRow
import Derived.KernelRfl
import Derived.Laws.EntriesVeiled
import Derived.Laws.Externs
import Derived.Laws.ResultCell
import Derived.Laws.Strings3
import Derived.Lib.AsciiSet
import Derived.Lib.Bytealg
import Derived.Lib.IndexBytes
import Derived.Lib.Strings
import Derived.Lib.TrimByte
import Derived.Lib.Walk
import Derived.OpenShut
import Derived.ProofKit
import Derived.ShutString
import Derived.WalkKit
import Derived.WalkLawsBesides
import Derived.WalkSpells
import Derived.Test.YtfgpjplfplbcdaaGreatDoorPt1
import Derived.Test.YtfgpjplfplbcdaaGreatDoorPt7
/- Layer 9: the reader in its block; one, run, hasDigits, keep. -/
namespace Go.Proofs.YtfgpjplfplbcdaaGreatDoor
open Go.ChangeShapes Go.WideShapes Go.ChangeAt Go.RowKit
open Lx
set_option linter.unusedVariables false
namespace Lx
/-- the reader's cells -/
def rdC (t : ByteArray) (k : Nat) (st : Value) (rd wh : Pc) : Array Value :=
  #[.string t, .int .i64 k, st,
    .int .i64 rd.kind, .bool rd.neg, .string (str rd.ahead), .string (str rd.behind), .string (str rd.expo), .string (str rd.den), .int .i64 rd.stop,
    .int .i64 wh.kind, .bool wh.neg, .string (str wh.ahead), .string (str wh.behind), .string (str wh.expo), .string (str wh.den), .int .i64 wh.stop]
def RB (w : World) (g : Nat) (t : ByteArray) (k : Nat) (st : Value) (rd wh : Pc) : Prop := Bk w g 174 (rdC t k st rd wh)
theorem RB.head {w : World} {g : Nat} {t : ByteArray} {k : Nat} {st : Value} {rd wh : Pc} (h : RB w g t k st rd wh) :
    w.cell? ⟨g, 0, none⟩ = some (.string t) ∧ w.cell? ⟨g, 1, none⟩ = some (.int .i64 k) ∧ w.cell? ⟨g, 2, none⟩ = some st :=
  ⟨Bk.cell h 0 rfl, Bk.cell h 1 rfl, Bk.cell h 2 rfl⟩
theorem RB.read {w : World} {g : Nat} {t : ByteArray} {k : Nat} {st : Value} {rd wh : Pc} (h : RB w g t k st rd wh) :
    w.cell? ⟨g, 3, none⟩ = some (.int .i64 rd.kind) ∧ w.cell? ⟨g, 4, none⟩ = some (.bool rd.neg) ∧ w.cell? ⟨g, 5, none⟩ = some (.string (str rd.ahead)) ∧ w.cell? ⟨g, 6, none⟩ = some (.string (str rd.behind)) ∧
    w.cell? ⟨g, 7, none⟩ = some (.string (str rd.expo)) ∧ w.cell? ⟨g, 8, none⟩ = some (.string (str rd.den)) ∧ w.cell? ⟨g, 9, none⟩ = some (.int .i64 rd.stop) :=
  ⟨Bk.cell h 3 rfl, Bk.cell h 4 rfl, Bk.cell h 5 rfl, Bk.cell h 6 rfl, Bk.cell h 7 rfl, Bk.cell h 8 rfl, Bk.cell h 9 rfl⟩
theorem RB.whole {w : World} {g : Nat} {t : ByteArray} {k : Nat} {st : Value} {rd wh : Pc} (h : RB w g t k st rd wh) :
    w.cell? ⟨g, 10, none⟩ = some (.int .i64 wh.kind) ∧ w.cell? ⟨g, 11, none⟩ = some (.bool wh.neg) ∧ w.cell? ⟨g, 12, none⟩ = some (.string (str wh.ahead)) ∧ w.cell? ⟨g, 13, none⟩ = some (.string (str wh.behind)) ∧
    w.cell? ⟨g, 14, none⟩ = some (.string (str wh.expo)) ∧ w.cell? ⟨g, 15, none⟩ = some (.string (str wh.den)) ∧ w.cell? ⟨g, 16, none⟩ = some (.int .i64 wh.stop) :=
  ⟨Bk.cell h 10 rfl, Bk.cell h 11 rfl, Bk.cell h 12 rfl, Bk.cell h 13 rfl, Bk.cell h 14 rfl, Bk.cell h 15 rfl, Bk.cell h 16 rfl⟩
theorem RB.later {w w' : World} {g : Nat} {t : ByteArray} {k : Nat} {st : Value} {rd wh : Pc} (h : RB w g t k st rd wh) (hb : Below w.heap.size w w') : RB w' g t k st rd wh := Bk.later h hb
theorem RB.drew {w : World} {g : Nat} {t : ByteArray} {k : Nat} {st : Value} {rd wh : Pc} (h : RB w g t k st rd wh) (n : Nat) : RB (w.drewN n) g t k st rd wh := h.later (below_drewN (Below.refl _ _) n)
theorem RB.setAt {w : World} {g : Nat} {t : ByteArray} {k : Nat} {st : Value} {rd wh : Pc} (h : RB w g t k st rd wh) (k' : Nat) : RB (w.setCell ⟨g, 1, none⟩ (.int .i64 k')) g t k' st rd wh := Bk.set h 1 _
theorem RB.setSt {w : World} {g : Nat} {t : ByteArray} {k : Nat} {st : Value} {rd wh : Pc} (h : RB w g t k st rd wh) (st' : Value) : RB (w.setCell ⟨g, 2, none⟩ st') g t k st' rd wh := Bk.set h 2 _
theorem fst_drop_lt {cs : B} {t : ByteArray} {k : Nat} (hf : fst cs (t.data.toList.drop k) = true) : ∃ h : k < t.size, cs.contains (t[k]'h) = true ∧ (t.data.toList.drop k).tail = t.data.toList.drop (k + 1) := by
  by_cases h : k < t.size
  · refine ⟨h, ?_, ?_⟩
    · rw [drop_cons_of h] at hf; exact hf
    · rw [drop_cons_of h]; rfl
  · rw [drop_nil_of (by omega)] at hf; cases hf
end Lx
set_option maxHeartbeats 1600000 in
set_option maxRecDepth 100000 in
theorem one_yes (cs : B) {t : ByteArray} {k g : Nat} {st : Value} {rd wh : Pc} {w : World} (h : RB w g t k st rd wh) (ht : t.size ≤ 65536) (hf : fst cs (t.data.toList.drop k) = true) :
    Calls Tryz.prog 126 #[.pointer (some ⟨g, 0, none⟩), .string ⟨cs.toArray⟩] w fun e w' => e = .returned (.bool true) ∧ RB w' g t (k + 1) st rd wh ∧ Tn g w w' := by
  obtain ⟨hk, hc, _⟩ := fst_drop_lt hf
  clear hf
  obtain ⟨c0, c1, c2⟩ := h.head
  have HB : Hid (RB w g t k st rd wh) := h
  have f1 := Bk.frozen h 1
  clear h
  have hne : ((k : Int) == (t.size : Int)) = false := beq_eq_false_iff_ne.2 (by omega)
  have hki : (k : Int) < (t.size : Int) := by omega
  have hix : decide (Lib.indexByte cs ((t[k]'hk).toNat : Int).toNat.toUInt8 < 0) = false := by rw [toU8, indexByte_neg, hc]; rfl
  clear hc
  generalize hX : Lib.indexByte cs ((t[k]'hk).toNat : Int).toNat.toUInt8 = X at hix
  have hi : ∀ w, Calls Tryz.prog 130 #[.string ⟨cs.toArray⟩, .int .u8 ((t[k]'hk).toNat : Int)] w fun e w' => e = .returned (.int .i64 X) ∧ w' = w := by
    intro w
    have := sIndexByte9_any (str cs) ((t[k]'hk).toNat : Int) w
    rw [str_list, hX] at this
    exact this
  clear hX
  go_enter Tryz.func126, Tryz.ntmps126
  go_wp2
  go_quiet ((go_at_call 130; exact Calls.quiet_of_same (hi _)))
  go_wp2
  go_ret
  exact ⟨rfl, (HB.out.drew nq).setAt (k + 1), ((Tn.refl g w).later (below_drewN (Below.refl _ _) nq)).set 1 _⟩
set_option maxHeartbeats 1600000 in
set_option maxRecDepth 100000 in
theorem one_no (cs : B) {t : ByteArray} {k g : Nat} {st : Value} {rd wh : Pc} {w : World} (h : RB w g t k st rd wh) (ht : t.size ≤ 65536) (hk : k ≤ t.size) (hf : fst cs (t.data.toList.drop k) = false) :
    Calls Tryz.prog 126 #[.pointer (some ⟨g, 0, none⟩), .string ⟨cs.toArray⟩] w fun e w' => e = .returned (.bool false) ∧ RB w' g t k st rd wh ∧ Tn g w w' := by
  obtain ⟨c0, c1, c2⟩ := h.head
  have HB : Hid (RB w g t k st rd wh) := h
  have f1 := Bk.frozen h 1
  clear h
  by_cases hk2 : k < t.size
  · have hc : cs.contains (t[k]'hk2) = false := by rw [drop_cons_of hk2] at hf; exact hf
    clear hf
    have hne : ((k : Int) == (t.size : Int)) = false := beq_eq_false_iff_ne.2 (by omega)
    have hki : (k : Int) < (t.size : Int) := by omega
    have hix : decide (Lib.indexByte cs ((t[k]'hk2).toNat : Int).toNat.toUInt8 < 0) = true := by rw [toU8, indexByte_neg, hc]; rfl
    clear hc
    generalize hX : Lib.indexByte cs ((t[k]'hk2).toNat : Int).toNat.toUInt8 = X at hix
    have hi : ∀ w, Calls Tryz.prog 130 #[.string ⟨cs.toArray⟩, .int .u8 ((t[k]'hk2).toNat : Int)] w fun e w' => e = .returned (.int .i64 X) ∧ w' = w := by
      intro w
      have := sIndexByte9_any (str cs) ((t[k]'hk2).toNat : Int) w
      rw [str_list, hX] at this
      exact this
    clear hX
    go_enter Tryz.func126, Tryz.ntmps126
    go_wp2
    go_quiet ((go_at_call 130; exact Calls.quiet_of_same (hi _)))
    go_wp2
    go_ret
    exact ⟨rfl, HB.out.drew nq, (Tn.refl g w).later (below_drewN (Below.refl _ _) nq)⟩
  · clear hf
    have hne : ((k : Int) == (t.size : Int)) = true := by rw [beq_iff_eq]; omega
    go_enter Tryz.func126, Tryz.ntmps126
    go_wp2
    go_quiet (fail)
    go_wp2
    go_ret
    exact ⟨rfl, HB.out.drew nq, (Tn.refl g w).later (below_drewN (Below.refl _ _) nq)⟩
namespace Lx
theorem wrapI {x : Int} (h1 : -9223372036854775808 ≤ x) (h2 : x ≤ 9223372036854775807) : IntKind.i64.wrap x = x := by
  simp [IntKind.wrap, IntKind.signed, IntKind.bits]
  omega
theorem trimL_eq {cs : B} {p : UInt8 → Bool} (hp : ∀ b, cs.contains b = p b) (l : B) : trimL cs l = l.dropWhile p := by
  unfold trimL
  congr 1
  funext b
  exact hp b
theorem run_num {t : ByteArray} {k : Nat} (p : UInt8 → Bool) (hk : k ≤ t.size) : ((t.data.toList.drop k).dropWhile p).length + ((t.data.toList.drop k).takeWhile p).length + k = t.size := by
  have := dk_len p (t.data.toList.drop k)
  rw [List.length_drop, ← Lib.size_eq] at this
  omega
theorem run_ext {t : ByteArray} {k : Nat} (p : UInt8 → Bool) : t.extract k (k + ((t.data.toList.drop k).takeWhile p).length) = str ((t.data.toList.drop k).takeWhile p) := by
  rw [ext_str, Nat.add_sub_cancel_left, take_tk]
theorem ext_all {t : ByteArray} {k : Nat} : t.extract k t.size = str (t.data.toList.drop k) := by
  rw [ext_str, List.take_of_length_le (by rw [List.length_drop, ← Lib.size_eq]; exact Nat.le_refl _)]
end Lx
set_option maxHeartbeats 1600000 in
set_option maxRecDepth 100000 in
theorem run_any (cs : B) (p : UInt8 → Bool) (hp : ∀ b, cs.contains b = p b) (h2 : 2 ≤ cs.length) (hz : cs.length < 1000) (hascii : cs.all (fun b => decide (b.toNat < 128)) = true)
    {t : ByteArray} {k g : Nat} {st : Value} {rd wh : Pc} {w : World} (h : RB w g t k st rd wh) (ht : t.size ≤ 65536) (hk : k ≤ t.size) :
    Calls Tryz.prog 137 #[.pointer (some ⟨g, 0, none⟩), .string ⟨cs.toArray⟩] w fun e w' => e = .returned (.string (str ((t.data.toList.drop k).takeWhile p))) ∧
      RB w' g t (k + ((t.data.toList.drop k).takeWhile p).length) st rd wh ∧ Tn g w w' := by
  obtain ⟨c0, c1, c2⟩ := h.head
  have HB : Hid (RB w g t k st rd wh) := h
  have f1 := Bk.frozen h 1
  have hcl : ∀ w', Below w.heap.size w w' → w'.cell? ⟨g, 0, none⟩ = some (.string t) ∧ w'.cell? ⟨g, 1, none⟩ = some (.int .i64 k) ∧ w'.frozen? ⟨g, 1, none⟩ = false := fun w' hb => ⟨(h.later hb).head.1, (h.later hb).head.2.1, Bk.frozen (h.later hb) 1⟩
  clear h
  have hT : ∀ w, Calls Tryz.prog 129 #[.string (str (t.data.toList.drop k)), .string ⟨cs.toArray⟩] w fun e w' => e = .returned (.string (str ((t.data.toList.drop k).dropWhile p))) ∧ Below w.heap.size w w' := by
    intro w
    have := trimLeft_set cs (str (t.data.toList.drop k)) w h2 hz hascii
    rw [str_list, trimL_eq hp] at this
    exact this
  have hn := run_num p hk
  have hx := run_ext (t := t) (k := k) p
  have hs := str_size ((t.data.toList.drop k).dropWhile p)
  have he := ext_all (t := t) (k := k)
  generalize (t.data.toList.drop k).dropWhile p = D at *
  generalize (t.data.toList.drop k).takeWhile p = T at *
  have hki : (k : Int) ≤ (t.size : Int) := by omega
  have hv : ((t.size : Int) - (D.length : Int)) = ((k + T.length : Nat) : Int) := by omega
  have hw : ((k + T.length : Nat) : Int) ≤ (t.size : Int) := by omega
  have hkT : (k : Int) ≤ ((k + T.length : Nat) : Int) := by omega
  generalize hM : k + T.length = M at *
  have hm : M ≤ 65536 := by omega
  clear hM hn
  have hwr : IntKind.i64.wrap (M : Int) = (M : Int) := wrapI (by omega) (by omega)
  go_enter Tryz.func137, Tryz.ntmps137
  go_wp2
  go_region_with (go_at_call 129; refine (hT _).mono ?_; rintro e w3 ⟨rfl, hb3⟩; obtain ⟨p0, p1, p2⟩ := hcl w3 (by first | exact hb3 | exact (below_drewN (Below.refl _ w) _).trans (hb3.mono (Nat.le_refl _))))
  all_goals
    go_wp2
    go_quiet (fail)
    go_wp2
    go_ret
    have HB3 := HB.out.later (show Below w.heap.size w w3 from by first | exact hb3 | exact (below_drewN (Below.refl _ w) _).trans (hb3.mono (Nat.le_refl _)))
    refine ⟨rfl, ?_, ?_⟩
    · exact (HB3.setAt M).drew nq
    · exact (((Tn.refl g w).later (by first | exact hb3 | exact (below_drewN (Below.refl _ w) _).trans (hb3.mono (Nat.le_refl _)))).set 1 _).later (below_drewN (Below.refl _ _) nq)
end Go.Proofs.YtfgpjplfplbcdaaGreatDoor

/- Layer 9: the states of the reader. -/
namespace Go.Proofs.YtfgpjplfplbcdaaGreatDoor
open Go.ChangeShapes Go.WideShapes Go.ChangeAt Go.RowKit
open Lx
set_option linter.unusedVariables false
namespace Lx
section
variable {w : World} {g : Nat} {t : ByteArray} {k : Nat} {st : Value} {rd wh : Pc}
theorem RB.kind (h : RB w g t k st rd wh) (x : Int) : RB (w.setCell ⟨g, 3, none⟩ (.int .i64 x)) g t k st { rd with kind := x } wh := Bk.set h 3 _
theorem RB.neg (h : RB w g t k st rd wh) (x : Bool) : RB (w.setCell ⟨g, 4, none⟩ (.bool x)) g t k st { rd with neg := x } wh := Bk.set h 4 _
theorem RB.ahead (h : RB w g t k st rd wh) (x : B) : RB (w.setCell ⟨g, 5, none⟩ (.string (str x))) g t k st { rd with ahead := x } wh := Bk.set h 5 _
theorem RB.behind (h : RB w g t k st rd wh) (x : B) : RB (w.setCell ⟨g, 6, none⟩ (.string (str x))) g t k st { rd with behind := x } wh := Bk.set h 6 _
theorem RB.expo (h : RB w g t k st rd wh) (x : B) : RB (w.setCell ⟨g, 7, none⟩ (.string (str x))) g t k st { rd with expo := x } wh := Bk.set h 7 _
theorem RB.den (h : RB w g t k st rd wh) (x : B) : RB (w.setCell ⟨g, 8, none⟩ (.string (str x))) g t k st { rd with den := x } wh := Bk.set h 8 _
theorem RB.stop (h : RB w g t k st rd wh) (x : Nat) : RB (w.setCell ⟨g, 9, none⟩ (.int .i64 x)) g t k st { rd with stop := x } wh := Bk.set h 9 _
theorem RB.wkind (h : RB w g t k st rd wh) (x : Int) : RB (w.setCell ⟨g, 10, none⟩ (.int .i64 x)) g t k st rd { wh with kind := x } := Bk.set h 10 _
theorem RB.wneg (h : RB w g t k st rd wh) (x : Bool) : RB (w.setCell ⟨g, 11, none⟩ (.bool x)) g t k st rd { wh with neg := x } := Bk.set h 11 _
theorem RB.wahead (h : RB w g t k st rd wh) (x : B) : RB (w.setCell ⟨g, 12, none⟩ (.string (str x))) g t k st rd { wh with ahead := x } := Bk.set h 12 _
theorem RB.wbehind (h : RB w g t k st rd wh) (x : B) : RB (w.setCell ⟨g, 13, none⟩ (.string (str x))) g t k st rd { wh with behind := x } := Bk.set h 13 _
theorem RB.wexpo (h : RB w g t k st rd wh) (x : B) : RB (w.setCell ⟨g, 14, none⟩ (.string (str x))) g t k st rd { wh with expo := x } := Bk.set h 14 _
theorem RB.wden (h : RB w g t k st rd wh) (x : B) : RB (w.setCell ⟨g, 15, none⟩ (.string (str x))) g t k st rd { wh with den := x } := Bk.set h 15 _
theorem RB.wstop (h : RB w g t k st rd wh) (x : Nat) : RB (w.setCell ⟨g, 16, none⟩ (.int .i64 x)) g t k st rd { wh with stop := x } := Bk.set h 16 _
theorem RB.toWhole (h : RB w g t k st rd wh) (p : Pc) : RB (((((((w.setCell ⟨g, 10, none⟩ (.int .i64 p.kind)).setCell ⟨g, 11, none⟩ (.bool p.neg)).setCell ⟨g, 12, none⟩ (.string (str p.ahead))).setCell ⟨g, 13, none⟩ (.string (str p.behind))).setCell ⟨g, 14, none⟩ (.string (str p.expo))).setCell ⟨g, 15, none⟩ (.string (str p.den))).setCell ⟨g, 16, none⟩ (.int .i64 p.stop)) g t k st rd p :=
  ((((((h.wkind p.kind).wneg p.neg).wahead p.ahead).wbehind p.behind).wexpo p.expo).wden p.den).wstop p.stop
end
theorem str_empty (l : B) : (str l).toList.isEmpty = l.isEmpty := by rw [Lib.toList_data, str_list]
/-- the function that a state is -/
def stV (g : Nat) : St → Value
  | .start => .func (.func 112) #[.pointer (some ⟨g, 0, none⟩)] #[]
  | .sign => .func (.func 127) #[.pointer (some ⟨g, 0, none⟩)] #[]
  | .digits => .func (.func 140) #[.pointer (some ⟨g, 0, none⟩)] #[]
  | .point => .func (.func 141) #[.pointer (some ⟨g, 0, none⟩)] #[]
  | .e => .func (.func 147) #[.pointer (some ⟨g, 0, none⟩)] #[]
  | .slash => .func (.func 148) #[.pointer (some ⟨g, 0, none⟩)] #[]
  | .x => .func (.func 149) #[.pointer (some ⟨g, 0, none⟩)] #[]
  | .hexPoint => .func (.func 151) #[.pointer (some ⟨g, 0, none⟩)] #[]
  | .stop => .nilFunc
/-- what a state's call leaves: a state with the same end, nearer to it -/
def Post (s : St) (w : World) (g : Nat) (t : ByteArray) (k : Nat) (rd wh : Pc) (e : Ending) (w' : World) : Prop :=
  e = .returned (.tuple #[]) ∧ ∃ s' k' rd' wh', RB w' g t k' (stV g s') rd' wh' ∧ k' ≤ t.size ∧ fin s' rd' wh' k' (t.data.toList.drop k') = fin s rd wh k (t.data.toList.drop k) ∧ s'.rank < s.rank ∧ Tn g w w'
theorem isD_set (b : UInt8) : ([48, 49, 50, 51, 52, 53, 54, 55, 56, 57] : B).contains b = isD b := by
  have h := List.all_eq_true.mp (show (List.range 256).all (fun n => ([48, 49, 50, 51, 52, 53, 54, 55, 56, 57] : B).contains (UInt8.ofNat n) == isD (UInt8.ofNat n)) = true from by kernel_rfl) b.toNat (List.mem_range.mpr (UInt8.toNat_lt b))
  rw [UInt8.ofNat_toNat] at h
  exact eq_of_beq h
theorem isH_set (b : UInt8) : ([48, 49, 50, 51, 52, 53, 54, 55, 56, 57, 97, 98, 99, 100, 101, 102, 65, 66, 67, 68, 69, 70] : B).contains b = isH b := by
  have h := List.all_eq_true.mp (show (List.range 256).all (fun n => ([48, 49, 50, 51, 52, 53, 54, 55, 56, 57, 97, 98, 99, 100, 101, 102, 65, 66, 67, 68, 69, 70] : B).contains (UInt8.ofNat n) == isH (UInt8.ofNat n)) = true from by kernel_rfl) b.toNat (List.mem_range.mpr (UInt8.toNat_lt b))
  rw [UInt8.ofNat_toNat] at h
  exact eq_of_beq h
theorem drop_run (t : ByteArray) (k : Nat) (p : UInt8 → Bool) : t.data.toList.drop (k + ((t.data.toList.drop k).takeWhile p).length) = (t.data.toList.drop k).dropWhile p := by
  rw [← List.drop_drop, drop_dk]
theorem run_le {t : ByteArray} {k : Nat} (p : UInt8 → Bool) (hk : k ≤ t.size) : k + ((t.data.toList.drop k).takeWhile p).length ≤ t.size := by
  have := run_num p hk; omega
end Lx
section
variable {w : World} {g : Nat} {t : ByteArray} {k : Nat} {st : Value} {rd wh : Pc}
theorem runD_any (h : RB w g t k st rd wh) (ht : t.size ≤ 65536) (hk : k ≤ t.size) :
    Calls Tryz.prog 137 #[.pointer (some ⟨g, 0, none⟩), .string ⟨#[48, 49, 50, 51, 52, 53, 54, 55, 56, 57]⟩] w fun e w' => e = .returned (.string (str (tkD (t.data.toList.drop k)))) ∧
      RB w' g t (k + (tkD (t.data.toList.drop k)).length) st rd wh ∧ Tn g w w' :=
  run_any [48, 49, 50, 51, 52, 53, 54, 55, 56, 57] isD isD_set (by decide) (by decide) (by decide) h ht hk
theorem runH_any (h : RB w g t k st rd wh) (ht : t.size ≤ 65536) (hk : k ≤ t.size) :
    Calls Tryz.prog 137 #[.pointer (some ⟨g, 0, none⟩), .string ⟨#[48, 49, 50, 51, 52, 53, 54, 55, 56, 57, 97, 98, 99, 100, 101, 102, 65, 66, 67, 68, 69, 70]⟩] w fun e w' => e = .returned (.string (str (tkH (t.data.toList.drop k)))) ∧
      RB w' g t (k + (tkH (t.data.toList.drop k)).length) st rd wh ∧ Tn g w w' :=
  run_any [48, 49, 50, 51, 52, 53, 54, 55, 56, 57, 97, 98, 99, 100, 101, 102, 65, 66, 67, 68, 69, 70] isH isH_set (by decide) (by decide) (by decide) h ht hk
end
set_option maxRecDepth 100000 in
theorem has_any {w : World} {g : Nat} {t : ByteArray} {k : Nat} {st : Value} {rd wh : Pc} (h : RB w g t k st rd wh) :
    Calls Tryz.prog 138 #[.pointer (some ⟨g, 0, none⟩)] w fun e w' => e = .returned (.bool rd.has) ∧ w' = w := by
  obtain ⟨c0, c1, c2⟩ := h.head
  obtain ⟨c3, c4, c5, c6, c7, c8, c9⟩ := h.read
  have e1 := str_empty rd.ahead
  have e2 := str_empty rd.behind
  have hh : rd.has = (!rd.ahead.isEmpty || !rd.behind.isEmpty) := rfl
  rw [hh]
  clear h hh
  cases h1 : rd.ahead.isEmpty <;> rw [h1] at e1 <;> cases h2 : rd.behind.isEmpty <;> rw [h2] at e2
  all_goals
    clear h1 h2
    go_enter Tryz.func138, Tryz.ntmps138
    go_wp2
    go_ret
    exact ⟨rfl, rfl⟩
set_option maxHeartbeats 800000 in
set_option maxRecDepth 100000 in
theorem keep_any {w : World} {g : Nat} {t : ByteArray} {k : Nat} {st : Value} {rd wh : Pc} (h : RB w g t k st rd wh) :
    Calls Tryz.prog 139 #[.pointer (some ⟨g, 0, none⟩)] w fun e w' => e = .returned (.tuple #[]) ∧ RB w' g t k st { rd with stop := k } { rd with stop := k } ∧ Tn g w w' := by
  obtain ⟨c0, c1, c2⟩ := h.head
  obtain ⟨c3, c4, c5, c6, c7, c8, c9⟩ := h.read
  have cf9 := Bk.frozen h 9
  obtain ⟨d0, d1, d2, d3, d4, d5, d6⟩ := h.whole
  have df10 := Bk.frozen h 10
  have df11 := Bk.frozen h 11
  have df12 := Bk.frozen h 12
  have df13 := Bk.frozen h 13
  have df14 := Bk.frozen h 14
  have df15 := Bk.frozen h 15
  have df16 := Bk.frozen h 16
  have HB : Hid (RB w g t k st rd wh) := h
  clear h
  go_enter Tryz.func139, Tryz.ntmps139
  go_wp2
  go_end0
  exact ⟨rfl, (HB.out.stop k).toWhole { rd with stop := k }, (((((((((Tn.refl g w).set 9 _).set 10 _).set 11 _).set 12 _).set 13 _).set 14 _).set 15 _).set 16 _)⟩

end Go.Proofs.YtfgpjplfplbcdaaGreatDoor

/- Layer 9: what each state of the reader leaves. -/
namespace Go.Proofs.YtfgpjplfplbcdaaGreatDoor
open Go.ChangeShapes Go.WideShapes Go.ChangeAt Go.RowKit
open Lx
set_option linter.unusedVariables false
section
variable {w : World} {g : Nat} {t : ByteArray} {k : Nat} {rd wh : Pc}
set_option maxHeartbeats 1600000 in
set_option maxRecDepth 100000 in
theorem st_start (h : RB w g t k (stV g .stop) rd wh) (ht : t.size ≤ 65536) (hk : k ≤ t.size) :
    Calls Tryz.prog 112 #[.pointer (some ⟨g, 0, none⟩)] w (Post .start w g t k rd wh) := by
  have HB : Hid (RB w g t k (stV g .stop) rd wh) := h
  have hst : stV g .stop = .nilFunc := rfl
  obtain ⟨c0, c1, c2⟩ := h.head
  obtain ⟨c3, c4, c5, c6, c7, c8, c9⟩ := h.read
  have cf1 := Bk.frozen h 1
  have cf2 := Bk.frozen h 2
  have cf3 := Bk.frozen h 3
  have cf4 := Bk.frozen h 4
  have cf5 := Bk.frozen h 5
  have cf6 := Bk.frozen h 6
  have cf7 := Bk.frozen h 7
  have cf8 := Bk.frozen h 8
  have cf9 := Bk.frozen h 9
  by_cases hf : fst [45] (t.data.toList.drop k) = true
  · obtain ⟨hk1, _, htl⟩ := fst_drop_lt hf
    have c1 := one_yes [45] h ht hf
    clear h
    go_enter Tryz.func112, Tryz.ntmps112
    go_wp2_with fail
    refine (c1).mono ?_
    rintro e w1 ⟨rfl, R1, T1⟩
    obtain ⟨a0, a1, a2⟩ := R1.head
    obtain ⟨a3, a4, a5, a6, a7, a8, a9⟩ := R1.read
    have af1 := Bk.frozen R1 1
    have af2 := Bk.frozen R1 2
    have af3 := Bk.frozen R1 3
    have af4 := Bk.frozen R1 4
    have af5 := Bk.frozen R1 5
    have af6 := Bk.frozen R1 6
    have af7 := Bk.frozen R1 7
    have af8 := Bk.frozen R1 8
    have af9 := Bk.frozen R1 9
    go_wp2
    go_end0
    refine ⟨rfl, .sign, k + 1, _, _, (R1.neg true).setSt (stV g .sign), by omega, ?_, by decide, (T1.set 4 _).set 2 _⟩
    show finSign _ _ _ _ = finStart _ _ _ _
    unfold finStart
    rw [if_pos hf, htl]
  · have hf' : fst [45] (t.data.toList.drop k) = false := by simpa using hf
    have c1 := one_no [45] h ht hk hf'
    clear h
    by_cases hp : fst [43] (t.data.toList.drop k) = true
    · obtain ⟨hk1, _, htl⟩ := fst_drop_lt hp
      go_enter Tryz.func112, Tryz.ntmps112
      go_wp2_with fail
      refine (c1).mono ?_
      rintro e w1 ⟨rfl, R1, T1⟩
      obtain ⟨a0, a1, a2⟩ := R1.head
      obtain ⟨a3, a4, a5, a6, a7, a8, a9⟩ := R1.read
      have af1 := Bk.frozen R1 1
      have af2 := Bk.frozen R1 2
      have af3 := Bk.frozen R1 3
      have af4 := Bk.frozen R1 4
      have af5 := Bk.frozen R1 5
      have af6 := Bk.frozen R1 6
      have af7 := Bk.frozen R1 7
      have af8 := Bk.frozen R1 8
      have af9 := Bk.frozen R1 9
      go_wp2_with fail
      refine (one_yes [43] (R1.neg false) ht hp).mono ?_
      rintro e w2 ⟨rfl, R2, T2⟩
      obtain ⟨b0, b1, b2⟩ := R2.head
      obtain ⟨b3, b4, b5, b6, b7, b8, b9⟩ := R2.read
      have bf1 := Bk.frozen R2 1
      have bf2 := Bk.frozen R2 2
      have bf3 := Bk.frozen R2 3
      have bf4 := Bk.frozen R2 4
      have bf5 := Bk.frozen R2 5
      have bf6 := Bk.frozen R2 6
      have bf7 := Bk.frozen R2 7
      have bf8 := Bk.frozen R2 8
      have bf9 := Bk.frozen R2 9
      go_wp2
      go_end0
      refine ⟨rfl, .sign, k + 1, _, _, R2.setSt (stV g .sign), by omega, ?_, by decide, ((T1.set 4 _).trans T2).set 2 _⟩
      show finSign _ _ _ _ = finStart _ _ _ _
      unfold finStart
      rw [if_neg hf, if_pos hp, htl]
    · have hp' : fst [43] (t.data.toList.drop k) = false := by simpa using hp
      go_enter Tryz.func112, Tryz.ntmps112
      go_wp2_with fail
      refine (c1).mono ?_
      rintro e w1 ⟨rfl, R1, T1⟩
      obtain ⟨a0, a1, a2⟩ := R1.head
      obtain ⟨a3, a4, a5, a6, a7, a8, a9⟩ := R1.read
      have af1 := Bk.frozen R1 1
      have af2 := Bk.frozen R1 2
      have af3 := Bk.frozen R1 3
      have af4 := Bk.frozen R1 4
      have af5 := Bk.frozen R1 5
      have af6 := Bk.frozen R1 6
      have af7 := Bk.frozen R1 7
      have af8 := Bk.frozen R1 8
      have af9 := Bk.frozen R1 9
      go_wp2_with fail
      refine (one_no [43] (R1.neg false) ht hk hp').mono ?_
      rintro e w2 ⟨rfl, R2, T2⟩
      obtain ⟨b0, b1, b2⟩ := R2.head
      obtain ⟨b3, b4, b5, b6, b7, b8, b9⟩ := R2.read
      have bf1 := Bk.frozen R2 1
      have bf2 := Bk.frozen R2 2
      have bf3 := Bk.frozen R2 3
      have bf4 := Bk.frozen R2 4
      have bf5 := Bk.frozen R2 5
      have bf6 := Bk.frozen R2 6
      have bf7 := Bk.frozen R2 7
      have bf8 := Bk.frozen R2 8
      have bf9 := Bk.frozen R2 9
      go_wp2
      go_end0
      refine ⟨rfl, .sign, k, _, _, R2.setSt (stV g .sign), hk, ?_, by decide, ((T1.set 4 _).trans T2).set 2 _⟩
      show finSign _ _ _ _ = finStart _ _ _ _
      unfold finStart
      rw [if_neg hf, if_neg hp]
set_option maxHeartbeats 1600000 in
set_option maxRecDepth 100000 in
theorem st_sign (h : RB w g t k (stV g .stop) rd wh) (ht : t.size ≤ 65536) (hk : k ≤ t.size) :
    Calls Tryz.prog 127 #[.pointer (some ⟨g, 0, none⟩)] w (Post .sign w g t k rd wh) := by
  have HB : Hid (RB w g t k (stV g .stop) rd wh) := h
  have hst : stV g .stop = .nilFunc := rfl
  obtain ⟨c0, c1, c2⟩ := h.head
  obtain ⟨c3, c4, c5, c6, c7, c8, c9⟩ := h.read
  have cf1 := Bk.frozen h 1
  have cf2 := Bk.frozen h 2
  have cf3 := Bk.frozen h 3
  have cf4 := Bk.frozen h 4
  have cf5 := Bk.frozen h 5
  have cf6 := Bk.frozen h 6
  have cf7 := Bk.frozen h 7
  have cf8 := Bk.frozen h 8
  have cf9 := Bk.frozen h 9
  have hle := run_le isD hk
  have hdr := drop_run t k isD
  change k + (tkD (t.data.toList.drop k)).length ≤ t.size at hle
  change t.data.toList.drop (k + (tkD (t.data.toList.drop k)).length) = dkD (t.data.toList.drop k) at hdr
  have c1 := runD_any (h.kind 1) ht hk
  clear h
  cases hh : ({ rd with kind := 1, ahead := tkD (t.data.toList.drop k) } : Pc).has
  · have hh' : ({ rd with kind := 1, ahead := tkD (t.data.toList.drop k) } : Pc).has = false := hh
    by_cases hp : fst [46] (dkD (t.data.toList.drop k)) = true
    · have hp2 := hp
      rw [← hdr] at hp2
      obtain ⟨hk1, _, htl⟩ := fst_drop_lt hp2
      rw [hdr] at htl
      go_enter Tryz.func127, Tryz.ntmps127
      go_wp2_with fail
      refine (c1).mono ?_
      rintro e w1 ⟨rfl, R1, T1⟩
      obtain ⟨a0, a1, a2⟩ := R1.head
      obtain ⟨a3, a4, a5, a6, a7, a8, a9⟩ := R1.read
      have af1 := Bk.frozen R1 1
      have af2 := Bk.frozen R1 2
      have af3 := Bk.frozen R1 3
      have af4 := Bk.frozen R1 4
      have af5 := Bk.frozen R1 5
      have af6 := Bk.frozen R1 6
      have af7 := Bk.frozen R1 7
      have af8 := Bk.frozen R1 8
      have af9 := Bk.frozen R1 9
      have c2 := has_any (R1.ahead (tkD (t.data.toList.drop k)))
      rw [hh] at c2
      go_wp2_with fail
      refine c2.mono ?_
      rintro e w2 ⟨rfl, rfl⟩
      go_wp2_with fail
      refine (one_yes [46] (R1.ahead (tkD (t.data.toList.drop k))) ht hp2).mono ?_
      rintro e w3 ⟨rfl, R3, T3⟩
      obtain ⟨b0, b1, b2⟩ := R3.head
      obtain ⟨b3, b4, b5, b6, b7, b8, b9⟩ := R3.read
      have bf1 := Bk.frozen R3 1
      have bf2 := Bk.frozen R3 2
      have bf3 := Bk.frozen R3 3
      have bf4 := Bk.frozen R3 4
      have bf5 := Bk.frozen R3 5
      have bf6 := Bk.frozen R3 6
      have bf7 := Bk.frozen R3 7
      have bf8 := Bk.frozen R3 8
      have bf9 := Bk.frozen R3 9
      go_wp2
      go_end0
      refine ⟨rfl, .point, k + (tkD (t.data.toList.drop k)).length + 1, _, _, R3.setSt (stV g .point), by omega, ?_, by decide, ((((Tn.refl g w).set 3 _).trans T1).set 5 _).trans T3 |>.set 2 _⟩
      show finPoint _ _ _ _ = finSign _ _ _ _
      unfold finSign
      simp only [hh', Bool.false_eq_true, if_false]
      rw [if_pos hp, htl]
    · have hp2 : fst [46] (dkD (t.data.toList.drop k)) = false := by simpa using hp
      rw [← hdr] at hp2
      go_enter Tryz.func127, Tryz.ntmps127
      go_wp2_with fail
      refine (c1).mono ?_
      rintro e w1 ⟨rfl, R1, T1⟩
      obtain ⟨a0, a1, a2⟩ := R1.head
      obtain ⟨a3, a4, a5, a6, a7, a8, a9⟩ := R1.read
      have af1 := Bk.frozen R1 1
      have af2 := Bk.frozen R1 2
      have af3 := Bk.frozen R1 3
      have af4 := Bk.frozen R1 4
      have af5 := Bk.frozen R1 5
      have af6 := Bk.frozen R1 6
      have af7 := Bk.frozen R1 7
      have af8 := Bk.frozen R1 8
      have af9 := Bk.frozen R1 9
      have c2 := has_any (R1.ahead (tkD (t.data.toList.drop k)))
      rw [hh] at c2
      go_wp2_with fail
      refine c2.mono ?_
      rintro e w2 ⟨rfl, rfl⟩
      go_wp2_with fail
      refine (one_no [46] (R1.ahead (tkD (t.data.toList.drop k))) ht hle hp2).mono ?_
      rintro e w3 ⟨rfl, R3, T3⟩
      obtain ⟨b0, b1, b2⟩ := R3.head
      obtain ⟨b3, b4, b5, b6, b7, b8, b9⟩ := R3.read
      have bf1 := Bk.frozen R3 1
      have bf2 := Bk.frozen R3 2
      have bf3 := Bk.frozen R3 3
      have bf4 := Bk.frozen R3 4
      have bf5 := Bk.frozen R3 5
      have bf6 := Bk.frozen R3 6
      have bf7 := Bk.frozen R3 7
      have bf8 := Bk.frozen R3 8
      have bf9 := Bk.frozen R3 9
      go_wp2
      go_end0
      refine ⟨rfl, .stop, k + (tkD (t.data.toList.drop k)).length, _, _, R3, hle, ?_, by decide, ((((Tn.refl g w).set 3 _).trans T1).set 5 _).trans T3⟩
      show _ = finSign _ _ _ _
      unfold finSign
      simp only [hh', Bool.false_eq_true, if_false]
      rw [if_neg hp]
      rfl
  · have hh' : ({ rd with kind := 1, ahead := tkD (t.data.toList.drop k) } : Pc).has = true := hh
    go_enter Tryz.func127, Tryz.ntmps127
    go_wp2_with fail
    refine (c1).mono ?_
    rintro e w1 ⟨rfl, R1, T1⟩
    obtain ⟨a0, a1, a2⟩ := R1.head
    obtain ⟨a3, a4, a5, a6, a7, a8, a9⟩ := R1.read
    have af1 := Bk.frozen R1 1
    have af2 := Bk.frozen R1 2
    have af3 := Bk.frozen R1 3
    have af4 := Bk.frozen R1 4
    have af5 := Bk.frozen R1 5
    have af6 := Bk.frozen R1 6
    have af7 := Bk.frozen R1 7
    have af8 := Bk.frozen R1 8
    have af9 := Bk.frozen R1 9
    have c2 := has_any (R1.ahead (tkD (t.data.toList.drop k)))
    rw [hh] at c2
    go_wp2_with fail
    refine c2.mono ?_
    rintro e w2 ⟨rfl, rfl⟩
    go_wp2_with fail
    refine (keep_any (R1.ahead (tkD (t.data.toList.drop k)))).mono ?_
    rintro e w3 ⟨rfl, R3, T3⟩
    obtain ⟨b0, b1, b2⟩ := R3.head
    obtain ⟨b3, b4, b5, b6, b7, b8, b9⟩ := R3.read
    have bf1 := Bk.frozen R3 1
    have bf2 := Bk.frozen R3 2
    have bf3 := Bk.frozen R3 3
    have bf4 := Bk.frozen R3 4
    have bf5 := Bk.frozen R3 5
    have bf6 := Bk.frozen R3 6
    have bf7 := Bk.frozen R3 7
    have bf8 := Bk.frozen R3 8
    have bf9 := Bk.frozen R3 9
    go_wp2
    go_end0
    refine ⟨rfl, .digits, k + (tkD (t.data.toList.drop k)).length, _, _, R3.setSt (stV g .digits), hle, ?_, by decide, ((((Tn.refl g w).set 3 _).trans T1).set 5 _).trans T3 |>.set 2 _⟩
    show finDigits _ _ _ _ = finSign _ _ _ _
    unfold finSign
    simp only [hh', if_true]
    rw [hdr]
end
end Go.Proofs.YtfgpjplfplbcdaaGreatDoor

/- Layer 9: what each state of the reader leaves. -/
namespace Go.Proofs.YtfgpjplfplbcdaaGreatDoor
open Go.ChangeShapes Go.WideShapes Go.ChangeAt Go.RowKit
open Lx
set_option linter.unusedVariables false
section
variable {w : World} {g : Nat} {t : ByteArray} {k : Nat} {rd wh : Pc}
set_option maxHeartbeats 1600000 in
set_option maxRecDepth 100000 in
theorem st_digits (h : RB w g t k (stV g .stop) rd wh) (ht : t.size ≤ 65536) (hk : k ≤ t.size) :
    Calls Tryz.prog 140 #[.pointer (some ⟨g, 0, none⟩)] w (Post .digits w g t k rd wh) := by
  have HB : Hid (RB w g t k (stV g .stop) rd wh) := h
  have hst : stV g .stop = .nilFunc := rfl
  obtain ⟨c0, c1, c2⟩ := h.head
  obtain ⟨c3, c4, c5, c6, c7, c8, c9⟩ := h.read
  have cf1 := Bk.frozen h 1
  have cf2 := Bk.frozen h 2
  have cf3 := Bk.frozen h 3
  have cf4 := Bk.frozen h 4
  have cf5 := Bk.frozen h 5
  have cf6 := Bk.frozen h 6
  have cf7 := Bk.frozen h 7
  have cf8 := Bk.frozen h 8
  have cf9 := Bk.frozen h 9
  by_cases h1 : fst [46] (t.data.toList.drop k) = true
  · obtain ⟨hk1, _, htl⟩ := fst_drop_lt h1
    have c1 := one_yes [46] h ht h1
    clear h
    go_enter Tryz.func140, Tryz.ntmps140
    go_wp2_with fail
    refine (c1).mono ?_
    rintro e w1 ⟨rfl, R1, T1⟩
    obtain ⟨a0, a1, a2⟩ := R1.head
    obtain ⟨a3, a4, a5, a6, a7, a8, a9⟩ := R1.read
    have af1 := Bk.frozen R1 1
    have af2 := Bk.frozen R1 2
    have af3 := Bk.frozen R1 3
    have af4 := Bk.frozen R1 4
    have af5 := Bk.frozen R1 5
    have af6 := Bk.frozen R1 6
    have af7 := Bk.frozen R1 7
    have af8 := Bk.frozen R1 8
    have af9 := Bk.frozen R1 9
    go_wp2
    go_end0
    refine ⟨rfl, .point, k + 1, _, _, R1.setSt (stV g .point), by omega, ?_, by decide, T1.set 2 _⟩
    show finPoint _ _ _ _ = finDigits _ _ _ _
    unfold finDigits
    rw [if_pos h1, htl]
  · have h1' : fst [46] (t.data.toList.drop k) = false := by simpa using h1
    have c1 := one_no [46] h ht hk h1'
    clear h
    by_cases h2 : fst [101, 69] (t.data.toList.drop k) = true
    · obtain ⟨hk1, _, htl⟩ := fst_drop_lt h2
      go_enter Tryz.func140, Tryz.ntmps140
      go_wp2_with fail
      refine (c1).mono ?_
      rintro e w1 ⟨rfl, R1, T1⟩
      obtain ⟨a0, a1, a2⟩ := R1.head
      obtain ⟨a3, a4, a5, a6, a7, a8, a9⟩ := R1.read
      have af1 := Bk.frozen R1 1
      have af2 := Bk.frozen R1 2
      have af3 := Bk.frozen R1 3
      have af4 := Bk.frozen R1 4
      have af5 := Bk.frozen R1 5
      have af6 := Bk.frozen R1 6
      have af7 := Bk.frozen R1 7
      have af8 := Bk.frozen R1 8
      have af9 := Bk.frozen R1 9
      go_wp2_with fail
      refine (one_yes [101, 69] R1 ht h2).mono ?_
      rintro e w2 ⟨rfl, R2, T2⟩
      obtain ⟨b0, b1, b2⟩ := R2.head
      obtain ⟨b3, b4, b5, b6, b7, b8, b9⟩ := R2.read
      have bf1 := Bk.frozen R2 1
      have bf2 := Bk.frozen R2 2
      have bf3 := Bk.frozen R2 3
      have bf4 := Bk.frozen R2 4
      have bf5 := Bk.frozen R2 5
      have bf6 := Bk.frozen R2 6
      have bf7 := Bk.frozen R2 7
      have bf8 := Bk.frozen R2 8
      have bf9 := Bk.frozen R2 9
      go_wp2
      go_end0
      refine ⟨rfl, .e, k + 1, _, _, R2.setSt (stV g .e), by omega, ?_, by decide, (T1.trans T2).set 2 _⟩
      show finE _ _ _ _ = finDigits _ _ _ _
      unfold finDigits
      rw [if_neg h1, if_pos h2, htl]
    · have h2' : fst [101, 69] (t.data.toList.drop k) = false := by simpa using h2
      by_cases h3 : fst [47] (t.data.toList.drop k) = true
      · obtain ⟨hk1, _, htl⟩ := fst_drop_lt h3
        go_enter Tryz.func140, Tryz.ntmps140
        go_wp2_with fail
        refine (c1).mono ?_
        rintro e w1 ⟨rfl, R1, T1⟩
        obtain ⟨a0, a1, a2⟩ := R1.head
        obtain ⟨a3, a4, a5, a6, a7, a8, a9⟩ := R1.read
        have af1 := Bk.frozen R1 1
        have af2 := Bk.frozen R1 2
        have af3 := Bk.frozen R1 3
        have af4 := Bk.frozen R1 4
        have af5 := Bk.frozen R1 5
        have af6 := Bk.frozen R1 6
        have af7 := Bk.frozen R1 7
        have af8 := Bk.frozen R1 8
        have af9 := Bk.frozen R1 9
        go_wp2_with fail
        refine (one_no [101, 69] R1 ht hk h2').mono ?_
        rintro e w2 ⟨rfl, R2, T2⟩
        obtain ⟨b0, b1, b2⟩ := R2.head
        obtain ⟨b3, b4, b5, b6, b7, b8, b9⟩ := R2.read
        have bf1 := Bk.frozen R2 1
        have bf2 := Bk.frozen R2 2
        have bf3 := Bk.frozen R2 3
        have bf4 := Bk.frozen R2 4
        have bf5 := Bk.frozen R2 5
        have bf6 := Bk.frozen R2 6
        have bf7 := Bk.frozen R2 7
        have bf8 := Bk.frozen R2 8
        have bf9 := Bk.frozen R2 9
        go_wp2_with fail
        refine (one_yes [47] R2 ht h3).mono ?_
        rintro e w3 ⟨rfl, R3, T3⟩
        obtain ⟨d0, d1, d2⟩ := R3.head
        obtain ⟨d3, d4, d5, d6, d7, d8, d9⟩ := R3.read
        have df1 := Bk.frozen R3 1
        have df2 := Bk.frozen R3 2
        have df3 := Bk.frozen R3 3
        have df4 := Bk.frozen R3 4
        have df5 := Bk.frozen R3 5
        have df6 := Bk.frozen R3 6
        have df7 := Bk.frozen R3 7
        have df8 := Bk.frozen R3 8
        have df9 := Bk.frozen R3 9
        go_wp2
        go_end0
        refine ⟨rfl, .slash, k + 1, _, _, R3.setSt (stV g .slash), by omega, ?_, by decide, ((T1.trans T2).trans T3).set 2 _⟩
        show finSlash _ _ _ _ = finDigits _ _ _ _
        unfold finDigits
        rw [if_neg h1, if_neg h2, if_pos h3, htl]
      · have h3' : fst [47] (t.data.toList.drop k) = false := by simpa using h3
        by_cases hz : rd.ahead = [48]
        · have hz1 : ((str rd.ahead).toList == [48]) = true := by rw [Lib.toList_data, str_list, hz]; rfl
          have HZ : Hid (rd.ahead = [48]) := hz
          clear hz
          by_cases h4 : fst [120, 88] (t.data.toList.drop k) = true
          · obtain ⟨hk1, _, htl⟩ := fst_drop_lt h4
            go_enter Tryz.func140, Tryz.ntmps140
            go_wp2_with fail
            refine (c1).mono ?_
            rintro e w1 ⟨rfl, R1, T1⟩
            obtain ⟨a0, a1, a2⟩ := R1.head
            obtain ⟨a3, a4, a5, a6, a7, a8, a9⟩ := R1.read
            have af1 := Bk.frozen R1 1
            have af2 := Bk.frozen R1 2
            have af3 := Bk.frozen R1 3
            have af4 := Bk.frozen R1 4
            have af5 := Bk.frozen R1 5
            have af6 := Bk.frozen R1 6
            have af7 := Bk.frozen R1 7
            have af8 := Bk.frozen R1 8
            have af9 := Bk.frozen R1 9
            go_wp2_with fail
            refine (one_no [101, 69] R1 ht hk h2').mono ?_
            rintro e w2 ⟨rfl, R2, T2⟩
            obtain ⟨b0, b1, b2⟩ := R2.head
            obtain ⟨b3, b4, b5, b6, b7, b8, b9⟩ := R2.read
            have bf1 := Bk.frozen R2 1
            have bf2 := Bk.frozen R2 2
            have bf3 := Bk.frozen R2 3
            have bf4 := Bk.frozen R2 4
            have bf5 := Bk.frozen R2 5
            have bf6 := Bk.frozen R2 6
            have bf7 := Bk.frozen R2 7
            have bf8 := Bk.frozen R2 8
            have bf9 := Bk.frozen R2 9
            go_wp2_with fail
            refine (one_no [47] R2 ht hk h3').mono ?_
            rintro e w3 ⟨rfl, R3, T3⟩
            obtain ⟨d0, d1, d2⟩ := R3.head
            obtain ⟨d3, d4, d5, d6, d7, d8, d9⟩ := R3.read
            have df1 := Bk.frozen R3 1
            have df2 := Bk.frozen R3 2
            have df3 := Bk.frozen R3 3
            have df4 := Bk.frozen R3 4
            have df5 := Bk.frozen R3 5
            have df6 := Bk.frozen R3 6
            have df7 := Bk.frozen R3 7
            have df8 := Bk.frozen R3 8
            have df9 := Bk.frozen R3 9
            go_wp2_with fail
            refine (one_yes [120, 88] R3 ht h4).mono ?_
            rintro e w4 ⟨rfl, R4, T4⟩
            obtain ⟨p0, p1, p2⟩ := R4.head
            obtain ⟨p3, p4, p5, p6, p7, p8, p9⟩ := R4.read
            have pf1 := Bk.frozen R4 1
            have pf2 := Bk.frozen R4 2
            have pf3 := Bk.frozen R4 3
            have pf4 := Bk.frozen R4 4
            have pf5 := Bk.frozen R4 5
            have pf6 := Bk.frozen R4 6
            have pf7 := Bk.frozen R4 7
            have pf8 := Bk.frozen R4 8
            have pf9 := Bk.frozen R4 9
            go_wp2
            go_end0
            refine ⟨rfl, .x, k + 1, _, _, R4.setSt (stV g .x), by omega, ?_, by decide, (((T1.trans T2).trans T3).trans T4).set 2 _⟩
            show finX _ _ _ _ = finDigits _ _ _ _
            unfold finDigits
            rw [if_neg h1, if_neg h2, if_neg h3, if_pos (by rw [h4, HZ.out]; rfl), htl]
          · have h4' : fst [120, 88] (t.data.toList.drop k) = false := by simpa using h4
            go_enter Tryz.func140, Tryz.ntmps140
            go_wp2_with fail
            refine (c1).mono ?_
            rintro e w1 ⟨rfl, R1, T1⟩
            obtain ⟨a0, a1, a2⟩ := R1.head
            obtain ⟨a3, a4, a5, a6, a7, a8, a9⟩ := R1.read
            have af1 := Bk.frozen R1 1
            have af2 := Bk.frozen R1 2
            have af3 := Bk.frozen R1 3
            have af4 := Bk.frozen R1 4
            have af5 := Bk.frozen R1 5
            have af6 := Bk.frozen R1 6
            have af7 := Bk.frozen R1 7
            have af8 := Bk.frozen R1 8
            have af9 := Bk.frozen R1 9
            go_wp2_with fail
            refine (one_no [101, 69] R1 ht hk h2').mono ?_
            rintro e w2 ⟨rfl, R2, T2⟩
            obtain ⟨b0, b1, b2⟩ := R2.head
            obtain ⟨b3, b4, b5, b6, b7, b8, b9⟩ := R2.read
            have bf1 := Bk.frozen R2 1
            have bf2 := Bk.frozen R2 2
            have bf3 := Bk.frozen R2 3
            have bf4 := Bk.frozen R2 4
            have bf5 := Bk.frozen R2 5
            have bf6 := Bk.frozen R2 6
            have bf7 := Bk.frozen R2 7
            have bf8 := Bk.frozen R2 8
            have bf9 := Bk.frozen R2 9
            go_wp2_with fail
            refine (one_no [47] R2 ht hk h3').mono ?_
            rintro e w3 ⟨rfl, R3, T3⟩
            obtain ⟨d0, d1, d2⟩ := R3.head
            obtain ⟨d3, d4, d5, d6, d7, d8, d9⟩ := R3.read
            have df1 := Bk.frozen R3 1
            have df2 := Bk.frozen R3 2
            have df3 := Bk.frozen R3 3
            have df4 := Bk.frozen R3 4
            have df5 := Bk.frozen R3 5
            have df6 := Bk.frozen R3 6
            have df7 := Bk.frozen R3 7
            have df8 := Bk.frozen R3 8
            have df9 := Bk.frozen R3 9
            go_wp2_with fail
            refine (one_no [120, 88] R3 ht hk h4').mono ?_
            rintro e w4 ⟨rfl, R4, T4⟩
            obtain ⟨p0, p1, p2⟩ := R4.head
            obtain ⟨p3, p4, p5, p6, p7, p8, p9⟩ := R4.read
            have pf1 := Bk.frozen R4 1
            have pf2 := Bk.frozen R4 2
            have pf3 := Bk.frozen R4 3
            have pf4 := Bk.frozen R4 4
            have pf5 := Bk.frozen R4 5
            have pf6 := Bk.frozen R4 6
            have pf7 := Bk.frozen R4 7
            have pf8 := Bk.frozen R4 8
            have pf9 := Bk.frozen R4 9
            go_wp2
            go_end0
            refine ⟨rfl, .stop, k, _, _, R4, hk, ?_, by decide, ((T1.trans T2).trans T3).trans T4⟩
            show _ = finDigits _ _ _ _
            unfold finDigits
            rw [if_neg h1, if_neg h2, if_neg h3, if_neg (by rw [h4']; simp)]
            rfl
        · have hz1 : ((str rd.ahead).toList == [48]) = false := by rw [Lib.toList_data, str_list]; simpa using hz
          have HZ : Hid (¬ rd.ahead = [48]) := hz
          clear hz
          go_enter Tryz.func140, Tryz.ntmps140
          go_wp2_with fail
          refine (c1).mono ?_
          rintro e w1 ⟨rfl, R1, T1⟩
          obtain ⟨a0, a1, a2⟩ := R1.head
          obtain ⟨a3, a4, a5, a6, a7, a8, a9⟩ := R1.read
          have af1 := Bk.frozen R1 1
          have af2 := Bk.frozen R1 2
          have af3 := Bk.frozen R1 3
          have af4 := Bk.frozen R1 4
          have af5 := Bk.frozen R1 5
          have af6 := Bk.frozen R1 6
          have af7 := Bk.frozen R1 7
          have af8 := Bk.frozen R1 8
          have af9 := Bk.frozen R1 9
          go_wp2_with fail
          refine (one_no [101, 69] R1 ht hk h2').mono ?_
          rintro e w2 ⟨rfl, R2, T2⟩
          obtain ⟨b0, b1, b2⟩ := R2.head
          obtain ⟨b3, b4, b5, b6, b7, b8, b9⟩ := R2.read
          have bf1 := Bk.frozen R2 1
          have bf2 := Bk.frozen R2 2
          have bf3 := Bk.frozen R2 3
          have bf4 := Bk.frozen R2 4
          have bf5 := Bk.frozen R2 5
          have bf6 := Bk.frozen R2 6
          have bf7 := Bk.frozen R2 7
          have bf8 := Bk.frozen R2 8
          have bf9 := Bk.frozen R2 9
          go_wp2_with fail
          refine (one_no [47] R2 ht hk h3').mono ?_
          rintro e w3 ⟨rfl, R3, T3⟩
          obtain ⟨d0, d1, d2⟩ := R3.head
          obtain ⟨d3, d4, d5, d6, d7, d8, d9⟩ := R3.read
          have df1 := Bk.frozen R3 1
          have df2 := Bk.frozen R3 2
          have df3 := Bk.frozen R3 3
          have df4 := Bk.frozen R3 4
          have df5 := Bk.frozen R3 5
          have df6 := Bk.frozen R3 6
          have df7 := Bk.frozen R3 7
          have df8 := Bk.frozen R3 8
          have df9 := Bk.frozen R3 9
          go_wp2
          go_end0
          refine ⟨rfl, .stop, k, _, _, R3, hk, ?_, by decide, (T1.trans T2).trans T3⟩
          show _ = finDigits _ _ _ _
          unfold finDigits
          rw [if_neg h1, if_neg h2, if_neg h3, if_neg (by simp [HZ.out])]
          rfl
set_option maxHeartbeats 1600000 in
set_option maxRecDepth 100000 in
theorem st_point (h : RB w g t k (stV g .stop) rd wh) (ht : t.size ≤ 65536) (hk : k ≤ t.size) :
    Calls Tryz.prog 141 #[.pointer (some ⟨g, 0, none⟩)] w (Post .point w g t k rd wh) := by
  have HB : Hid (RB w g t k (stV g .stop) rd wh) := h
  have hst : stV g .stop = .nilFunc := rfl
  obtain ⟨c0, c1, c2⟩ := h.head
  obtain ⟨c3, c4, c5, c6, c7, c8, c9⟩ := h.read
  have cf1 := Bk.frozen h 1
  have cf2 := Bk.frozen h 2
  have cf3 := Bk.frozen h 3
  have cf4 := Bk.frozen h 4
  have cf5 := Bk.frozen h 5
  have cf6 := Bk.frozen h 6
  have cf7 := Bk.frozen h 7
  have cf8 := Bk.frozen h 8
  have cf9 := Bk.frozen h 9
  have hle := run_le isD hk
  have hdr := drop_run t k isD
  change k + (tkD (t.data.toList.drop k)).length ≤ t.size at hle
  change t.data.toList.drop (k + (tkD (t.data.toList.drop k)).length) = dkD (t.data.toList.drop k) at hdr
  have c1 := runD_any h ht hk
  clear h
  cases hh : ({ rd with behind := tkD (t.data.toList.drop k) } : Pc).has
  · have hh' : ({ rd with behind := tkD (t.data.toList.drop k) } : Pc).has = false := hh
    go_enter Tryz.func141, Tryz.ntmps141
    go_wp2_with fail
    refine (c1).mono ?_
    rintro e w1 ⟨rfl, R1, T1⟩
    obtain ⟨a0, a1, a2⟩ := R1.head
    obtain ⟨a3, a4, a5, a6, a7, a8, a9⟩ := R1.read
    have af1 := Bk.frozen R1 1
    have af2 := Bk.frozen R1 2
    have af3 := Bk.frozen R1 3
    have af4 := Bk.frozen R1 4
    have af5 := Bk.frozen R1 5
    have af6 := Bk.frozen R1 6
    have af7 := Bk.frozen R1 7
    have af8 := Bk.frozen R1 8
    have af9 := Bk.frozen R1 9
    have c2 := has_any (R1.behind (tkD (t.data.toList.drop k)))
    rw [hh] at c2
    go_wp2_with fail
    refine c2.mono ?_
    rintro e w2 ⟨rfl, rfl⟩
    have R5 := R1.behind (tkD (t.data.toList.drop k))
    go_wp2
    first | go_end0 | (refine bodyPost_ret (v := .tuple #[]) ?_ rfl ?_; · rfl)
    refine ⟨rfl, .stop, k + (tkD (t.data.toList.drop k)).length, _, _, R5, hle, ?_, by decide, T1.set 6 _⟩
    show _ = finPoint _ _ _ _
    unfold finPoint
    simp only [hh', if_true]
    rfl
  · have hh' : ({ rd with behind := tkD (t.data.toList.drop k) } : Pc).has = true := hh
    by_cases hp : fst [101, 69] (dkD (t.data.toList.drop k)) = true
    · have hp2 := hp
      rw [← hdr] at hp2
      obtain ⟨hk1, _, htl⟩ := fst_drop_lt hp2
      rw [hdr] at htl
      go_enter Tryz.func141, Tryz.ntmps141
      go_wp2_with fail
      refine (c1).mono ?_
      rintro e w1 ⟨rfl, R1, T1⟩
      obtain ⟨a0, a1, a2⟩ := R1.head
      obtain ⟨a3, a4, a5, a6, a7, a8, a9⟩ := R1.read
      have af1 := Bk.frozen R1 1
      have af2 := Bk.frozen R1 2
      have af3 := Bk.frozen R1 3
      have af4 := Bk.frozen R1 4
      have af5 := Bk.frozen R1 5
      have af6 := Bk.frozen R1 6
      have af7 := Bk.frozen R1 7
      have af8 := Bk.frozen R1 8
      have af9 := Bk.frozen R1 9
      have c2 := has_any (R1.behind (tkD (t.data.toList.drop k)))
      rw [hh] at c2
      go_wp2_with fail
      refine c2.mono ?_
      rintro e w2 ⟨rfl, rfl⟩
      go_wp2_with fail
      refine (keep_any (R1.behind (tkD (t.data.toList.drop k)))).mono ?_
      rintro e w3 ⟨rfl, R3, T3⟩
      obtain ⟨b0, b1, b2⟩ := R3.head
      obtain ⟨b3, b4, b5, b6, b7, b8, b9⟩ := R3.read
      have bf1 := Bk.frozen R3 1
      have bf2 := Bk.frozen R3 2
      have bf3 := Bk.frozen R3 3
      have bf4 := Bk.frozen R3 4
      have bf5 := Bk.frozen R3 5
      have bf6 := Bk.frozen R3 6
      have bf7 := Bk.frozen R3 7
      have bf8 := Bk.frozen R3 8
      have bf9 := Bk.frozen R3 9
      go_wp2_with fail
      refine (one_yes [101, 69] R3 ht hp2).mono ?_
      rintro e w4 ⟨rfl, R4, T4⟩
      obtain ⟨d0, d1, d2⟩ := R4.head
      obtain ⟨d3, d4, d5, d6, d7, d8, d9⟩ := R4.read
      have df1 := Bk.frozen R4 1
      have df2 := Bk.frozen R4 2
      have df3 := Bk.frozen R4 3
      have df4 := Bk.frozen R4 4
      have df5 := Bk.frozen R4 5
      have df6 := Bk.frozen R4 6
      have df7 := Bk.frozen R4 7
      have df8 := Bk.frozen R4 8
      have df9 := Bk.frozen R4 9
      go_wp2
      go_end0
      refine ⟨rfl, .e, k + (tkD (t.data.toList.drop k)).length + 1, _, _, R4.setSt (stV g .e), by omega, ?_, by decide, ((T1.set 6 _).trans T3).trans T4 |>.set 2 _⟩
      show finE _ _ _ _ = finPoint _ _ _ _
      unfold finPoint
      simp only [hh', Bool.true_eq_false, if_false]
      rw [if_pos hp, htl]
    · have hp2 : fst [101, 69] (dkD (t.data.toList.drop k)) = false := by simpa using hp
      rw [← hdr] at hp2
      go_enter Tryz.func141, Tryz.ntmps141
      go_wp2_with fail
      refine (c1).mono ?_
      rintro e w1 ⟨rfl, R1, T1⟩
      obtain ⟨a0, a1, a2⟩ := R1.head
      obtain ⟨a3, a4, a5, a6, a7, a8, a9⟩ := R1.read
      have af1 := Bk.frozen R1 1
      have af2 := Bk.frozen R1 2
      have af3 := Bk.frozen R1 3
      have af4 := Bk.frozen R1 4
      have af5 := Bk.frozen R1 5
      have af6 := Bk.frozen R1 6
      have af7 := Bk.frozen R1 7
      have af8 := Bk.frozen R1 8
      have af9 := Bk.frozen R1 9
      have c2 := has_any (R1.behind (tkD (t.data.toList.drop k)))
      rw [hh] at c2
      go_wp2_with fail
      refine c2.mono ?_
      rintro e w2 ⟨rfl, rfl⟩
      go_wp2_with fail
      refine (keep_any (R1.behind (tkD (t.data.toList.drop k)))).mono ?_
      rintro e w3 ⟨rfl, R3, T3⟩
      obtain ⟨b0, b1, b2⟩ := R3.head
      obtain ⟨b3, b4, b5, b6, b7, b8, b9⟩ := R3.read
      have bf1 := Bk.frozen R3 1
      have bf2 := Bk.frozen R3 2
      have bf3 := Bk.frozen R3 3
      have bf4 := Bk.frozen R3 4
      have bf5 := Bk.frozen R3 5
      have bf6 := Bk.frozen R3 6
      have bf7 := Bk.frozen R3 7
      have bf8 := Bk.frozen R3 8
      have bf9 := Bk.frozen R3 9
      go_wp2_with fail
      refine (one_no [101, 69] R3 ht hle hp2).mono ?_
      rintro e w4 ⟨rfl, R4, T4⟩
      obtain ⟨d0, d1, d2⟩ := R4.head
      obtain ⟨d3, d4, d5, d6, d7, d8, d9⟩ := R4.read
      have df1 := Bk.frozen R4 1
      have df2 := Bk.frozen R4 2
      have df3 := Bk.frozen R4 3
      have df4 := Bk.frozen R4 4
      have df5 := Bk.frozen R4 5
      have df6 := Bk.frozen R4 6
      have df7 := Bk.frozen R4 7
      have df8 := Bk.frozen R4 8
      have df9 := Bk.frozen R4 9
      go_wp2
      go_end0
      refine ⟨rfl, .stop, k + (tkD (t.data.toList.drop k)).length, _, _, R4, hle, ?_, by decide, ((T1.set 6 _).trans T3).trans T4⟩
      show _ = finPoint _ _ _ _
      unfold finPoint
      simp only [hh', Bool.true_eq_false, if_false]
      rw [if_neg hp]
      rfl
set_option maxHeartbeats 1600000 in
set_option maxRecDepth 100000 in
theorem st_slash (h : RB w g t k (stV g .stop) rd wh) (ht : t.size ≤ 65536) (hk : k ≤ t.size) :
    Calls Tryz.prog 148 #[.pointer (some ⟨g, 0, none⟩)] w (Post .slash w g t k rd wh) := by
  have HB : Hid (RB w g t k (stV g .stop) rd wh) := h
  have hst : stV g .stop = .nilFunc := rfl
  obtain ⟨c0, c1, c2⟩ := h.head
  obtain ⟨c3, c4, c5, c6, c7, c8, c9⟩ := h.read
  have cf1 := Bk.frozen h 1
  have cf2 := Bk.frozen h 2
  have cf3 := Bk.frozen h 3
  have cf4 := Bk.frozen h 4
  have cf5 := Bk.frozen h 5
  have cf6 := Bk.frozen h 6
  have cf7 := Bk.frozen h 7
  have cf8 := Bk.frozen h 8
  have cf9 := Bk.frozen h 9
  have hle := run_le isD hk
  have hdr := drop_run t k isD
  change k + (tkD (t.data.toList.drop k)).length ≤ t.size at hle
  change t.data.toList.drop (k + (tkD (t.data.toList.drop k)).length) = dkD (t.data.toList.drop k) at hdr
  have c1 := runD_any (h.kind 3) ht hk
  clear h
  by_cases hn : tkD (t.data.toList.drop k) = []
  · have e1 : (str (tkD (t.data.toList.drop k))).toList.isEmpty = true := by rw [str_empty, hn]; rfl
    have HN : Hid (tkD (t.data.toList.drop k) = []) := hn
    clear hn
    go_enter Tryz.func148, Tryz.ntmps148
    go_wp2_with fail
    refine (c1).mono ?_
    rintro e w1 ⟨rfl, R1, T1⟩
    obtain ⟨a0, a1, a2⟩ := R1.head
    obtain ⟨a3, a4, a5, a6, a7, a8, a9⟩ := R1.read
    have af1 := Bk.frozen R1 1
    have af2 := Bk.frozen R1 2
    have af3 := Bk.frozen R1 3
    have af4 := Bk.frozen R1 4
    have af5 := Bk.frozen R1 5
    have af6 := Bk.frozen R1 6
    have af7 := Bk.frozen R1 7
    have af8 := Bk.frozen R1 8
    have af9 := Bk.frozen R1 9
    have R5 := R1.den (tkD (t.data.toList.drop k))
    go_wp2
    go_end0
    refine ⟨rfl, .stop, k + (tkD (t.data.toList.drop k)).length, _, _, R5, hle, ?_, by decide, (((Tn.refl g w).set 3 _).trans T1).set 8 _⟩
    show _ = finSlash _ _ _ _
    unfold finSlash
    rw [if_pos HN.out]
    rfl
  · have e1 : (str (tkD (t.data.toList.drop k))).toList.isEmpty = false := by rw [str_empty]; exact isEmpty_ne hn
    have HN : Hid (¬ tkD (t.data.toList.drop k) = []) := hn
    clear hn
    go_enter Tryz.func148, Tryz.ntmps148
    go_wp2_with fail
    refine (c1).mono ?_
    rintro e w1 ⟨rfl, R1, T1⟩
    obtain ⟨a0, a1, a2⟩ := R1.head
    obtain ⟨a3, a4, a5, a6, a7, a8, a9⟩ := R1.read
    have af1 := Bk.frozen R1 1
    have af2 := Bk.frozen R1 2
    have af3 := Bk.frozen R1 3
    have af4 := Bk.frozen R1 4
    have af5 := Bk.frozen R1 5
    have af6 := Bk.frozen R1 6
    have af7 := Bk.frozen R1 7
    have af8 := Bk.frozen R1 8
    have af9 := Bk.frozen R1 9
    have R5 := R1.den (tkD (t.data.toList.drop k))
    go_wp2_with fail
    refine (keep_any R5).mono ?_
    rintro e w3 ⟨rfl, R3, T3⟩
    obtain ⟨b0, b1, b2⟩ := R3.head
    obtain ⟨b3, b4, b5, b6, b7, b8, b9⟩ := R3.read
    have bf1 := Bk.frozen R3 1
    have bf2 := Bk.frozen R3 2
    have bf3 := Bk.frozen R3 3
    have bf4 := Bk.frozen R3 4
    have bf5 := Bk.frozen R3 5
    have bf6 := Bk.frozen R3 6
    have bf7 := Bk.frozen R3 7
    have bf8 := Bk.frozen R3 8
    have bf9 := Bk.frozen R3 9
    go_wp2
    go_end0
    refine ⟨rfl, .stop, k + (tkD (t.data.toList.drop k)).length, _, _, R3, hle, ?_, by decide, ((((Tn.refl g w).set 3 _).trans T1).set 8 _).trans T3⟩
    show _ = finSlash _ _ _ _
    unfold finSlash
    rw [if_neg HN.out]
    rfl
set_option maxHeartbeats 1600000 in
set_option maxRecDepth 100000 in
theorem st_x (h : RB w g t k (stV g .stop) rd wh) (ht : t.size ≤ 65536) (hk : k ≤ t.size) :
    Calls Tryz.prog 149 #[.pointer (some ⟨g, 0, none⟩)] w (Post .x w g t k rd wh) := by
  have HB : Hid (RB w g t k (stV g .stop) rd wh) := h
  have hst : stV g .stop = .nilFunc := rfl
  obtain ⟨c0, c1, c2⟩ := h.head
  obtain ⟨c3, c4, c5, c6, c7, c8, c9⟩ := h.read
  have cf1 := Bk.frozen h 1
  have cf2 := Bk.frozen h 2
  have cf3 := Bk.frozen h 3
  have cf4 := Bk.frozen h 4
  have cf5 := Bk.frozen h 5
  have cf6 := Bk.frozen h 6
  have cf7 := Bk.frozen h 7
  have cf8 := Bk.frozen h 8
  have cf9 := Bk.frozen h 9
  have hle := run_le isH hk
  have hdr := drop_run t k isH
  change k + (tkH (t.data.toList.drop k)).length ≤ t.size at hle
  change t.data.toList.drop (k + (tkH (t.data.toList.drop k)).length) = dkH (t.data.toList.drop k) at hdr
  have c1 := runH_any (h.kind 2) ht hk
  clear h
  by_cases hp : fst [46] (dkH (t.data.toList.drop k)) = true
  · have hp2 := hp
    rw [← hdr] at hp2
    obtain ⟨hk1, _, htl⟩ := fst_drop_lt hp2
    rw [hdr] at htl
    go_enter Tryz.func149, Tryz.ntmps149
    go_wp2_with fail
    refine (c1).mono ?_
    rintro e w1 ⟨rfl, R1, T1⟩
    obtain ⟨a0, a1, a2⟩ := R1.head
    obtain ⟨a3, a4, a5, a6, a7, a8, a9⟩ := R1.read
    have af1 := Bk.frozen R1 1
    have af2 := Bk.frozen R1 2
    have af3 := Bk.frozen R1 3
    have af4 := Bk.frozen R1 4
    have af5 := Bk.frozen R1 5
    have af6 := Bk.frozen R1 6
    have af7 := Bk.frozen R1 7
    have af8 := Bk.frozen R1 8
    have af9 := Bk.frozen R1 9
    have R5 := R1.ahead (tkH (t.data.toList.drop k))
    go_wp2_with fail
    refine (one_yes [46] R5 ht hp2).mono ?_
    rintro e w3 ⟨rfl, R3, T3⟩
    obtain ⟨b0, b1, b2⟩ := R3.head
    obtain ⟨b3, b4, b5, b6, b7, b8, b9⟩ := R3.read
    have bf1 := Bk.frozen R3 1
    have bf2 := Bk.frozen R3 2
    have bf3 := Bk.frozen R3 3
    have bf4 := Bk.frozen R3 4
    have bf5 := Bk.frozen R3 5
    have bf6 := Bk.frozen R3 6
    have bf7 := Bk.frozen R3 7
    have bf8 := Bk.frozen R3 8
    have bf9 := Bk.frozen R3 9
    go_wp2
    go_end0
    refine ⟨rfl, .hexPoint, k + (tkH (t.data.toList.drop k)).length + 1, _, _, R3.setSt (stV g .hexPoint), by omega, ?_, by decide, ((((Tn.refl g w).set 3 _).trans T1).set 5 _).trans T3 |>.set 2 _⟩
    show finHexPoint _ _ _ _ = finX _ _ _ _
    unfold finX
    simp only
    rw [if_pos hp, htl]
  · have hp2 : fst [46] (dkH (t.data.toList.drop k)) = false := by simpa using hp
    rw [← hdr] at hp2
    cases hh : ({ rd with kind := 2, ahead := tkH (t.data.toList.drop k) } : Pc).has
    · have hh' : ({ rd with kind := 2, ahead := tkH (t.data.toList.drop k) } : Pc).has = false := hh
      go_enter Tryz.func149, Tryz.ntmps149
      go_wp2_with fail
      refine (c1).mono ?_
      rintro e w1 ⟨rfl, R1, T1⟩
      obtain ⟨a0, a1, a2⟩ := R1.head
      obtain ⟨a3, a4, a5, a6, a7, a8, a9⟩ := R1.read
      have af1 := Bk.frozen R1 1
      have af2 := Bk.frozen R1 2
      have af3 := Bk.frozen R1 3
      have af4 := Bk.frozen R1 4
      have af5 := Bk.frozen R1 5
      have af6 := Bk.frozen R1 6
      have af7 := Bk.frozen R1 7
      have af8 := Bk.frozen R1 8
      have af9 := Bk.frozen R1 9
      have R5 := R1.ahead (tkH (t.data.toList.drop k))
      go_wp2_with fail
      refine (one_no [46] R5 ht hle hp2).mono ?_
      rintro e w3 ⟨rfl, R3, T3⟩
      obtain ⟨b0, b1, b2⟩ := R3.head
      obtain ⟨b3, b4, b5, b6, b7, b8, b9⟩ := R3.read
      have bf1 := Bk.frozen R3 1
      have bf2 := Bk.frozen R3 2
      have bf3 := Bk.frozen R3 3
      have bf4 := Bk.frozen R3 4
      have bf5 := Bk.frozen R3 5
      have bf6 := Bk.frozen R3 6
      have bf7 := Bk.frozen R3 7
      have bf8 := Bk.frozen R3 8
      have bf9 := Bk.frozen R3 9
      have c2 := has_any R3
      rw [hh] at c2
      go_wp2_with fail
      refine c2.mono ?_
      rintro e w4 ⟨rfl, rfl⟩
      go_wp2
      go_end0
      refine ⟨rfl, .stop, k + (tkH (t.data.toList.drop k)).length, _, _, R3, hle, ?_, by decide, ((((Tn.refl g w).set 3 _).trans T1).set 5 _).trans T3⟩
      show _ = finX _ _ _ _
      unfold finX
      simp only [hh', Bool.false_and, Bool.false_eq_true, if_false]
      rw [if_neg hp]
      rfl
    · have hh' : ({ rd with kind := 2, ahead := tkH (t.data.toList.drop k) } : Pc).has = true := hh
      by_cases hq : fst [112, 80] (dkH (t.data.toList.drop k)) = true
      · have hq2 := hq
        rw [← hdr] at hq2
        obtain ⟨hk1, _, htl⟩ := fst_drop_lt hq2
        rw [hdr] at htl
        go_enter Tryz.func149, Tryz.ntmps149
        go_wp2_with fail
        refine (c1).mono ?_
        rintro e w1 ⟨rfl, R1, T1⟩
        obtain ⟨a0, a1, a2⟩ := R1.head
        obtain ⟨a3, a4, a5, a6, a7, a8, a9⟩ := R1.read
        have af1 := Bk.frozen R1 1
        have af2 := Bk.frozen R1 2
        have af3 := Bk.frozen R1 3
        have af4 := Bk.frozen R1 4
        have af5 := Bk.frozen R1 5
        have af6 := Bk.frozen R1 6
        have af7 := Bk.frozen R1 7
        have af8 := Bk.frozen R1 8
        have af9 := Bk.frozen R1 9
        have R5 := R1.ahead (tkH (t.data.toList.drop k))
        go_wp2_with fail
        refine (one_no [46] R5 ht hle hp2).mono ?_
        rintro e w3 ⟨rfl, R3, T3⟩
        obtain ⟨b0, b1, b2⟩ := R3.head
        obtain ⟨b3, b4, b5, b6, b7, b8, b9⟩ := R3.read
        have bf1 := Bk.frozen R3 1
        have bf2 := Bk.frozen R3 2
        have bf3 := Bk.frozen R3 3
        have bf4 := Bk.frozen R3 4
        have bf5 := Bk.frozen R3 5
        have bf6 := Bk.frozen R3 6
        have bf7 := Bk.frozen R3 7
        have bf8 := Bk.frozen R3 8
        have bf9 := Bk.frozen R3 9
        have c2 := has_any R3
        rw [hh] at c2
        go_wp2_with fail
        refine c2.mono ?_
        rintro e w4 ⟨rfl, rfl⟩
        go_wp2_with fail
        refine (one_yes [112, 80] R3 ht hq2).mono ?_
        rintro e w5 ⟨rfl, R6, T5⟩
        obtain ⟨d0, d1, d2⟩ := R6.head
        obtain ⟨d3, d4, d5, d6, d7, d8, d9⟩ := R6.read
        have df1 := Bk.frozen R6 1
        have df2 := Bk.frozen R6 2
        have df3 := Bk.frozen R6 3
        have df4 := Bk.frozen R6 4
        have df5 := Bk.frozen R6 5
        have df6 := Bk.frozen R6 6
        have df7 := Bk.frozen R6 7
        have df8 := Bk.frozen R6 8
        have df9 := Bk.frozen R6 9
        go_wp2
        go_end0
        refine ⟨rfl, .e, k + (tkH (t.data.toList.drop k)).length + 1, _, _, R6.setSt (stV g .e), by omega, ?_, by decide, (((((Tn.refl g w).set 3 _).trans T1).set 5 _).trans T3).trans T5 |>.set 2 _⟩
        show finE _ _ _ _ = finX _ _ _ _
        unfold finX
        simp only [hh', Bool.true_and]
        rw [if_neg hp, if_pos hq, htl]
      · have hq2 : fst [112, 80] (dkH (t.data.toList.drop k)) = false := by simpa using hq
        rw [← hdr] at hq2
        go_enter Tryz.func149, Tryz.ntmps149
        go_wp2_with fail
        refine (c1).mono ?_
        rintro e w1 ⟨rfl, R1, T1⟩
        obtain ⟨a0, a1, a2⟩ := R1.head
        obtain ⟨a3, a4, a5, a6, a7, a8, a9⟩ := R1.read
        have af1 := Bk.frozen R1 1
        have af2 := Bk.frozen R1 2
        have af3 := Bk.frozen R1 3
        have af4 := Bk.frozen R1 4
        have af5 := Bk.frozen R1 5
        have af6 := Bk.frozen R1 6
        have af7 := Bk.frozen R1 7
        have af8 := Bk.frozen R1 8
        have af9 := Bk.frozen R1 9
        have R5 := R1.ahead (tkH (t.data.toList.drop k))
        go_wp2_with fail
        refine (one_no [46] R5 ht hle hp2).mono ?_
        rintro e w3 ⟨rfl, R3, T3⟩
        obtain ⟨b0, b1, b2⟩ := R3.head
        obtain ⟨b3, b4, b5, b6, b7, b8, b9⟩ := R3.read
        have bf1 := Bk.frozen R3 1
        have bf2 := Bk.frozen R3 2
        have bf3 := Bk.frozen R3 3
        have bf4 := Bk.frozen R3 4
        have bf5 := Bk.frozen R3 5
        have bf6 := Bk.frozen R3 6
        have bf7 := Bk.frozen R3 7
        have bf8 := Bk.frozen R3 8
        have bf9 := Bk.frozen R3 9
        have c2 := has_any R3
        rw [hh] at c2
        go_wp2_with fail
        refine c2.mono ?_
        rintro e w4 ⟨rfl, rfl⟩
        go_wp2_with fail
        refine (one_no [112, 80] R3 ht hle hq2).mono ?_
        rintro e w5 ⟨rfl, R6, T5⟩
        obtain ⟨d0, d1, d2⟩ := R6.head
        obtain ⟨d3, d4, d5, d6, d7, d8, d9⟩ := R6.read
        have df1 := Bk.frozen R6 1
        have df2 := Bk.frozen R6 2
        have df3 := Bk.frozen R6 3
        have df4 := Bk.frozen R6 4
        have df5 := Bk.frozen R6 5
        have df6 := Bk.frozen R6 6
        have df7 := Bk.frozen R6 7
        have df8 := Bk.frozen R6 8
        have df9 := Bk.frozen R6 9
        go_wp2
        go_end0
        refine ⟨rfl, .stop, k + (tkH (t.data.toList.drop k)).length, _, _, R6, hle, ?_, by decide, (((((Tn.refl g w).set 3 _).trans T1).set 5 _).trans T3).trans T5⟩
        show _ = finX _ _ _ _
        unfold finX
        simp only [hh', Bool.true_and]
        rw [if_neg hp, if_neg hq]
        rfl
set_option maxHeartbeats 1600000 in
set_option maxRecDepth 100000 in
theorem st_hexPoint (h : RB w g t k (stV g .stop) rd wh) (ht : t.size ≤ 65536) (hk : k ≤ t.size) :
    Calls Tryz.prog 151 #[.pointer (some ⟨g, 0, none⟩)] w (Post .hexPoint w g t k rd wh) := by
  have HB : Hid (RB w g t k (stV g .stop) rd wh) := h
  have hst : stV g .stop = .nilFunc := rfl
  obtain ⟨c0, c1, c2⟩ := h.head
  obtain ⟨c3, c4, c5, c6, c7, c8, c9⟩ := h.read
  have cf1 := Bk.frozen h 1
  have cf2 := Bk.frozen h 2
  have cf3 := Bk.frozen h 3
  have cf4 := Bk.frozen h 4
  have cf5 := Bk.frozen h 5
  have cf6 := Bk.frozen h 6
  have cf7 := Bk.frozen h 7
  have cf8 := Bk.frozen h 8
  have cf9 := Bk.frozen h 9
  have hle := run_le isH hk
  have hdr := drop_run t k isH
  change k + (tkH (t.data.toList.drop k)).length ≤ t.size at hle
  change t.data.toList.drop (k + (tkH (t.data.toList.drop k)).length) = dkH (t.data.toList.drop k) at hdr
  have c1 := runH_any h ht hk
  clear h
  cases hh : ({ rd with behind := tkH (t.data.toList.drop k) } : Pc).has
  · have hh' : ({ rd with behind := tkH (t.data.toList.drop k) } : Pc).has = false := hh
    go_enter Tryz.func151, Tryz.ntmps151
    go_wp2_with fail
    refine (c1).mono ?_
    rintro e w1 ⟨rfl, R1, T1⟩
    obtain ⟨a0, a1, a2⟩ := R1.head
    obtain ⟨a3, a4, a5, a6, a7, a8, a9⟩ := R1.read
    have af1 := Bk.frozen R1 1
    have af2 := Bk.frozen R1 2
    have af3 := Bk.frozen R1 3
    have af4 := Bk.frozen R1 4
    have af5 := Bk.frozen R1 5
    have af6 := Bk.frozen R1 6
    have af7 := Bk.frozen R1 7
    have af8 := Bk.frozen R1 8
    have af9 := Bk.frozen R1 9
    have R5 := R1.behind (tkH (t.data.toList.drop k))
    have c2 := has_any R5
    rw [hh] at c2
    go_wp2_with fail
    refine c2.mono ?_
    rintro e w4 ⟨rfl, rfl⟩
    go_wp2
    go_end0
    refine ⟨rfl, .stop, k + (tkH (t.data.toList.drop k)).length, _, _, R5, hle, ?_, by decide, T1.set 6 _⟩
    show _ = finHexPoint _ _ _ _
    unfold finHexPoint
    simp only [hh', Bool.false_and, Bool.false_eq_true, if_false]
    rfl
  · have hh' : ({ rd with behind := tkH (t.data.toList.drop k) } : Pc).has = true := hh
    by_cases hq : fst [112, 80] (dkH (t.data.toList.drop k)) = true
    · have hq2 := hq
      rw [← hdr] at hq2
      obtain ⟨hk1, _, htl⟩ := fst_drop_lt hq2
      rw [hdr] at htl
      go_enter Tryz.func151, Tryz.ntmps151
      go_wp2_with fail
      refine (c1).mono ?_
      rintro e w1 ⟨rfl, R1, T1⟩
      obtain ⟨a0, a1, a2⟩ := R1.head
      obtain ⟨a3, a4, a5, a6, a7, a8, a9⟩ := R1.read
      have af1 := Bk.frozen R1 1
      have af2 := Bk.frozen R1 2
      have af3 := Bk.frozen R1 3
      have af4 := Bk.frozen R1 4
      have af5 := Bk.frozen R1 5
      have af6 := Bk.frozen R1 6
      have af7 := Bk.frozen R1 7
      have af8 := Bk.frozen R1 8
      have af9 := Bk.frozen R1 9
      have R5 := R1.behind (tkH (t.data.toList.drop k))
      have c2 := has_any R5
      rw [hh] at c2
      go_wp2_with fail
      refine c2.mono ?_
      rintro e w4 ⟨rfl, rfl⟩
      go_wp2_with fail
      refine (one_yes [112, 80] R5 ht hq2).mono ?_
      rintro e w5 ⟨rfl, R6, T5⟩
      obtain ⟨d0, d1, d2⟩ := R6.head
      obtain ⟨d3, d4, d5, d6, d7, d8, d9⟩ := R6.read
      have df1 := Bk.frozen R6 1
      have df2 := Bk.frozen R6 2
      have df3 := Bk.frozen R6 3
      have df4 := Bk.frozen R6 4
      have df5 := Bk.frozen R6 5
      have df6 := Bk.frozen R6 6
      have df7 := Bk.frozen R6 7
      have df8 := Bk.frozen R6 8
      have df9 := Bk.frozen R6 9
      go_wp2
      go_end0
      refine ⟨rfl, .e, k + (tkH (t.data.toList.drop k)).length + 1, _, _, R6.setSt (stV g .e), by omega, ?_, by decide, (T1.set 6 _).trans T5 |>.set 2 _⟩
      show finE _ _ _ _ = finHexPoint _ _ _ _
      unfold finHexPoint
      simp only [hh', Bool.true_and]
      rw [if_pos hq, htl]
    · have hq2 : fst [112, 80] (dkH (t.data.toList.drop k)) = false := by simpa using hq
      rw [← hdr] at hq2
      go_enter Tryz.func151, Tryz.ntmps151
      go_wp2_with fail
      refine (c1).mono ?_
      rintro e w1 ⟨rfl, R1, T1⟩
      obtain ⟨a0, a1, a2⟩ := R1.head
      obtain ⟨a3, a4, a5, a6, a7, a8, a9⟩ := R1.read
      have af1 := Bk.frozen R1 1
      have af2 := Bk.frozen R1 2
      have af3 := Bk.frozen R1 3
      have af4 := Bk.frozen R1 4
      have af5 := Bk.frozen R1 5
      have af6 := Bk.frozen R1 6
      have af7 := Bk.frozen R1 7
      have af8 := Bk.frozen R1 8
      have af9 := Bk.frozen R1 9
      have R5 := R1.behind (tkH (t.data.toList.drop k))
      have c2 := has_any R5
      rw [hh] at c2
      go_wp2_with fail
      refine c2.mono ?_
      rintro e w4 ⟨rfl, rfl⟩
      go_wp2_with fail
      refine (one_no [112, 80] R5 ht hle hq2).mono ?_
      rintro e w5 ⟨rfl, R6, T5⟩
      obtain ⟨d0, d1, d2⟩ := R6.head
      obtain ⟨d3, d4, d5, d6, d7, d8, d9⟩ := R6.read
      have df1 := Bk.frozen R6 1
      have df2 := Bk.frozen R6 2
      have df3 := Bk.frozen R6 3
      have df4 := Bk.frozen R6 4
      have df5 := Bk.frozen R6 5
      have df6 := Bk.frozen R6 6
      have df7 := Bk.frozen R6 7
      have df8 := Bk.frozen R6 8
      have df9 := Bk.frozen R6 9
      go_wp2
      go_end0
      refine ⟨rfl, .stop, k + (tkH (t.data.toList.drop k)).length, _, _, R6, hle, ?_, by decide, (T1.set 6 _).trans T5⟩
      show _ = finHexPoint _ _ _ _
      unfold finHexPoint
      simp only [hh', Bool.true_and]
      rw [if_neg hq]
      rfl
end
end Go.Proofs.YtfgpjplfplbcdaaGreatDoor

/- Layer 9: what each state of the reader leaves. -/
namespace Go.Proofs.YtfgpjplfplbcdaaGreatDoor
open Go.ChangeShapes Go.WideShapes Go.ChangeAt Go.RowKit
open Lx
set_option linter.unusedVariables false
section
variable {w : World} {g : Nat} {t : ByteArray} {k : Nat} {rd wh : Pc}
end
namespace Lx
theorem expo_sign {t : ByteArray} {k : Nat} (hf : fst [43, 45] (t.data.toList.drop k) = true) :
    (tkD (t.data.toList.drop (k + 1)) = [] → expoL (t.data.toList.drop k) = []) ∧
    (tkD (t.data.toList.drop (k + 1)) ≠ [] → t.extract k (k + 1 + (tkD (t.data.toList.drop (k + 1))).length) = str (expoL (t.data.toList.drop k)) ∧ (expoL (t.data.toList.drop k)).length = 1 + (tkD (t.data.toList.drop (k + 1))).length ∧ expoL (t.data.toList.drop k) ≠ []) := by
  obtain ⟨hk, _, htl⟩ := fst_drop_lt hf
  unfold expoL
  rw [if_pos hf, htl]
  refine ⟨fun h => by rw [if_pos h], fun h => ?_⟩
  rw [if_neg h]
  have e1 : (t.data.toList.drop k).take (1 + (tkD (t.data.toList.drop (k + 1))).length) = (t.data.toList.drop k).take 1 ++ tkD (t.data.toList.drop (k + 1)) := by
    rw [drop_cons_of hk, Nat.add_comm, List.take_succ_cons]
    have := take_tk isD (t.data.toList.drop (k + 1))
    rw [show List.take (tkD (t.data.toList.drop (k + 1))).length (t.data.toList.drop (k + 1)) = tkD (t.data.toList.drop (k + 1)) from this]
    rfl
  refine ⟨?_, ?_, ?_⟩
  · rw [ext_str, ← e1]
    congr 2
    omega
  · rw [List.length_append, drop_cons_of hk]; rfl
  · rw [drop_cons_of hk]; simp
theorem expo_plain {t : ByteArray} {k : Nat} (hf : fst [43, 45] (t.data.toList.drop k) = false) : expoL (t.data.toList.drop k) = tkD (t.data.toList.drop k) := by
  unfold expoL; rw [hf]; rfl
end Lx
section
variable {w : World} {g : Nat} {t : ByteArray} {k : Nat} {rd wh : Pc}
set_option maxHeartbeats 1600000 in
set_option maxRecDepth 100000 in
theorem st_e (h : RB w g t k (stV g .stop) rd wh) (ht : t.size ≤ 65536) (hk : k ≤ t.size) :
    Calls Tryz.prog 147 #[.pointer (some ⟨g, 0, none⟩)] w (Post .e w g t k rd wh) := by
  have HB : Hid (RB w g t k (stV g .stop) rd wh) := h
  have hst : stV g .stop = .nilFunc := rfl
  obtain ⟨c0, c1, c2⟩ := h.head
  obtain ⟨c3, c4, c5, c6, c7, c8, c9⟩ := h.read
  have cf1 := Bk.frozen h 1
  have cf2 := Bk.frozen h 2
  have cf3 := Bk.frozen h 3
  have cf4 := Bk.frozen h 4
  have cf5 := Bk.frozen h 5
  have cf6 := Bk.frozen h 6
  have cf7 := Bk.frozen h 7
  have cf8 := Bk.frozen h 8
  have cf9 := Bk.frozen h 9
  by_cases hf : fst [43, 45] (t.data.toList.drop k) = true
  · obtain ⟨hk1, _, htl⟩ := fst_drop_lt hf
    obtain ⟨x1, x2⟩ := expo_sign hf
    have hle := run_le isD (show k + 1 ≤ t.size by omega)
    change k + 1 + (tkD (t.data.toList.drop (k + 1))).length ≤ t.size at hle
    have c1 := one_yes [43, 45] h ht hf
    clear h
    by_cases hn : tkD (t.data.toList.drop (k + 1)) = []
    · have e1 : (str (tkD (t.data.toList.drop (k + 1)))).toList.isEmpty = true := by rw [str_empty, hn]; rfl
      have HX : Hid (expoL (t.data.toList.drop k) = []) := x1 hn
      clear hn x1 x2
      go_enter Tryz.func147, Tryz.ntmps147
      go_wp2_with fail
      refine (c1).mono ?_
      rintro e w1 ⟨rfl, R1, T1⟩
      obtain ⟨a0, a1, a2⟩ := R1.head
      obtain ⟨a3, a4, a5, a6, a7, a8, a9⟩ := R1.read
      have af1 := Bk.frozen R1 1
      have af2 := Bk.frozen R1 2
      have af3 := Bk.frozen R1 3
      have af4 := Bk.frozen R1 4
      have af5 := Bk.frozen R1 5
      have af6 := Bk.frozen R1 6
      have af7 := Bk.frozen R1 7
      have af8 := Bk.frozen R1 8
      have af9 := Bk.frozen R1 9
      go_wp2_with fail
      refine (runD_any R1 ht hk1).mono ?_
      rintro e w2 ⟨rfl, R2, T2⟩
      obtain ⟨b0, b1, b2⟩ := R2.head
      obtain ⟨b3, b4, b5, b6, b7, b8, b9⟩ := R2.read
      have bf1 := Bk.frozen R2 1
      have bf2 := Bk.frozen R2 2
      have bf3 := Bk.frozen R2 3
      have bf4 := Bk.frozen R2 4
      have bf5 := Bk.frozen R2 5
      have bf6 := Bk.frozen R2 6
      have bf7 := Bk.frozen R2 7
      have bf8 := Bk.frozen R2 8
      have bf9 := Bk.frozen R2 9
      go_wp2
      go_end0
      refine ⟨rfl, .stop, k + 1 + (tkD (t.data.toList.drop (k + 1))).length, _, _, R2, hle, ?_, by decide, T1.trans T2⟩
      show _ = finE _ _ _ _
      unfold finE
      rw [if_pos HX.out]
      rfl
    · have e1 : (str (tkD (t.data.toList.drop (k + 1)))).toList.isEmpty = false := by rw [str_empty]; exact isEmpty_ne hn
      obtain ⟨y1, y2, y3⟩ := x2 hn
      have HY : Hid ((expoL (t.data.toList.drop k)).length = 1 + (tkD (t.data.toList.drop (k + 1))).length) := y2
      have HZ : Hid (expoL (t.data.toList.drop k) ≠ []) := y3
      clear hn x1 x2 y2 y3
      go_enter Tryz.func147, Tryz.ntmps147
      go_wp2_with fail
      refine (c1).mono ?_
      rintro e w1 ⟨rfl, R1, T1⟩
      obtain ⟨a0, a1, a2⟩ := R1.head
      obtain ⟨a3, a4, a5, a6, a7, a8, a9⟩ := R1.read
      have af1 := Bk.frozen R1 1
      have af2 := Bk.frozen R1 2
      have af3 := Bk.frozen R1 3
      have af4 := Bk.frozen R1 4
      have af5 := Bk.frozen R1 5
      have af6 := Bk.frozen R1 6
      have af7 := Bk.frozen R1 7
      have af8 := Bk.frozen R1 8
      have af9 := Bk.frozen R1 9
      go_wp2_with fail
      refine (runD_any R1 ht hk1).mono ?_
      rintro e w2 ⟨rfl, R2, T2⟩
      obtain ⟨b0, b1, b2⟩ := R2.head
      obtain ⟨b3, b4, b5, b6, b7, b8, b9⟩ := R2.read
      have bf1 := Bk.frozen R2 1
      have bf2 := Bk.frozen R2 2
      have bf3 := Bk.frozen R2 3
      have bf4 := Bk.frozen R2 4
      have bf5 := Bk.frozen R2 5
      have bf6 := Bk.frozen R2 6
      have bf7 := Bk.frozen R2 7
      have bf8 := Bk.frozen R2 8
      have bf9 := Bk.frozen R2 9
      have hb1 : (k : Int) ≤ ((k + 1 + (tkD (t.data.toList.drop (k + 1))).length : Nat) : Int) := by omega
      have hb2 : ((k + 1 + (tkD (t.data.toList.drop (k + 1))).length : Nat) : Int) ≤ (t.size : Int) := by omega
      generalize hM : k + 1 + (tkD (t.data.toList.drop (k + 1))).length = M at *
      generalize hE : expoL (t.data.toList.drop k) = E at *
      have HE : Hid (expoL (t.data.toList.drop k) = E) := hE
      have HM : Hid (k + 1 + (tkD (t.data.toList.drop (k + 1))).length = M) := hM
      clear hE hM
      go_wp2
      go_region
      all_goals
        have R5 := (R2.expo E).drew 1
        have c5 := keep_any R5
        go_wp2_with fail
        refine c5.mono ?_
        rintro e w5 ⟨rfl, R6, T6⟩
        go_wp2
        go_end0
        refine ⟨rfl, .stop, M, _, _, R6, by omega, ?_, by decide, (((T1.trans T2).set 7 _).later (below_drewN (Below.refl _ _) 1)).trans T6⟩
        show _ = finE _ _ _ _
        unfold finE
        rw [HE.out, if_neg HZ.out]
        have q := HY.out
        have q2 := HM.out
        have q3 : M = k + E.length := by omega
        rw [← q3]
        rfl
  · have hf' : fst [43, 45] (t.data.toList.drop k) = false := by simpa using hf
    have x1 := expo_plain hf'
    have hle := run_le isD hk
    change k + (tkD (t.data.toList.drop k)).length ≤ t.size at hle
    have hx := run_ext (t := t) (k := k) isD
    change t.extract k (k + (tkD (t.data.toList.drop k)).length) = str (tkD (t.data.toList.drop k)) at hx
    have c1 := one_no [43, 45] h ht hk hf'
    clear h
    by_cases hn : tkD (t.data.toList.drop k) = []
    · have e1 : (str (tkD (t.data.toList.drop k))).toList.isEmpty = true := by rw [str_empty, hn]; rfl
      have HX : Hid (expoL (t.data.toList.drop k) = []) := x1.trans hn
      clear hn x1 hx
      go_enter Tryz.func147, Tryz.ntmps147
      go_wp2_with fail
      refine (c1).mono ?_
      rintro e w1 ⟨rfl, R1, T1⟩
      obtain ⟨a0, a1, a2⟩ := R1.head
      obtain ⟨a3, a4, a5, a6, a7, a8, a9⟩ := R1.read
      have af1 := Bk.frozen R1 1
      have af2 := Bk.frozen R1 2
      have af3 := Bk.frozen R1 3
      have af4 := Bk.frozen R1 4
      have af5 := Bk.frozen R1 5
      have af6 := Bk.frozen R1 6
      have af7 := Bk.frozen R1 7
      have af8 := Bk.frozen R1 8
      have af9 := Bk.frozen R1 9
      go_wp2_with fail
      refine (runD_any R1 ht hk).mono ?_
      rintro e w2 ⟨rfl, R2, T2⟩
      obtain ⟨b0, b1, b2⟩ := R2.head
      obtain ⟨b3, b4, b5, b6, b7, b8, b9⟩ := R2.read
      have bf1 := Bk.frozen R2 1
      have bf2 := Bk.frozen R2 2
      have bf3 := Bk.frozen R2 3
      have bf4 := Bk.frozen R2 4
      have bf5 := Bk.frozen R2 5
      have bf6 := Bk.frozen R2 6
      have bf7 := Bk.frozen R2 7
      have bf8 := Bk.frozen R2 8
      have bf9 := Bk.frozen R2 9
      go_wp2
      go_end0
      refine ⟨rfl, .stop, k + (tkD (t.data.toList.drop k)).length, _, _, R2, hle, ?_, by decide, T1.trans T2⟩
      show _ = finE _ _ _ _
      unfold finE
      rw [if_pos HX.out]
      rfl
    · have e1 : (str (tkD (t.data.toList.drop k))).toList.isEmpty = false := by rw [str_empty]; exact isEmpty_ne hn
      have HX : Hid (expoL (t.data.toList.drop k) = tkD (t.data.toList.drop k)) := x1
      have HZ : Hid (tkD (t.data.toList.drop k) ≠ []) := hn
      clear hn x1
      go_enter Tryz.func147, Tryz.ntmps147
      go_wp2_with fail
      refine (c1).mono ?_
      rintro e w1 ⟨rfl, R1, T1⟩
      obtain ⟨a0, a1, a2⟩ := R1.head
      obtain ⟨a3, a4, a5, a6, a7, a8, a9⟩ := R1.read
      have af1 := Bk.frozen R1 1
      have af2 := Bk.frozen R1 2
      have af3 := Bk.frozen R1 3
      have af4 := Bk.frozen R1 4
      have af5 := Bk.frozen R1 5
      have af6 := Bk.frozen R1 6
      have af7 := Bk.frozen R1 7
      have af8 := Bk.frozen R1 8
      have af9 := Bk.frozen R1 9
      go_wp2_with fail
      refine (runD_any R1 ht hk).mono ?_
      rintro e w2 ⟨rfl, R2, T2⟩
      obtain ⟨b0, b1, b2⟩ := R2.head
      obtain ⟨b3, b4, b5, b6, b7, b8, b9⟩ := R2.read
      have bf1 := Bk.frozen R2 1
      have bf2 := Bk.frozen R2 2
      have bf3 := Bk.frozen R2 3
      have bf4 := Bk.frozen R2 4
      have bf5 := Bk.frozen R2 5
      have bf6 := Bk.frozen R2 6
      have bf7 := Bk.frozen R2 7
      have bf8 := Bk.frozen R2 8
      have bf9 := Bk.frozen R2 9
      have hb1 : (k : Int) ≤ ((k + (tkD (t.data.toList.drop k)).length : Nat) : Int) := by omega
      have hb2 : ((k + (tkD (t.data.toList.drop k)).length : Nat) : Int) ≤ (t.size : Int) := by omega
      generalize hM : k + (tkD (t.data.toList.drop k)).length = M at *
      generalize hE : tkD (t.data.toList.drop k) = E at *
      have HM : Hid (k + E.length = M) := hM
      clear hE hM
      go_wp2
      go_region
      all_goals
        have R5 := (R2.expo E).drew 1
        have c5 := keep_any R5
        go_wp2_with fail
        refine c5.mono ?_
        rintro e w5 ⟨rfl, R6, T6⟩
        go_wp2
        go_end0
        refine ⟨rfl, .stop, M, _, _, R6, by omega, ?_, by decide, (((T1.trans T2).set 7 _).later (below_drewN (Below.refl _ _) 1)).trans T6⟩
        show _ = finE _ _ _ _
        unfold finE
        rw [HX.out, if_neg HZ.out, HM.out]
        rfl
end
end Go.Proofs.YtfgpjplfplbcdaaGreatDoor

/- Layer 9: lex.longest. -/
namespace Go.Proofs.YtfgpjplfplbcdaaGreatDoor
open Go.ChangeShapes Go.WideShapes Go.ChangeAt Go.RowKit
open Lx
set_option linter.unusedVariables false
namespace Lx
def pcA (p : Pc) : Array Value := #[.int .i64 p.kind, .bool p.neg, .string (str p.ahead), .string (str p.behind), .string (str p.expo), .string (str p.den), .int .i64 p.stop]
theorem Bk.tn {w w' : World} {g g' : Nat} {t : TypeId} {vs : Array Value} (h : Bk w g' t vs) (k : Tn g w w') (hn : g' ≠ g) : Bk w' g' t vs := by
  have := Bk.lt h
  unfold Bk
  rw [k.block g' this hn]; exact h
def zero7 : Array Value := #[.int .i64 0, .bool false, .string ⟨#[]⟩, .string ⟨#[]⟩, .string ⟨#[]⟩, .string ⟨#[]⟩, .int .i64 0]
theorem set7 (a b c d e f g : Value) : ((((((zero7.setIfInBounds 0 a).setIfInBounds 1 b).setIfInBounds 2 c).setIfInBounds 3 d).setIfInBounds 4 e).setIfInBounds 5 f).setIfInBounds 6 g = #[a, b, c, d, e, f, g] := rfl
theorem Bk.all7 {w : World} {g : Nat} {t : TypeId} (h : Bk w g t zero7) (p : Pc) : Bk (((((((w.setCell ⟨g, 0, none⟩ (.int .i64 p.kind)).setCell ⟨g, 1, none⟩ (.bool p.neg)).setCell ⟨g, 2, none⟩ (.string (str p.ahead))).setCell ⟨g, 3, none⟩ (.string (str p.behind))).setCell ⟨g, 4, none⟩ (.string (str p.expo))).setCell ⟨g, 5, none⟩ (.string (str p.den))).setCell ⟨g, 6, none⟩ (.int .i64 p.stop)) g t (pcA p) := by
  have := Bk.set (Bk.set (Bk.set (Bk.set (Bk.set (Bk.set (Bk.set h 0 (.int .i64 p.kind)) 1 (.bool p.neg)) 2 (.string (str p.ahead))) 3 (.string (str p.behind))) 4 (.string (str p.expo))) 5 (.string (str p.den))) 6 (.int .i64 p.stop)
  rw [set7] at this
  exact this
theorem fnNe (w : World) (f : Fn) (a b : Array Value) : (binOp .neq 1 (.func f a b) .nilFunc).run Tryz.prog w = .ok (.bool true) w := by
  simp only [binOp, Op.equal, Sem.run_bind, Sem.run_pure]
  kernel_rfl
theorem fnEq (w : World) : (binOp .neq 1 .nilFunc .nilFunc).run Tryz.prog w = .ok (.bool false) w := by kernel_rfl
end Lx
set_option maxHeartbeats 1600000 in
set_option maxRecDepth 100000 in
theorem longest_any (t : ByteArray) (ht : t.size ≤ 65536) (w : World) :
    Calls Tryz.prog 91 #[.string t] w fun e w' => e = .returned (.agg (pcA (longestL t.data.toList))) ∧ Below w.heap.size w w' := by
  go_enter Tryz.func91, Tryz.ntmps91
  go_wp2
  have R0 : RB ((w.alloc (.cells zero7 151)).alloc (.cells (rdC t 0 (stV (w.heap.size + 1) .start) Pc.zero Pc.zero) 174)) (w.heap.size + 1) t 0 (stV (w.heap.size + 1) .start) Pc.zero Pc.zero := by
    have := Bk.new (w.alloc (.cells zero7 151)) 174 (rdC t 0 (stV (w.heap.size + 1) .start) Pc.zero Pc.zero)
    rw [World.size_alloc] at this
    exact this
  have Z0 : Bk ((w.alloc (.cells zero7 151)).alloc (.cells (rdC t 0 (stV (w.heap.size + 1) .start) Pc.zero Pc.zero) 174)) w.heap.size 151 zero7 :=
    (Bk.new w 151 zero7).later ((Below.refl _ _).alloc (Nat.le_refl _) _)
  have B0 : Below w.heap.size w ((w.alloc (.cells zero7 151)).alloc (.cells (rdC t 0 (stV (w.heap.size + 1) .start) Pc.zero Pc.zero) 174)) := ((Below.refl _ w).alloc (Nat.le_refl _) _).alloc (by simp) _
  have HR0 : Hid _ := R0
  have HZ0 : Hid _ := Z0
  have HB0 : Hid _ := B0
  clear R0 Z0 B0
  go_loopg [4] 8 (fun gg s4 wx => ∃ s k rd wh, St.rank s = gg ∧ RB wx (w.heap.size + 1) t k (stV (w.heap.size + 1) s) rd wh ∧ k ≤ t.size ∧ Hid (fin s rd wh k (t.data.toList.drop k) = longestL t.data.toList) ∧ Hid (Bk wx w.heap.size 151 zero7) ∧ Hid (Below w.heap.size w wx))
  case atStart => exact ⟨.start, 0, Pc.zero, Pc.zero, rfl, HR0, Nat.zero_le _, rfl, HZ0, HB0⟩
  case round =>
    obtain ⟨s, k, rd, wh, hs, R, hk, hf, HZ, HL⟩ := hrel
    clear HR0 HZ0 HB0
    obtain ⟨c0, c1, c2⟩ := R.head
    have f2 := Bk.frozen R 2
    have hne := fnNe
    have heq := fnEq
    by_cases hst : s = .stop
    · subst hst
      have w0 := R.whole
      obtain ⟨d0, d1, d2, d3, d4, d5, d6⟩ := w0
      simp only [stV] at c2
      obtain ⟨z0, z1, z2, z3, z4, z5, z6⟩ := (⟨Bk.cell HZ.out 0 rfl, Bk.cell HZ.out 1 rfl, Bk.cell HZ.out 2 rfl, Bk.cell HZ.out 3 rfl, Bk.cell HZ.out 4 rfl, Bk.cell HZ.out 5 rfl, Bk.cell HZ.out 6 rfl⟩ : _ ∧ _ ∧ _ ∧ _ ∧ _ ∧ _ ∧ _)
      have y0 := Bk.frozen HZ.out 0
      have y1 := Bk.frozen HZ.out 1
      have y2 := Bk.frozen HZ.out 2
      have y3 := Bk.frozen HZ.out 3
      have y4 := Bk.frozen HZ.out 4
      have y5 := Bk.frozen HZ.out 5
      have y6 := Bk.frozen HZ.out 6
      go_wp2
      refine bodyPost_ret (results_cell_row rfl _ _ w.heap.size 151 (pcA wh) (0, 0) _ rfl (HZ.out.all7 wh) Tryz.underlying151 rfl (by kernel_rfl)) rfl ?_
      refine ⟨by rw [← show wh = longestL t.data.toList from hf.out], ?_⟩
      exact Tn.below HL.out (((((((((Tn.refl w.heap.size _).set 0 _).set 1 _).set 2 _).set 3 _).set 4 _).set 5 _).set 6 _)) (Nat.le_refl _) (Nat.le_refl _)
    · have R1 := R.setSt (stV (w.heap.size + 1) .stop)
      cases s
      case start =>
        have c := st_start R1 ht hk
        simp only [stV] at c2
        go_wp2_with fail
        refine c.mono ?_
        rintro e w5 ⟨rfl, s', k', rd', wh', R', hk', hf', hr', T'⟩
        go_wp2
        go_roundg s'.rank
        case measure => first | exact Nat.lt_of_lt_of_eq hr' hs | exact hr'
        case rel => exact ⟨s', k', rd', wh', rfl, R', hk', hf'.trans hf.out, Bk.tn (Bk.tn HZ.out ((Tn.refl _ _).set 2 _) (by omega)) T' (by omega), Tn.below HL.out (((Tn.refl _ _).set 2 _).trans T') (by omega) (Nat.le_refl _)⟩
      case sign =>
        have c := st_sign R1 ht hk
        simp only [stV] at c2
        go_wp2_with fail
        refine c.mono ?_
        rintro e w5 ⟨rfl, s', k', rd', wh', R', hk', hf', hr', T'⟩
        go_wp2
        go_roundg s'.rank
        case measure => first | exact Nat.lt_of_lt_of_eq hr' hs | exact hr'
        case rel => exact ⟨s', k', rd', wh', rfl, R', hk', hf'.trans hf.out, Bk.tn (Bk.tn HZ.out ((Tn.refl _ _).set 2 _) (by omega)) T' (by omega), Tn.below HL.out (((Tn.refl _ _).set 2 _).trans T') (by omega) (Nat.le_refl _)⟩
      case digits =>
        have c := st_digits R1 ht hk
        simp only [stV] at c2
        go_wp2_with fail
        refine c.mono ?_
        rintro e w5 ⟨rfl, s', k', rd', wh', R', hk', hf', hr', T'⟩
        go_wp2
        go_roundg s'.rank
        case measure => first | exact Nat.lt_of_lt_of_eq hr' hs | exact hr'
        case rel => exact ⟨s', k', rd', wh', rfl, R', hk', hf'.trans hf.out, Bk.tn (Bk.tn HZ.out ((Tn.refl _ _).set 2 _) (by omega)) T' (by omega), Tn.below HL.out (((Tn.refl _ _).set 2 _).trans T') (by omega) (Nat.le_refl _)⟩
      case point =>
        have c := st_point R1 ht hk
        simp only [stV] at c2
        go_wp2_with fail
        refine c.mono ?_
        rintro e w5 ⟨rfl, s', k', rd', wh', R', hk', hf', hr', T'⟩
        go_wp2
        go_roundg s'.rank
        case measure => first | exact Nat.lt_of_lt_of_eq hr' hs | exact hr'
        case rel => exact ⟨s', k', rd', wh', rfl, R', hk', hf'.trans hf.out, Bk.tn (Bk.tn HZ.out ((Tn.refl _ _).set 2 _) (by omega)) T' (by omega), Tn.below HL.out (((Tn.refl _ _).set 2 _).trans T') (by omega) (Nat.le_refl _)⟩
      case e =>
        have c := st_e R1 ht hk
        simp only [stV] at c2
        go_wp2_with fail
        refine c.mono ?_
        rintro e w5 ⟨rfl, s', k', rd', wh', R', hk', hf', hr', T'⟩
        go_wp2
        go_roundg s'.rank
        case measure => first | exact Nat.lt_of_lt_of_eq hr' hs | exact hr'
        case rel => exact ⟨s', k', rd', wh', rfl, R', hk', hf'.trans hf.out, Bk.tn (Bk.tn HZ.out ((Tn.refl _ _).set 2 _) (by omega)) T' (by omega), Tn.below HL.out (((Tn.refl _ _).set 2 _).trans T') (by omega) (Nat.le_refl _)⟩
      case slash =>
        have c := st_slash R1 ht hk
        simp only [stV] at c2
        go_wp2_with fail
        refine c.mono ?_
        rintro e w5 ⟨rfl, s', k', rd', wh', R', hk', hf', hr', T'⟩
        go_wp2
        go_roundg s'.rank
        case measure => first | exact Nat.lt_of_lt_of_eq hr' hs | exact hr'
        case rel => exact ⟨s', k', rd', wh', rfl, R', hk', hf'.trans hf.out, Bk.tn (Bk.tn HZ.out ((Tn.refl _ _).set 2 _) (by omega)) T' (by omega), Tn.below HL.out (((Tn.refl _ _).set 2 _).trans T') (by omega) (Nat.le_refl _)⟩
      case x =>
        have c := st_x R1 ht hk
        simp only [stV] at c2
        go_wp2_with fail
        refine c.mono ?_
        rintro e w5 ⟨rfl, s', k', rd', wh', R', hk', hf', hr', T'⟩
        go_wp2
        go_roundg s'.rank
        case measure => first | exact Nat.lt_of_lt_of_eq hr' hs | exact hr'
        case rel => exact ⟨s', k', rd', wh', rfl, R', hk', hf'.trans hf.out, Bk.tn (Bk.tn HZ.out ((Tn.refl _ _).set 2 _) (by omega)) T' (by omega), Tn.below HL.out (((Tn.refl _ _).set 2 _).trans T') (by omega) (Nat.le_refl _)⟩
      case hexPoint =>
        have c := st_hexPoint R1 ht hk
        simp only [stV] at c2
        go_wp2_with fail
        refine c.mono ?_
        rintro e w5 ⟨rfl, s', k', rd', wh', R', hk', hf', hr', T'⟩
        go_wp2
        go_roundg s'.rank
        case measure => first | exact Nat.lt_of_lt_of_eq hr' hs | exact hr'
        case rel => exact ⟨s', k', rd', wh', rfl, R', hk', hf'.trans hf.out, Bk.tn (Bk.tn HZ.out ((Tn.refl _ _).set 2 _) (by omega)) T' (by omega), Tn.below HL.out (((Tn.refl _ _).set 2 _).trans T') (by omega) (Nat.le_refl _)⟩
      case stop => exact absurd rfl hst
end Go.Proofs.YtfgpjplfplbcdaaGreatDoor

/- Layer 18: kinds of bytes, runs of bytes of a kind. -/
namespace Go.Proofs.YtfgpjplfplbcdaaGreatDoor
open Go.ChangeShapes Go.WideShapes Go.ChangeAt Go.RowKit
open Lx Tk
set_option linter.unusedVariables false
namespace Tk
theorem all_bytes {p : UInt8 → Bool} (h : (List.range 256).all (fun n => p (UInt8.ofNat n)) = true) (b : UInt8) : p b = true := by
  have := List.all_eq_true.mp h b.toNat (List.mem_range.mpr (UInt8.toNat_lt b))
  rw [UInt8.ofNat_toNat] at this
  exact this
theorem isK_bl : isK 1 = isBl := by
  funext b
  exact eq_of_beq (all_bytes (p := fun b => isK 1 b == isBl b) (by kernel_rfl) b)
theorem isK_lt : isK 2 = isLt := by
  funext b
  exact eq_of_beq (all_bytes (p := fun b => isK 2 b == isLt b) (by kernel_rfl) b)
theorem u8_ne {x y : UInt8} (h : x ≠ y) : ((x.toNat : Int) == (y.toNat : Int)) = false := by
  rw [beq_eq_false_iff_ne]
  intro e
  exact h (nat_u8.mpr e)
/-- where in a run -/
theorem tk_stop' {t : UInt8 → Bool} {l : B} {k : Nat} (h1 : ∀ (j : Nat) b, j < k → l[j]? = some b → t b = true) (h2 : ∀ b, l[k]? = some b → t b = false) (hk : k ≤ l.length) : (l.takeWhile t).length = k := by
  induction k generalizing l with
  | zero =>
    cases l with
    | nil => rfl
    | cons c r => rw [List.takeWhile_cons, h2 c rfl]; rfl
  | succ k ih =>
    cases l with
    | nil => simp at hk
    | cons c r =>
      rw [List.takeWhile_cons, h1 0 c (by omega) rfl, if_pos rfl, List.length_cons]
      rw [ih (fun j b hj hb => h1 (j + 1) b (by omega) (by simpa using hb)) (fun b hb => h2 b (by simpa using hb)) (by simpa using hk)]
end Tk
set_option maxHeartbeats 1600000 in
set_option maxRecDepth 100000 in
theorem kindOf18_any (x : UInt8) (w : World) :
    Calls Tryz.prog 67 #[.int .u8 x.toNat] w fun e w' => e = .returned (.int .i64 (kd x)) ∧ w' = w := by
  have conc : ∀ k : UInt8, (k = 32 ∨ k = 9 ∨ k = 10 ∨ k = 13 ∨ k = 40 ∨ k = 41 ∨ k = 44) → Calls Tryz.prog 67 #[.int .u8 k.toNat] w fun e w' => e = .returned (.int .i64 (kd k)) ∧ w' = w := by
    intro k hk
    rcases hk with rfl | rfl | rfl | rfl | rfl | rfl | rfl
    all_goals
      go_enter Tryz.func67, Tryz.ntmps67
      go_wp2
      go_ret
      exact ⟨rfl, rfl⟩
  by_cases n1 : x = 32; · exact conc x (by simp [n1])
  by_cases n2 : x = 9; · exact conc x (by simp [n2])
  by_cases n3 : x = 10; · exact conc x (by simp [n3])
  by_cases n4 : x = 13; · exact conc x (by simp [n4])
  by_cases n5 : x = 40; · exact conc x (by simp [n5])
  by_cases n6 : x = 41; · exact conc x (by simp [n6])
  by_cases n7 : x = 44; · exact conc x (by simp [n7])
  have e : kd x = if isLt x then 2 else 0 := by
    unfold kd isBl
    simp [n1, n2, n3, n4, n5, n6, n7]
  have e2 : isLt x = ((decide ((65 : Int) ≤ (x.toNat : Int)) && decide ((x.toNat : Int) ≤ 90)) || (decide ((97 : Int) ≤ (x.toNat : Int)) && decide ((x.toNat : Int) ≤ 122))) := by
    unfold isLt
    congr 1 <;> (congr 1 <;> (rw [decide_eq_decide]; omega))
  rw [e, e2]
  have z1 : ((x.toNat : Int) == 32) = false := u8_ne n1
  have z2 : ((x.toNat : Int) == 9) = false := u8_ne n2
  have z3 : ((x.toNat : Int) == 10) = false := u8_ne n3
  have z4 : ((x.toNat : Int) == 13) = false := u8_ne n4
  have z5 : ((x.toNat : Int) == 40) = false := u8_ne n5
  have z6 : ((x.toNat : Int) == 41) = false := u8_ne n6
  have z7 : ((x.toNat : Int) == 44) = false := u8_ne n7
  clear e e2 n1 n2 n3 n4 n5 n6 n7 conc
  by_cases h1 : (65 : Int) ≤ (x.toNat : Int) <;> by_cases h2 : (x.toNat : Int) ≤ 90 <;> by_cases h3 : (97 : Int) ≤ (x.toNat : Int) <;> by_cases h4 : (x.toNat : Int) ≤ 122
  all_goals first
  | (exfalso; omega)
  | (go_enter Tryz.func67, Tryz.ntmps67
     go_wp2
     go_ret
     refine ⟨?_, rfl⟩
     show Ending.returned (Value.int _ _) = Ending.returned (Value.int _ _)
     first
     | rfl
     | (congr 2; done)
     | (congr 2; simp; done)
     | (congr 2; simp; omega))
set_option maxHeartbeats 1600000 in
set_option maxRecDepth 100000 in
theorem behind18_any (s : ByteArray) (k : Nat) (kn : Int) (hs : s.size ≤ 1000000000) (hk : k ≤ s.size) (w : World) :
    Calls Tryz.prog 48 #[.string s, .int .i64 (k : Int), .int .i64 kn] w fun e w' => e = .returned (.int .i64 ((k + ((s.data.toList.drop k).takeWhile (isK kn)).length : Nat) : Int)) ∧ w' = w := by
  have hlen : (s.data.toList.drop k).length = s.size - k := by rw [List.length_drop, ← Lib.size_eq]
  go_enter Tryz.func48, Tryz.ntmps48
  go_wp2
  go_loop [1] (fun v => ∃ i : Nat, v = .int .i64 ((k + i : Nat) : Int) ∧ k + i ≤ s.size ∧ Hid (∀ (j : Nat) b, j < i → (s.data.toList.drop k)[j]? = some b → isK kn b = true)) (fun v => s.size - (match v with | .int _ x => x.toNat | _ => 0))
  case atStart => exact ⟨0, rfl, by omega, fun j b hj => by omega⟩
  case round =>
    obtain ⟨i, rfl, hi, hc⟩ := hrel
    by_cases hp : k + i < s.size
    · have hpi : ((k + i : Nat) : Int) < (s.size : Int) := by omega
      have HX : Hid ((s.data.toList.drop k)[i]? = some (s[k + i]'hp)) := by
        unfold Hid
        rw [List.getElem?_drop]; exact Lib.data_getElem? s (k + i) hp
      have c1 := kindOf18_any (s[k + i]'hp)
      generalize hM : k + i = M at *
      cases hb : isK kn (s[M]'hp)
      · have HN : Hid (((s.data.toList.drop k).takeWhile (isK kn)).length = i) := tk_stop' hc.out (fun b hb' => by rw [HX.out] at hb'; rw [← Option.some.inj hb']; exact hb) (by omega)
        have hq : (kd (s[M]'hp) == kn) = false := hb
        generalize kd (s[M]'hp) = kk at *
        clear hb hc
        go_wp2_with (go_at_call 67; refine (c1 _).mono ?_; rintro e w' ⟨rfl, rfl⟩)
        go_ret
        exact ⟨by rw [HN.out]; first | (rw [hM]; rfl) | (show Ending.returned (Value.int .i64 _) = Ending.returned (Value.int .i64 _); congr 2; omega), rfl⟩
      · have HN : Hid (∀ (j : Nat) b, j < i + 1 → (s.data.toList.drop k)[j]? = some b → isK kn b = true) := by
          intro j b hj hb'
          by_cases q : j = i
          · subst q; rw [HX.out] at hb'; rw [← Option.some.inj hb']; exact hb
          · exact hc.out j b (by omega) hb'
        have hq : (kd (s[M]'hp) == kn) = true := hb
        have hrel : ∃ i_1 : Nat, Value.int .i64 ((M : Int) + 1) = .int .i64 ((k + i_1 : Nat) : Int) ∧ k + i_1 ≤ s.size ∧ Hid (∀ (j : Nat) b, j < i_1 → (s.data.toList.drop k)[j]? = some b → isK kn b = true) := ⟨i + 1, by rw [← hM]; rfl, by omega, HN⟩
        have HR : Hid _ := hrel
        clear hrel HN hc
        generalize kd (s[M]'hp) = kk at *
        clear hb
        go_wp2_with (go_at_call 67; refine (c1 _).mono ?_; rintro e w' ⟨rfl, rfl⟩)
        refine ⟨HR.out, ?_⟩
        simp
        omega
    · have hpi : ¬ ((k + i : Nat) : Int) < (s.size : Int) := by omega
      have HN : Hid (((s.data.toList.drop k).takeWhile (isK kn)).length = i) := tk_stop' hc.out (fun b hb' => by have := List.getElem?_eq_none (l := s.data.toList.drop k) (i := i) (by omega); rw [this] at hb'; cases hb') (by omega)
      clear hc
      generalize hM : k + i = M at *
      go_wp2
      go_ret
      exact ⟨by rw [HN.out]; first | (rw [hM]; rfl) | (show Ending.returned (Value.int .i64 _) = Ending.returned (Value.int .i64 _); congr 2; omega), rfl⟩
end Go.Proofs.YtfgpjplfplbcdaaGreatDoor

/- Layer 18: tokens as values; the end, marks, gaps. -/
namespace Go.Proofs.YtfgpjplfplbcdaaGreatDoor
open Go.ChangeShapes Go.WideShapes Go.ChangeAt Go.RowKit
open Lx Tk
set_option linter.unusedVariables false
namespace Tk
/-- a token's cells -/
def tkA (k f t : Int) (wd : B) (n : Nm) : Array Value := #[.int .i64 k, .int .i64 f, .int .i64 t, .string (str wd), .int .i64 n.kind, .bool n.neg, .string (str n.num), .int .i64 n.exp, .string (str n.den)]
def zero9 : Array Value := #[.int .i64 0, .int .i64 0, .int .i64 0, .string ⟨#[]⟩, .int .i64 0, .bool false, .string ⟨#[]⟩, .int .i64 0, .string ⟨#[]⟩]
theorem set9 (x0 x1 x2 x3 x4 x5 x6 x7 x8 : Value) : ((((((((zero9.setIfInBounds 0 x0).setIfInBounds 1 x1).setIfInBounds 2 x2).setIfInBounds 3 x3).setIfInBounds 4 x4).setIfInBounds 5 x5).setIfInBounds 6 x6).setIfInBounds 7 x7).setIfInBounds 8 x8 = #[x0, x1, x2, x3, x4, x5, x6, x7, x8] := by kernel_rfl
end Tk
theorem Lx.Bk.all9 {w : World} {g : Nat} {t : TypeId} (h : Bk w g t zero9) (x0 x1 x2 x3 x4 x5 x6 x7 x8 : Value) : Bk (((((((((w.setCell ⟨g, 0, none⟩ x0).setCell ⟨g, 1, none⟩ x1).setCell ⟨g, 2, none⟩ x2).setCell ⟨g, 3, none⟩ x3).setCell ⟨g, 4, none⟩ x4).setCell ⟨g, 5, none⟩ x5).setCell ⟨g, 6, none⟩ x6).setCell ⟨g, 7, none⟩ x7).setCell ⟨g, 8, none⟩ x8) g t #[x0, x1, x2, x3, x4, x5, x6, x7, x8] := by
  have := (Bk.set (Bk.set (Bk.set (Bk.set (Bk.set (Bk.set (Bk.set (Bk.set (Bk.set h 0 x0) 1 x1) 2 x2) 3 x3) 4 x4) 5 x5) 6 x6) 7 x7) 8 x8)
  rw [set9] at this
  exact this
theorem Lx.Tn.all9 (w : World) (g : Nat) (x0 x1 x2 x3 x4 x5 x6 x7 x8 : Value) : Tn g w (((((((((w.setCell ⟨g, 0, none⟩ x0).setCell ⟨g, 1, none⟩ x1).setCell ⟨g, 2, none⟩ x2).setCell ⟨g, 3, none⟩ x3).setCell ⟨g, 4, none⟩ x4).setCell ⟨g, 5, none⟩ x5).setCell ⟨g, 6, none⟩ x6).setCell ⟨g, 7, none⟩ x7).setCell ⟨g, 8, none⟩ x8) := ((((((((((Tn.refl g w).set 0 _).set 1 _).set 2 _).set 3 _).set 4 _).set 5 _).set 6 _).set 7 _).set 8 _)
set_option maxRecDepth 100000 in
theorem endOf18_any (s : ByteArray) (w : World) :
    Calls Tryz.prog 23 #[.string s] w fun e w' => e = .returned (.agg (tkA 0 s.size s.size [] nmZ0)) ∧ Below w.heap.size w w' := by
  have b := Bk.new w 32 (tkA 0 s.size s.size [] nmZ0)
  go_enter Tryz.func23, Tryz.ntmps23
  go_wp2
  exact bodyPost_ret (results_cell_row rfl _ _ w.heap.size 32 (tkA 0 s.size s.size [] nmZ0) (0, 0) _ rfl b Tryz.underlying32 rfl (by kernel_rfl)) rfl ⟨rfl, (Below.refl _ w).alloc (Nat.le_refl _) _⟩
set_option maxRecDepth 100000 in
theorem needsGap18_any (k f t : Int) (wd : B) (n : Nm) (w : World) :
    Calls Tryz.prog 27 #[.agg (tkA k f t wd n)] w fun e w' => e = .returned (.bool (k == 1 || k == 5)) ∧ Below w.heap.size w w' := by
  unfold tkA
  cases h1 : (k == 1)
  all_goals
    go_enter Tryz.func27, Tryz.ntmps27
    go_wp2
    go_ret
    exact ⟨by first | rfl | simp, (Below.refl _ w).alloc (Nat.le_refl _) _⟩
set_option maxRecDepth 100000 in
theorem markAt18_any (k : Int) (f : Nat) (hf : f ≤ 1000000000) (w : World) :
    Calls Tryz.prog 69 #[.int .i64 k, .int .i64 (f : Int)] w fun e w' => e = .returned (.agg (tkA k f ((f + 1 : Nat) : Int) [] nmZ0)) ∧ Below w.heap.size w w' := by
  have b := Bk.new w 32 (tkA k f ((f + 1 : Nat) : Int) [] nmZ0)
  go_enter Tryz.func69, Tryz.ntmps69
  go_wp2
  exact bodyPost_ret (results_cell_row rfl _ _ w.heap.size 32 (tkA k f ((f + 1 : Nat) : Int) [] nmZ0) (0, 0) _ rfl b Tryz.underlying32 rfl (by kernel_rfl)) rfl ⟨rfl, (Below.refl _ w).alloc (Nat.le_refl _) _⟩
namespace Tk
theorem shut_kd {c : UInt8} {q : B} : shutB (c :: q) = (kd c != 0 && kd c != 2) :=
  eq_of_beq (all_bytes (p := fun c => shutB (c :: ([] : B)) == (kd c != 0 && kd c != 2)) (by kernel_rfl) c)
end Tk
set_option maxRecDepth 100000 in
theorem endsToken18_any (s : ByteArray) (k : Nat) (hk : k ≤ s.size) (w : World) :
    Calls Tryz.prog 50 #[.string s, .int .i64 (k : Int)] w fun e w' => e = .returned (.bool (shutB (s.data.toList.drop k))) ∧ w' = w := by
  by_cases h : k = s.size
  · have d : ((k : Int) == (s.size : Int)) = true := by rw [h]; simp
    rw [drop_nil_of (by omega)]
    clear h
    go_enter Tryz.func50, Tryz.ntmps50
    go_wp2
    go_ret
    exact ⟨rfl, rfl⟩
  · have hlt : k < s.size := by omega
    have d : ((k : Int) == (s.size : Int)) = false := by rw [beq_eq_false_iff_ne]; omega
    rw [drop_cons_of hlt, shut_kd]
    have hi : (k : Int) < (s.size : Int) := by omega
    have c1 := kindOf18_any (s[k]'hlt)
    generalize kd (s[k]'hlt) = kk at *
    clear h
    cases h0 : (kk != 0)
    all_goals
      go_enter Tryz.func50, Tryz.ntmps50
      go_wp2_with (go_at_call 67; refine (c1 _).mono ?_; rintro e w' ⟨rfl, rfl⟩)
      go_ret
      exact ⟨by first | rfl | simp, rfl⟩
end Go.Proofs.YtfgpjplfplbcdaaGreatDoor

