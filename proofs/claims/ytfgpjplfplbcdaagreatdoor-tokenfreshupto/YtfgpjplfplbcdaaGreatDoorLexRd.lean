/- Layer 9: the reader in its block; one, run, hasDigits, keep. -/
import Derived.Test.YtfgpjplfplbcdaaGreatDoorLexTrim
import Derived.Deep.RegionWith
namespace Go.Proofs.YtfgpjplfplbcdaaGreatDoor
open Go.ChangeShapes Go.WideShapes Go.ChangeAt Go.RowKit
open Lx
set_option linter.unusedVariables false
namespace Lx
/-- the reader's cells -/
def rdC (t : ByteArray) (k : Nat) (st : Value) (rd wh : Pc) : Array Value :=
  #[.string t, .int .i64 k, st,
    .int .i64 rd.kind, .bool rd.neg, .string (str rd.ahead), .string (str rd.behind), .string (str rd.expo), .string (str rd.den), .int .i64 rd.stop,
    .int .i64 wh.kind, .bool wh.neg, .string (str wh.ahead), .string (str wh.behind), .string (str wh.expo), .string (str wh.den), .int .i64 wh.stop]
def RB (w : World) (g : Nat) (t : ByteArray) (k : Nat) (st : Value) (rd wh : Pc) : Prop := Bk w g 174 (rdC t k st rd wh)
theorem RB.head {w : World} {g : Nat} {t : ByteArray} {k : Nat} {st : Value} {rd wh : Pc} (h : RB w g t k st rd wh) :
    w.cell? ⟨g, 0, none⟩ = some (.string t) ∧ w.cell? ⟨g, 1, none⟩ = some (.int .i64 k) ∧ w.cell? ⟨g, 2, none⟩ = some st :=
  ⟨Bk.cell h 0 rfl, Bk.cell h 1 rfl, Bk.cell h 2 rfl⟩
theorem RB.read {w : World} {g : Nat} {t : ByteArray} {k : Nat} {st : Value} {rd wh : Pc} (h : RB w g t k st rd wh) :
    w.cell? ⟨g, 3, none⟩ = some (.int .i64 rd.kind) ∧ w.cell? ⟨g, 4, none⟩ = some (.bool rd.neg) ∧ w.cell? ⟨g, 5, none⟩ = some (.string (str rd.ahead)) ∧ w.cell? ⟨g, 6, none⟩ = some (.string (str rd.behind)) ∧
    w.cell? ⟨g, 7, none⟩ = some (.string (str rd.expo)) ∧ w.cell? ⟨g, 8, none⟩ = some (.string (str rd.den)) ∧ w.cell? ⟨g, 9, none⟩ = some (.int .i64 rd.stop) :=
  ⟨Bk.cell h 3 rfl, Bk.cell h 4 rfl, Bk.cell h 5 rfl, Bk.cell h 6 rfl, Bk.cell h 7 rfl, Bk.cell h 8 rfl, Bk.cell h 9 rfl⟩
theorem RB.whole {w : World} {g : Nat} {t : ByteArray} {k : Nat} {st : Value} {rd wh : Pc} (h : RB w g t k st rd wh) :
    w.cell? ⟨g, 10, none⟩ = some (.int .i64 wh.kind) ∧ w.cell? ⟨g, 11, none⟩ = some (.bool wh.neg) ∧ w.cell? ⟨g, 12, none⟩ = some (.string (str wh.ahead)) ∧ w.cell? ⟨g, 13, none⟩ = some (.string (str wh.behind)) ∧
    w.cell? ⟨g, 14, none⟩ = some (.string (str wh.expo)) ∧ w.cell? ⟨g, 15, none⟩ = some (.string (str wh.den)) ∧ w.cell? ⟨g, 16, none⟩ = some (.int .i64 wh.stop) :=
  ⟨Bk.cell h 10 rfl, Bk.cell h 11 rfl, Bk.cell h 12 rfl, Bk.cell h 13 rfl, Bk.cell h 14 rfl, Bk.cell h 15 rfl, Bk.cell h 16 rfl⟩
theorem RB.later {w w' : World} {g : Nat} {t : ByteArray} {k : Nat} {st : Value} {rd wh : Pc} (h : RB w g t k st rd wh) (hb : Below w.heap.size w w') : RB w' g t k st rd wh := Bk.later h hb
theorem RB.drew {w : World} {g : Nat} {t : ByteArray} {k : Nat} {st : Value} {rd wh : Pc} (h : RB w g t k st rd wh) (n : Nat) : RB (w.drewN n) g t k st rd wh := h.later (below_drewN (Below.refl _ _) n)
theorem RB.setAt {w : World} {g : Nat} {t : ByteArray} {k : Nat} {st : Value} {rd wh : Pc} (h : RB w g t k st rd wh) (k' : Nat) : RB (w.setCell ⟨g, 1, none⟩ (.int .i64 k')) g t k' st rd wh := Bk.set h 1 _
theorem RB.setSt {w : World} {g : Nat} {t : ByteArray} {k : Nat} {st : Value} {rd wh : Pc} (h : RB w g t k st rd wh) (st' : Value) : RB (w.setCell ⟨g, 2, none⟩ st') g t k st' rd wh := Bk.set h 2 _
theorem fst_drop_lt {cs : B} {t : ByteArray} {k : Nat} (hf : fst cs (t.data.toList.drop k) = true) : ∃ h : k < t.size, cs.contains (t[k]'h) = true ∧ (t.data.toList.drop k).tail = t.data.toList.drop (k + 1) := by
  by_cases h : k < t.size
  · refine ⟨h, ?_, ?_⟩
    · rw [drop_cons_of h] at hf; exact hf
    · rw [drop_cons_of h]; rfl
  · rw [drop_nil_of (by omega)] at hf; cases hf
end Lx
set_option maxHeartbeats 1600000 in
set_option maxRecDepth 100000 in
theorem one_yes (cs : B) {t : ByteArray} {k g : Nat} {st : Value} {rd wh : Pc} {w : World} (h : RB w g t k st rd wh) (ht : t.size ≤ 65536) (hf : fst cs (t.data.toList.drop k) = true) :
    Calls Tryz.prog 126 #[.pointer (some ⟨g, 0, none⟩), .string ⟨cs.toArray⟩] w fun e w' => e = .returned (.bool true) ∧ RB w' g t (k + 1) st rd wh ∧ Tn g w w' := by
  obtain ⟨hk, hc, _⟩ := fst_drop_lt hf
  clear hf
  obtain ⟨c0, c1, c2⟩ := h.head
  have HB : Hid (RB w g t k st rd wh) := h
  have f1 := Bk.frozen h 1
  clear h
  have hne : ((k : Int) == (t.size : Int)) = false := beq_eq_false_iff_ne.2 (by omega)
  have hki : (k : Int) < (t.size : Int) := by omega
  have hix : decide (Lib.indexByte cs ((t[k]'hk).toNat : Int).toNat.toUInt8 < 0) = false := by rw [toU8, indexByte_neg, hc]; rfl
  clear hc
  generalize hX : Lib.indexByte cs ((t[k]'hk).toNat : Int).toNat.toUInt8 = X at hix
  have hi : ∀ w, Calls Tryz.prog 130 #[.string ⟨cs.toArray⟩, .int .u8 ((t[k]'hk).toNat : Int)] w fun e w' => e = .returned (.int .i64 X) ∧ w' = w := by
    intro w
    have := sIndexByte9_any (str cs) ((t[k]'hk).toNat : Int) w
    rw [str_list, hX] at this
    exact this
  clear hX
  go_enter Tryz.func126, Tryz.ntmps126
  go_wp2
  go_quiet ((go_at_call 130; exact Calls.quiet_of_same (hi _)))
  go_wp2
  go_ret
  exact ⟨rfl, (HB.out.drew nq).setAt (k + 1), ((Tn.refl g w).later (below_drewN (Below.refl _ _) nq)).set 1 _⟩
set_option maxHeartbeats 1600000 in
set_option maxRecDepth 100000 in
theorem one_no (cs : B) {t : ByteArray} {k g : Nat} {st : Value} {rd wh : Pc} {w : World} (h : RB w g t k st rd wh) (ht : t.size ≤ 65536) (hk : k ≤ t.size) (hf : fst cs (t.data.toList.drop k) = false) :
    Calls Tryz.prog 126 #[.pointer (some ⟨g, 0, none⟩), .string ⟨cs.toArray⟩] w fun e w' => e = .returned (.bool false) ∧ RB w' g t k st rd wh ∧ Tn g w w' := by
  obtain ⟨c0, c1, c2⟩ := h.head
  have HB : Hid (RB w g t k st rd wh) := h
  have f1 := Bk.frozen h 1
  clear h
  by_cases hk2 : k < t.size
  · have hc : cs.contains (t[k]'hk2) = false := by rw [drop_cons_of hk2] at hf; exact hf
    clear hf
    have hne : ((k : Int) == (t.size : Int)) = false := beq_eq_false_iff_ne.2 (by omega)
    have hki : (k : Int) < (t.size : Int) := by omega
    have hix : decide (Lib.indexByte cs ((t[k]'hk2).toNat : Int).toNat.toUInt8 < 0) = true := by rw [toU8, indexByte_neg, hc]; rfl
    clear hc
    generalize hX : Lib.indexByte cs ((t[k]'hk2).toNat : Int).toNat.toUInt8 = X at hix
    have hi : ∀ w, Calls Tryz.prog 130 #[.string ⟨cs.toArray⟩, .int .u8 ((t[k]'hk2).toNat : Int)] w fun e w' => e = .returned (.int .i64 X) ∧ w' = w := by
      intro w
      have := sIndexByte9_any (str cs) ((t[k]'hk2).toNat : Int) w
      rw [str_list, hX] at this
      exact this
    clear hX
    go_enter Tryz.func126, Tryz.ntmps126
    go_wp2
    go_quiet ((go_at_call 130; exact Calls.quiet_of_same (hi _)))
    go_wp2
    go_ret
    exact ⟨rfl, HB.out.drew nq, (Tn.refl g w).later (below_drewN (Below.refl _ _) nq)⟩
  · clear hf
    have hne : ((k : Int) == (t.size : Int)) = true := by rw [beq_iff_eq]; omega
    go_enter Tryz.func126, Tryz.ntmps126
    go_wp2
    go_quiet (fail)
    go_wp2
    go_ret
    exact ⟨rfl, HB.out.drew nq, (Tn.refl g w).later (below_drewN (Below.refl _ _) nq)⟩
namespace Lx
theorem wrapI {x : Int} (h1 : -9223372036854775808 ≤ x) (h2 : x ≤ 9223372036854775807) : IntKind.i64.wrap x = x := by
  simp [IntKind.wrap, IntKind.signed, IntKind.bits]
  omega
theorem trimL_eq {cs : B} {p : UInt8 → Bool} (hp : ∀ b, cs.contains b = p b) (l : B) : trimL cs l = l.dropWhile p := by
  unfold trimL
  congr 1
  funext b
  exact hp b
theorem run_num {t : ByteArray} {k : Nat} (p : UInt8 → Bool) (hk : k ≤ t.size) : ((t.data.toList.drop k).dropWhile p).length + ((t.data.toList.drop k).takeWhile p).length + k = t.size := by
  have := dk_len p (t.data.toList.drop k)
  rw [List.length_drop, ← Lib.size_eq] at this
  omega
theorem run_ext {t : ByteArray} {k : Nat} (p : UInt8 → Bool) : t.extract k (k + ((t.data.toList.drop k).takeWhile p).length) = str ((t.data.toList.drop k).takeWhile p) := by
  rw [ext_str, Nat.add_sub_cancel_left, take_tk]
theorem ext_all {t : ByteArray} {k : Nat} : t.extract k t.size = str (t.data.toList.drop k) := by
  rw [ext_str, List.take_of_length_le (by rw [List.length_drop, ← Lib.size_eq]; exact Nat.le_refl _)]
end Lx
set_option maxHeartbeats 1600000 in
set_option maxRecDepth 100000 in
theorem run_any (cs : B) (p : UInt8 → Bool) (hp : ∀ b, cs.contains b = p b) (h2 : 2 ≤ cs.length) (hz : cs.length < 1000) (hascii : cs.all (fun b => decide (b.toNat < 128)) = true)
    {t : ByteArray} {k g : Nat} {st : Value} {rd wh : Pc} {w : World} (h : RB w g t k st rd wh) (ht : t.size ≤ 65536) (hk : k ≤ t.size) :
    Calls Tryz.prog 137 #[.pointer (some ⟨g, 0, none⟩), .string ⟨cs.toArray⟩] w fun e w' => e = .returned (.string (str ((t.data.toList.drop k).takeWhile p))) ∧
      RB w' g t (k + ((t.data.toList.drop k).takeWhile p).length) st rd wh ∧ Tn g w w' := by
  obtain ⟨c0, c1, c2⟩ := h.head
  have HB : Hid (RB w g t k st rd wh) := h
  have f1 := Bk.frozen h 1
  have hcl : ∀ w', Below w.heap.size w w' → w'.cell? ⟨g, 0, none⟩ = some (.string t) ∧ w'.cell? ⟨g, 1, none⟩ = some (.int .i64 k) ∧ w'.frozen? ⟨g, 1, none⟩ = false := fun w' hb => ⟨(h.later hb).head.1, (h.later hb).head.2.1, Bk.frozen (h.later hb) 1⟩
  clear h
  have hT : ∀ w, Calls Tryz.prog 129 #[.string (str (t.data.toList.drop k)), .string ⟨cs.toArray⟩] w fun e w' => e = .returned (.string (str ((t.data.toList.drop k).dropWhile p))) ∧ Below w.heap.size w w' := by
    intro w
    have := trimLeft_set cs (str (t.data.toList.drop k)) w h2 hz hascii
    rw [str_list, trimL_eq hp] at this
    exact this
  have hn := run_num p hk
  have hx := run_ext (t := t) (k := k) p
  have hs := str_size ((t.data.toList.drop k).dropWhile p)
  have he := ext_all (t := t) (k := k)
  generalize (t.data.toList.drop k).dropWhile p = D at *
  generalize (t.data.toList.drop k).takeWhile p = T at *
  have hki : (k : Int) ≤ (t.size : Int) := by omega
  have hv : ((t.size : Int) - (D.length : Int)) = ((k + T.length : Nat) : Int) := by omega
  have hw : ((k + T.length : Nat) : Int) ≤ (t.size : Int) := by omega
  have hkT : (k : Int) ≤ ((k + T.length : Nat) : Int) := by omega
  generalize hM : k + T.length = M at *
  have hm : M ≤ 65536 := by omega
  clear hM hn
  have hwr : IntKind.i64.wrap (M : Int) = (M : Int) := wrapI (by omega) (by omega)
  go_enter Tryz.func137, Tryz.ntmps137
  go_wp2
  go_region_with (go_at_call 129; refine (hT _).mono ?_; rintro e w3 ⟨rfl, hb3⟩; obtain ⟨p0, p1, p2⟩ := hcl w3 (by first | exact hb3 | exact (below_drewN (Below.refl _ w) _).trans (hb3.mono (Nat.le_refl _))))
  all_goals
    go_wp2
    go_quiet (fail)
    go_wp2
    go_ret
    have HB3 := HB.out.later (show Below w.heap.size w w3 from by first | exact hb3 | exact (below_drewN (Below.refl _ w) _).trans (hb3.mono (Nat.le_refl _)))
    refine ⟨rfl, ?_, ?_⟩
    · exact (HB3.setAt M).drew nq
    · exact (((Tn.refl g w).later (by first | exact hb3 | exact (below_drewN (Below.refl _ w) _).trans (hb3.mono (Nat.le_refl _)))).set 1 _).later (below_drewN (Below.refl _ _) nq)
end Go.Proofs.YtfgpjplfplbcdaaGreatDoor
