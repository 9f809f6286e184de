import Derived.Below
import Derived.BigQuiet
import Derived.ChangeOld
import Derived.Deep.CutRange
import Derived.Deep.LoopGhost
import Derived.Deep.QuietTactic
import Derived.Deep.RegionHeld3
import Derived.Deep.RegionWith
import Derived.Deep.WholeRow
import Derived.KernelRfl
import Derived.LaidEql
import Derived.Laws.AppendOwn
import Derived.Laws.BitsAllLaws
import Derived.Laws.CopyRow
import Derived.Laws.EntriesVeiled
import Derived.Laws.Externs
import Derived.Laws.IdiomCopy
import Derived.Laws.IdiomRangeMap
import Derived.Laws.RangeString
import Derived.Laws.ResultCell
import Derived.Laws.Runes
import Derived.Laws.Strings3
import Derived.Lib.AppendIntMem
import Derived.Lib.AsciiSet
import Derived.Lib.AtoiErrMem
import Derived.Lib.BufferRead
import Derived.Lib.Builder
import Derived.Lib.Bytealg
import Derived.Lib.ConvBytes
import Derived.Lib.IndexBytes
import Derived.Lib.ItoaLen
import Derived.Lib.ItoaNum
import Derived.Lib.Strings
import Derived.Lib.TrimByte
import Derived.Lib.Walk
import Derived.OpenShut
import Derived.OwnWalk
import Derived.ProofKit
import Derived.RowKitTokens
import Derived.Shelf.Strconv.Clone
import Derived.Shelf.Strconv.Itoa3
import Derived.Shelf.Strings.BuilderK
import Derived.Shelf.Strings.OnBuilder
import Derived.ShutString
import Derived.Stop.Asserts
import Derived.WalkKit
import Derived.WalkLawsBesides
import Derived.WalkSpells
import Derived.Test.YtfgpjplfplbcdaaGreatDoorPl26
import Derived.Test.YtfgpjplfplbcdaaGreatDoorPl27
/- Layer 18: TokenBlanks. -/
namespace Go.Proofs.YtfgpjplfplbcdaaGreatDoor
open Go.ChangeShapes Go.WideShapes Go.ChangeAt Go.RowKit
open Lx Tk
set_option linter.unusedVariables false
theorem Tk.row_later {w w' : World} {a : Option Addr} {n : Nat} {z : List Int} (h : RowAt .i64 w a n z) (hb : Below w.heap.size w w') : RowAt .i64 w' a n z := by
  obtain ⟨h1, h2 | ⟨b, o, e, hl, hc⟩⟩ := h
  · exact ⟨h1, Or.inl h2⟩
  · exact ⟨h1, Or.inr ⟨b, o, e, Nat.lt_of_lt_of_le hl hb.size, fun i hi => (hb.cell (cell_lt (hc i hi))).trans (hc i hi)⟩⟩
set_option maxHeartbeats 3200000 in
set_option maxRecDepth 100000 in
theorem blanks_bad {s : ByteArray} (hs : s.size ≤ 1048576) {w : World} {a : Option Addr} {n c : Nat} (hT : ∀ w', Below w.heap.size w w' → PowTab w') {l : List Ct} {p : Nat} (hl : Toks 0 s.data.toList l (some p)) :
    Calls Tryz.prog 6 #[.string s, .slice a n c] w fun e w' => e = .returned (.bool true) ∧ Below w.heap.size w w' := by
  have TL : Hid (∀ w', Below w.heap.size w w' → PowTab w') := hT
  have c1 := all18_any s (by omega) hl w
  have c2 : Hid (∀ w, _) := fun w => rall18_any s (by omega) hl w
  unfold AllR at c1
  unfold RaR at c2
  simp only at c1 c2
  clear hT hl
  go_enter Tryz.func6, Tryz.ntmps6
  go_wp2_with fail
  refine c1.mono ?_
  rintro e w1 ⟨er, rfl, hE1, hb1⟩
  clear c1 hE1
  have c3 := c2.out w1
  clear c2
  go_wp2_with fail
  refine c3.mono ?_
  rintro e w2 ⟨rfl, hb2⟩
  clear c3
  have B2 := hb1.trans (hb2.mono hb1.size)
  have cA := alive18_any (w := w2) (fun w' hb => TL.out w' (B2.trans (hb.mono B2.size)))
  go_wp2_with fail
  refine cA.mono ?_
  rintro e w3 ⟨rfl, hb3⟩
  clear cA
  have B3 := B2.trans (hb3.mono B2.size)
  have cA := alive18_any (w := w3) (fun w' hb => TL.out w' (B3.trans (hb.mono B3.size)))
  go_wp2_with fail
  refine cA.mono ?_
  rintro e w4 ⟨rfl, hb4⟩
  clear cA
  have B4 := B3.trans (hb4.mono B3.size)
  go_wp2
  go_ret
  exact ⟨rfl, B4⟩
set_option maxHeartbeats 3200000 in
set_option maxRecDepth 100000 in
theorem blanks_ok {s : ByteArray} (hs : s.size ≤ 1048576) {w : World} {a : Option Addr} {n c : Nat} {z : List Int} (hz : RowAt .i64 w a n z) (hn : n ≤ 9223372036854775807) (hT : ∀ w', Below w.heap.size w w' → PowTab w') {l : List Ct} (hl : Toks 0 s.data.toList l none) :
    Calls Tryz.prog 6 #[.string s, .slice a n c] w fun e w' => e = .returned (.bool true) ∧ Below w.heap.size w w' := by
  have TL : Hid (∀ w', Below w.heap.size w w' → PowTab w') := hT
  have c1 := all18_any s (by omega) hl w
  have c2 : Hid (∀ w, _) := fun w => rall18_any s (by omega) hl w
  unfold AllR at c1
  unfold RaR at c2
  simp only at c1 c2
  have HZ : Hid (RowAt .i64 w a n z) := hz
  have hll : l.length ≤ 1048576 := by have := hl.len; rw [← Lib.size_eq] at this; omega
  have HA : Hid (Asc 0 l s.size) := by
    have := hl.asc
    rw [Nat.zero_add, ← Lib.size_eq] at this
    exact this
  have HLE : Hid (∀ x ∈ l, x.fr ≤ x.to ∧ x.to ≤ s.size) := by
    have key : ∀ (l : List Ct) (k n : Nat), Asc k l n → ∀ x ∈ l, x.fr ≤ x.to ∧ x.to ≤ n := by
      intro l
      induction l with
      | nil => intro k n _ x hx; simp at hx
      | cons c l ih =>
        intro k n h x hx
        obtain ⟨h1, h2, h3, h4⟩ := h
        rcases List.mem_cons.mp hx with rfl | hx
        · exact ⟨h2, h3⟩
        · exact ih _ _ h4 x hx
    exact key l 0 s.size HA.out
  have HL : Hid (Toks 0 s.data.toList l none) := hl
  clear hT hl hz
  go_enter Tryz.func6, Tryz.ntmps6
  go_wp2_with fail
  refine c1.mono ?_
  rintro e w1 ⟨v, rfl, hR1, hb1⟩
  clear c1
  have c3 := c2.out w1
  clear c2
  go_wp2_with fail
  refine c3.mono ?_
  rintro e w2 ⟨vr, rfl, _, hb2⟩
  clear c3
  have B2 := hb1.trans (hb2.mono hb1.size)
  have cA := alive18_any (w := w2) (fun w' hb => TL.out w' (B2.trans (hb.mono B2.size)))
  go_wp2_with fail
  refine cA.mono ?_
  rintro e w3 ⟨rfl, hb3⟩
  clear cA
  have B3 := B2.trans (hb3.mono B2.size)
  have R3 : TkR w3 w.heap.size v l := (hR1.later hb2).later hb3
  have HB3 : Hid (Below w.heap.size w w3) := B3
  obtain ⟨av, kv, rfl, _⟩ := R3.slice
  have HR3 : Hid (TkR w3 w.heap.size (.slice av l.length kv) l) := R3
  have cP := put18_any R3.rt s (by omega) (by omega) HA.out (cc := c) (row_later HZ.out B3) hn
  clear R3 hR1 hb1 hb2 hb3 B2 B3
  go_wp2_with fail
  refine cP.mono ?_
  rintro e w4 ⟨⟨bs, hbl, hbb, rfl, hpz⟩, hb4⟩
  clear cP
  obtain ⟨m, hm1, hm2⟩ := (Toks.put HL.out rfl bs hbl hbb).2 0
  have HM2 : Hid (m.map Ct.bare = l.map Ct.bare) := hm2
  have c5 := all18_any (str (putL 0 s.data.toList l bs)) (by omega) (by rw [str_list]; exact hm1) w4
  unfold AllR at c5
  simp only at c5
  clear hm1 hm2 hbl hbb
  generalize str (putL 0 s.data.toList l bs) = X at *
  go_wp2_with fail
  refine c5.mono ?_
  rintro e w5 ⟨vm, rfl, hR5, hb5⟩
  clear c5
  have b45 := hb4.trans (hb5.mono hb4.size)
  have R5 : TkR w5 w.heap.size (.slice av l.length kv) l := HR3.out.later b45
  have HB5 : Hid (Below w.heap.size w w5) := HB3.out.trans (b45.mono HB3.out.size)
  have cT := turned18_any R5.rt s (by omega) (by omega) HLE.out
  have HR5 : Hid (TkR w5 w.heap.size (.slice av l.length kv) l) := R5
  obtain ⟨am, km, rfl, _⟩ := hR5.slice
  have HRm : Hid (TkR w5 w4.heap.size (.slice am m.length km) m) := hR5
  clear hb4 hb5 b45 HR3 HB3 R5 hR5
  go_wp2_with fail
  refine cT.mono ?_
  rintro e w6 ⟨rfl, hb6⟩
  clear cT
  obtain ⟨r', f1, f2, f3, f4⟩ := Toks.turn HL.out rfl [] rfl
  have ef : l.foldl stT s.data.toList = r' := by
    have := f1
    rw [List.nil_append, List.nil_append] at this
    exact this
  have c7 := all18_any (str (l.foldl stT s.data.toList)) (by rw [ef, str_size, f2, ← Lib.size_eq]; omega) (by rw [str_list, ef]; exact f4) w6
  unfold AllR at c7
  simp only at c7
  clear f1 f2 f3 f4 ef
  generalize str (l.foldl stT s.data.toList) = Y at *
  go_wp2_with fail
  refine c7.mono ?_
  rintro e w7 ⟨vn, rfl, hR7, hb7⟩
  clear c7
  have b67 := hb6.trans (hb7.mono hb6.size)
  have R7 : TkR w7 w.heap.size (.slice av l.length kv) l := HR5.out.later b67
  have Rm7 : TkR w7 w4.heap.size (.slice am m.length km) m := HRm.out.later b67
  have HB7 : Hid (Below w.heap.size w w7) := HB5.out.trans (b67.mono HB5.out.size)
  have cK := alike18_same R7.rt Rm7.rt HM2.out (by omega)
  have HR7 : Hid (TkR w7 w.heap.size (.slice av l.length kv) l) := R7
  obtain ⟨an, kn, rfl, _⟩ := hR7.slice
  have HN7 : Hid (TkR w7 w6.heap.size (.slice an l.length kn) l) := hR7
  clear hb6 hb7 b67 HR5 HRm HB5 R7 Rm7 hR7
  go_wp2_with fail
  refine cK.mono ?_
  rintro e w8 ⟨rfl, hb8⟩
  clear cK
  have cQ := eq18_same (HR7.out.later hb8).rt (HN7.out.later hb8).rt (by simp; omega)
  have HB8 : Hid (Below w.heap.size w w8) := HB7.out.trans (hb8.mono HB7.out.size)
  clear hb8 HR7 HN7 HB7
  go_wp2_with fail
  refine cQ.mono ?_
  rintro e w9 ⟨rfl, hb9⟩
  clear cQ
  go_wp2
  go_ret
  exact ⟨rfl, HB8.out.trans (hb9.mono HB8.out.size)⟩
theorem blanks_walk {s : ByteArray} (hs : s.size ≤ 1048576) {w : World} {a : Option Addr} {n c : Nat} {z : List Int} (hz : RowAt .i64 w a n z) (hn : n ≤ 9223372036854775807) (hT : PowTab w) :
    Calls Tryz.prog 6 #[.string s, .slice a n c] w fun e w' => e = .returned (.bool true) ∧ Below w.heap.size w w' := by
  obtain ⟨l, e, hl⟩ := toks_any s.data.toList
  cases e with
  | some p => exact blanks_bad hs (fun w' hb => pow_later18 hT hb) hl
  | none => exact blanks_ok hs hz hn (fun w' hb => pow_later18 hT hb) hl
end Go.Proofs.YtfgpjplfplbcdaaGreatDoor

