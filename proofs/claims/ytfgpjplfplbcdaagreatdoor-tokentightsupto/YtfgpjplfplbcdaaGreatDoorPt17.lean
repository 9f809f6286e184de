import Derived.Deep.LoopGhost
import Derived.Shelf.Strings.BuilderK
import Derived.Below
import Derived.BigQuiet
import Derived.ChangeOld
import Derived.Deep.CutRange
import Derived.Deep.QuietTactic
import Derived.Deep.RegionHeld3
import Derived.Deep.RegionWith
import Derived.Deep.WholeRow
import Derived.KernelRfl
import Derived.LaidEql
import Derived.Laws.BitsAllLaws
import Derived.Laws.CopyRow
import Derived.Laws.EntriesVeiled
import Derived.Laws.Externs
import Derived.Laws.IdiomCopy
import Derived.Laws.IdiomRangeMap
import Derived.Laws.RangeString
import Derived.Laws.ResultCell
import Derived.Laws.Runes
import Derived.Laws.Strings3
import Derived.Lib.AppendIntMem
import Derived.Lib.AsciiSet
import Derived.Lib.Builder
import Derived.Lib.Bytealg
import Derived.Lib.IndexBytes
import Derived.Lib.ItoaLen
import Derived.Lib.Strings
import Derived.Lib.TrimByte
import Derived.Lib.Walk
import Derived.OpenShut
import Derived.OwnWalk
import Derived.ProofKit
import Derived.RowKitTokens
import Derived.Shelf.Strconv.Clone
import Derived.Shelf.Strconv.Itoa3
import Derived.Shelf.Strings.OnBuilder
import Derived.ShutString
import Derived.Stop.Asserts
import Derived.WalkKit
import Derived.WalkLawsBesides
import Derived.WalkSpells
import Derived.Test.YtfgpjplfplbcdaaGreatDoorPt13
import Derived.Test.YtfgpjplfplbcdaaGreatDoorPt15
/- Layer 18: Tight. -/
namespace Go.Proofs.YtfgpjplfplbcdaaGreatDoor
open Go.ChangeShapes Go.WideShapes Go.ChangeAt Go.RowKit
open Lx Tk Go.Shelf
set_option linter.unusedVariables false
namespace Tk
/-- a list of any tokens that may be read -/
def Rt (w : World) (v : Value) (l : List Tg) : Prop :=
  ∃ a c, v = .slice a l.length c ∧ ∀ (i : Nat) (t : Tg), l[i]? = some t → ∃ g o, a = some ⟨g, o, none⟩ ∧ ∀ (j : Nat) (u : Value), (tgA t)[j]? = some u → w.cell? ⟨g, o + i * 9 + j, none⟩ = some u
theorem Rt.keep {w w' : World} {v : Value} {l : List Tg} {b : Nat} (h : Rt w v l) (hb : Below b w w') (hw : w.heap.size ≤ b) : Rt w' v l := by
  obtain ⟨a, c, h1, h2⟩ := h
  refine ⟨a, c, h1, fun i t hi => ?_⟩
  obtain ⟨g, o, h3, h4⟩ := h2 i t hi
  refine ⟨g, o, h3, fun j u hu => ?_⟩
  have h5 := h4 j u hu
  have := cell_lt h5
  exact (hb.cell (p := ⟨g, o + i * 9 + j, none⟩) (by show g < b; have h6 : g < w.heap.size := this; omega)).trans h5
theorem tight_cons (g : Bool) (t : Tg) (r : List Tg) : tightL g (t :: r) = if txT t = [] then tightL g r else (if (g && gapT t) = true then [32] else []) ++ (txT t ++ tightL (gapT t) r) := rfl
theorem tight_len : ∀ (l : List Tg) (g : Bool), ∀ t ∈ l, (txT t).length ≤ (tightL g l).length
  | [], g, t, h => by cases h
  | s :: r, g, t, h => by
    unfold tightL
    rcases List.mem_cons.1 h with rfl | h
    · split
      · rename_i e; rw [e]; simp
      · simp only [List.length_append]; omega
    · split
      · exact tight_len r g t h
      · have := tight_len r (gapT s) t h
        simp only [List.length_append]; omega
end Tk
namespace Tk
abbrev BuF (b : Nat) (l : B) (w : World) : Prop := Lib.IsBuilderF 65 5 b b (Lib.byteCells l) w
abbrev OK8 (b : Nat) (w w' : World) : Prop := Lib.OthersKept 5 (some b) w w'
theorem BuF.lt {b : Nat} {l : B} {w : World} (h : BuF b l w) : b < w.heap.size := by rcases h with h | h <;> exact h.lt
theorem BuF.later {b : Nat} {l : B} {w w' : World} (h : BuF b l w) (hb : Below w.heap.size w w') : BuF b l w' := by
  have k : ∀ p, Lib.BuilderAtF 65 5 b b p (Lib.byteCells l) w → Lib.BuilderAtF 65 5 b b p (Lib.byteCells l) w' := fun p h => by
    have hlt := h.lt
    obtain ⟨hB, v, hv, hown, hne⟩ := h
    exact ⟨hB, v, (hb.block b hlt).trans hv, hown.kept (row := none) ⟨hb.os, hb.tape, hb.output, hb.size, fun k hk _ => hb.block k hk⟩ (Classical.em _), hne⟩
  exact h.elim (fun x => .inl (k _ x)) (fun x => .inr (k _ x))
theorem Bk_ok8 {b i : Nat} {w w' : World} {vs : Array Value} (h : Bk w i 32 vs) (hk : OK8 b w w') (hi : b ≠ i) : Bk w' i 32 vs :=
  hk i _ h (fun e => hi (Option.some.inj e).symm) (fun c fz e => by cases e)
end Tk
theorem bByte18 (b : Nat) (l : B) (c : UInt8) (w : World) (h : BuF b l w) (hl : l.length ≤ 100000000000) :
    Calls Tryz.prog 28 #[.pointer (some ⟨b, 0, none⟩), .int .u8 c.toNat] w fun r w' => r = .returned .nilIface ∧ BuF b (l ++ [c]) w' ∧ Below b w w' ∧ OK8 b w w' := by
  have hlt : b < w.heap.size := h.lt
  have := Any.Builder_WriteByte_k lays167 layBuilderExtra2 b b (Lib.byteCells l) (c.toNat : Int) w h (by rw [Lib.byteCells_length]; omega) (by omega)
  refine this.mono ?_
  rintro r w' ⟨rfl, h1, h2, h3⟩
  refine ⟨rfl, Or.inr ?_, h2, h3⟩
  have e : Lib.byteCells (l ++ [c]) = Lib.byteCells l ++ [.int .u8 c.toNat] := by simp [Lib.byteCells]
  rw [e]
  exact h1
theorem bWrite18 (b : Nat) (l : B) (s : B) (w : World) (h : BuF b l w) (hl : l.length ≤ 100000000000) (hs : s.length ≤ 100000000000) :
    Calls Tryz.prog 29 #[.pointer (some ⟨b, 0, none⟩), .string (str s)] w fun r w' => r = .returned (.tuple #[.int .i64 s.length, .nilIface]) ∧ BuF b (l ++ s) w' ∧ Below b w w' ∧ OK8 b w w' := by
  have hlt : b < w.heap.size := h.lt
  have := Any.Builder_WriteString_k lays166 layBuilderExtra2 b b (Lib.byteCells l) (str s) w h (by rw [Lib.byteCells_length, str_size]; omega) (by omega)
  refine this.mono ?_
  rintro r w' ⟨rfl, h1, h2, h3⟩
  refine ⟨by rw [str_size], Or.inr ?_, h2, h3⟩
  have e : Lib.byteCells (l ++ s) = Lib.byteCells l ++ Lib.strCells (str s) := by unfold Lib.byteCells Lib.strCells; rw [List.map_append, str_list]
  rw [e]
  exact h1
theorem bString18 (b : Nat) (l : B) (w : World) (h : BuF b l w) :
    Calls Tryz.prog 30 #[.pointer (some ⟨b, 0, none⟩)] w fun r w' => r = .returned (.string (str l)) ∧ Below b w w' := by
  have hlt : b < w.heap.size := h.lt
  refine (Any.Builder_String_any_k lays169 layBuilderExtra2 b b l w h (by omega)).mono ?_
  rintro r w' ⟨rfl, _, h2, _⟩
  exact ⟨rfl, h2⟩
set_option maxHeartbeats 6400000 in
set_option maxRecDepth 100000 in
theorem tight18_any {w : World} {v : Value} {l : List Tg} (hR : Rt w v l) (hl : l.length ≤ 1000000000) (hn : ∀ t ∈ l, t.num.num.length ≤ 1000000000 ∧ t.num.den.length ≤ 1000000000) (hz : (tightL false l).length ≤ 10000000000) (hT : ∀ w', Below w.heap.size w w' → PowTab w') :
    Calls Tryz.prog 15 #[v] w fun e w' => e = .returned (.string (str (tightL false l))) ∧ Below w.heap.size w w' := by
  obtain ⟨a, c, rfl, hc⟩ := hR
  have HN : Hid (∀ t ∈ l, t.num.num.length ≤ 1000000000 ∧ t.num.den.length ≤ 1000000000) := hn
  have HC : Hid (∀ (i : Nat) (t : Tg), l[i]? = some t → ∃ g o, a = some ⟨g, o, none⟩ ∧ ∀ (j : Nat) (u : Value), (tgA t)[j]? = some u → w.cell? ⟨g, o + i * 9 + j, none⟩ = some u) := hc
  have HT : Hid (∀ w', Below w.heap.size w w' → PowTab w') := hT
  have HL : Hid (l.length ≤ 1000000000) := hl
  have HZ : Hid ((tightL false l).length ≤ 10000000000) := hz
  clear hn hc hT hl hz
  have HB0 : Hid (BuF w.heap.size [] (w.alloc (.cells #[.pointer none, .slice none 0 0] 65))) :=
    Or.inl ⟨Nat.le_refl _, _, heap_alloc_new _ _, World.ownsRowF_nil _ _ _ _, by simp [Value.ownBlock]⟩
  have HW0 : Hid (Below w.heap.size w (w.alloc (.cells #[.pointer none, .slice none 0 0] 65))) := (Below.refl _ w).alloc (Nat.le_refl _) _
  have hl9 := HL.out
  go_enter Tryz.func15, Tryz.ntmps15
  go_wp2
  go_loopw [4, 10] (fun gv iv wr => ∃ (i : Nat) (gp : Bool) (pre : B), gv = .bool gp ∧ iv = .int .i64 (i : Int) ∧ i ≤ l.length ∧ Hid (pre ++ tightL gp (l.drop i) = tightL false l) ∧ Hid (BuF w.heap.size pre wr) ∧ Hid (Below w.heap.size w wr)) (fun _ i _ => l.length - (intOf i).toNat)
  case atStart => exact ⟨0, false, [], rfl, rfl, Nat.zero_le _, rfl, HB0, HW0⟩
  case round =>
    obtain ⟨i, gp, pre, rfl, rfl, hi, HP, HB, HW⟩ := hrel
    by_cases hlt : i < l.length
    · obtain ⟨t, ht⟩ : ∃ t, l[i]? = some t := ⟨_, List.getElem?_eq_getElem hlt⟩
      obtain ⟨g, o, rfl, hcell⟩ := HC.out i t ht
      have hdr : l.drop i = t :: l.drop (i + 1) := by
        rw [List.drop_eq_getElem_cons hlt]
        rw [List.getElem?_eq_getElem hlt] at ht
        rw [Option.some.inj ht]
      have hm : t ∈ l := List.mem_of_getElem? ht
      obtain ⟨hn1, hn2⟩ := HN.out t hm
      have hii : (i : Int) < (l.length : Int) := by omega
      have p0 : wr.cell? ⟨g, o + i * 9, none⟩ = some (.int .i64 t.kind) := by
        have h := hcell 0 _ rfl
        exact (HW.out.cell (p := ⟨g, o + i * 9 + 0, none⟩) (cell_lt h)).trans h
      have p1 : wr.cell? ⟨g, o + i * 9 + 1, none⟩ = some (.int .i64 t.fr) := by
        have h := hcell 1 _ rfl
        exact (HW.out.cell (p := ⟨g, o + i * 9 + 1, none⟩) (cell_lt h)).trans h
      have p2 : wr.cell? ⟨g, o + i * 9 + 2, none⟩ = some (.int .i64 t.till) := by
        have h := hcell 2 _ rfl
        exact (HW.out.cell (p := ⟨g, o + i * 9 + 2, none⟩) (cell_lt h)).trans h
      have p3 : wr.cell? ⟨g, o + i * 9 + 3, none⟩ = some (.string (str t.word)) := by
        have h := hcell 3 _ rfl
        exact (HW.out.cell (p := ⟨g, o + i * 9 + 3, none⟩) (cell_lt h)).trans h
      have p4 : wr.cell? ⟨g, o + i * 9 + 4, none⟩ = some (.int .i64 t.num.kind) := by
        have h := hcell 4 _ rfl
        exact (HW.out.cell (p := ⟨g, o + i * 9 + 4, none⟩) (cell_lt h)).trans h
      have p5 : wr.cell? ⟨g, o + i * 9 + 5, none⟩ = some (.bool t.num.neg) := by
        have h := hcell 5 _ rfl
        exact (HW.out.cell (p := ⟨g, o + i * 9 + 5, none⟩) (cell_lt h)).trans h
      have p6 : wr.cell? ⟨g, o + i * 9 + 6, none⟩ = some (.string (str t.num.num)) := by
        have h := hcell 6 _ rfl
        exact (HW.out.cell (p := ⟨g, o + i * 9 + 6, none⟩) (cell_lt h)).trans h
      have p7 : wr.cell? ⟨g, o + i * 9 + 7, none⟩ = some (.int .i64 t.num.exp) := by
        have h := hcell 7 _ rfl
        exact (HW.out.cell (p := ⟨g, o + i * 9 + 7, none⟩) (cell_lt h)).trans h
      have p8 : wr.cell? ⟨g, o + i * 9 + 8, none⟩ = some (.string (str t.num.den)) := by
        have h := hcell 8 _ rfl
        exact (HW.out.cell (p := ⟨g, o + i * 9 + 8, none⟩) (cell_lt h)).trans h
      clear hcell
      have htx := tight_len l false t hm
      have hz := HZ.out
      have hPL : pre.length ≤ (tightL false l).length := by rw [← HP.out, List.length_append]; omega
      have cT : ∀ wX, Below w.heap.size w wX → Calls Tryz.prog 26 #[.agg #[.int .i64 t.kind, .int .i64 t.fr, .int .i64 t.till, .string (str t.word), .int .i64 t.num.kind, .bool t.num.neg, .string (str t.num.num), .int .i64 t.num.exp, .string (str t.num.den)]] wX fun e w' => e = .returned (.string (str (txT t))) ∧ Below wX.heap.size wX w' := fun wX hX => text18_any t hn1 hn2 (fun w' hb => HT.out w' (hX.trans (hb.mono hX.size)))
      have cG := fun w => needsGap18_any t.kind t.fr t.till t.word t.num w
      unfold tkA at cG
      have hb1 : Below wr.heap.size wr (wr.alloc (.cells #[.int .i64 t.kind, .int .i64 t.fr, .int .i64 t.till, .string (str t.word), .int .i64 t.num.kind, .bool t.num.neg, .string (str t.num.num), .int .i64 t.num.exp, .string (str t.num.den)] 32)) := (Below.refl _ wr).alloc (Nat.le_refl _) _
      have hw1 := HW.out.trans (hb1.mono HW.out.size)
      have hbl : w.heap.size < wr.heap.size := BuF.lt HB.out
      have C1 := Bk.new wr 32 #[.int .i64 t.kind, .int .i64 t.fr, .int .i64 t.till, .string (str t.word), .int .i64 t.num.kind, .bool t.num.neg, .string (str t.num.num), .int .i64 t.num.exp, .string (str t.num.den)]
      have HC1 : Hid _ := C1
      have HB1 : Hid (BuF w.heap.size pre (wr.alloc (.cells #[.int .i64 t.kind, .int .i64 t.fr, .int .i64 t.till, .string (str t.word), .int .i64 t.num.kind, .bool t.num.neg, .string (str t.num.num), .int .i64 t.num.exp, .string (str t.num.den)] 32))) := BuF.later HB.out hb1
      have hcT := cT _ hw1
      have HW1 : Hid _ := hw1
      clear C1 hw1 cT hb1 HB HW hn1 hn2 ht hm HC
      cases htx0 : (txT t).isEmpty
      · have hne : txT t ≠ [] := fun e => by rw [e] at htx0; cases htx0
        have hsE : (str (txT t)).toList.isEmpty = false := by rw [Lib.toList_data, str_list]; exact htx0
        have HP2 : Hid ((pre ++ ((if (gp && gapT t) = true then [32] else []) ++ txT t)) ++ tightL (gapT t) (l.drop (i + 1)) = tightL false l) := by
          show _ = _
          rw [← HP.out, hdr]
          rw [tight_cons, if_neg hne, List.append_assoc, List.append_assoc]
        have hgE : gapT t = (t.kind == 1 || t.kind == 5) := rfl
        rw [← hgE] at cG
        generalize gapT t = gt at *
        generalize txT t = X at *
        clear HP hdr htx0 hne hgE
        cases gp
        · have HPP : Hid ((pre ++ X) ++ tightL gt (l.drop (i + 1)) = tightL false l) := HP2.out
          go_wp2_with fail
          refine hcT.mono ?_
          rintro e w2 ⟨rfl, hb2⟩
          have HB2 : Hid (BuF w.heap.size pre w2) := BuF.later HB1.out hb2
          have C2 : Bk w2 wr.heap.size 32 #[.int .i64 t.kind, .int .i64 t.fr, .int .i64 t.till, .string (str t.word), .int .i64 t.num.kind, .bool t.num.neg, .string (str t.num.num), .int .i64 t.num.exp, .string (str t.num.den)] := Bk.later HC1.out hb2
          have HW2 : Hid (Below w.heap.size w w2) := HW1.out.trans (hb2.mono HW1.out.size)
          clear hcT hb2 HB1 HC1 HW1
          have y0 : w2.cell? ⟨wr.heap.size, 0, none⟩ = some (.int .i64 t.kind) := C2.cell 0 rfl
          have y1 : w2.cell? ⟨wr.heap.size, 1, none⟩ = some (.int .i64 t.fr) := C2.cell 1 rfl
          have y2 : w2.cell? ⟨wr.heap.size, 2, none⟩ = some (.int .i64 t.till) := C2.cell 2 rfl
          have y3 : w2.cell? ⟨wr.heap.size, 3, none⟩ = some (.string (str t.word)) := C2.cell 3 rfl
          have y4 : w2.cell? ⟨wr.heap.size, 4, none⟩ = some (.int .i64 t.num.kind) := C2.cell 4 rfl
          have y5 : w2.cell? ⟨wr.heap.size, 5, none⟩ = some (.bool t.num.neg) := C2.cell 5 rfl
          have y6 : w2.cell? ⟨wr.heap.size, 6, none⟩ = some (.string (str t.num.num)) := C2.cell 6 rfl
          have y7 : w2.cell? ⟨wr.heap.size, 7, none⟩ = some (.int .i64 t.num.exp) := C2.cell 7 rfl
          have y8 : w2.cell? ⟨wr.heap.size, 8, none⟩ = some (.string (str t.num.den)) := C2.cell 8 rfl
          have cW := bWrite18 w.heap.size (pre) X w2 HB2.out (by first | omega | (simp; omega)) (by omega)
          have HCw2 : Hid _ := C2
          clear C2 HB2 y0 y1 y2 y3 y4 y5 y6 y7 y8
          go_wp2_with fail
          refine cW.mono ?_
          rintro e w3 ⟨rfl, hB, hb, hk⟩
          have C9 : Bk w3 wr.heap.size 32 #[.int .i64 t.kind, .int .i64 t.fr, .int .i64 t.till, .string (str t.word), .int .i64 t.num.kind, .bool t.num.neg, .string (str t.num.num), .int .i64 t.num.exp, .string (str t.num.den)] := Bk_ok8 HCw2.out hk (by omega)
          have hw9 : Below w.heap.size w w3 := HW2.out.trans hb
          have HB9 : Hid _ := hB
          clear cW hB hb hk HCw2 HW2
          have y0 : w3.cell? ⟨wr.heap.size, 0, none⟩ = some (.int .i64 t.kind) := C9.cell 0 rfl
          have y1 : w3.cell? ⟨wr.heap.size, 1, none⟩ = some (.int .i64 t.fr) := C9.cell 1 rfl
          have y2 : w3.cell? ⟨wr.heap.size, 2, none⟩ = some (.int .i64 t.till) := C9.cell 2 rfl
          have y3 : w3.cell? ⟨wr.heap.size, 3, none⟩ = some (.string (str t.word)) := C9.cell 3 rfl
          have y4 : w3.cell? ⟨wr.heap.size, 4, none⟩ = some (.int .i64 t.num.kind) := C9.cell 4 rfl
          have y5 : w3.cell? ⟨wr.heap.size, 5, none⟩ = some (.bool t.num.neg) := C9.cell 5 rfl
          have y6 : w3.cell? ⟨wr.heap.size, 6, none⟩ = some (.string (str t.num.num)) := C9.cell 6 rfl
          have y7 : w3.cell? ⟨wr.heap.size, 7, none⟩ = some (.int .i64 t.num.exp) := C9.cell 7 rfl
          have y8 : w3.cell? ⟨wr.heap.size, 8, none⟩ = some (.string (str t.num.den)) := C9.cell 8 rfl
          have HW9 : Hid _ := hw9
          clear hw9
          go_wp2_with fail
          refine (cG _).mono ?_
          rintro e w8 ⟨rfl, hb8⟩
          have HB8 : Hid (BuF w.heap.size _ w8) := BuF.later HB9.out hb8
          have HW8 : Hid (Below w.heap.size w w8) := HW9.out.trans (hb8.mono HW9.out.size)
          clear C9 hb8 HB9 HW9 cG
          go_wp2
          go_roundw
          case rel => exact ⟨i + 1, gt, _, rfl, by go_num, by omega, HPP, HB8, HW8⟩
          case measure => simp [intOf]; omega
        · go_wp2_with fail
          refine hcT.mono ?_
          rintro e w2 ⟨rfl, hb2⟩
          have HB2 : Hid (BuF w.heap.size pre w2) := BuF.later HB1.out hb2
          have C2 : Bk w2 wr.heap.size 32 #[.int .i64 t.kind, .int .i64 t.fr, .int .i64 t.till, .string (str t.word), .int .i64 t.num.kind, .bool t.num.neg, .string (str t.num.num), .int .i64 t.num.exp, .string (str t.num.den)] := Bk.later HC1.out hb2
          have HW2 : Hid (Below w.heap.size w w2) := HW1.out.trans (hb2.mono HW1.out.size)
          clear hcT hb2 HB1 HC1 HW1
          have y0 : w2.cell? ⟨wr.heap.size, 0, none⟩ = some (.int .i64 t.kind) := C2.cell 0 rfl
          have y1 : w2.cell? ⟨wr.heap.size, 1, none⟩ = some (.int .i64 t.fr) := C2.cell 1 rfl
          have y2 : w2.cell? ⟨wr.heap.size, 2, none⟩ = some (.int .i64 t.till) := C2.cell 2 rfl
          have y3 : w2.cell? ⟨wr.heap.size, 3, none⟩ = some (.string (str t.word)) := C2.cell 3 rfl
          have y4 : w2.cell? ⟨wr.heap.size, 4, none⟩ = some (.int .i64 t.num.kind) := C2.cell 4 rfl
          have y5 : w2.cell? ⟨wr.heap.size, 5, none⟩ = some (.bool t.num.neg) := C2.cell 5 rfl
          have y6 : w2.cell? ⟨wr.heap.size, 6, none⟩ = some (.string (str t.num.num)) := C2.cell 6 rfl
          have y7 : w2.cell? ⟨wr.heap.size, 7, none⟩ = some (.int .i64 t.num.exp) := C2.cell 7 rfl
          have y8 : w2.cell? ⟨wr.heap.size, 8, none⟩ = some (.string (str t.num.den)) := C2.cell 8 rfl
          go_wp2_with fail
          refine (cG _).mono ?_
          rintro e w4 ⟨rfl, hb4⟩
          have HB4 : Hid (BuF w.heap.size pre w4) := BuF.later HB2.out hb4
          have C4 : Bk w4 wr.heap.size 32 #[.int .i64 t.kind, .int .i64 t.fr, .int .i64 t.till, .string (str t.word), .int .i64 t.num.kind, .bool t.num.neg, .string (str t.num.num), .int .i64 t.num.exp, .string (str t.num.den)] := Bk.later C2 hb4
          have HW4 : Hid (Below w.heap.size w w4) := HW2.out.trans (hb4.mono HW2.out.size)
          clear hb4 HB2 C2 HW2 y0 y1 y2 y3 y4 y5 y6 y7 y8
          have y0 : w4.cell? ⟨wr.heap.size, 0, none⟩ = some (.int .i64 t.kind) := C4.cell 0 rfl
          have y1 : w4.cell? ⟨wr.heap.size, 1, none⟩ = some (.int .i64 t.fr) := C4.cell 1 rfl
          have y2 : w4.cell? ⟨wr.heap.size, 2, none⟩ = some (.int .i64 t.till) := C4.cell 2 rfl
          have y3 : w4.cell? ⟨wr.heap.size, 3, none⟩ = some (.string (str t.word)) := C4.cell 3 rfl
          have y4 : w4.cell? ⟨wr.heap.size, 4, none⟩ = some (.int .i64 t.num.kind) := C4.cell 4 rfl
          have y5 : w4.cell? ⟨wr.heap.size, 5, none⟩ = some (.bool t.num.neg) := C4.cell 5 rfl
          have y6 : w4.cell? ⟨wr.heap.size, 6, none⟩ = some (.string (str t.num.num)) := C4.cell 6 rfl
          have y7 : w4.cell? ⟨wr.heap.size, 7, none⟩ = some (.int .i64 t.num.exp) := C4.cell 7 rfl
          have y8 : w4.cell? ⟨wr.heap.size, 8, none⟩ = some (.string (str t.num.den)) := C4.cell 8 rfl
          cases gt
          · have HPP : Hid ((pre ++ X) ++ tightL false (l.drop (i + 1)) = tightL false l) := HP2.out
            have cW := bWrite18 w.heap.size (pre) X w4 HB4.out (by first | omega | (simp; omega)) (by omega)
            have HCw4 : Hid _ := C4
            clear C4 HB4 y0 y1 y2 y3 y4 y5 y6 y7 y8
            go_wp2_with fail
            refine cW.mono ?_
            rintro e w5 ⟨rfl, hB, hb, hk⟩
            have C9 : Bk w5 wr.heap.size 32 #[.int .i64 t.kind, .int .i64 t.fr, .int .i64 t.till, .string (str t.word), .int .i64 t.num.kind, .bool t.num.neg, .string (str t.num.num), .int .i64 t.num.exp, .string (str t.num.den)] := Bk_ok8 HCw4.out hk (by omega)
            have hw9 : Below w.heap.size w w5 := HW4.out.trans hb
            have HB9 : Hid _ := hB
            clear cW hB hb hk HCw4 HW4
            have y0 : w5.cell? ⟨wr.heap.size, 0, none⟩ = some (.int .i64 t.kind) := C9.cell 0 rfl
            have y1 : w5.cell? ⟨wr.heap.size, 1, none⟩ = some (.int .i64 t.fr) := C9.cell 1 rfl
            have y2 : w5.cell? ⟨wr.heap.size, 2, none⟩ = some (.int .i64 t.till) := C9.cell 2 rfl
            have y3 : w5.cell? ⟨wr.heap.size, 3, none⟩ = some (.string (str t.word)) := C9.cell 3 rfl
            have y4 : w5.cell? ⟨wr.heap.size, 4, none⟩ = some (.int .i64 t.num.kind) := C9.cell 4 rfl
            have y5 : w5.cell? ⟨wr.heap.size, 5, none⟩ = some (.bool t.num.neg) := C9.cell 5 rfl
            have y6 : w5.cell? ⟨wr.heap.size, 6, none⟩ = some (.string (str t.num.num)) := C9.cell 6 rfl
            have y7 : w5.cell? ⟨wr.heap.size, 7, none⟩ = some (.int .i64 t.num.exp) := C9.cell 7 rfl
            have y8 : w5.cell? ⟨wr.heap.size, 8, none⟩ = some (.string (str t.num.den)) := C9.cell 8 rfl
            have HW9 : Hid _ := hw9
            clear hw9
            go_wp2_with fail
            refine (cG _).mono ?_
            rintro e w8 ⟨rfl, hb8⟩
            have HB8 : Hid (BuF w.heap.size _ w8) := BuF.later HB9.out hb8
            have HW8 : Hid (Below w.heap.size w w8) := HW9.out.trans (hb8.mono HW9.out.size)
            clear C9 hb8 HB9 HW9 cG
            go_wp2
            go_roundw
            case rel => exact ⟨i + 1, false, _, rfl, by go_num, by omega, HPP, HB8, HW8⟩
            case measure => simp [intOf]; omega
          · have HPP : Hid (((pre ++ [32]) ++ X) ++ tightL true (l.drop (i + 1)) = tightL false l) := by
              have := HP2.out
              show _ = _
              rw [← this, List.append_assoc pre]
              rfl
            have cB := bByte18 w.heap.size pre 32 w4 HB4.out (by omega)
            have HC4 : Hid _ := C4
            clear C4 HB4 y0 y1 y2 y3 y4 y5 y6 y7 y8
            go_wp2_with fail
            refine cB.mono ?_
            rintro e w6 ⟨rfl, hB, hb, hk⟩
            have C6 : Bk w6 wr.heap.size 32 #[.int .i64 t.kind, .int .i64 t.fr, .int .i64 t.till, .string (str t.word), .int .i64 t.num.kind, .bool t.num.neg, .string (str t.num.num), .int .i64 t.num.exp, .string (str t.num.den)] := Bk_ok8 HC4.out hk (by omega)
            have HW6 : Hid (Below w.heap.size w w6) := HW4.out.trans hb
            have HB6 : Hid (BuF w.heap.size (pre ++ [32]) w6) := hB
            clear cB hB hb hk HC4 HW4
            have y0 : w6.cell? ⟨wr.heap.size, 0, none⟩ = some (.int .i64 t.kind) := C6.cell 0 rfl
            have y1 : w6.cell? ⟨wr.heap.size, 1, none⟩ = some (.int .i64 t.fr) := C6.cell 1 rfl
            have y2 : w6.cell? ⟨wr.heap.size, 2, none⟩ = some (.int .i64 t.till) := C6.cell 2 rfl
            have y3 : w6.cell? ⟨wr.heap.size, 3, none⟩ = some (.string (str t.word)) := C6.cell 3 rfl
            have y4 : w6.cell? ⟨wr.heap.size, 4, none⟩ = some (.int .i64 t.num.kind) := C6.cell 4 rfl
            have y5 : w6.cell? ⟨wr.heap.size, 5, none⟩ = some (.bool t.num.neg) := C6.cell 5 rfl
            have y6 : w6.cell? ⟨wr.heap.size, 6, none⟩ = some (.string (str t.num.num)) := C6.cell 6 rfl
            have y7 : w6.cell? ⟨wr.heap.size, 7, none⟩ = some (.int .i64 t.num.exp) := C6.cell 7 rfl
            have y8 : w6.cell? ⟨wr.heap.size, 8, none⟩ = some (.string (str t.num.den)) := C6.cell 8 rfl
            have cW := bWrite18 w.heap.size (pre ++ [32]) X w6 HB6.out (by first | omega | (simp; omega)) (by omega)
            have HCw6 : Hid _ := C6
            clear C6 HB6 y0 y1 y2 y3 y4 y5 y6 y7 y8
            go_wp2_with fail
            refine cW.mono ?_
            rintro e w7 ⟨rfl, hB, hb, hk⟩
            have C9 : Bk w7 wr.heap.size 32 #[.int .i64 t.kind, .int .i64 t.fr, .int .i64 t.till, .string (str t.word), .int .i64 t.num.kind, .bool t.num.neg, .string (str t.num.num), .int .i64 t.num.exp, .string (str t.num.den)] := Bk_ok8 HCw6.out hk (by omega)
            have hw9 : Below w.heap.size w w7 := HW6.out.trans hb
            have HB9 : Hid _ := hB
            clear cW hB hb hk HCw6 HW6
            have y0 : w7.cell? ⟨wr.heap.size, 0, none⟩ = some (.int .i64 t.kind) := C9.cell 0 rfl
            have y1 : w7.cell? ⟨wr.heap.size, 1, none⟩ = some (.int .i64 t.fr) := C9.cell 1 rfl
            have y2 : w7.cell? ⟨wr.heap.size, 2, none⟩ = some (.int .i64 t.till) := C9.cell 2 rfl
            have y3 : w7.cell? ⟨wr.heap.size, 3, none⟩ = some (.string (str t.word)) := C9.cell 3 rfl
            have y4 : w7.cell? ⟨wr.heap.size, 4, none⟩ = some (.int .i64 t.num.kind) := C9.cell 4 rfl
            have y5 : w7.cell? ⟨wr.heap.size, 5, none⟩ = some (.bool t.num.neg) := C9.cell 5 rfl
            have y6 : w7.cell? ⟨wr.heap.size, 6, none⟩ = some (.string (str t.num.num)) := C9.cell 6 rfl
            have y7 : w7.cell? ⟨wr.heap.size, 7, none⟩ = some (.int .i64 t.num.exp) := C9.cell 7 rfl
            have y8 : w7.cell? ⟨wr.heap.size, 8, none⟩ = some (.string (str t.num.den)) := C9.cell 8 rfl
            have HW9 : Hid _ := hw9
            clear hw9
            go_wp2_with fail
            refine (cG _).mono ?_
            rintro e w8 ⟨rfl, hb8⟩
            have HB8 : Hid (BuF w.heap.size _ w8) := BuF.later HB9.out hb8
            have HW8 : Hid (Below w.heap.size w w8) := HW9.out.trans (hb8.mono HW9.out.size)
            clear C9 hb8 HB9 HW9 cG
            go_wp2
            go_roundw
            case rel => exact ⟨i + 1, true, _, rfl, by go_num, by omega, HPP, HB8, HW8⟩
            case measure => simp [intOf]; omega
      · have he : txT t = [] := by simpa using htx0
        have hsE : (str (txT t)).toList.isEmpty = true := by rw [Lib.toList_data, str_list]; exact htx0
        have HPP : Hid (pre ++ tightL gp (l.drop (i + 1)) = tightL false l) := by
          show _ = _
          rw [← HP.out, hdr, tight_cons, if_pos he]
        generalize txT t = X at *
        clear HP hdr htx0 he
        go_wp2_with fail
        refine hcT.mono ?_
        rintro e w2 ⟨rfl, hb2⟩
        have HB2 : Hid (BuF w.heap.size pre w2) := BuF.later HB1.out hb2
        have HW2 : Hid (Below w.heap.size w w2) := HW1.out.trans (hb2.mono HW1.out.size)
        clear hcT hb2 HB1 HC1 HW1
        go_wp2
        go_roundw
        case rel => exact ⟨i + 1, gp, pre, rfl, by go_num, by omega, HPP, HB2, HW2⟩
        case measure => simp [intOf]; omega
    · have hii : ¬ (i : Int) < (l.length : Int) := by omega
      have hie : i = l.length := by omega
      have HP2 : Hid (pre = tightL false l) := by
        show _ = _
        rw [← HP.out, hie, List.drop_length]
        simp [tightL]
      have cS := bString18 w.heap.size pre wr HB.out
      clear HP
      go_wp2_with fail
      refine cS.mono ?_
      rintro e w2 ⟨rfl, hb2⟩
      clear cS
      go_wp2
      go_ret
      rw [HP2.out]
      exact ⟨rfl, HW.out.trans hb2⟩
end Go.Proofs.YtfgpjplfplbcdaaGreatDoor

