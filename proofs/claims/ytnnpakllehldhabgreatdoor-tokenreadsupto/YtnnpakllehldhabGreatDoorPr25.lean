import Derived.Below
import Derived.BigQuiet
import Derived.ChangeOld
import Derived.Deep.CutRange
import Derived.Deep.LoopGhost
import Derived.Deep.QuietTactic
import Derived.Deep.RegionHeld3
import Derived.Deep.RegionWith
import Derived.Deep.WholeRow
import Derived.KernelRfl
import Derived.LaidEql
import Derived.Laws.AppendOwn
import Derived.Laws.BitsAllLaws
import Derived.Laws.CopyRow
import Derived.Laws.EntriesVeiled
import Derived.Laws.Externs
import Derived.Laws.IdiomCopy
import Derived.Laws.IdiomRangeMap
import Derived.Laws.RangeString
import Derived.Laws.ResultCell
import Derived.Laws.Runes
import Derived.Laws.Strings3
import Derived.Lib.AppendIntMem
import Derived.Lib.AsciiSet
import Derived.Lib.AtoiErrMem
import Derived.Lib.BufferRead
import Derived.Lib.Builder
import Derived.Lib.Bytealg
import Derived.Lib.ConvBytes
import Derived.Lib.IndexBytes
import Derived.Lib.ItoaLen
import Derived.Lib.Strings
import Derived.Lib.TrimByte
import Derived.Lib.Walk
import Derived.OpenShut
import Derived.OwnWalk
import Derived.ProofKit
import Derived.RowKitTokens
import Derived.Shelf.Strconv.Clone
import Derived.Shelf.Strconv.Itoa3
import Derived.Shelf.Strings.BuilderK
import Derived.Shelf.Strings.OnBuilder
import Derived.ShutString
import Derived.Stop.Asserts
import Derived.WalkKit
import Derived.WalkLawsBesides
import Derived.WalkSpells
import Derived.Test.YtnnpakllehldhabGreatDoorPr17
import Derived.Test.YtnnpakllehldhabGreatDoorPr22
import Derived.Test.YtnnpakllehldhabGreatDoorPr24
/- Layer 18: the document's All; is. -/
namespace Go.Proofs.YtnnpakllehldhabGreatDoor
open Go.ChangeShapes Go.WideShapes Go.ChangeAt Go.RowKit
open Lx Tk
set_option linter.unusedVariables false
namespace Tk
/-- a state of its loop -/
structure RlS (w wr : World) (base g : Nat) (s : ByteArray) (k : Nat) (v : Value) (l : List Ct) : Prop where
  bel : Below w.heap.size w wr
  gb : w.heap.size ≤ g ∧ g < base ∧ base ≤ wr.heap.size
  rd : RrS wr g s k
  row : TkR wr base v l
theorem RlS.grown {w W w5 : World} {base g : Nat} {s : ByteArray} {k : Nat} {v v' : Value} {l l' : List Ct} (h : RlS w W base g s k v l) (hg : W.grownBy w5 v.ownBlock) (hr : TkR w5 base v' l') : RlS w w5 base g s k v' l' := by
  obtain ⟨a1, a2, a3, a5⟩ := h
  have hsz := hg.size
  refine ⟨a5.grown hg a1 (by omega) (Nat.le_refl _), ⟨a2.1, a2.2.1, by omega⟩, ?_, hr⟩
  cases ho : v.ownBlock with
  | none =>
    rw [ho] at hg
    exact a3.later (grown_below hg)
  | some b =>
    rw [ho] at hg
    have hb := (World.ownsRow.lt a5 b ho).1
    exact a3.tn (grown_tn hg) (by omega)
end Tk
set_option maxHeartbeats 3200000 in
set_option maxRecDepth 100000 in
theorem is18_bad {w : World} {g : Nat} {p c : Int} (hF : FaultAt w g p c) (hE : ErrVar w) :
    Calls Tryz.prog 19 #[.iface 47 (.pointer (some ⟨g, 0, none⟩)), .int .i64 c, .int .i64 p] w fun e w' => e = .returned (.bool true) ∧ Below w.heap.size w w' := by
  have h1 := codeFault_any hF hE
  go_enter Tryz.func19, Tryz.ntmps19
  go_wp2_with fail
  refine h1.mono ?_
  rintro e w1 ⟨rfl, hB⟩
  have h2 := placeFault_any (hF.later hB) (hE.later hB)
  clear h1
  go_wp2_with fail
  refine h2.mono ?_
  rintro e w2 ⟨rfl, hb⟩
  have hB := hB.trans (hb.mono hB.size)
  clear h2 hb
  go_wp2
  go_ret
  exact ⟨by simp, hB⟩
set_option maxHeartbeats 3200000 in
set_option maxRecDepth 100000 in
theorem is18_nil (w : World) :
    Calls Tryz.prog 19 #[.nilIface, .int .i64 0, .int .i64 (-1)] w fun e w' => e = .returned (.bool true) ∧ Below w.heap.size w w' := by
  have h1 := codeNil_any w
  go_enter Tryz.func19, Tryz.ntmps19
  go_wp2_with fail
  refine h1.mono ?_
  rintro e w1 ⟨rfl, hB⟩
  have h2 := placeNil_any w1
  clear h1
  go_wp2_with fail
  refine h2.mono ?_
  rintro e w2 ⟨rfl, hb⟩
  have hB := hB.trans (hb.mono hB.size)
  clear h2 hb
  go_wp2
  go_ret
  exact ⟨by simp, hB⟩
end Go.Proofs.YtnnpakllehldhabGreatDoor

/- Layer 18: two readers of one text, a step of both. -/
namespace Go.Proofs.YtnnpakllehldhabGreatDoor
open Go.ChangeShapes Go.WideShapes Go.ChangeAt Go.RowKit
open Lx Tk
set_option linter.unusedVariables false
set_option maxHeartbeats 3200000 in
set_option maxRecDepth 100000 in
theorem rpeek18_any {w : World} {g k : Nat} {s : ByteArray} (hs : s.size ≤ 2000000) (h : RrS w g s k) :
    Calls Tryz.prog 18 #[.pointer (some ⟨g, 0, none⟩)] w fun e w' => e = .returned (.tuple #[.agg (ctA k (cutR (s.data.toList.drop k))), .int .i64 (ctC0 (cutR (s.data.toList.drop k))), .int .i64 (ctW k (cutR (s.data.toList.drop k)))]) ∧ Below w.heap.size w w' := by
  obtain ⟨hk, hB⟩ := h
  have hgl := hB.lt
  have cA := fun w => at18_any s k hs hk w
  unfold AtR at cA
  obtain ⟨b1, b2, b3, b5, b8, b6, b4, b7, b9, eA⟩ := ctA_form k (cutR (s.data.toList.drop k))
  rw [eA] at cA ⊢
  generalize ctC0 (cutR (s.data.toList.drop k)) = CC at *
  generalize ctW k (cutR (s.data.toList.drop k)) = PP at *
  have b0 := Bk.new w 46 zero9
  have hb0 : Below w.heap.size w (w.alloc (.cells zero9 46)) := (Below.refl _ w).alloc (Nat.le_refl _) _
  have p0 : w.cell? ⟨g, 0, none⟩ = some (.string s) := hB.cell 0 rfl
  have p1 : w.cell? ⟨g, 1, none⟩ = some (.int .i64 (k : Int)) := hB.cell 1 rfl
  have ne1 : ¬ g = w.heap.size := by omega
  have ne2 : ¬ w.heap.size = g := by omega
  have HB : Hid (Bk (w.alloc (.cells zero9 46)) w.heap.size 46 zero9 ∧ Below w.heap.size w (w.alloc (.cells zero9 46))) := ⟨b0, hb0⟩
  clear hB b0 hb0 eA
  go_enter Tryz.func18, Tryz.ntmps18
  go_wp2_with fail
  go_region_with (go_at_call 30; refine (cA _).mono ?_; rintro e wX ⟨rfl, hbX⟩; have B2 : Bk wX w.heap.size 46 zero9 := Bk.later (by exact HB.out.1) hbX; have v0 := B2.cell 0 rfl; have h0 := B2.frozen 0; have v1 := B2.cell 1 rfl; have h1 := B2.frozen 1; have v2 := B2.cell 2 rfl; have h2 := B2.frozen 2; have v3 := B2.cell 3 rfl; have h3 := B2.frozen 3; have v4 := B2.cell 4 rfl; have h4 := B2.frozen 4; have v5 := B2.cell 5 rfl; have h5 := B2.frozen 5; have v6 := B2.cell 6 rfl; have h6 := B2.frozen 6; have v7 := B2.cell 7 rfl; have h7 := B2.frozen 7; have v8 := B2.cell 8 rfl; have h8 := B2.frozen 8)
  all_goals
    have hbB := below_via hbX HB.out.2 rfl rfl rfl rfl
    go_wp2
    refine bodyPost_ret (results_c2 rfl _ _ w.heap.size 46 _ _ rfl (Bk.all9 B2 _ _ _ _ _ _ _ _ _) Tryz.underlying46 rfl (by kernel_rfl)) rfl ⟨rfl, ?_⟩
    exact Tn.below hbB (Tn.all9 ..) (Nat.le_refl _) (Nat.le_refl _)
namespace Tk
/-- both readers of one text at one place -/
def PrS (w : World) (g h : Nat) (s : ByteArray) (k : Nat) : Prop := RdS w g s k ∧ RrS w h s k
/-- all but two blocks is kept -/
structure T2 (g h : Nat) (w w' : World) : Prop where
  os : w'.os = w.os
  tape : w'.tape = w.tape
  output : w'.output = w.output
  size : w.heap.size ≤ w'.heap.size
  block : ∀ k, k < w.heap.size → k ≠ g → k ≠ h → w'.heap[k]? = w.heap[k]?
theorem T2.of_below {g h : Nat} {w w' : World} (b : Below w.heap.size w w') : T2 g h w w' := ⟨b.os, b.tape, b.output, b.size, fun k hk _ _ => b.block k hk⟩
theorem T2.left {g h : Nat} {w w' : World} (b : Tn g w w') : T2 g h w w' := ⟨b.os, b.tape, b.output, b.size, fun k hk q _ => b.block k hk q⟩
theorem T2.right {g h : Nat} {w w' : World} (b : Tn h w w') : T2 g h w w' := ⟨b.os, b.tape, b.output, b.size, fun k hk _ q => b.block k hk q⟩
theorem T2.trans {g h : Nat} {a b c : World} (x : T2 g h a b) (y : T2 g h b c) : T2 g h a c :=
  ⟨y.os.trans x.os, y.tape.trans x.tape, y.output.trans x.output, Nat.le_trans x.size y.size, fun i hi h1 h2 => (y.block i (Nat.lt_of_lt_of_le hi x.size) h1 h2).trans (x.block i hi h1 h2)⟩
theorem RdS.faulty {w : World} {g k : Nat} {s : ByteArray} (h : RdS w g s k) : ∃ vs, w.heap[g]? = some (.cells vs 49 (0, 0)) := by
  obtain ⟨h0, b1, b2, b3, b5, b8, b6, b4, b7, b9, F, h1, h2, h3⟩ := h
  exact ⟨_, h2⟩
theorem PrS.ne {w : World} {g h k : Nat} {s : ByteArray} (p : PrS w g h s k) : g ≠ h := by
  intro e
  obtain ⟨vs, h1⟩ := p.1.faulty
  have h2 : w.heap[h]? = some (.cells _ 51 (0, 0)) := p.2.2
  rw [← e, h1] at h2
  cases h2
theorem PrS.later {w w' : World} {g h k : Nat} {s : ByteArray} (p : PrS w g h s k) (hb : Below w.heap.size w w') : PrS w' g h s k := ⟨p.1.later hb, p.2.later hb⟩
end Tk
theorem ErrVar.t2 {w w' : World} {g h k : Nat} {s : ByteArray} (hE : ErrVar w) (p : PrS w g h s k) (hT : T2 g h w w') : ErrVar w' := by
  have c1 : w.cell? ⟨g, 0, none⟩ = some (.string s) := by
    obtain ⟨h0, b1, b2, b3, b5, b8, b6, b4, b7, b9, F, h1, h2, h3⟩ := p.1
    exact h2.cell 0 rfl
  have c2 : w.cell? ⟨h, 0, none⟩ = some (.string s) := p.2.2.cell 0 rfl
  have hl := cell_lt hE
  unfold ErrVar at hE ⊢
  have n1 : 0 ≠ g := fun e => by rw [← e] at c1; rw [c1] at hE; cases hE
  have n2 : 0 ≠ h := fun e => by rw [← e] at c2; rw [c2] at hE; cases hE
  rw [World.cell?_of_block (w := w) (w' := w') (a := ⟨0, 0, none⟩) (hT.block 0 hl n1 n2)]
  exact hE
set_option maxHeartbeats 3200000 in
set_option maxRecDepth 100000 in
theorem step18_peek_ok {w : World} {g h k : Nat} {s : ByteArray} (hs : s.size ≤ 2000000) (p : PrS w g h s k) (hE : ErrVar w) (hk : (cutR (s.data.toList.drop k)).kind ≠ -1) (wh : Int) (hw : wh = 0 ∨ wh = 2) :
    Calls Tryz.prog 8 #[.agg #[.pointer (some ⟨g, 0, none⟩), .pointer (some ⟨h, 0, none⟩)], .int .i64 wh] w fun e w' => e = .returned (.bool true) ∧ PrS w' g h s k ∧ Below w.heap.size w w' := by
  have hne := p.ne
  have hg := p.1.lt
  have hh := p.2.2.lt
  have hb0 : Below w.heap.size w (w.alloc (.cells #[.pointer (some ⟨g, 0, none⟩), .pointer (some ⟨h, 0, none⟩)] 28)) := (Below.refl _ w).alloc (Nat.le_refl _) _
  have hp0 := p.later hb0
  have cP := peek18_any hp0.1
  unfold PeekR at cP
  have hBx := Bk.new w 28 #[.pointer (some ⟨g, 0, none⟩), .pointer (some ⟨h, 0, none⟩)]
  obtain ⟨b1, b2, b3, b5, b8, b6, b4, b7, b9, eA⟩ := ctA_form k (cutR (s.data.toList.drop k))
  have e1 : ctC (cutR (s.data.toList.drop k)) = 0 := if_neg hk
  have e2 : ctC0 (cutR (s.data.toList.drop k)) = 0 := if_neg hk
  have e3 := ctW_none (k := k) hk
  rw [eA, e1] at cP
  clear hk
  rcases hw with rfl | rfl
  all_goals
    go_enter Tryz.func8, Tryz.ntmps8
    go_wp2_with fail
    refine cP.mono ?_
    rintro e w1 ⟨er, rfl, hEr, hb1⟩
    have he9 : er = .nilIface := by
      rcases hEr with ⟨_, h9⟩ | ⟨h9, _⟩
      · exact h9
      · exact absurd rfl h9
    subst he9
    clear hEr
    have B1 := hBx.later hb1
    have R1 := hp0.2.later hb1
    have P1 := hp0.1.later hb1
    have E1 := hb0.trans (hb1.mono hb0.size)
    have V1 := hE.later E1
    have hl1 := B1.lt
    have hb2 : Below w1.heap.size w1 (w1.alloc (.cells #[.int .i64 b1, .int .i64 b2, .int .i64 b3, .string b4, .int .i64 b5, .bool b6, .string b7, .int .i64 b8, .string b9] 46)) := (Below.refl _ _).alloc (Nat.le_refl _) _
    have B2 := B1.later hb2
    have R2 := R1.later hb2
    have C2 := Bk.new w1 46 #[.int .i64 b1, .int .i64 b2, .int .i64 b3, .string b4, .int .i64 b5, .bool b6, .string b7, .int .i64 b8, .string b9]
    have cR := rpeek18_any hs R2
    rw [eA, e2, e3] at cR
    have q0 : (w1.alloc (.cells #[.int .i64 b1, .int .i64 b2, .int .i64 b3, .string b4, .int .i64 b5, .bool b6, .string b7, .int .i64 b8, .string b9] 46)).cell? ⟨w.heap.size, 0, none⟩ = some (.pointer (some ⟨g, 0, none⟩)) := B2.cell 0 rfl
    have q1 : w1.cell? ⟨w.heap.size, 1, none⟩ = some (.pointer (some ⟨h, 0, none⟩)) := B1.cell 1 rfl
    clear cP q0
    have HC2 : Hid _ := C2
    clear C2 B1 R1
    have ne5 : ¬ w.heap.size = w1.heap.size := by omega
    have ne6 : ¬ w1.heap.size = w.heap.size := by omega
    go_wp2_with fail
    refine cR.mono ?_
    rintro e w2 ⟨rfl, hb3⟩
    have C3 := Bk.later HC2.out hb3
    have P3 : PrS w2 g h s k := ⟨(P1.later hb2).later hb3, R2.later hb3⟩
    have hb23 := hb2.trans (hb3.mono hb2.size)
    have E2 := E1.trans (hb23.mono E1.size)
    have V2 := hE.later E2
    have hl3 := C3.lt
    have hb4 : Below w2.heap.size w2 (w2.alloc (.cells #[.int .i64 b1, .int .i64 b2, .int .i64 b3, .string b4, .int .i64 b5, .bool b6, .string b7, .int .i64 b8, .string b9] 46)) := (Below.refl _ _).alloc (Nat.le_refl _) _
    have cI := is18_nil (w2.alloc (.cells #[.int .i64 b1, .int .i64 b2, .int .i64 b3, .string b4, .int .i64 b5, .bool b6, .string b7, .int .i64 b8, .string b9] 46))
    have y0 : w2.cell? ⟨w1.heap.size, 0, none⟩ = some (.int .i64 b1) := C3.cell 0 rfl
    have y1 : w2.cell? ⟨w1.heap.size, 1, none⟩ = some (.int .i64 b2) := C3.cell 1 rfl
    have y2 : w2.cell? ⟨w1.heap.size, 2, none⟩ = some (.int .i64 b3) := C3.cell 2 rfl
    have y3 : w2.cell? ⟨w1.heap.size, 3, none⟩ = some (.string b4) := C3.cell 3 rfl
    have y4 : w2.cell? ⟨w1.heap.size, 4, none⟩ = some (.int .i64 b5) := C3.cell 4 rfl
    have y5 : w2.cell? ⟨w1.heap.size, 5, none⟩ = some (.bool b6) := C3.cell 5 rfl
    have y6 : w2.cell? ⟨w1.heap.size, 6, none⟩ = some (.string b7) := C3.cell 6 rfl
    have y7 : w2.cell? ⟨w1.heap.size, 7, none⟩ = some (.int .i64 b8) := C3.cell 7 rfl
    have y8 : w2.cell? ⟨w1.heap.size, 8, none⟩ = some (.string b9) := C3.cell 8 rfl
    have ne7 : ¬ w1.heap.size = w2.heap.size := by omega
    have ne8 : ¬ w2.heap.size = w1.heap.size := by omega
    clear cR C3 HC2
    go_wp2_with fail
    refine cI.mono ?_
    rintro e w3 ⟨rfl, hb5⟩
    clear cI
    have hb45 := hb4.trans (hb5.mono hb4.size)
    have HF : Hid (PrS w3 g h s k ∧ Below w.heap.size w w3) := ⟨P3.later hb45, E2.trans (hb45.mono E2.size)⟩
    go_wp2
    go_ret
    exact ⟨rfl, HF.out.1, HF.out.2⟩
set_option maxHeartbeats 3200000 in
set_option maxRecDepth 100000 in
theorem step18_peek_bad {w : World} {g h k : Nat} {s : ByteArray} (hs : s.size ≤ 2000000) (p : PrS w g h s k) (hE : ErrVar w) (hk : (cutR (s.data.toList.drop k)).kind = -1) (wh : Int) (hw : wh = 0 ∨ wh = 2) :
    Calls Tryz.prog 8 #[.agg #[.pointer (some ⟨g, 0, none⟩), .pointer (some ⟨h, 0, none⟩)], .int .i64 wh] w fun e w' => e = .returned (.bool true) ∧ PrS w' g h s k ∧ Below w.heap.size w w' := by
  have hne := p.ne
  have hg := p.1.lt
  have hh := p.2.2.lt
  have hb0 : Below w.heap.size w (w.alloc (.cells #[.pointer (some ⟨g, 0, none⟩), .pointer (some ⟨h, 0, none⟩)] 28)) := (Below.refl _ w).alloc (Nat.le_refl _) _
  have hp0 := p.later hb0
  have cP := peek18_any hp0.1
  unfold PeekR at cP
  have hBx := Bk.new w 28 #[.pointer (some ⟨g, 0, none⟩), .pointer (some ⟨h, 0, none⟩)]
  obtain ⟨b1, b2, b3, b5, b8, b6, b4, b7, b9, eA⟩ := ctA_form k (cutR (s.data.toList.drop k))
  have e1 : ctC (cutR (s.data.toList.drop k)) = 180 := if_pos hk
  have e2 : ctC0 (cutR (s.data.toList.drop k)) = 180 := if_pos hk
  rw [eA, e1] at cP
  clear hk
  rcases hw with rfl | rfl
  all_goals
    go_enter Tryz.func8, Tryz.ntmps8
    go_wp2_with fail
    refine cP.mono ?_
    rintro e w1 ⟨er, rfl, ⟨h0, _⟩ | ⟨_, q, rfl, hF1⟩, hb1⟩
    · omega
    have B1 := hBx.later hb1
    have R1 := hp0.2.later hb1
    have P1 := hp0.1.later hb1
    have E1 := hb0.trans (hb1.mono hb0.size)
    have V1 := hE.later E1
    have hl1 := B1.lt
    have hb2 : Below w1.heap.size w1 (w1.alloc (.cells #[.int .i64 b1, .int .i64 b2, .int .i64 b3, .string b4, .int .i64 b5, .bool b6, .string b7, .int .i64 b8, .string b9] 46)) := (Below.refl _ _).alloc (Nat.le_refl _) _
    have B2 := B1.later hb2
    have R2 := R1.later hb2
    have C2 := Bk.new w1 46 #[.int .i64 b1, .int .i64 b2, .int .i64 b3, .string b4, .int .i64 b5, .bool b6, .string b7, .int .i64 b8, .string b9]
    have cR := rpeek18_any hs R2
    rw [eA, e2] at cR
    have q0 : (w1.alloc (.cells #[.int .i64 b1, .int .i64 b2, .int .i64 b3, .string b4, .int .i64 b5, .bool b6, .string b7, .int .i64 b8, .string b9] 46)).cell? ⟨w.heap.size, 0, none⟩ = some (.pointer (some ⟨g, 0, none⟩)) := B2.cell 0 rfl
    have q1 : w1.cell? ⟨w.heap.size, 1, none⟩ = some (.pointer (some ⟨h, 0, none⟩)) := B1.cell 1 rfl
    clear cP q0
    have HC2 : Hid _ := C2
    clear C2 B1 R1
    have ne5 : ¬ w.heap.size = w1.heap.size := by omega
    have ne6 : ¬ w1.heap.size = w.heap.size := by omega
    go_wp2_with fail
    refine cR.mono ?_
    rintro e w2 ⟨rfl, hb3⟩
    have C3 := Bk.later HC2.out hb3
    have P3 : PrS w2 g h s k := ⟨(P1.later hb2).later hb3, R2.later hb3⟩
    have hb23 := hb2.trans (hb3.mono hb2.size)
    have E2 := E1.trans (hb23.mono E1.size)
    have V2 := hE.later E2
    have F2 := (hF1.later hb2).later hb3
    have hl3 := C3.lt
    have hb4 : Below w2.heap.size w2 (w2.alloc (.cells #[.int .i64 b1, .int .i64 b2, .int .i64 b3, .string b4, .int .i64 b5, .bool b6, .string b7, .int .i64 b8, .string b9] 46)) := (Below.refl _ _).alloc (Nat.le_refl _) _
    have cI := is18_bad (F2.later hb4) (V2.later hb4)
    have y0 : w2.cell? ⟨w1.heap.size, 0, none⟩ = some (.int .i64 b1) := C3.cell 0 rfl
    have y1 : w2.cell? ⟨w1.heap.size, 1, none⟩ = some (.int .i64 b2) := C3.cell 1 rfl
    have y2 : w2.cell? ⟨w1.heap.size, 2, none⟩ = some (.int .i64 b3) := C3.cell 2 rfl
    have y3 : w2.cell? ⟨w1.heap.size, 3, none⟩ = some (.string b4) := C3.cell 3 rfl
    have y4 : w2.cell? ⟨w1.heap.size, 4, none⟩ = some (.int .i64 b5) := C3.cell 4 rfl
    have y5 : w2.cell? ⟨w1.heap.size, 5, none⟩ = some (.bool b6) := C3.cell 5 rfl
    have y6 : w2.cell? ⟨w1.heap.size, 6, none⟩ = some (.string b7) := C3.cell 6 rfl
    have y7 : w2.cell? ⟨w1.heap.size, 7, none⟩ = some (.int .i64 b8) := C3.cell 7 rfl
    have y8 : w2.cell? ⟨w1.heap.size, 8, none⟩ = some (.string b9) := C3.cell 8 rfl
    have ne7 : ¬ w1.heap.size = w2.heap.size := by omega
    have ne8 : ¬ w2.heap.size = w1.heap.size := by omega
    clear cR C3 HC2
    go_wp2_with fail
    refine cI.mono ?_
    rintro e w3 ⟨rfl, hb5⟩
    clear cI
    have hb45 := hb4.trans (hb5.mono hb4.size)
    have HF : Hid (PrS w3 g h s k ∧ Below w.heap.size w w3) := ⟨P3.later hb45, E2.trans (hb45.mono E2.size)⟩
    go_wp2
    go_ret
    exact ⟨rfl, HF.out.1, HF.out.2⟩
set_option maxHeartbeats 3200000 in
set_option maxRecDepth 100000 in
theorem step18_next_ok {w : World} {g h k : Nat} {s : ByteArray} (hs : s.size ≤ 2000000) (p : PrS w g h s k) (hE : ErrVar w) (hk : (cutR (s.data.toList.drop k)).kind ≠ -1) (wh : Int) (hw : wh = 1 ∨ wh = 3) :
    Calls Tryz.prog 8 #[.agg #[.pointer (some ⟨g, 0, none⟩), .pointer (some ⟨h, 0, none⟩)], .int .i64 wh] w fun e w' => e = .returned (.bool true) ∧ PrS w' g h s (nxK k (cutR (s.data.toList.drop k))) ∧ T2 g h w w' := by
  have hne := p.ne
  have hg := p.1.lt
  have hh := p.2.2.lt
  have hb0 : Below w.heap.size w (w.alloc (.cells #[.pointer (some ⟨g, 0, none⟩), .pointer (some ⟨h, 0, none⟩)] 28)) := (Below.refl _ w).alloc (Nat.le_refl _) _
  have hp0 := p.later hb0
  have cP := next18_any (by omega) hp0.1
  unfold NextR at cP
  have hBx := Bk.new w 28 #[.pointer (some ⟨g, 0, none⟩), .pointer (some ⟨h, 0, none⟩)]
  obtain ⟨b1, b2, b3, b5, b8, b6, b4, b7, b9, eA⟩ := ctA_form k (cutR (s.data.toList.drop k))
  have e1 : ctC (cutR (s.data.toList.drop k)) = 0 := if_neg hk
  have e2 : ctC0 (cutR (s.data.toList.drop k)) = 0 := if_neg hk
  have e3 := ctW_none (k := k) hk
  rw [eA, e1] at cP
  clear hk
  rcases hw with rfl | rfl
  all_goals
    go_enter Tryz.func8, Tryz.ntmps8
    go_wp2_with fail
    refine cP.mono ?_
    rintro e w1 ⟨er, rfl, hEr, hR1, hT1⟩
    have he9 : er = .nilIface := by
      rcases hEr with ⟨_, h9⟩ | ⟨h9, _⟩
      · exact h9
      · exact absurd rfl h9
    subst he9
    clear hEr
    have hT1' : Tn g (w.alloc (.cells #[.pointer (some ⟨g, 0, none⟩), .pointer (some ⟨h, 0, none⟩)] 28)) w1 := hT1
    have B1 := Bk.tn9 hBx hT1 (by omega)
    have R1 : RrS w1 h s k := hp0.2.tn hT1 (by omega)
    have E1 : T2 g h w w1 := (T2.of_below hb0).trans (T2.left hT1)
    have V1 : ErrVar w1 := ErrVar.t2 hE p E1
    have hl1 := B1.lt
    have hb2 : Below w1.heap.size w1 (w1.alloc (.cells #[.int .i64 b1, .int .i64 b2, .int .i64 b3, .string b4, .int .i64 b5, .bool b6, .string b7, .int .i64 b8, .string b9] 46)) := (Below.refl _ _).alloc (Nat.le_refl _) _
    have B2 := B1.later hb2
    have R2 := R1.later hb2
    have C2 := Bk.new w1 46 #[.int .i64 b1, .int .i64 b2, .int .i64 b3, .string b4, .int .i64 b5, .bool b6, .string b7, .int .i64 b8, .string b9]
    have cR := rnext18_any hs R2
    unfold RnR at cR
    rw [eA, e2, e3] at cR
    have q0 : (w1.alloc (.cells #[.int .i64 b1, .int .i64 b2, .int .i64 b3, .string b4, .int .i64 b5, .bool b6, .string b7, .int .i64 b8, .string b9] 46)).cell? ⟨w.heap.size, 0, none⟩ = some (.pointer (some ⟨g, 0, none⟩)) := B2.cell 0 rfl
    have q1 : w1.cell? ⟨w.heap.size, 1, none⟩ = some (.pointer (some ⟨h, 0, none⟩)) := B1.cell 1 rfl
    clear cP q0
    have HC2 : Hid _ := C2
    clear C2 B1 R1
    have ne5 : ¬ w.heap.size = w1.heap.size := by omega
    have ne6 : ¬ w1.heap.size = w.heap.size := by omega
    go_wp2_with fail
    refine cR.mono ?_
    rintro e w2 ⟨rfl, R3, hT2⟩
    have C3 : Bk w2 w1.heap.size 46 #[.int .i64 b1, .int .i64 b2, .int .i64 b3, .string b4, .int .i64 b5, .bool b6, .string b7, .int .i64 b8, .string b9] := Bk.tn9 HC2.out hT2 (by omega)
    have P3 : RdS w2 g s (nxK k (cutR (s.data.toList.drop k))) := (hR1.later hb2).tn hT2 (by omega) (fun cur hc => by
      have h9 : (w1.alloc (.cells #[.int .i64 b1, .int .i64 b2, .int .i64 b3, .string b4, .int .i64 b5, .bool b6, .string b7, .int .i64 b8, .string b9] 46)).heap[h]? = some (.cells _ 51 (0, 0)) := R2.2
      rw [h9] at hc
      cases hc)
    have E2 : T2 g h w w2 := E1.trans ((T2.of_below hb2).trans (T2.right hT2))
    have V2 : ErrVar w2 := ErrVar.t2 hE p E2
    have hl3 := C3.lt
    have hb4 : Below w2.heap.size w2 (w2.alloc (.cells #[.int .i64 b1, .int .i64 b2, .int .i64 b3, .string b4, .int .i64 b5, .bool b6, .string b7, .int .i64 b8, .string b9] 46)) := (Below.refl _ _).alloc (Nat.le_refl _) _
    have cI := is18_nil (w2.alloc (.cells #[.int .i64 b1, .int .i64 b2, .int .i64 b3, .string b4, .int .i64 b5, .bool b6, .string b7, .int .i64 b8, .string b9] 46))
    have y0 : w2.cell? ⟨w1.heap.size, 0, none⟩ = some (.int .i64 b1) := C3.cell 0 rfl
    have y1 : w2.cell? ⟨w1.heap.size, 1, none⟩ = some (.int .i64 b2) := C3.cell 1 rfl
    have y2 : w2.cell? ⟨w1.heap.size, 2, none⟩ = some (.int .i64 b3) := C3.cell 2 rfl
    have y3 : w2.cell? ⟨w1.heap.size, 3, none⟩ = some (.string b4) := C3.cell 3 rfl
    have y4 : w2.cell? ⟨w1.heap.size, 4, none⟩ = some (.int .i64 b5) := C3.cell 4 rfl
    have y5 : w2.cell? ⟨w1.heap.size, 5, none⟩ = some (.bool b6) := C3.cell 5 rfl
    have y6 : w2.cell? ⟨w1.heap.size, 6, none⟩ = some (.string b7) := C3.cell 6 rfl
    have y7 : w2.cell? ⟨w1.heap.size, 7, none⟩ = some (.int .i64 b8) := C3.cell 7 rfl
    have y8 : w2.cell? ⟨w1.heap.size, 8, none⟩ = some (.string b9) := C3.cell 8 rfl
    have ne7 : ¬ w1.heap.size = w2.heap.size := by omega
    have ne8 : ¬ w2.heap.size = w1.heap.size := by omega
    clear cR C3 HC2
    go_wp2_with fail
    refine cI.mono ?_
    rintro e w3 ⟨rfl, hb5⟩
    clear cI
    have hb45 := hb4.trans (hb5.mono hb4.size)
    have HF : Hid (PrS w3 g h s (nxK k (cutR (s.data.toList.drop k))) ∧ T2 g h w w3) := ⟨⟨P3.later hb45, R3.later hb45⟩, E2.trans (T2.of_below hb45)⟩
    go_wp2
    go_ret
    exact ⟨rfl, HF.out.1, HF.out.2⟩
set_option maxHeartbeats 3200000 in
set_option maxRecDepth 100000 in
theorem step18_next_bad {w : World} {g h k : Nat} {s : ByteArray} (hs : s.size ≤ 2000000) (p : PrS w g h s k) (hE : ErrVar w) (hk : (cutR (s.data.toList.drop k)).kind = -1) (wh : Int) (hw : wh = 1 ∨ wh = 3) :
    Calls Tryz.prog 8 #[.agg #[.pointer (some ⟨g, 0, none⟩), .pointer (some ⟨h, 0, none⟩)], .int .i64 wh] w fun e w' => e = .returned (.bool true) ∧ PrS w' g h s (nxK k (cutR (s.data.toList.drop k))) ∧ T2 g h w w' := by
  have hne := p.ne
  have hg := p.1.lt
  have hh := p.2.2.lt
  have hb0 : Below w.heap.size w (w.alloc (.cells #[.pointer (some ⟨g, 0, none⟩), .pointer (some ⟨h, 0, none⟩)] 28)) := (Below.refl _ w).alloc (Nat.le_refl _) _
  have hp0 := p.later hb0
  have cP := next18_any (by omega) hp0.1
  unfold NextR at cP
  have hBx := Bk.new w 28 #[.pointer (some ⟨g, 0, none⟩), .pointer (some ⟨h, 0, none⟩)]
  obtain ⟨b1, b2, b3, b5, b8, b6, b4, b7, b9, eA⟩ := ctA_form k (cutR (s.data.toList.drop k))
  have e1 : ctC (cutR (s.data.toList.drop k)) = 180 := if_pos hk
  have e2 : ctC0 (cutR (s.data.toList.drop k)) = 180 := if_pos hk
  rw [eA, e1] at cP
  clear hk
  rcases hw with rfl | rfl
  all_goals
    go_enter Tryz.func8, Tryz.ntmps8
    go_wp2_with fail
    refine cP.mono ?_
    rintro e w1 ⟨er, rfl, ⟨h0, _⟩ | ⟨_, q, rfl, hF1⟩, hR1, hT1⟩
    · omega
    have hT1' : Tn g (w.alloc (.cells #[.pointer (some ⟨g, 0, none⟩), .pointer (some ⟨h, 0, none⟩)] 28)) w1 := hT1
    have B1 := Bk.tn9 hBx hT1 (by omega)
    have R1 : RrS w1 h s k := hp0.2.tn hT1 (by omega)
    have E1 : T2 g h w w1 := (T2.of_below hb0).trans (T2.left hT1)
    have V1 : ErrVar w1 := ErrVar.t2 hE p E1
    have hl1 := B1.lt
    have hb2 : Below w1.heap.size w1 (w1.alloc (.cells #[.int .i64 b1, .int .i64 b2, .int .i64 b3, .string b4, .int .i64 b5, .bool b6, .string b7, .int .i64 b8, .string b9] 46)) := (Below.refl _ _).alloc (Nat.le_refl _) _
    have B2 := B1.later hb2
    have R2 := R1.later hb2
    have C2 := Bk.new w1 46 #[.int .i64 b1, .int .i64 b2, .int .i64 b3, .string b4, .int .i64 b5, .bool b6, .string b7, .int .i64 b8, .string b9]
    have cR := rnext18_any hs R2
    unfold RnR at cR
    rw [eA, e2] at cR
    have q0 : (w1.alloc (.cells #[.int .i64 b1, .int .i64 b2, .int .i64 b3, .string b4, .int .i64 b5, .bool b6, .string b7, .int .i64 b8, .string b9] 46)).cell? ⟨w.heap.size, 0, none⟩ = some (.pointer (some ⟨g, 0, none⟩)) := B2.cell 0 rfl
    have q1 : w1.cell? ⟨w.heap.size, 1, none⟩ = some (.pointer (some ⟨h, 0, none⟩)) := B1.cell 1 rfl
    clear cP q0
    have HC2 : Hid _ := C2
    clear C2 B1 R1
    have ne5 : ¬ w.heap.size = w1.heap.size := by omega
    have ne6 : ¬ w1.heap.size = w.heap.size := by omega
    go_wp2_with fail
    refine cR.mono ?_
    rintro e w2 ⟨rfl, R3, hT2⟩
    have C3 : Bk w2 w1.heap.size 46 #[.int .i64 b1, .int .i64 b2, .int .i64 b3, .string b4, .int .i64 b5, .bool b6, .string b7, .int .i64 b8, .string b9] := Bk.tn9 HC2.out hT2 (by omega)
    have P3 : RdS w2 g s (nxK k (cutR (s.data.toList.drop k))) := (hR1.later hb2).tn hT2 (by omega) (fun cur hc => by
      have h9 : (w1.alloc (.cells #[.int .i64 b1, .int .i64 b2, .int .i64 b3, .string b4, .int .i64 b5, .bool b6, .string b7, .int .i64 b8, .string b9] 46)).heap[h]? = some (.cells _ 51 (0, 0)) := R2.2
      rw [h9] at hc
      cases hc)
    have E2 : T2 g h w w2 := E1.trans ((T2.of_below hb2).trans (T2.right hT2))
    have V2 : ErrVar w2 := ErrVar.t2 hE p E2
    have F2 : FaultAt w2 q _ 180 := FaultAt.tn (hF1.later hb2) hT2 (fun e => by
      have h9 : (w1.alloc (.cells #[.int .i64 b1, .int .i64 b2, .int .i64 b3, .string b4, .int .i64 b5, .bool b6, .string b7, .int .i64 b8, .string b9] 46)).heap[h]? = some (.cells _ 51 (0, 0)) := R2.2
      have h8 := (hF1.later hb2).1
      rw [e] at h8
      simp [World.cell?, h9] at h8)
    have hl3 := C3.lt
    have hb4 : Below w2.heap.size w2 (w2.alloc (.cells #[.int .i64 b1, .int .i64 b2, .int .i64 b3, .string b4, .int .i64 b5, .bool b6, .string b7, .int .i64 b8, .string b9] 46)) := (Below.refl _ _).alloc (Nat.le_refl _) _
    have cI := is18_bad (F2.later hb4) (V2.later hb4)
    have y0 : w2.cell? ⟨w1.heap.size, 0, none⟩ = some (.int .i64 b1) := C3.cell 0 rfl
    have y1 : w2.cell? ⟨w1.heap.size, 1, none⟩ = some (.int .i64 b2) := C3.cell 1 rfl
    have y2 : w2.cell? ⟨w1.heap.size, 2, none⟩ = some (.int .i64 b3) := C3.cell 2 rfl
    have y3 : w2.cell? ⟨w1.heap.size, 3, none⟩ = some (.string b4) := C3.cell 3 rfl
    have y4 : w2.cell? ⟨w1.heap.size, 4, none⟩ = some (.int .i64 b5) := C3.cell 4 rfl
    have y5 : w2.cell? ⟨w1.heap.size, 5, none⟩ = some (.bool b6) := C3.cell 5 rfl
    have y6 : w2.cell? ⟨w1.heap.size, 6, none⟩ = some (.string b7) := C3.cell 6 rfl
    have y7 : w2.cell? ⟨w1.heap.size, 7, none⟩ = some (.int .i64 b8) := C3.cell 7 rfl
    have y8 : w2.cell? ⟨w1.heap.size, 8, none⟩ = some (.string b9) := C3.cell 8 rfl
    have ne7 : ¬ w1.heap.size = w2.heap.size := by omega
    have ne8 : ¬ w2.heap.size = w1.heap.size := by omega
    clear cR C3 HC2
    go_wp2_with fail
    refine cI.mono ?_
    rintro e w3 ⟨rfl, hb5⟩
    clear cI
    have hb45 := hb4.trans (hb5.mono hb4.size)
    have HF : Hid (PrS w3 g h s (nxK k (cutR (s.data.toList.drop k))) ∧ T2 g h w w3) := ⟨⟨P3.later hb45, R3.later hb45⟩, E2.trans (T2.of_below hb45)⟩
    go_wp2
    go_ret
    exact ⟨rfl, HF.out.1, HF.out.2⟩
end Go.Proofs.YtnnpakllehldhabGreatDoor

/- Layer 18: TokenReads. -/
namespace Go.Proofs.YtnnpakllehldhabGreatDoor
open Go.ChangeShapes Go.WideShapes Go.ChangeAt Go.RowKit
open Lx Tk
set_option linter.unusedVariables false
namespace Tk
/-- what a step of a pair leaves: the pair at some place, all else kept -/
def StR (w : World) (g h : Nat) (s : ByteArray) (e : Ending) (w' : World) : Prop := e = .returned (.bool true) ∧ (∃ k, PrS w' g h s k) ∧ T2 g h w w'
theorem bk_t2 {w w' : World} {i a b : Nat} {t : TypeId} {vs : Array Value} (h : Bk w i t vs) (hT : T2 a b w w') (h1 : i ≠ a) (h2 : i ≠ b) : Bk w' i t vs := by
  have := h.lt
  unfold Bk at *
  rw [hT.block _ this h1 h2]; exact h
theorem bk_ne {w : World} {i j : Nat} {t u : TypeId} {vs us : Array Value} (h1 : w.heap[i]? = some (.cells vs t (0, 0))) (h2 : w.heap[j]? = some (.cells us u (0, 0))) (hne : t ≠ u) : i ≠ j := fun e => by
  rw [e, h2] at h1
  simp at h1
  exact hne h1.2.symm
/-- a pair is kept while another one steps -/
theorem PrS.t2 {w w' : World} {g h a b k k2 : Nat} {s t : ByteArray} (p : PrS w g h s k) (o : PrS w a b t k2) (hT : T2 a b w w') (h1 : g ≠ a) (h2 : h ≠ b) : PrS w' g h s k := by
  obtain ⟨va, ha⟩ := o.1.faulty
  have hb : w.heap[b]? = some (.cells _ 51 (0, 0)) := o.2.2
  obtain ⟨⟨h0, b1, b2, b3, b5, b8, b6, b4, b7, b9, F, e1, e2, e3⟩, hk, hR⟩ := p
  refine ⟨⟨h0, b1, b2, b3, b5, b8, b6, b4, b7, b9, F, e1, bk_t2 e2 hT h1 (bk_ne e2 hb (by decide)), fun e => ?_⟩, hk, bk_t2 hR hT (bk_ne hR ha (by decide)) h2⟩
  obtain ⟨q, h4, h5⟩ := e3 e
  exact ⟨q, h4, bk_t2 h5 hT (bk_ne h5 ha (by decide)) (bk_ne h5 hb (by decide))⟩
theorem T2.below {g h n : Nat} {a w w' : World} (hb : Below n a w) (k : T2 g h w w') (hg : n ≤ g) (hh : n ≤ h) (hn : n ≤ a.heap.size) : Below n a w' :=
  ⟨k.os.trans hb.os, k.tape.trans hb.tape, k.output.trans hb.output, Nat.le_trans hb.size k.size, fun i hi => (k.block i (by have := hb.size; omega) (by omega) (by omega)).trans (hb.block i hi)⟩
/-- the state of TokenReads -/
structure ReS (w wr : World) (gx hx bx gy hy by_ : Nat) (s t : ByteArray) : Prop where
  bel : Below w.heap.size w wr
  ord : w.heap.size ≤ gx ∧ w.heap.size ≤ hx ∧ w.heap.size ≤ gy ∧ w.heap.size ≤ hy ∧ gx ≠ gy ∧ hx ≠ hy
  x : ∃ k, PrS wr gx hx s k
  y : ∃ k, PrS wr gy hy t k
  bx : Bk wr bx 28 #[.pointer (some ⟨gx, 0, none⟩), .pointer (some ⟨hx, 0, none⟩)]
  by_ : Bk wr by_ 28 #[.pointer (some ⟨gy, 0, none⟩), .pointer (some ⟨hy, 0, none⟩)]
theorem ReS.stepX {w wr w' : World} {gx hx bx gy hy by_ : Nat} {s t : ByteArray} (h : ReS w wr gx hx bx gy hy by_ s t) (h1 : ∃ k, PrS w' gx hx s k) (hT : T2 gx hx wr w') : ReS w w' gx hx bx gy hy by_ s t := by
  obtain ⟨a1, a2, ⟨k, a3⟩, ⟨k2, a4⟩, a5, a6⟩ := h
  obtain ⟨va, ha⟩ := a3.1.faulty
  have hb : wr.heap[hx]? = some (.cells _ 51 (0, 0)) := a3.2.2
  exact ⟨T2.below a1 hT a2.1 a2.2.1 (Nat.le_refl _), a2, h1, ⟨k2, a4.t2 a3 hT (by omega) (by omega)⟩, bk_t2 a5 hT (bk_ne a5 ha (by decide)) (bk_ne a5 hb (by decide)), bk_t2 a6 hT (bk_ne a6 ha (by decide)) (bk_ne a6 hb (by decide))⟩
theorem ReS.stepY {w wr w' : World} {gx hx bx gy hy by_ : Nat} {s t : ByteArray} (h : ReS w wr gx hx bx gy hy by_ s t) (h1 : ∃ k, PrS w' gy hy t k) (hT : T2 gy hy wr w') : ReS w w' gx hx bx gy hy by_ s t := by
  obtain ⟨a1, a2, ⟨k, a3⟩, ⟨k2, a4⟩, a5, a6⟩ := h
  obtain ⟨va, ha⟩ := a4.1.faulty
  have hb : wr.heap[hy]? = some (.cells _ 51 (0, 0)) := a4.2.2
  exact ⟨T2.below a1 hT a2.2.2.1 a2.2.2.2.1 (Nat.le_refl _), a2, ⟨k, a3.t2 a4 hT (by omega) (by omega)⟩, h1, bk_t2 a5 hT (bk_ne a5 ha (by decide)) (bk_ne a5 hb (by decide)), bk_t2 a6 hT (bk_ne a6 ha (by decide)) (bk_ne a6 hb (by decide))⟩
theorem ReS.later {w wr w' : World} {gx hx bx gy hy by_ : Nat} {s t : ByteArray} (h : ReS w wr gx hx bx gy hy by_ s t) (hb : Below wr.heap.size wr w') : ReS w w' gx hx bx gy hy by_ s t := by
  obtain ⟨a1, a2, ⟨k, a3⟩, ⟨k2, a4⟩, a5, a6⟩ := h
  exact ⟨a1.trans (hb.mono a1.size), a2, ⟨k, a3.later hb⟩, ⟨k2, a4.later hb⟩, a5.later hb, a6.later hb⟩
end Tk
theorem pairStep18_any {w : World} {g h k : Nat} {s : ByteArray} (hs : s.size ≤ 2000000) (p : PrS w g h s k) (hE : ErrVar w) (wh : Int) (hw : wh = 0 ∨ wh = 1 ∨ wh = 2 ∨ wh = 3) :
    Calls Tryz.prog 8 #[.agg #[.pointer (some ⟨g, 0, none⟩), .pointer (some ⟨h, 0, none⟩)], .int .i64 wh] w (StR w g h s) := by
  by_cases hk : (cutR (s.data.toList.drop k)).kind = -1
  · by_cases hev : wh = 0 ∨ wh = 2
    · refine (step18_peek_bad hs p hE hk wh hev).mono ?_
      rintro e w' ⟨rfl, h1, h2⟩
      exact ⟨rfl, ⟨k, h1⟩, T2.of_below h2⟩
    · refine (step18_next_bad hs p hE hk wh (by omega)).mono ?_
      rintro e w' ⟨rfl, h1, h2⟩
      exact ⟨rfl, ⟨_, h1⟩, h2⟩
  · by_cases hev : wh = 0 ∨ wh = 2
    · refine (step18_peek_ok hs p hE hk wh hev).mono ?_
      rintro e w' ⟨rfl, h1, h2⟩
      exact ⟨rfl, ⟨k, h1⟩, T2.of_below h2⟩
    · refine (step18_next_ok hs p hE hk wh (by omega)).mono ?_
      rintro e w' ⟨rfl, h1, h2⟩
      exact ⟨rfl, ⟨_, h1⟩, h2⟩
set_option maxHeartbeats 6400000 in
set_option maxRecDepth 100000 in
theorem reads_walk {s t : ByteArray} (hs : s.size ≤ 1048576) (ht : t.size ≤ 1048576) {w : World} {a : Option Addr} {n c : Nat} {z : List Int} (hz : RowAt .i64 w a n z) (hn : n ≤ 9223372036854775807) (hE : ErrVar w) (hT : PowTab w) :
    Calls Tryz.prog 3 #[.string s, .string t, .slice a n c] w fun e w' => e = .returned (.bool true) ∧ Below w.heap.size w w' := by
  have TL : ∀ w', Below w.heap.size w w' → PowTab w' := fun w' hb => pow_later18 hT hb
  have HZ : Hid (RowAt .i64 w a n z) := hz
  clear hT hz
  have c1 := new18_any s (by omega) w
  go_enter Tryz.func3, Tryz.ntmps3
  go_wp2_with fail
  refine c1.mono ?_
  rintro e w1 ⟨rfl, hX1, hb1⟩
  clear c1
  have c2 := rnew18_any s w1
  go_wp2_with fail
  refine c2.mono ?_
  rintro e w2 ⟨rfl, hX2, hb2⟩
  clear c2
  have hl1 := hX1.lt
  have hl2 := hX2.2.lt
  obtain ⟨gx, hgx⟩ : ∃ gx, gx = w.heap.size := ⟨_, rfl⟩
  obtain ⟨hx, hhx⟩ : ∃ hx, hx = w1.heap.size := ⟨_, rfl⟩
  rw [← hgx] at hX1
  rw [← hhx] at hX2
  rw [← hgx, ← hhx]
  have HGX : Hid (gx = w.heap.size) := hgx
  have HHX : Hid (hx = w1.heap.size) := hhx
  clear hgx hhx
  have hb3 : Below w2.heap.size w2 (w2.alloc (.cells #[.pointer (some ⟨gx, 0, none⟩), .pointer (some ⟨hx, 0, none⟩)] 28)) := (Below.refl _ _).alloc (Nat.le_refl _) _
  have b1 := Bk.new w2 28 #[.pointer (some ⟨gx, 0, none⟩), .pointer (some ⟨hx, 0, none⟩)]
  have B2 := hb1.trans (hb2.mono hb1.size)
  have B3 := B2.trans (hb3.mono B2.size)
  have X3 : PrS (w2.alloc (.cells #[.pointer (some ⟨gx, 0, none⟩), .pointer (some ⟨hx, 0, none⟩)] 28)) gx hx s 0 := ⟨(hX1.later hb2).later hb3, hX2.later hb3⟩
  have c3 := new18_any t (by omega) (w2.alloc (.cells #[.pointer (some ⟨gx, 0, none⟩), .pointer (some ⟨hx, 0, none⟩)] 28))
  go_wp2_with fail
  refine c3.mono ?_
  rintro e w3 ⟨rfl, hY1, hb4⟩
  clear c3
  rw [alloc_size18] at hY1
  try rw [alloc_size18]
  have c4 := rnew18_any t w3
  go_wp2_with fail
  refine c4.mono ?_
  rintro e w4 ⟨rfl, hY2, hb5⟩
  clear c4
  have hl3 := hY1.lt
  have hl4 := hY2.2.lt
  have hlX := X3.1.lt
  have hlY := X3.2.2.lt
  have hs4 := hb4.size
  rw [alloc_size18] at hs4 hlX hlY
  obtain ⟨gy, hgy⟩ : ∃ gy, gy = w2.heap.size + 1 := ⟨_, rfl⟩
  obtain ⟨hy, hhy⟩ : ∃ hy, hy = w3.heap.size := ⟨_, rfl⟩
  rw [← hgy] at hY1 hs4 hlX hlY
  rw [← hhy] at hY2
  rw [← hgy, ← hhy]
  have HGY : Hid (gy = w2.heap.size + 1) := hgy
  have HHY : Hid (hy = w3.heap.size) := hhy
  clear hgy hhy
  have hb6 : Below w4.heap.size w4 (w4.alloc (.cells #[.pointer (some ⟨gy, 0, none⟩), .pointer (some ⟨hy, 0, none⟩)] 28)) := (Below.refl _ _).alloc (Nat.le_refl _) _
  have b2 := Bk.new w4 28 #[.pointer (some ⟨gy, 0, none⟩), .pointer (some ⟨hy, 0, none⟩)]
  have B4 := B3.trans (hb4.mono B3.size)
  have B5 := B4.trans (hb5.mono B4.size)
  have B6 := B5.trans (hb6.mono B5.size)
  have hsA := hb1.size
  have hsB := B3.size
  rw [alloc_size18] at hsB
  have hgx := HGX.out
  have hhx := HHX.out
  have hgy := HGY.out
  have hhy := HHY.out
  have HS : Hid (ReS w (w4.alloc (.cells #[.pointer (some ⟨gy, 0, none⟩), .pointer (some ⟨hy, 0, none⟩)] 28)) gx hx w2.heap.size gy hy w4.heap.size s t) :=
    ⟨B6, ⟨by omega, by omega, by omega, by omega, by omega, by omega⟩, ⟨0, ((X3.later hb4).later hb5).later hb6⟩, ⟨0, (hY1.later hb5).later hb6, hY2.later hb6⟩, ((b1.later hb4).later hb5).later hb6, b2⟩
  clear hgx hhx hgy hhy HGX HHX HGY HHY
  have cA := alive18_any (w := w4.alloc (.cells #[.pointer (some ⟨gy, 0, none⟩), .pointer (some ⟨hy, 0, none⟩)] 28)) (fun w' hb => TL w' (B6.trans (hb.mono B6.size)))
  have q0 : w4.cell? ⟨w2.heap.size, 0, none⟩ = some (.pointer (some ⟨gx, 0, none⟩)) := ((b1.later hb4).later hb5).cell 0 rfl
  have hl9 := ((b1.later hb4).later hb5).lt
  have ne1 : ¬ w2.heap.size = w4.heap.size := by omega
  have ne2 : ¬ w4.heap.size = w2.heap.size := by omega
  obtain ⟨bx, hbx⟩ : ∃ bx, bx = w2.heap.size := ⟨_, rfl⟩
  obtain ⟨by_, hby⟩ : ∃ by_, by_ = w4.heap.size := ⟨_, rfl⟩
  have HBX : Hid (bx = w2.heap.size) := hbx
  have HBY : Hid (by_ = w4.heap.size) := hby
  have HS1 : Hid (ReS w (w4.alloc (.cells #[.pointer (some ⟨gy, 0, none⟩), .pointer (some ⟨hy, 0, none⟩)] 28)) gx hx bx gy hy by_ s t) := by rw [hbx, hby]; exact HS.out
  clear HS hb1 hb2 hb3 hb4 hb5 hb6 B2 B3 B4 B5 B6 X3 hX1 hX2 hY1 hY2 b1 b2 hl1 hl2 hl3 hl4 hlX hlY hs4 hsA hsB TL hl9
  rw [← hbx] at q0 ne1 ne2
  rw [← hbx]
  have q9 : (w4.alloc (.cells #[.pointer (some ⟨gy, 0, none⟩), .pointer (some ⟨hy, 0, none⟩)] 28)).cell? ⟨bx, 0, none⟩ = some (.pointer (some ⟨gx, 0, none⟩)) := HS1.out.bx.cell 0 rfl
  clear hbx hby
  go_wp2_with fail
  refine cA.mono ?_
  rintro e w5 ⟨rfl, hb7⟩
  have HS5 : Hid (ReS w w5 gx hx bx gy hy by_ s t) := HS1.out.later hb7
  rw [← HBY.out]
  clear cA hb7 HS1 q0 q9 ne1 ne2 HBX HBY
  go_wp2
  go_loopw [9] (fun iv wr => ∃ i : Nat, iv = .int .i64 (i : Int) ∧ i ≤ n ∧ Hid (ReS w wr gx hx bx gy hy by_ s t)) (fun i _ => n - (RowKit.intOf i).toNat)
  case atStart => exact ⟨0, rfl, Nat.zero_le _, HS5⟩
  case round =>
    obtain ⟨i, rfl, hi, HR⟩ := hrel
    by_cases hlt : i < n
    · have hii : (i : Int) < (n : Int) := by omega
      obtain ⟨hzl, hz0 | ⟨b, off, rfl, hbl, hcell⟩⟩ := HZ.out
      · omega
      have pc : wr.cell? ⟨b, off + i, none⟩ = some (.int .i64 (z.getD i 0)) := by
        have h9 := hcell i hlt
        exact (HR.out.bel.cell (p := ⟨b, off + i, none⟩) hbl).trans h9
      clear hcell
      obtain ⟨J, hJ, hbits⟩ := and3 (z.getD i 0)
      generalize z.getD i 0 = zi at *
      have hJ4 : J = 0 ∨ J = 1 ∨ J = 2 ∨ J = 3 := by omega
      rcases hJ4 with rfl | rfl | rfl | rfl
      · have hbits : bits .and .i64 zi 3 = 0 := hbits
        have Ewr : ErrVar wr := hE.later HR.out.bel
        obtain ⟨kwr, pwr⟩ := HR.out.x
        have cwr := pairStep18_any (by omega) pwr Ewr 0 (by omega)
        have r0 : wr.cell? ⟨bx, 0, none⟩ = some (.pointer (some ⟨gx, 0, none⟩)) := HR.out.bx.cell 0 rfl
        have r1 : wr.cell? ⟨bx, 1, none⟩ = some (.pointer (some ⟨hx, 0, none⟩)) := HR.out.bx.cell 1 rfl
        clear Ewr pwr
        go_wp2_with fail
        refine cwr.mono ?_
        rintro e w6 ⟨rfl, hkw6, hTw6⟩
        have Hw6 : Hid (ReS w w6 gx hx bx gy hy by_ s t) := HR.out.stepX hkw6 hTw6
        clear cwr hkw6 hTw6 r0 r1 HR
        go_wp2
        go_roundw
        case rel => exact ⟨i + 1, by go_num, by omega, Hw6⟩
        case measure => simp [RowKit.intOf]; omega
      · have hbits : bits .and .i64 zi 3 = 1 := hbits
        have Ewr : ErrVar wr := hE.later HR.out.bel
        obtain ⟨kwr, pwr⟩ := HR.out.x
        have cwr := pairStep18_any (by omega) pwr Ewr 1 (by omega)
        have r0 : wr.cell? ⟨bx, 0, none⟩ = some (.pointer (some ⟨gx, 0, none⟩)) := HR.out.bx.cell 0 rfl
        have r1 : wr.cell? ⟨bx, 1, none⟩ = some (.pointer (some ⟨hx, 0, none⟩)) := HR.out.bx.cell 1 rfl
        clear Ewr pwr
        go_wp2_with fail
        refine cwr.mono ?_
        rintro e w6 ⟨rfl, hkw6, hTw6⟩
        have Hw6 : Hid (ReS w w6 gx hx bx gy hy by_ s t) := HR.out.stepX hkw6 hTw6
        clear cwr hkw6 hTw6 r0 r1 HR
        go_wp2
        go_roundw
        case rel => exact ⟨i + 1, by go_num, by omega, Hw6⟩
        case measure => simp [RowKit.intOf]; omega
      · have hbits : bits .and .i64 zi 3 = 2 := hbits
        have Ewr : ErrVar wr := hE.later HR.out.bel
        obtain ⟨kwr, pwr⟩ := HR.out.y
        have cwr := pairStep18_any (by omega) pwr Ewr 2 (by omega)
        have r0 : wr.cell? ⟨by_, 0, none⟩ = some (.pointer (some ⟨gy, 0, none⟩)) := HR.out.by_.cell 0 rfl
        have r1 : wr.cell? ⟨by_, 1, none⟩ = some (.pointer (some ⟨hy, 0, none⟩)) := HR.out.by_.cell 1 rfl
        clear Ewr pwr
        go_wp2_with fail
        refine cwr.mono ?_
        rintro e w6 ⟨rfl, hkw6, hTw6⟩
        have Hw6 : Hid (ReS w w6 gx hx bx gy hy by_ s t) := HR.out.stepY hkw6 hTw6
        clear cwr hkw6 hTw6 r0 r1 HR
        go_wp2
        go_roundw
        case rel => exact ⟨i + 1, by go_num, by omega, Hw6⟩
        case measure => simp [RowKit.intOf]; omega
      · have hbits : bits .and .i64 zi 3 = 3 := hbits
        have Ewr : ErrVar wr := hE.later HR.out.bel
        obtain ⟨kwr, pwr⟩ := HR.out.y
        have cwr := pairStep18_any (by omega) pwr Ewr 3 (by omega)
        have r0 : wr.cell? ⟨by_, 0, none⟩ = some (.pointer (some ⟨gy, 0, none⟩)) := HR.out.by_.cell 0 rfl
        have r1 : wr.cell? ⟨by_, 1, none⟩ = some (.pointer (some ⟨hy, 0, none⟩)) := HR.out.by_.cell 1 rfl
        clear Ewr pwr
        go_wp2_with fail
        refine cwr.mono ?_
        rintro e w6 ⟨rfl, hkw6, hTw6⟩
        have Hw6 : Hid (ReS w w6 gx hx bx gy hy by_ s t) := HR.out.stepY hkw6 hTw6
        clear cwr hkw6 hTw6 r0 r1 HR
        go_wp2
        go_roundw
        case rel => exact ⟨i + 1, by go_num, by omega, Hw6⟩
        case measure => simp [RowKit.intOf]; omega
    · have hii : ¬ (i : Int) < (n : Int) := by omega
      have Ewr : ErrVar wr := hE.later HR.out.bel
      obtain ⟨kwr, pwr⟩ := HR.out.x
      have cwr := pairStep18_any (by omega) pwr Ewr 0 (by omega)
      have r0 : wr.cell? ⟨bx, 0, none⟩ = some (.pointer (some ⟨gx, 0, none⟩)) := HR.out.bx.cell 0 rfl
      have r1 : wr.cell? ⟨bx, 1, none⟩ = some (.pointer (some ⟨hx, 0, none⟩)) := HR.out.bx.cell 1 rfl
      clear Ewr pwr
      go_wp2_with fail
      refine cwr.mono ?_
      rintro e w6 ⟨rfl, hkw6, hTw6⟩
      have Hw6 : Hid (ReS w w6 gx hx bx gy hy by_ s t) := HR.out.stepX hkw6 hTw6
      clear cwr hkw6 hTw6 r0 r1 HR
      have Ew6 : ErrVar w6 := hE.later Hw6.out.bel
      obtain ⟨kw6, pw6⟩ := Hw6.out.x
      have cw6 := pairStep18_any (by omega) pw6 Ew6 1 (by omega)
      have r0 : w6.cell? ⟨bx, 0, none⟩ = some (.pointer (some ⟨gx, 0, none⟩)) := Hw6.out.bx.cell 0 rfl
      have r1 : w6.cell? ⟨bx, 1, none⟩ = some (.pointer (some ⟨hx, 0, none⟩)) := Hw6.out.bx.cell 1 rfl
      clear Ew6 pw6
      go_wp2_with fail
      refine cw6.mono ?_
      rintro e w7 ⟨rfl, hkw7, hTw7⟩
      have Hw7 : Hid (ReS w w7 gx hx bx gy hy by_ s t) := Hw6.out.stepX hkw7 hTw7
      clear cw6 hkw7 hTw7 r0 r1 Hw6
      have Ew7 : ErrVar w7 := hE.later Hw7.out.bel
      obtain ⟨kw7, pw7⟩ := Hw7.out.y
      have cw7 := pairStep18_any (by omega) pw7 Ew7 0 (by omega)
      have r0 : w7.cell? ⟨by_, 0, none⟩ = some (.pointer (some ⟨gy, 0, none⟩)) := Hw7.out.by_.cell 0 rfl
      have r1 : w7.cell? ⟨by_, 1, none⟩ = some (.pointer (some ⟨hy, 0, none⟩)) := Hw7.out.by_.cell 1 rfl
      clear Ew7 pw7
      go_wp2_with fail
      refine cw7.mono ?_
      rintro e w8 ⟨rfl, hkw8, hTw8⟩
      have Hw8 : Hid (ReS w w8 gx hx bx gy hy by_ s t) := Hw7.out.stepY hkw8 hTw8
      clear cw7 hkw8 hTw8 r0 r1 Hw7
      have Ew8 : ErrVar w8 := hE.later Hw8.out.bel
      obtain ⟨kw8, pw8⟩ := Hw8.out.y
      have cw8 := pairStep18_any (by omega) pw8 Ew8 1 (by omega)
      have r0 : w8.cell? ⟨by_, 0, none⟩ = some (.pointer (some ⟨gy, 0, none⟩)) := Hw8.out.by_.cell 0 rfl
      have r1 : w8.cell? ⟨by_, 1, none⟩ = some (.pointer (some ⟨hy, 0, none⟩)) := Hw8.out.by_.cell 1 rfl
      clear Ew8 pw8
      go_wp2_with fail
      refine cw8.mono ?_
      rintro e w9 ⟨rfl, hkw9, hTw9⟩
      have Hw9 : Hid (ReS w w9 gx hx bx gy hy by_ s t) := Hw8.out.stepY hkw9 hTw9
      clear cw8 hkw9 hTw9 r0 r1 Hw8
      go_wp2
      go_ret
      exact ⟨rfl, Hw9.out.bel⟩
end Go.Proofs.YtnnpakllehldhabGreatDoor

