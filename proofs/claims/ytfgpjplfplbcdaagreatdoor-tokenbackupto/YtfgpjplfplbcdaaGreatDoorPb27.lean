import Derived.Below
import Derived.BigQuiet
import Derived.ChangeOld
import Derived.Deep.CutRange
import Derived.Deep.LoopGhost
import Derived.Deep.QuietTactic
import Derived.Deep.RegionHeld3
import Derived.Deep.RegionWith
import Derived.Deep.WholeRow
import Derived.KernelRfl
import Derived.LaidEql
import Derived.Laws.AppendOwn
import Derived.Laws.BitsAllLaws
import Derived.Laws.CopyRow
import Derived.Laws.EntriesVeiled
import Derived.Laws.Externs
import Derived.Laws.IdiomCopy
import Derived.Laws.IdiomRangeMap
import Derived.Laws.RangeString
import Derived.Laws.ResultCell
import Derived.Laws.Runes
import Derived.Laws.Strings3
import Derived.Lib.AppendIntMem
import Derived.Lib.AsciiSet
import Derived.Lib.AtoiErrMem
import Derived.Lib.BufferRead
import Derived.Lib.Builder
import Derived.Lib.Bytealg
import Derived.Lib.ConvBytes
import Derived.Lib.IndexBytes
import Derived.Lib.ItoaLen
import Derived.Lib.Strings
import Derived.Lib.TrimByte
import Derived.Lib.Walk
import Derived.OpenShut
import Derived.OwnWalk
import Derived.ProofKit
import Derived.RowKitTokens
import Derived.Shelf.Strconv.Clone
import Derived.Shelf.Strconv.Itoa3
import Derived.Shelf.Strings.BuilderK
import Derived.Shelf.Strings.OnBuilder
import Derived.ShutString
import Derived.Stop.Asserts
import Derived.WalkKit
import Derived.WalkLawsBesides
import Derived.WalkSpells
import Derived.Test.YtfgpjplfplbcdaaGreatDoorPb23
import Derived.Test.YtfgpjplfplbcdaaGreatDoorPb25
/- Layer 18: the document's All; is. -/
namespace Go.Proofs.YtfgpjplfplbcdaaGreatDoor
open Go.ChangeShapes Go.WideShapes Go.ChangeAt Go.RowKit
open Lx Tk
set_option linter.unusedVariables false
namespace Tk
/-- what the document's All answers -/
def RaR (w : World) (l : List Ct) (e : Option Nat) (en : Ending) (w' : World) : Prop :=
  match e with
  | none => ∃ v, en = .returned (.tuple #[v, .int .i64 0, .int .i64 (-1)]) ∧ TkR w' w.heap.size v l ∧ Below w.heap.size w w'
  | some p => en = .returned (.tuple #[.slice none 0 0, .int .i64 180, .int .i64 (p : Int)]) ∧ Below w.heap.size w w'
/-- a state of its loop -/
structure RlS (w wr : World) (base g : Nat) (s : ByteArray) (k : Nat) (v : Value) (l : List Ct) : Prop where
  bel : Below w.heap.size w wr
  gb : w.heap.size ≤ g ∧ g < base ∧ base ≤ wr.heap.size
  rd : RrS wr g s k
  row : TkR wr base v l
theorem RlS.grown {w W w5 : World} {base g : Nat} {s : ByteArray} {k : Nat} {v v' : Value} {l l' : List Ct} (h : RlS w W base g s k v l) (hg : W.grownBy w5 v.ownBlock) (hr : TkR w5 base v' l') : RlS w w5 base g s k v' l' := by
  obtain ⟨a1, a2, a3, a5⟩ := h
  have hsz := hg.size
  refine ⟨a5.grown hg a1 (by omega) (Nat.le_refl _), ⟨a2.1, a2.2.1, by omega⟩, ?_, hr⟩
  cases ho : v.ownBlock with
  | none =>
    rw [ho] at hg
    exact a3.later (grown_below hg)
  | some b =>
    rw [ho] at hg
    have hb := (World.ownsRow.lt a5 b ho).1
    exact a3.tn (grown_tn hg) (by omega)
end Tk
set_option maxHeartbeats 3200000 in
set_option maxRecDepth 100000 in
theorem rall18_any (s : ByteArray) (hs : s.size ≤ 2000000) {l : List Ct} {e : Option Nat} (hl : Toks 0 s.data.toList l e) (w : World) :
    Calls Tryz.prog 17 #[.string s] w (RaR w l e) := by
  have hll := hl.len
  rw [← Lib.size_eq] at hll
  have HLL : Hid (l.length ≤ s.size) := hll
  clear hll
  have c0 := rnew18_any s w
  have HL : Hid (Toks 0 s.data.toList l e) := hl
  clear hl
  go_enter Tryz.func17, Tryz.ntmps17
  go_wp2_with fail
  refine c0.mono ?_
  rintro en w1 ⟨rfl, hR1, hb1⟩
  clear c0
  have hg1 := hR1.2.lt
  have HS0 : Hid (RlS w w1 w1.heap.size w.heap.size s 0 (.slice none 0 0) []) := ⟨hb1, ⟨Nat.le_refl _, hg1, Nat.le_refl _⟩, hR1, World.ownsRow_nil _ _ _ _⟩
  generalize hbs : w1.heap.size = base at *
  clear hR1 hb1 hg1
  go_wp2
  go_loopw [5] (fun ov wr => ∃ (k : Nat) (dn rest : List Ct), Hid (dn ++ rest = l) ∧ Hid (Toks k (s.data.toList.drop k) rest e) ∧ Hid (RlS w wr base w.heap.size s k ov dn)) (fun v _ => l.length - slLen v)
  case atStart => exact ⟨0, [], l, rfl, HL.out, HS0.out⟩
  case round =>
    obtain ⟨k, dn, rest, HD, HK, HS⟩ := hrel
    have hN := rnext18_any hs HS.out.rd
    unfold RnR at hN
    have hkf := cut_f (s.data.toList.drop k)
    obtain ⟨va, vc, rfl, hvc⟩ := HS.out.row.slice
    rcases hkf.kinds with hk | hk | hk
    · have hinv : rest = [] ∧ e = some (k + (cutR (s.data.toList.drop k)).fr) := by
        have h := HK.out
        cases h with
        | nil h => omega
        | bad h => exact ⟨rfl, rfl⟩
        | cons h _ => omega
      obtain ⟨rfl, rfl⟩ := hinv
      rw [ctA_zero hk, ctW_wrong hk, show ctC0 (cutR (s.data.toList.drop k)) = 180 from if_pos hk] at hN
      unfold zero9 at hN
      have HBe := HS.out.bel
      have HBel : Hid _ := HBe
      generalize k + (cutR (s.data.toList.drop k)).fr = P at *
      clear hkf hk HK HD HS hvc HL HS0 HBe
      go_wp2_with fail
      refine hN.mono ?_
      rintro en w3 ⟨rfl, _, hT⟩
      have hB := Tn.below HBel.out hT (Nat.le_refl _) (Nat.le_refl _)
      have HB : Hid _ := hB
      clear hN hB hT
      go_wp2
      go_ret3
      exact ⟨rfl, below_more HB.out _⟩
    · have hinv : rest = [] ∧ e = none := by
        have h := HK.out
        cases h with
        | nil h => exact ⟨rfl, rfl⟩
        | bad h => omega
        | cons h _ => omega
      obtain ⟨rfl, rfl⟩ := hinv
      have hne : (cutR (s.data.toList.drop k)).kind ≠ -1 := by omega
      obtain ⟨b1, b2, b3, b5, b8, b6, b4, b7, b9, eA⟩ := ctA_form k (cutR (s.data.toList.drop k))
      have eb1 : b1 = 0 := by
        have := eA
        unfold ctA at this
        rw [if_neg hne, hk] at this
        have h2 := congrArg (fun a => a[0]?) this
        simp [tkA] at h2
        omega
      subst eb1
      rw [eA, show ctC0 (cutR (s.data.toList.drop k)) = 0 from if_neg hne] at hN
      clear hkf hk HK hvc HL HS0 hne eA
      go_wp2_with fail
      refine hN.mono ?_
      rintro en w3 ⟨rfl, _, hT⟩
      have hgb := HS.out.gb
      have hrow := HS.out.row.tn hT (by omega)
      have hbel := Tn.below HS.out.bel hT (Nat.le_refl _) (Nat.le_refl _)
      have HR : Hid _ := hrow
      have HB : Hid _ := hbel
      have HG : Hid (w.heap.size ≤ base) := by show w.heap.size ≤ base; omega
      clear hN hT hrow hbel hgb HS
      go_wp2
      go_ret3
      have hR : TkR w3 base (.slice va dn.length vc) dn := HR.out
      have hd : dn = l := by have := HD.out; rwa [List.append_nil] at this
      rw [hd] at hR
      rw [hd]
      have hbel : Below w.heap.size w w3 := HB.out
      exact ⟨_, rfl, (TkR.later hR ((Below.refl _ _).alloc (Nat.le_refl _) _)).base HG.out, below_more hbel _⟩
    · have hp : 0 < (cutR (s.data.toList.drop k)).kind := by omega
      have hne : (cutR (s.data.toList.drop k)).kind ≠ -1 := by omega
      obtain ⟨r2, rfl, HK2⟩ : ∃ r2, rest = (cutR (s.data.toList.drop k)).move k :: r2 ∧ Toks (k + (cutR (s.data.toList.drop k)).to) ((s.data.toList.drop k).drop (cutR (s.data.toList.drop k)).to) r2 e := by
        have h := HK.out
        cases h with
        | nil h => omega
        | bad h => omega
        | cons h h2 => exact ⟨_, rfl, h2⟩
      have HK3 : Hid (Toks (nxK k (cutR (s.data.toList.drop k))) (s.data.toList.drop (nxK k (cutR (s.data.toList.drop k)))) r2 e) := by
        unfold nxK
        rw [if_neg hne, ← List.drop_drop]
        exact HK2
      have hlen : dn.length + r2.length + 1 = l.length := by
        rw [← HD.out, List.length_append, List.length_cons]; omega
      have HD3 : Hid ((dn ++ [(cutR (s.data.toList.drop k)).move k]) ++ r2 = l) := by
        show _ = _
        rw [List.append_assoc]; exact HD.out
      have eA : ctA k (cutR (s.data.toList.drop k)) = tkA ((cutR (s.data.toList.drop k)).move k).kind ((cutR (s.data.toList.drop k)).move k).fr ((cutR (s.data.toList.drop k)).move k).to ((cutR (s.data.toList.drop k)).move k).word ((cutR (s.data.toList.drop k)).move k).num := if_neg hne
      have hk0 : (((cutR (s.data.toList.drop k)).move k).kind == 0) = false := by
        rw [beq_eq_false_iff_ne]
        show (cutR (s.data.toList.drop k)).kind ≠ 0
        omega
      rw [eA, show ctC0 (cutR (s.data.toList.drop k)) = 0 from if_neg hne] at hN
      generalize nxK k (cutR (s.data.toList.drop k)) = k2 at *
      generalize ctW k (cutR (s.data.toList.drop k)) = P at *
      clear hkf hk HK hvc HL HS0 hne eA HK2 hp HD
      generalize (cutR (s.data.toList.drop k)).move k = tk at *
      unfold tkA at hN
      go_wp2_with fail
      refine hN.mono ?_
      rintro en w3 ⟨rfl, hR3, hT⟩
      have hgb := HS.out.gb
      have hrow := HS.out.row.tn hT (by omega)
      have hbel := Tn.below HS.out.bel hT (Nat.le_refl _) (Nat.le_refl _)
      have hsz := hT.size
      obtain ⟨W, hW⟩ : ∃ W, W = (w3.alloc (.cells #[.int .i64 tk.kind, .int .i64 (tk.fr : Int), .int .i64 (tk.to : Int), .string (str tk.word), .int .i64 tk.num.kind, .bool tk.num.neg, .string (str tk.num.num), .int .i64 tk.num.exp, .string (str tk.num.den)] 32)).alloc (.cells #[.int .i64 tk.kind, .int .i64 (tk.fr : Int), .int .i64 (tk.to : Int), .string (str tk.word), .int .i64 tk.num.kind, .bool tk.num.neg, .string (str tk.num.num), .int .i64 tk.num.exp, .string (str tk.num.den)] 32) := ⟨_, rfl⟩
      have hb1 : Below w3.heap.size w3 (w3.alloc (.cells #[.int .i64 tk.kind, .int .i64 (tk.fr : Int), .int .i64 (tk.to : Int), .string (str tk.word), .int .i64 tk.num.kind, .bool tk.num.neg, .string (str tk.num.num), .int .i64 tk.num.exp, .string (str tk.num.den)] 32)) := (Below.refl _ _).alloc (Nat.le_refl _) _
      have hb2 : Below (w3.alloc (.cells #[.int .i64 tk.kind, .int .i64 (tk.fr : Int), .int .i64 (tk.to : Int), .string (str tk.word), .int .i64 tk.num.kind, .bool tk.num.neg, .string (str tk.num.num), .int .i64 tk.num.exp, .string (str tk.num.den)] 32)).heap.size (w3.alloc (.cells #[.int .i64 tk.kind, .int .i64 (tk.fr : Int), .int .i64 (tk.to : Int), .string (str tk.word), .int .i64 tk.num.kind, .bool tk.num.neg, .string (str tk.num.num), .int .i64 tk.num.exp, .string (str tk.num.den)] 32)) W := by rw [hW]; exact (Below.refl _ _).alloc (Nat.le_refl _) _
      have N1 : Bk W (w3.heap.size + 1) 32 #[.int .i64 tk.kind, .int .i64 (tk.fr : Int), .int .i64 (tk.to : Int), .string (str tk.word), .int .i64 tk.num.kind, .bool tk.num.neg, .string (str tk.num.num), .int .i64 tk.num.exp, .string (str tk.num.den)] := by
        have := Bk.new (w3.alloc (.cells #[.int .i64 tk.kind, .int .i64 (tk.fr : Int), .int .i64 (tk.to : Int), .string (str tk.word), .int .i64 tk.num.kind, .bool tk.num.neg, .string (str tk.num.num), .int .i64 tk.num.exp, .string (str tk.num.den)] 32)) 32 #[.int .i64 tk.kind, .int .i64 (tk.fr : Int), .int .i64 (tk.to : Int), .string (str tk.word), .int .i64 tk.num.kind, .bool tk.num.neg, .string (str tk.num.num), .int .i64 tk.num.exp, .string (str tk.num.den)]
        rw [← hW, alloc_size18] at this
        exact this
      have hb12 := hb1.trans (hb2.mono hb1.size)
      have hAl : RlS w W base w.heap.size s k2 (.slice va dn.length vc) dn :=
        ⟨hbel.trans (hb12.mono hbel.size), ⟨hgb.1, hgb.2.1, by have := hb12.size; omega⟩, hR3.later hb12, hrow.later hb12⟩
      have hW1 : base ≤ W.heap.size := hAl.gb.2.2
      have hrow4 := hAl.row
      have HAl : Hid _ := hAl
      have hsrc : TkR W 0 (.slice (some ⟨w3.heap.size + 1, 0, none⟩) 1 1) [tk] := by
        refine ⟨rfl, Or.inr ⟨w3.heap.size + 1, 1, _, rfl, Nat.zero_le _, N1, Nat.le_refl _, by unfold maxLen; omega, rfl, ?_⟩⟩
        show _ = tkc tk ++ []
        rw [List.append_nil]
        rfl
      have HW : Hid ((w3.alloc (.cells #[.int .i64 tk.kind, .int .i64 (tk.fr : Int), .int .i64 (tk.to : Int), .string (str tk.word), .int .i64 tk.num.kind, .bool tk.num.neg, .string (str tk.num.num), .int .i64 tk.num.exp, .string (str tk.num.den)] 32)).alloc (.cells #[.int .i64 tk.kind, .int .i64 (tk.fr : Int), .int .i64 (tk.to : Int), .string (str tk.word), .int .i64 tk.num.kind, .bool tk.num.neg, .string (str tk.num.num), .int .i64 tk.num.exp, .string (str tk.num.den)] 32) = W) := hW.symm
      have hbound : dn.length + [tk].length ≤ 1000000000 := by have := HLL.out; simp; omega
      clear hN hT hrow hbel hgb HS hR3 hb1 hb2 hb12 hW N1 hAl hsz
      go_wp2_with (at_builtin; rw [HW.out]; refine wpList_appR rfl _ _ rfl rfl hrow4 rfl hsrc hbound hW1 ?_)
      intro v' w5 hO5 hg5
      have HA5 : Hid (RlS w w5 base w.heap.size s k2 v' (dn ++ [tk])) := HAl.out.grown hg5 hO5
      have hv5 : slLen v' = dn.length + 1 := by
        obtain ⟨a, c, rfl, _⟩ := HA5.out.row.slice
        simp [slLen]
      have HV5 : Hid _ := hv5
      clear hO5 hg5 hv5 HAl hrow4 hsrc
      go_wp2
      go_roundw
      case rel => exact ⟨k2, dn ++ [tk], r2, HD3, HK3, HA5⟩
      case measure =>
        rw [HV5.out]
        simp [slLen]
        omega
end Go.Proofs.YtfgpjplfplbcdaaGreatDoor

