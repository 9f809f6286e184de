import Derived.Laws.AppendOwn
import Derived.Below
import Derived.BigQuiet
import Derived.ChangeOld
import Derived.Deep.CutRange
import Derived.Deep.LoopGhost
import Derived.Deep.QuietTactic
import Derived.Deep.RegionHeld3
import Derived.Deep.RegionWith
import Derived.Deep.WholeRow
import Derived.KernelRfl
import Derived.LaidEql
import Derived.Laws.BitsAllLaws
import Derived.Laws.CopyRow
import Derived.Laws.EntriesVeiled
import Derived.Laws.Externs
import Derived.Laws.IdiomCopy
import Derived.Laws.IdiomRangeMap
import Derived.Laws.RangeString
import Derived.Laws.ResultCell
import Derived.Laws.Runes
import Derived.Laws.Strings3
import Derived.Lib.AsciiSet
import Derived.Lib.Bytealg
import Derived.Lib.IndexBytes
import Derived.Lib.Strings
import Derived.Lib.TrimByte
import Derived.Lib.Walk
import Derived.OpenShut
import Derived.OwnWalk
import Derived.ProofKit
import Derived.RowKitTokens
import Derived.Shelf.Strconv.Clone
import Derived.Shelf.Strings.OnBuilder
import Derived.ShutString
import Derived.Stop.Asserts
import Derived.WalkKit
import Derived.WalkLawsBesides
import Derived.WalkSpells
import Derived.Test.YtfgpjplfplbcdaaGreatDoorPt15
/- Layer 18: All. -/
namespace Go.Proofs.YtfgpjplfplbcdaaGreatDoor
open Go.ChangeShapes Go.WideShapes Go.ChangeAt Go.RowKit
open Lx Tk Go.Shelf
set_option linter.unusedVariables false
namespace Tk
/-- the cells of a token, of a list of tokens -/
def tkc (c : Ct) : List Value := (tkA c.kind c.fr c.to c.word c.num).toList
def tkcs : List Ct → List Value
  | [] => []
  | c :: r => tkc c ++ tkcs r
theorem tkcs_snoc : ∀ (l : List Ct) (c : Ct), tkcs (l ++ [c]) = tkcs l ++ tkc c
  | [], c => by simp [tkcs]
  | d :: r, c => by show tkc d ++ tkcs (r ++ [c]) = tkc d ++ tkcs r ++ tkc c; rw [tkcs_snoc r c, List.append_assoc]
theorem tkc_len (c : Ct) : (tkc c).length = 9 := rfl
/-- tokens in a row of the call's own -/
def TkR (w : World) (base : Nat) (v : Value) (l : List Ct) : Prop := w.ownsRow base 32 9 v l.length (tkcs l)
theorem TkR.keep {w w' : World} {base : Nat} {v : Value} {l : List Ct} (h : TkR w base v l) (hk : ∀ g, v.ownBlock = some g → w'.heap[g]? = w.heap[g]?) : TkR w' base v l := by
  obtain ⟨h0, h⟩ := h
  refine ⟨h0, ?_⟩
  rcases h with h | ⟨g, cap, cur, rfl, hb, hc, h1⟩
  · exact Or.inl h
  · exact Or.inr ⟨g, cap, cur, rfl, hb, (hk g rfl).trans hc, h1⟩
theorem TkR.later {w w' : World} {base : Nat} {v : Value} {l : List Ct} (h : TkR w base v l) (hb : Below w.heap.size w w') : TkR w' base v l :=
  h.keep (fun g hg => hb.block g (World.ownsRow.lt h g hg).2)
theorem TkR.base {w : World} {base base' : Nat} {v : Value} {l : List Ct} (h : TkR w base v l) (hb : base' ≤ base) : TkR w base' v l := by
  obtain ⟨h0, h⟩ := h
  refine ⟨h0, ?_⟩
  rcases h with h | ⟨g, cap, cur, h1, h2, h3⟩
  · exact Or.inl h
  · exact Or.inr ⟨g, cap, cur, h1, by omega, h3⟩
theorem TkR.tn {w w' : World} {base x : Nat} {v : Value} {l : List Ct} (h : TkR w base v l) (hT : Tn x w w') (hx : x < base) : TkR w' base v l :=
  h.keep (fun g hg => hT.block g (World.ownsRow.lt h g hg).2 (by have := (World.ownsRow.lt h g hg).1; omega))
theorem TkR.slice {w : World} {base : Nat} {v : Value} {l : List Ct} (h : TkR w base v l) : ∃ a c, v = .slice a l.length c ∧ l.length ≤ c := by
  rcases h.2 with ⟨rfl, h0⟩ | ⟨g, cap, cur, rfl, hb, hc, h1, h2, h3, h4⟩
  · exact ⟨none, 0, by rw [h0], by omega⟩
  · exact ⟨_, cap, rfl, h1⟩
theorem TkR.type {w : World} {base : Nat} {v : Value} {l : List Ct} (h : TkR w base v l) {g : Nat} (hg : v.ownBlock = some g) : ∃ cur, w.heap[g]? = some (.cells cur 32 (0, 0)) := by
  rcases h.2 with ⟨rfl, _⟩ | ⟨g', cap, cur, rfl, hb, hc, h1⟩
  · simp [Value.ownBlock] at hg
  · simp only [Value.ownBlock, Option.some.injEq] at hg
    subst hg
    exact ⟨cur, hc⟩
theorem grown_tn {w w' : World} {b : Nat} (h : w.grownBy w' (some b)) : Tn b w w' := ⟨h.os, h.tape, h.output, h.size, fun k hk hne => h.block k hk (fun e => hne (Option.some.inj e))⟩
theorem grown_below {w w' : World} (h : w.grownBy w' none) : Below w.heap.size w w' := ⟨h.os, h.tape, h.output, h.size, fun k hk => h.block k hk (by simp)⟩
def slLen : Value → Nat
  | .slice _ n _ => n
  | _ => 0
/-- what All answers -/
def AllR (w : World) (l : List Ct) (e : Option Nat) (en : Ending) (w' : World) : Prop :=
  match e with
  | none => ∃ v, en = .returned (.tuple #[v, .nilIface]) ∧ TkR w' w.heap.size v l ∧ Below w.heap.size w w'
  | some p => ∃ er, en = .returned (.tuple #[.slice none 0 0, er]) ∧ ErrIs w' er 180 p ∧ Below w.heap.size w w'
/-- a state of All's loop -/
structure AlS (w wr : World) (base g ge : Nat) (s : ByteArray) (k : Nat) (v : Value) (l : List Ct) : Prop where
  bel : Below w.heap.size w wr
  gb : w.heap.size ≤ g ∧ g < base ∧ w.heap.size ≤ ge ∧ ge < base ∧ g ≠ ge ∧ base ≤ wr.heap.size
  rd : RdS wr g s k
  en : Bk wr ge 32 #[.int .i64 0, .int .i64 (s.size : Int), .int .i64 (s.size : Int), .string ⟨#[]⟩, .int .i64 0, .bool false, .string ⟨#[]⟩, .int .i64 0, .string ⟨#[]⟩]
  row : TkR wr base v l
theorem AlS.grown {w W w5 : World} {base g ge : Nat} {s : ByteArray} {k : Nat} {v v' : Value} {l l' : List Ct} (h : AlS w W base g ge s k v l) (hg : W.grownBy w5 v.ownBlock) (hr : TkR w5 base v' l') : AlS w w5 base g ge s k v' l' := by
  obtain ⟨a1, a2, a3, a4, a5⟩ := h
  have hsz := hg.size
  cases ho : v.ownBlock with
  | none =>
    rw [ho] at hg
    have hb := grown_below hg
    exact ⟨a1.trans (hb.mono a1.size), ⟨a2.1, a2.2.1, a2.2.2.1, a2.2.2.2.1, a2.2.2.2.2.1, by omega⟩, a3.later hb, a4.later hb, hr⟩
  | some b =>
    rw [ho] at hg
    have hT := grown_tn hg
    have hb := (World.ownsRow.lt a5 b ho).1
    obtain ⟨cur, hc⟩ := a5.type ho
    refine ⟨Tn.below a1 hT (by omega) (Nat.le_refl _), ⟨a2.1, a2.2.1, a2.2.2.1, a2.2.2.2.1, a2.2.2.2.2.1, by omega⟩, a3.tn hT (by omega) (fun q e => ?_), Bk.tn9 a4 hT (by omega), hr⟩
    rw [hc] at e
    cases e
end Tk
theorem info_tk18 : (Tryz.prog.info? 32).map (fun i => (i.zero, i.size, i.bytes)) = some (some (.agg zero9), 9, 96) := by kernel_rfl
theorem info_parts18 {e : TypeId} {z : Value} {n b : Nat} (h : (Tryz.prog.info? e).map (fun i => (i.zero, i.size, i.bytes)) = some (some z, n, b)) : ∃ i, Tryz.prog.info? e = some i ∧ i.zero = some z ∧ i.size = n ∧ i.bytes = b := by
  cases hi : Tryz.prog.info? e with
  | none => rw [hi] at h; cases h
  | some i =>
    rw [hi] at h
    simp only [Option.map_some, Option.some.injEq, Prod.mk.injEq] at h
    exact ⟨i, rfl, h.1, h.2.1, h.2.2⟩
set_option maxHeartbeats 3200000 in
set_option maxRecDepth 100000 in
theorem all18_any (s : ByteArray) (hs : s.size ≤ 1000000000) {l : List Ct} {e : Option Nat} (hl : Toks 0 s.data.toList l e) (w : World) :
    Calls Tryz.prog 8 #[.string s] w (AllR w l e) := by
  obtain ⟨i_t, hi_t, hz0, hz1, hz2⟩ := info_parts18 info_tk18
  have hll := hl.len
  rw [← Lib.size_eq] at hll
  have HLL : Hid (l.length ≤ s.size) := hll
  clear hll
  have c0 := new18_any s hs w
  have c1 := endOf18_any s
  have HL : Hid (Toks 0 s.data.toList l e) := hl
  clear hl
  have hU : tkA 0 s.size s.size [] nmZ0 = #[.int .i64 0, .int .i64 (s.size : Int), .int .i64 (s.size : Int), .string ⟨#[]⟩, .int .i64 0, .bool false, .string ⟨#[]⟩, .int .i64 0, .string ⟨#[]⟩] := rfl
  rw [hU] at c1
  go_enter Tryz.func8, Tryz.ntmps8
  go_wp2_with fail
  refine c0.mono ?_
  rintro en w1 ⟨rfl, hR1, hb1⟩
  clear c0
  go_wp2_with fail
  refine (c1 _).mono ?_
  rintro en w2 ⟨rfl, hb2⟩
  clear c1 hU
  have hbA := hb1.trans (hb2.mono hb1.size)
  have hR2 := hR1.later hb2
  have hg2 := hR2.lt
  have hb3 : Below w2.heap.size w2 (w2.alloc (.cells #[.int .i64 0, .int .i64 (s.size : Int), .int .i64 (s.size : Int), .string ⟨#[]⟩, .int .i64 0, .bool false, .string ⟨#[]⟩, .int .i64 0, .string ⟨#[]⟩] 32)) := (Below.refl _ w2).alloc (Nat.le_refl _) _
  have HS0 : Hid (AlS w (w2.alloc (.cells #[.int .i64 0, .int .i64 (s.size : Int), .int .i64 (s.size : Int), .string ⟨#[]⟩, .int .i64 0, .bool false, .string ⟨#[]⟩, .int .i64 0, .string ⟨#[]⟩] 32)) (w2.heap.size + 1) w.heap.size w2.heap.size s 0 (.slice none 0 0) []) :=
    ⟨hbA.trans (hb3.mono hbA.size), ⟨Nat.le_refl _, by omega, by omega, by omega, by omega, by simp⟩, hR2.later hb3, Bk.new _ _ _, World.ownsRow_nil _ _ _ _⟩
  generalize hge : w2.heap.size = ge at *
  clear hR1 hR2 hb1 hb2 hb3 hbA hg2
  go_wp2
  go_loopw [6] (fun ov wr => ∃ (k : Nat) (dn rest : List Ct), Hid (dn ++ rest = l) ∧ Hid (Toks k (s.data.toList.drop k) rest e) ∧ Hid (AlS w wr (ge + 1) w.heap.size ge s k ov dn)) (fun v _ => l.length - slLen v)
  case atStart => exact ⟨0, [], l, rfl, HL.out, HS0.out⟩
  case round =>
    obtain ⟨k, dn, rest, HD, HK, HS⟩ := hrel
    have hN := next18_any hs HS.out.rd
    unfold NextR at hN
    have hkf := cut_f (s.data.toList.drop k)
    obtain ⟨va, vc, rfl, hvc⟩ := HS.out.row.slice
    rcases hkf.kinds with hk | hk | hk
    · have hinv : rest = [] ∧ e = some (k + (cutR (s.data.toList.drop k)).fr) := by
        have h := HK.out
        cases h with
        | nil h => omega
        | bad h => exact ⟨rfl, rfl⟩
        | cons h _ => omega
      obtain ⟨rfl, rfl⟩ := hinv
      rw [ctA_zero hk, ctW_wrong hk, show ctC (cutR (s.data.toList.drop k)) = 180 from if_pos hk] at hN
      unfold zero9 at hN
      have hN2 : Calls Tryz.prog 11 #[.pointer (some ⟨w.heap.size, 0, none⟩)] wr fun en w' => ∃ q, en = .returned (.tuple #[.agg #[.int .i64 0, .int .i64 0, .int .i64 0, .string ⟨#[]⟩, .int .i64 0, .bool false, .string ⟨#[]⟩, .int .i64 0, .string ⟨#[]⟩], .iface 52 (.pointer (some ⟨q, 0, none⟩))]) ∧ FaultAt w' q ((k + (cutR (s.data.toList.drop k)).fr : Nat) : Int) 180 ∧ Below w.heap.size w w' := by
        refine hN.mono ?_
        rintro en w' ⟨er, rfl, ⟨h, _⟩ | ⟨_, q, rfl, hF⟩, _, hT⟩
        · omega
        · exact ⟨q, rfl, hF, Tn.below HS.out.bel hT (Nat.le_refl _) (Nat.le_refl _)⟩
      generalize k + (cutR (s.data.toList.drop k)).fr = P at *
      clear hN hkf hk HK HD HS hvc HL HS0 hz0 hz1 hz2
      go_wp2_with fail
      refine hN2.mono ?_
      rintro en w3 ⟨q, rfl, hF, hB⟩
      have HF : Hid _ := hF
      have HB : Hid _ := hB
      clear hN2 hF hB
      go_wp2
      go_ret2
      exact ⟨_, rfl, Or.inr ⟨by omega, q, rfl, FaultAt.later HF.out ((Below.refl _ _).alloc (Nat.le_refl _) _)⟩, below_more HB.out _⟩
    · have hinv : rest = [] ∧ e = none := by
        have h := HK.out
        cases h with
        | nil h => exact ⟨rfl, rfl⟩
        | bad h => omega
        | cons h _ => omega
      obtain ⟨rfl, rfl⟩ := hinv
      have hne : (cutR (s.data.toList.drop k)).kind ≠ -1 := by omega
      obtain ⟨n1, n2, n3, n4⟩ := hkf.nil hk
      have hkl := HS.out.rd.1
      have eA : ctA k (cutR (s.data.toList.drop k)) = #[.int .i64 0, .int .i64 (s.size : Int), .int .i64 (s.size : Int), .string ⟨#[]⟩, .int .i64 0, .bool false, .string ⟨#[]⟩, .int .i64 0, .string ⟨#[]⟩] := by
        unfold ctA
        rw [if_neg hne, hk, n1, n2, n3, n4, List.length_drop, ← Lib.size_eq, show k + (s.size - k) = s.size from by omega]
        rfl
      have e3 : ctC (cutR (s.data.toList.drop k)) = 0 := if_neg hne
      rw [eA, e3] at hN
      have hN2 : Calls Tryz.prog 11 #[.pointer (some ⟨w.heap.size, 0, none⟩)] wr fun en w' => en = .returned (.tuple #[.agg #[.int .i64 0, .int .i64 (s.size : Int), .int .i64 (s.size : Int), .string ⟨#[]⟩, .int .i64 0, .bool false, .string ⟨#[]⟩, .int .i64 0, .string ⟨#[]⟩], .nilIface]) ∧ Tn w.heap.size wr w' := by
        refine hN.mono ?_
        rintro en w' ⟨er, rfl, ⟨_, rfl⟩ | ⟨h, _⟩, _, hT⟩
        · exact ⟨rfl, hT⟩
        · exact absurd rfl h
      clear hN hkf hk HK hvc HL HS0 hz0 hz1 hz2 hne n1 n2 n3 n4 hkl eA e3
      go_wp2_with fail
      refine hN2.mono ?_
      rintro en w3 ⟨rfl, hT⟩
      have hgb := HS.out.gb
      have hE := Bk.tn9 HS.out.en hT (by omega)
      have hrow := HS.out.row.tn hT (by omega)
      have hbel := Tn.below HS.out.bel hT (Nat.le_refl _) (Nat.le_refl _)
      have hgl : ge < w3.heap.size := hE.lt
      have ne1 : ¬ ge = w3.heap.size := by omega
      have ne2 : ¬ w3.heap.size = ge := by omega
      have y0 : w3.cell? ⟨ge, 0, none⟩ = some (.int .i64 0) := hE.cell 0 rfl
      have y1 : w3.cell? ⟨ge, 1, none⟩ = some (.int .i64 (s.size : Int)) := hE.cell 1 rfl
      have y2 : w3.cell? ⟨ge, 2, none⟩ = some (.int .i64 (s.size : Int)) := hE.cell 2 rfl
      have y3 : w3.cell? ⟨ge, 3, none⟩ = some (.string ⟨#[]⟩) := hE.cell 3 rfl
      have y4 : w3.cell? ⟨ge, 4, none⟩ = some (.int .i64 0) := hE.cell 4 rfl
      have y5 : w3.cell? ⟨ge, 5, none⟩ = some (.bool false) := hE.cell 5 rfl
      have y6 : w3.cell? ⟨ge, 6, none⟩ = some (.string ⟨#[]⟩) := hE.cell 6 rfl
      have y7 : w3.cell? ⟨ge, 7, none⟩ = some (.int .i64 0) := hE.cell 7 rfl
      have y8 : w3.cell? ⟨ge, 8, none⟩ = some (.string ⟨#[]⟩) := hE.cell 8 rfl
      have HR : Hid _ := hrow
      have HB : Hid _ := hbel
      have HG : Hid (w.heap.size ≤ ge) := hgb.2.2.1
      clear hN2 hT hE hrow hbel hgb HS
      go_wp2
      go_ret2
      have hR : TkR w3 (ge + 1) (.slice va dn.length vc) dn := HR.out
      have hd : dn = l := by have := HD.out; rwa [List.append_nil] at this
      rw [hd] at hR
      rw [hd]
      have hbel : Below w.heap.size w w3 := HB.out
      refine ⟨_, rfl, (TkR.later hR ((Below.refl _ _).alloc (Nat.le_refl _) _)).base ?_, below_more hbel _⟩
      have := HG.out
      omega
    · have hp : 0 < (cutR (s.data.toList.drop k)).kind := by omega
      have hne : (cutR (s.data.toList.drop k)).kind ≠ -1 := by omega
      obtain ⟨r2, rfl, HK2⟩ : ∃ r2, rest = (cutR (s.data.toList.drop k)).move k :: r2 ∧ Toks (k + (cutR (s.data.toList.drop k)).to) ((s.data.toList.drop k).drop (cutR (s.data.toList.drop k)).to) r2 e := by
        have h := HK.out
        cases h with
        | nil h => omega
        | bad h => omega
        | cons h h2 => exact ⟨_, rfl, h2⟩
      have HK3 : Hid (Toks (nxK k (cutR (s.data.toList.drop k))) (s.data.toList.drop (nxK k (cutR (s.data.toList.drop k)))) r2 e) := by
        unfold nxK
        rw [if_neg hne, ← List.drop_drop]
        exact HK2
      have hlen : dn.length + r2.length + 1 = l.length := by
        rw [← HD.out, List.length_append, List.length_cons]; omega
      have HD3 : Hid ((dn ++ [(cutR (s.data.toList.drop k)).move k]) ++ r2 = l) := by
        show _ = _
        rw [List.append_assoc]; exact HD.out
      have e3 : ctC (cutR (s.data.toList.drop k)) = 0 := if_neg hne
      have eA : ctA k (cutR (s.data.toList.drop k)) = tkA ((cutR (s.data.toList.drop k)).move k).kind ((cutR (s.data.toList.drop k)).move k).fr ((cutR (s.data.toList.drop k)).move k).to ((cutR (s.data.toList.drop k)).move k).word ((cutR (s.data.toList.drop k)).move k).num := if_neg hne
      have hk0 : (((cutR (s.data.toList.drop k)).move k).kind == 0) = false := by
        rw [beq_eq_false_iff_ne]
        show (cutR (s.data.toList.drop k)).kind ≠ 0
        omega
      rw [eA, e3] at hN
      have hN2 : Calls Tryz.prog 11 #[.pointer (some ⟨w.heap.size, 0, none⟩)] wr fun en w' => en = .returned (.tuple #[.agg (tkA ((cutR (s.data.toList.drop k)).move k).kind ((cutR (s.data.toList.drop k)).move k).fr ((cutR (s.data.toList.drop k)).move k).to ((cutR (s.data.toList.drop k)).move k).word ((cutR (s.data.toList.drop k)).move k).num), .nilIface]) ∧ RdS w' w.heap.size s (nxK k (cutR (s.data.toList.drop k))) ∧ Tn w.heap.size wr w' := by
        refine hN.mono ?_
        rintro en w' ⟨er, rfl, ⟨_, rfl⟩ | ⟨h, _⟩, hR, hT⟩
        · exact ⟨rfl, hR, hT⟩
        · exact absurd rfl h
      generalize nxK k (cutR (s.data.toList.drop k)) = k2 at *
      clear hN hkf hk HK hvc HL HS0 hne eA e3 HK2 hp HD
      generalize (cutR (s.data.toList.drop k)).move k = tk at *
      have etk : tkc tk = [.int .i64 tk.kind, .int .i64 (tk.fr : Int), .int .i64 (tk.to : Int), .string (str tk.word), .int .i64 tk.num.kind, .bool tk.num.neg, .string (str tk.num.num), .int .i64 tk.num.exp, .string (str tk.num.den)] := rfl
      unfold tkA at hN2
      go_wp2_with fail
      refine hN2.mono ?_
      rintro en w3 ⟨rfl, hR3, hT⟩
      have hgb := HS.out.gb
      have hE := Bk.tn9 HS.out.en hT (by omega)
      have hrow := HS.out.row.tn hT (by omega)
      have hbel := Tn.below HS.out.bel hT (Nat.le_refl _) (Nat.le_refl _)
      have hgl : ge < w3.heap.size := hE.lt
      have hsz := hT.size
      have ne1 : ¬ ge = w3.heap.size := by omega
      have ne2 : ¬ w3.heap.size = ge := by omega
      have y0 : w3.cell? ⟨ge, 0, none⟩ = some (.int .i64 0) := hE.cell 0 rfl
      have y1 : w3.cell? ⟨ge, 1, none⟩ = some (.int .i64 (s.size : Int)) := hE.cell 1 rfl
      have y2 : w3.cell? ⟨ge, 2, none⟩ = some (.int .i64 (s.size : Int)) := hE.cell 2 rfl
      have y3 : w3.cell? ⟨ge, 3, none⟩ = some (.string ⟨#[]⟩) := hE.cell 3 rfl
      have y4 : w3.cell? ⟨ge, 4, none⟩ = some (.int .i64 0) := hE.cell 4 rfl
      have y5 : w3.cell? ⟨ge, 5, none⟩ = some (.bool false) := hE.cell 5 rfl
      have y6 : w3.cell? ⟨ge, 6, none⟩ = some (.string ⟨#[]⟩) := hE.cell 6 rfl
      have y7 : w3.cell? ⟨ge, 7, none⟩ = some (.int .i64 0) := hE.cell 7 rfl
      have y8 : w3.cell? ⟨ge, 8, none⟩ = some (.string ⟨#[]⟩) := hE.cell 8 rfl
      obtain ⟨W, hW⟩ : ∃ W, W = (w3.alloc (.cells #[.int .i64 tk.kind, .int .i64 (tk.fr : Int), .int .i64 (tk.to : Int), .string (str tk.word), .int .i64 tk.num.kind, .bool tk.num.neg, .string (str tk.num.num), .int .i64 tk.num.exp, .string (str tk.num.den)] 32)).alloc (.cells #[.int .i64 tk.kind, .int .i64 (tk.fr : Int), .int .i64 (tk.to : Int), .string (str tk.word), .int .i64 tk.num.kind, .bool tk.num.neg, .string (str tk.num.num), .int .i64 tk.num.exp, .string (str tk.num.den)] 32) := ⟨_, rfl⟩
      have hb1 : Below w3.heap.size w3 (w3.alloc (.cells #[.int .i64 tk.kind, .int .i64 (tk.fr : Int), .int .i64 (tk.to : Int), .string (str tk.word), .int .i64 tk.num.kind, .bool tk.num.neg, .string (str tk.num.num), .int .i64 tk.num.exp, .string (str tk.num.den)] 32)) := (Below.refl _ _).alloc (Nat.le_refl _) _
      have hb2 : Below (w3.alloc (.cells #[.int .i64 tk.kind, .int .i64 (tk.fr : Int), .int .i64 (tk.to : Int), .string (str tk.word), .int .i64 tk.num.kind, .bool tk.num.neg, .string (str tk.num.num), .int .i64 tk.num.exp, .string (str tk.num.den)] 32)).heap.size (w3.alloc (.cells #[.int .i64 tk.kind, .int .i64 (tk.fr : Int), .int .i64 (tk.to : Int), .string (str tk.word), .int .i64 tk.num.kind, .bool tk.num.neg, .string (str tk.num.num), .int .i64 tk.num.exp, .string (str tk.num.den)] 32)) W := by rw [hW]; exact (Below.refl _ _).alloc (Nat.le_refl _) _
      have N1 : Bk W (w3.heap.size + 1) 32 #[.int .i64 tk.kind, .int .i64 (tk.fr : Int), .int .i64 (tk.to : Int), .string (str tk.word), .int .i64 tk.num.kind, .bool tk.num.neg, .string (str tk.num.num), .int .i64 tk.num.exp, .string (str tk.num.den)] := by
        have := Bk.new (w3.alloc (.cells #[.int .i64 tk.kind, .int .i64 (tk.fr : Int), .int .i64 (tk.to : Int), .string (str tk.word), .int .i64 tk.num.kind, .bool tk.num.neg, .string (str tk.num.num), .int .i64 tk.num.exp, .string (str tk.num.den)] 32)) 32 #[.int .i64 tk.kind, .int .i64 (tk.fr : Int), .int .i64 (tk.to : Int), .string (str tk.word), .int .i64 tk.num.kind, .bool tk.num.neg, .string (str tk.num.num), .int .i64 tk.num.exp, .string (str tk.num.den)]
        rw [← hW] at this
        simpa using this
      have hb12 := hb1.trans (hb2.mono hb1.size)
      have hAl : AlS w W (ge + 1) w.heap.size ge s k2 (.slice va dn.length vc) dn :=
        ⟨hbel.trans (hb12.mono hbel.size), ⟨hgb.1, hgb.2.1, hgb.2.2.1, hgb.2.2.2.1, hgb.2.2.2.2.1, by have := hb12.size; omega⟩, hR3.later hb12, hE.later hb12, hrow.later hb12⟩
      have hrow4 : W.ownsRow (ge + 1) 32 9 (.slice va dn.length vc) dn.length (tkcs dn) := hAl.row
      have hW1 : ge + 1 ≤ W.heap.size := hAl.gb.2.2.2.2.2
      have HAl : Hid _ := hAl
      have hq4 : ∀ (j : Nat) (u : Value), (tkc tk)[j]? = some u → W.cell? ((⟨w3.heap.size + 1, 0, none⟩ : Addr).add j) = some u := fun j u hu => by
        have hadd : (⟨w3.heap.size + 1, 0, none⟩ : Addr).add j = ⟨w3.heap.size + 1, j, none⟩ := by unfold Addr.add; split <;> simp_all
        rw [hadd]
        exact N1.cell j (by rw [← hu]; exact (Array.getElem?_toList ..).symm)
      have HW : Hid ((w3.alloc (.cells #[.int .i64 tk.kind, .int .i64 (tk.fr : Int), .int .i64 (tk.to : Int), .string (str tk.word), .int .i64 tk.num.kind, .bool tk.num.neg, .string (str tk.num.num), .int .i64 tk.num.exp, .string (str tk.num.den)] 32)).alloc (.cells #[.int .i64 tk.kind, .int .i64 (tk.fr : Int), .int .i64 (tk.to : Int), .string (str tk.word), .int .i64 tk.num.kind, .bool tk.num.neg, .string (str tk.num.num), .int .i64 tk.num.exp, .string (str tk.num.den)] 32) = W) := hW.symm
      have hbound : dn.length + 1 ≤ 1000000000 := by have := HLL.out; omega
      have hone : ∀ u ∈ tkc tk, u.oneCell' = true := by rw [etk]; simp [Value.oneCell']
      clear hN2 hT hE hrow hbel hgb HS hR3 hb1 hb2 hb12 hW N1 hAl hsz
      go_wp2_with (at_builtin; rw [HW.out]; refine wpList_append_own _ rfl _ _ 24 rfl (ge + 1) 32 i_t (.agg zero9) 9 96 Tryz.underlying24 hi_t hz0 hz1 hz2 rfl (by decide) _ _ _ rfl hrow4 ⟨w3.heap.size + 1, 0, none⟩ 1 1 (tkc tk) rfl rfl hq4 hone (by unfold maxLen; omega) (by omega) hW1 ?_)
      intro v' w5 hO5 hg5 hn5
      have HA5 : Hid (AlS w w5 (ge + 1) w.heap.size ge s k2 v' (dn ++ [tk])) := HAl.out.grown hg5 (by
        show World.ownsRow _ _ _ _ _ _ _
        rw [tkcs_snoc, List.length_append]
        exact hO5)
      have hv5 : slLen v' = dn.length + 1 := by
        obtain ⟨a, c, rfl, _⟩ := HA5.out.row.slice
        simp [slLen]
      have HV5 : Hid _ := hv5
      clear hO5 hg5 hn5 hv5 HAl hrow4 hq4
      go_wp2
      go_roundw
      case rel => exact ⟨k2, dn ++ [tk], r2, HD3, HK3, HA5⟩
      case measure =>
        rw [HV5.out]
        simp [slLen]
        omega
end Go.Proofs.YtfgpjplfplbcdaaGreatDoor

