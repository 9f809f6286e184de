import Derived.Below
import Derived.BigQuiet
import Derived.ChangeOld
import Derived.Deep.CutRange
import Derived.Deep.LoopGhost
import Derived.Deep.QuietTactic
import Derived.Deep.RegionHeld3
import Derived.Deep.RegionWith
import Derived.Deep.WholeRow
import Derived.KernelRfl
import Derived.LaidEql
import Derived.Laws.AppendOwn
import Derived.Laws.BitsAllLaws
import Derived.Laws.CopyRow
import Derived.Laws.EntriesVeiled
import Derived.Laws.Externs
import Derived.Laws.IdiomCopy
import Derived.Laws.IdiomRangeMap
import Derived.Laws.RangeString
import Derived.Laws.ResultCell
import Derived.Laws.Runes
import Derived.Laws.Strings3
import Derived.Lib.AppendIntMem
import Derived.Lib.AsciiSet
import Derived.Lib.AtoiErrMem
import Derived.Lib.BufferRead
import Derived.Lib.Builder
import Derived.Lib.Bytealg
import Derived.Lib.ConvBytes
import Derived.Lib.IndexBytes
import Derived.Lib.ItoaLen
import Derived.Lib.ItoaNum
import Derived.Lib.Strings
import Derived.Lib.TrimByte
import Derived.Lib.Walk
import Derived.OpenShut
import Derived.OwnWalk
import Derived.ProofKit
import Derived.RowKitTokens
import Derived.Shelf.Strconv.Clone
import Derived.Shelf.Strconv.Itoa3
import Derived.Shelf.Strings.BuilderK
import Derived.Shelf.Strings.OnBuilder
import Derived.ShutString
import Derived.Stop.Asserts
import Derived.WalkKit
import Derived.WalkLawsBesides
import Derived.WalkSpells
import Derived.Test.YtfgpjplfplbcdaaGreatDoorPb25
import Derived.Test.YtfgpjplfplbcdaaGreatDoorPb26
import Derived.Test.YtfgpjplfplbcdaaGreatDoorPb27
/- Layer 18: TokenBack. -/
namespace Go.Proofs.YtfgpjplfplbcdaaGreatDoor
open Go.ChangeShapes Go.WideShapes Go.ChangeAt Go.RowKit
open Lx Tk Go.Shelf
set_option linter.unusedVariables false
namespace Tk
theorem Toks.det {k : Nat} {r : B} {l : List Ct} {e : Option Nat} (h : Toks k r l e) : ∀ {l' : List Ct} {e' : Option Nat}, Toks k r l' e' → l = l' ∧ e = e' := by
  induction h with
  | nil h =>
    intro l' e' h'
    cases h' with
    | nil _ => exact ⟨rfl, rfl⟩
    | bad h2 => rw [h] at h2; exact absurd h2 (by decide)
    | cons h2 _ => rw [h] at h2; exact absurd h2 (by decide)
  | bad h =>
    intro l' e' h'
    cases h' with
    | nil h2 => rw [h] at h2; exact absurd h2 (by decide)
    | bad _ => exact ⟨rfl, rfl⟩
    | cons h2 _ => rw [h] at h2; exact absurd h2 (by decide)
  | cons h _ ih =>
    intro l' e' h'
    cases h' with
    | nil h2 => rw [h2] at h; exact absurd h (by decide)
    | bad h2 => rw [h2] at h; exact absurd h (by decide)
    | cons _ h3 =>
      obtain ⟨a, b⟩ := ih h3
      exact ⟨by rw [a], b⟩
/-- a blank of a tight text left out -/
theorem left_out {l m : List Ct} (hok : ∀ c ∈ l, TOk c) (hm : Toks 0 (tightL false (l.map Ct.tg)) m none) {P Q : B} (h : tightL false (l.map Ct.tg) = P ++ 32 :: Q) : ∃ n e, Toks 0 (P ++ Q) n e ∧ (e = none → n.length ≠ m.length) := by
  obtain ⟨b1, y, Q', hQ, hy⟩ := tight_nb l hok false P Q h
  rcases b1 with ⟨_, hg⟩ | ⟨P', x, hP, hx⟩
  · cases hg
  · obtain ⟨lP, eP, tP⟩ := toks_any P
    obtain ⟨lQ, eQ, tQ⟩ := toks_any Q
    rw [h] at hm
    cases eP with
    | some p =>
      have := Toks.det hm (Toks.wrong (c := 32) rfl Q tP p rfl)
      cases this.2
    | none =>
      have j := Toks.join (c := 32) rfl tP rfl (t := Q) (l2 := lQ.map (Ct.move (0 + P.length + 1))) (e2 := eQ.map (0 + P.length + 1 + ·)) (by have := tQ.shift (0 + P.length + 1); simpa using this)
      obtain ⟨d1, d2⟩ := Toks.det hm j
      cases eQ with
      | some q => cases d2
      | none =>
        obtain ⟨n, e, g1, g2⟩ := tP.glue rfl P' x hP hx y Q' lQ.length hy (fun j => ⟨lQ.map (Ct.move j), by have := tQ.shift j; rw [hQ] at this; simpa using this, by simp⟩)
        refine ⟨n, e, by rw [hQ]; exact g1, fun he => ?_⟩
        have h3 := g2 he
        have hs : sepT 32 (0 + P.length) = [] := rfl
        rw [d1, hs, List.nil_append, List.length_append, List.length_map]
        omega
theorem TOk.num {c : Ct} (h : TOk c) : c.num.num.length ≤ 1000000000 ∧ c.num.den.length ≤ 1000000000 := by
  have z : nmZ0.num.length ≤ 1000000000 ∧ nmZ0.den.length ≤ 1000000000 := by decide
  rcases h.kinds with h | h | h | h | h
  · rw [h.2.1]; exact z
  · rw [h.2.1]; exact z
  · rw [h.2.1]; exact z
  · rw [h.2.1]; exact z
  · obtain ⟨_, a, b, _⟩ := right_kind h.2.2
    omega
end Tk
/-- lex.Text of a token's numeral -/
theorem lexText18_any {c : Ct} (h : TOk c) {w : World} (hT : ∀ w', Below w.heap.size w w' → PowTab w') :
    Calls Tryz.prog 18 #[.agg #[.int .i64 c.num.kind, .bool c.num.neg, .string (str c.num.num), .int .i64 c.num.exp, .string (str c.num.den)]] w fun r w' => (∃ S C, r = .returned (.tuple #[.string (str S), .int .i64 C]) ∧ (c.kind = 5 → S = txT c.tg ∧ C = 0) ∧ S.length ≤ 1000000000) ∧ Below w.heap.size w w' := by
  have hn := h.num
  by_cases hk : c.kind = 5
  · have hr : rightB c.num.kind c.num.num c.num.exp c.num.den = true := by
      rcases h.kinds with h | h | h | h | h
      · omega
      · omega
      · omega
      · omega
      · exact h.2.2
    obtain ⟨r1, r2, r3, r4, r5⟩ := right_kind hr
    refine (text9_good c.num.kind c.num.neg (str c.num.num) c.num.exp (str c.num.den) (by rw [str_size]; omega) (by rw [str_size]; omega) r1 r4 r5 (by rw [str_list, str_list]; exact hr) (hT _ (Below.refl _ _)) hT).mono ?_
    rintro r w' ⟨rfl, hb⟩
    rw [str_list, str_list]
    have hx : txT c.tg = txL c.num.kind c.num.neg c.num.num c.num.exp c.num.den := by
      show (if c.kind = 1 then c.word else if c.kind = 5 then (if rightB c.num.kind c.num.num c.num.exp c.num.den = true then txL c.num.kind c.num.neg c.num.num c.num.exp c.num.den else []) else _) = _
      rw [if_neg (by omega), if_pos hk, if_pos hr]
    exact ⟨⟨_, _, rfl, fun _ => ⟨hx.symm, rfl⟩, by have := tx_le (k := c.num.kind) (ng := c.num.neg) (n := 65536) r4 r5 r2 r3; omega⟩, hb⟩
  · have hz : c.num = nmZ0 := by
      rcases h.kinds with h | h | h | h | h
      · exact h.2.1
      · exact h.2.1
      · exact h.2.1
      · exact h.2.1
      · exact absurd h.1 hk
    rw [hz]
    refine (text9_bad 0 false (str []) 0 (str []) (by rw [str_size]; simp) (by rw [str_size]; simp) rfl w).mono ?_
    rintro r w' ⟨rfl, hb⟩
    exact ⟨⟨[], 90, rfl, fun h => absurd h hk, Nat.zero_le _⟩, hb⟩
set_option maxHeartbeats 3200000 in
set_option maxRecDepth 100000 in
theorem back_bad {s : ByteArray} (hs : s.size ≤ 1048576) {w : World} (hT : ∀ w', Below w.heap.size w w' → PowTab w') {l : List Ct} {p : Nat} (hl : Toks 0 s.data.toList l (some p)) :
    Calls Tryz.prog 5 #[.string s] w fun e w' => e = .returned (.bool true) ∧ Below w.heap.size w w' := by
  have TL : Hid (∀ w', Below w.heap.size w w' → PowTab w') := hT
  have c1 := all18_any s (by omega) hl w
  have c2 : Hid (∀ w, _) := fun w => rall18_any s (by omega) hl w
  unfold AllR at c1
  unfold RaR at c2
  simp only at c1 c2
  clear hT hl
  go_enter Tryz.func5, Tryz.ntmps5
  go_wp2_with fail
  refine c1.mono ?_
  rintro e w1 ⟨er, rfl, hE1, hb1⟩
  clear c1 hE1
  have c3 := c2.out w1
  clear c2
  go_wp2_with fail
  refine c3.mono ?_
  rintro e w2 ⟨rfl, hb2⟩
  clear c3
  have B2 := hb1.trans (hb2.mono hb1.size)
  have cA := alive18_any (w := w2) (fun w' hb => TL.out w' (B2.trans (hb.mono B2.size)))
  go_wp2_with fail
  refine cA.mono ?_
  rintro e w3 ⟨rfl, hb3⟩
  clear cA
  have B3 := B2.trans (hb3.mono B2.size)
  have cA := alive18_any (w := w3) (fun w' hb => TL.out w' (B3.trans (hb.mono B3.size)))
  go_wp2_with fail
  refine cA.mono ?_
  rintro e w4 ⟨rfl, hb4⟩
  clear cA
  have B4 := B3.trans (hb4.mono B3.size)
  go_wp2
  go_ret
  exact ⟨rfl, B4⟩
set_option maxHeartbeats 6400000 in
set_option maxRecDepth 100000 in
theorem back_ok {s : ByteArray} (hs : s.size ≤ 1048576) {w : World} (hT : ∀ w', Below w.heap.size w w' → PowTab w') {l : List Ct} (hl : Toks 0 s.data.toList l none) :
    Calls Tryz.prog 5 #[.string s] w fun e w' => e = .returned (.bool true) ∧ Below w.heap.size w w' := by
  have TL : Hid (∀ w', Below w.heap.size w w' → PowTab w') := hT
  have c1 := all18_any s (by omega) hl w
  have c2 : Hid (∀ w, _) := fun w => rall18_any s (by omega) hl w
  unfold AllR at c1
  unfold RaR at c2
  simp only at c1 c2
  have hll : l.length ≤ 1048576 := by have := hl.len; rw [← Lib.size_eq] at this; omega
  have HOK : Hid (∀ c ∈ l, TOk c) := hl.ok
  have hTl : (tightL false (l.map Ct.tg)).length ≤ 100000000 := by
    have := hl.tlen false
    rw [← Lib.size_eq] at this
    omega
  clear hT hl
  go_enter Tryz.func5, Tryz.ntmps5
  go_wp2_with fail
  refine c1.mono ?_
  rintro e w1 ⟨v, rfl, hR1, hb1⟩
  clear c1
  have c3 := c2.out w1
  clear c2
  go_wp2_with fail
  refine c3.mono ?_
  rintro e w2 ⟨vr, rfl, _, hb2⟩
  clear c3
  have B2 := hb1.trans (hb2.mono hb1.size)
  have cA := alive18_any (w := w2) (fun w' hb => TL.out w' (B2.trans (hb.mono B2.size)))
  go_wp2_with fail
  refine cA.mono ?_
  rintro e w3 ⟨rfl, hb3⟩
  clear cA
  have R3 : TkR w3 w.heap.size v l := (hR1.later hb2).later hb3
  have HB3 : Hid (Below w.heap.size w w3) := B2.trans (hb3.mono B2.size)
  obtain ⟨av, kv, rfl, _⟩ := R3.slice
  have HR3 : Hid (TkR w3 w.heap.size (.slice av l.length kv) l) := R3
  clear R3 hR1 hb1 hb2 hb3 B2
  go_wp2
  go_loopw [8] (fun iv wr => ∃ (i : Nat), iv = .int .i64 (i : Int) ∧ i ≤ l.length ∧ Hid (∀ c ∈ l.take i, (txT c.tg).length ≤ 65536 ∨ c.kind ≠ 5) ∧ Hid (Below w3.heap.size w3 wr)) (fun i _ => l.length - (intOf i).toNat)
  case atStart => exact ⟨0, rfl, Nat.zero_le _, fun c hc => by simp at hc, Below.refl _ _⟩
  case round =>
    obtain ⟨i, rfl, hi, HS, HB⟩ := hrel
    have HBW : Hid (Below w.heap.size w wr) := HB3.out.trans (HB.out.mono HB3.out.size)
    by_cases hlt : i < l.length
    · have hii : (i : Int) < (l.length : Int) := by omega
      obtain ⟨c, hc⟩ : ∃ c, l[i]? = some c := ⟨_, List.getElem?_eq_getElem hlt⟩
      have cX := lexText18_any (HOK.out c (List.mem_of_getElem? hc)) (w := wr) (fun w' hb => TL.out w' (HBW.out.trans (hb.mono HBW.out.size)))
      have HS2 : Hid ((txT c.tg).length ≤ 65536 ∨ c.kind ≠ 5 → ∀ d ∈ l.take (i + 1), (txT d.tg).length ≤ 65536 ∨ d.kind ≠ 5) := fun h d hd => by
        rw [List.take_add_one, hc] at hd
        rcases List.mem_append.mp hd with hd | hd
        · exact HS.out d hd
        · simp at hd; subst hd; exact h
      obtain ⟨g1, o1, rfl, hcell⟩ := HR3.out.rt.at (i := i) (t := c.tg) (by rw [List.getElem?_map, hc]; rfl)
      have HC : Hid (∀ (j : Nat) (u : Value) (wz : World), Below w3.heap.size w3 wz → (tgA c.tg)[j]? = some u → wz.cell? ⟨g1, o1 + i * 9 + j, none⟩ = some u) := fun j u wz hb hu => (hb.cell (cell_lt (hcell j u hu))).trans (hcell j u hu)
      have p4 : wr.cell? ⟨g1, o1 + i * 9 + 4, none⟩ = some (.int .i64 c.num.kind) := HC.out 4 _ wr HB.out rfl
      have p5 : wr.cell? ⟨g1, o1 + i * 9 + 5, none⟩ = some (.bool c.num.neg) := HC.out 5 _ wr HB.out rfl
      have p6 : wr.cell? ⟨g1, o1 + i * 9 + 6, none⟩ = some (.string (str c.num.num)) := HC.out 6 _ wr HB.out rfl
      have p7 : wr.cell? ⟨g1, o1 + i * 9 + 7, none⟩ = some (.int .i64 c.num.exp) := HC.out 7 _ wr HB.out rfl
      have p8 : wr.cell? ⟨g1, o1 + i * 9 + 8, none⟩ = some (.string (str c.num.den)) := HC.out 8 _ wr HB.out rfl
      clear hcell hc HS
      go_wp2_with fail
      refine cX.mono ?_
      rintro e w4 ⟨⟨S, C, rfl, hSC, hSl⟩, hb4⟩
      clear cX p4 p5 p6 p7 p8
      have HB4 : Hid (Below w3.heap.size w3 w4) := HB.out.trans (hb4.mono HB.out.size)
      have p0 : w4.cell? ⟨g1, o1 + i * 9, none⟩ = some (.int .i64 c.kind) := HC.out 0 _ w4 HB4.out rfl
      have hSz : (str S).size = S.length := str_size S
      by_cases hk : c.kind = 5
      · obtain ⟨hS, hC⟩ := hSC hk
        subst hC
        rw [hk] at p0
        have HS3 : Hid (S = txT c.tg) := hS
        generalize str S = SS at *
        clear hSC hS
        by_cases hlen : S.length ≤ 65536
        · have hSS : ¬ (65536 : Int) < (SS.size : Int) := by omega
          have HS4 : Hid (∀ d ∈ l.take (i + 1), (txT d.tg).length ≤ 65536 ∨ d.kind ≠ 5) := HS2.out (Or.inl (by rw [← HS3.out]; exact hlen))
          clear HS2 HS3 hSz hk
          go_wp2
          go_roundw
          case rel => exact ⟨i + 1, by go_num, by omega, HS4, HB4⟩
          case measure => simp [intOf]; omega
        · have hSS : (65536 : Int) < (SS.size : Int) := by omega
          have HBF : Hid (Below w.heap.size w w4) := HB3.out.trans (HB4.out.mono HB3.out.size)
          clear HS2 HS3 hSz hk
          go_wp2
          go_ret
          exact ⟨rfl, HBF.out⟩
      · have dk : (c.kind == 5) = false := by simpa using hk
        have HS4 : Hid (∀ d ∈ l.take (i + 1), (txT d.tg).length ≤ 65536 ∨ d.kind ≠ 5) := HS2.out (Or.inr hk)
        generalize str S = SS at *
        clear HS2 hSC hk hSz
        go_wp2
        go_roundw
        case rel => exact ⟨i + 1, by go_num, by omega, HS4, HB4⟩
        case measure => simp [intOf]; omega
    · have hii : ¬ (i : Int) < (l.length : Int) := by omega
      have hie : i = l.length := by omega
      subst hie
      have hS : ∀ c ∈ l, (txT c.tg).length ≤ 65536 ∨ c.kind ≠ 5 := by have := HS.out; rwa [List.take_length] at this
      obtain ⟨m, hm1, hm2⟩ := (tight_reads l HOK.out hS false).2 0
      have R4 : TkR wr w.heap.size (.slice av l.length kv) l := HR3.out.later HB.out
      have cT := tight18_any R4.rt (by simp; omega) (fun t ht => by obtain ⟨c, hc, rfl⟩ := List.mem_map.mp ht; exact (HOK.out c hc).num) (by omega) (fun w' hb => TL.out w' (HBW.out.trans (hb.mono HBW.out.size)))
      have HR4 : Hid (TkR wr w.heap.size (.slice av l.length kv) l) := R4
      have HLO : Hid (∀ P Q, tightL false (l.map Ct.tg) = P ++ 32 :: Q → ∃ n e, Toks 0 (P ++ Q) n e ∧ (e = none → n.length ≠ m.length)) := fun P Q h => left_out HOK.out hm1 h
      have HBA : Hid (m.map Ct.bare = l.map Ct.bare) := hm2
      have HTB : Hid (tightL false (m.map Ct.tg) = tightL false (l.map Ct.tg)) := tight_bare l m hm2 false
      have HM1 : Hid (Toks 0 (tightL false (l.map Ct.tg)) m none) := hm1
      have hml : m.length ≤ 1048576 := by have := congrArg List.length hm2; simp at this; omega
      clear R4 hS hm1 hm2 HS HR3
      go_wp2_with fail
      refine cT.mono ?_
      rintro e w5 ⟨rfl, hb5⟩
      clear cT
      have c6 := all18_any (str (tightL false (l.map Ct.tg))) (by rw [str_size]; omega) (by rw [str_list]; exact HM1.out) w5
      unfold AllR at c6
      simp only at c6
      have HOM : Hid (∀ c ∈ m, TOk c) := HM1.out.ok
      clear HM1
      have B5 : Below w.heap.size w w5 := HBW.out.trans (hb5.mono HBW.out.size)
      generalize hT9 : tightL false (l.map Ct.tg) = T at *
      have HST : Hid ((str T).size = T.length) := str_size T
      have HSL : Hid ((str T).data.toList = T) := str_list T
      generalize hX9 : str T = X at *
      have HX : Hid (str T = X) := hX9
      clear hX9
      go_wp2_with fail
      refine c6.mono ?_
      rintro e w6 ⟨vm, rfl, hR6, hb6⟩
      clear c6
      have b56 := hb5.trans (hb6.mono hb5.size)
      have R6 : TkR w6 w.heap.size (.slice av l.length kv) l := HR4.out.later b56
      obtain ⟨am, km, rfl, _⟩ := hR6.slice
      have cK := alike18_same R6.rt hR6.rt HBA.out (by omega)
      have HRm : Hid (TkR w6 w5.heap.size (.slice am m.length km) m) := hR6
      have HB6 : Hid (Below w.heap.size w w6) := HBW.out.trans (b56.mono HBW.out.size)
      clear hb5 hb6 b56 R6 hR6 B5 HR4 HB HBW HBA
      go_wp2_with fail
      refine cK.mono ?_
      rintro e w7 ⟨rfl, hb7⟩
      clear cK
      have Rm7 : TkR w7 w5.heap.size (.slice am m.length km) m := HRm.out.later hb7
      have HB7 : Hid (Below w.heap.size w w7) := HB6.out.trans (hb7.mono HB6.out.size)
      have cT2 := tight18_any Rm7.rt (by simp; omega) (fun t ht => by obtain ⟨c, hc, rfl⟩ := List.mem_map.mp ht; exact (HOM.out c hc).num) (by rw [HTB.out]; omega) (fun w' hb => TL.out w' (HB7.out.trans (hb.mono HB7.out.size)))
      have HRm7 : Hid (TkR w7 w5.heap.size (.slice am m.length km) m) := Rm7
      rw [HTB.out, HX.out] at cT2
      clear Rm7 HRm HB6 hb7 HX HTB HOM hT9
      go_wp2_with fail
      refine cT2.mono ?_
      rintro e w8 ⟨rfl, hb8⟩
      clear cT2
      have HB8 : Hid (Below w.heap.size w w8) := HB7.out.trans (hb8.mono HB7.out.size)
      have HRm8 : Hid (TkR w8 w5.heap.size (.slice am m.length km) m) := HRm7.out.later hb8
      clear HRm7 HB7 hb8
      have hXs : X.size ≤ 100000000 := by have := HST.out; omega
      clear hTl
      go_wp2
      go_loopw [14, 15] (fun sv iv wr => ∃ (sp i : Nat), sv = .int .i64 (sp : Int) ∧ iv = .int .i64 (i : Int) ∧ i ≤ X.size ∧ sp ≤ 20 ∧ Hid (Below w8.heap.size w8 wr)) (fun _ i _ => X.size - (intOf i).toNat)
      case atStart => exact ⟨0, 0, rfl, rfl, Nat.zero_le _, by omega, Below.refl _ _⟩
      case round =>
        obtain ⟨sp, i, rfl, rfl, hi, hsp, HB⟩ := hrel
        have HBW : Hid (Below w.heap.size w wr) := HB8.out.trans (HB.out.mono HB8.out.size)
        by_cases hlt : i < X.size
        · have hii : (i : Int) < (X.size : Int) := by omega
          by_cases hs20 : sp < 20
          · have hss : (sp : Int) < 20 := by omega
            have hb32 := beq_u8 (X[i]'hlt) 32
            change (((X[i]'hlt).toNat : Int) == 32) = _ at hb32
            by_cases hbl : (X[i]'hlt) = 32
            · have hb9 : (((X[i]'hlt).toNat : Int) == 32) = true := by rw [hb32, hbl]; rfl
              have hsplit : T = T.take i ++ 32 :: T.drop (i + 1) := by
                have h1 : i < T.length := by rw [← HST.out]; exact hlt
                have h2 : T[i] = 32 := by
                  rw [← hbl]
                  have h3 := HSL.out
                  subst h3
                  rfl
                rw [← h2, ← List.drop_eq_getElem_cons h1, List.take_append_drop]
              obtain ⟨n, e, hn1, hn2⟩ := HLO.out _ _ hsplit
              have hlist : (X.extract 0 i ++ X.extract (i + 1) X.size).data.toList = T.take i ++ T.drop (i + 1) := by
                rw [ext_str, ext_str, HSL.out]
                have h4 : (T.drop (i + 1)).take (X.size - (i + 1)) = T.drop (i + 1) := List.take_of_length_le (by rw [List.length_drop, ← HST.out]; omega)
                rw [h4]
                simp [str]
              have e1 : (X.extract 0 i).size ≤ 100000000 := by rw [ByteArray.size_extract]; omega
              have e2 : (X.extract (i + 1) X.size).size ≤ 100000000 := by rw [ByteArray.size_extract]; omega
              have hnl : n.length ≤ 1000000000 := by
                have := hn1.len
                rw [← hlist, ← Lib.size_eq, ByteArray.size_append] at this
                omega
              have cN := fun w => all18_any (X.extract 0 i ++ X.extract (i + 1) X.size) (by rw [ByteArray.size_append]; omega) (by rw [hlist]; exact hn1) w
              unfold AllR at cN
              have hi1 : (i : Int) + 1 ≤ (X.size : Int) := by omega
              have hi2 : (i : Int) ≤ (X.size : Int) := by omega
              clear hsplit hn1 hlist hb32 hbl
              cases e with
              | some p =>
                simp only at cN
                go_wp2
                have q1 : ((X.size : Int) < (i : Int) + 1) = False := by simp; omega
                have q2 : ((i : Int) + 1 < 0) = False := by simp; omega
                have q3 : (9223372036854775807 < (X.extract 0 i).size + (X.extract (i + 1) X.size).size) = False := by simp; omega
                have q4 : ((X.size : Int) < (i : Int)) = False := by simp; omega
                have q5 : IntKind.i64.wrap ((i : Int) + 1) = (i : Int) + 1 := by rw [IntKind.wrap_i64]; omega
                go_region_with (go_at_call 8; refine (cN _).mono ?_; rintro e wX ⟨er, rfl, hEr, hbX⟩)
                all_goals
                  have hbY : Below wr.heap.size wr wX := by first | exact hbX | exact (below_drewN (Below.refl _ wr) _).trans (hbX.mono (Nat.le_refl _))
                  have HBX : Hid (Below w8.heap.size w8 wX) := HB.out.trans (hbY.mono HB.out.size)
                  rcases hEr with ⟨h9, _⟩ | ⟨_, g9, rfl, _⟩
                  · exact absurd h9 (by decide)
                  · clear cN hbX hbY q1 q2 q3 q4 q5
                    go_wp2
                    go_roundw
                    case rel => exact ⟨sp + 1, i + 1, by go_num, by go_num, by omega, by omega, HBX⟩
                    case measure => simp [intOf]; omega
              | none =>
                simp only at cN
                have hne := hn2 rfl
                have HNE : Hid (n.length ≠ m.length) := hne
                clear hne hn2
                go_wp2
                have q1 : ((X.size : Int) < (i : Int) + 1) = False := by simp; omega
                have q2 : ((i : Int) + 1 < 0) = False := by simp; omega
                have q3 : (9223372036854775807 < (X.extract 0 i).size + (X.extract (i + 1) X.size).size) = False := by simp; omega
                have q4 : ((X.size : Int) < (i : Int)) = False := by simp; omega
                have q5 : IntKind.i64.wrap ((i : Int) + 1) = (i : Int) + 1 := by rw [IntKind.wrap_i64]; omega
                go_region_with (go_at_call 8; refine (cN _).mono ?_; rintro e wX ⟨vn, rfl, hRn, hbX⟩)
                all_goals
                  have hbY : Below wr.heap.size wr wX := by first | exact hbX | exact (below_drewN (Below.refl _ wr) _).trans (hbX.mono (Nat.le_refl _))
                  obtain ⟨an, kn, rfl, _⟩ := hRn.slice
                  have cL := alike18_len (w := wX) (a1 := an) (a2 := am) (k1 := kn) (k2 := km) hnl (by omega : m.length ≤ 1000000000) HNE.out
                  have HBX : Hid (Below w8.heap.size w8 wX) := HB.out.trans (hbY.mono HB.out.size)
                  clear cN hbX hbY q1 q2 q3 q4 q5 hRn
                  go_wp2_with fail
                  refine cL.mono ?_
                  rintro e wZ ⟨rfl, hbZ⟩
                  have HBZ : Hid (Below w8.heap.size w8 wZ) := HBX.out.trans (hbZ.mono HBX.out.size)
                  clear cL hbZ HBX
                  go_wp2
                  go_roundw
                  case rel => exact ⟨sp + 1, i + 1, by go_num, by go_num, by omega, by omega, HBZ⟩
                  case measure => simp [intOf]; omega
            · have hb9 : (((X[i]'hlt).toNat : Int) == 32) = false := by rw [hb32]; simpa using hbl
              clear hb32
              go_wp2
              go_roundw
              case rel => exact ⟨sp, i + 1, by go_num, by go_num, by omega, by omega, HB⟩
              case measure => simp [intOf]; omega
          · have hss : ¬ (sp : Int) < 20 := by omega
            go_wp2
            go_ret
            exact ⟨rfl, HBW.out⟩
        · have hii : ¬ (i : Int) < (X.size : Int) := by omega
          go_wp2
          go_ret
          exact ⟨rfl, HBW.out⟩
theorem back_walk {s : ByteArray} (hs : s.size ≤ 1048576) {w : World} (hT : PowTab w) :
    Calls Tryz.prog 5 #[.string s] w fun e w' => e = .returned (.bool true) ∧ Below w.heap.size w w' := by
  obtain ⟨l, e, hl⟩ := toks_any s.data.toList
  cases e with
  | some p => exact back_bad hs (fun w' hb => pow_later18 hT hb) hl
  | none => exact back_ok hs (fun w' hb => pow_later18 hT hb) hl
end Go.Proofs.YtfgpjplfplbcdaaGreatDoor

