import Derived.Below
import Derived.BigQuiet
import Derived.ChangeOld
import Derived.Deep.CutRange
import Derived.Deep.LoopGhost
import Derived.Deep.QuietTactic
import Derived.Deep.RegionHeld3
import Derived.Deep.RegionWith
import Derived.Deep.WholeRow
import Derived.KernelRfl
import Derived.LaidEql
import Derived.Laws.AppendOwn
import Derived.Laws.BitsAllLaws
import Derived.Laws.CopyRow
import Derived.Laws.EntriesVeiled
import Derived.Laws.Externs
import Derived.Laws.IdiomCopy
import Derived.Laws.IdiomRangeMap
import Derived.Laws.RangeString
import Derived.Laws.ResultCell
import Derived.Laws.Runes
import Derived.Laws.Strings3
import Derived.Lib.AppendIntMem
import Derived.Lib.AsciiSet
import Derived.Lib.Builder
import Derived.Lib.Bytealg
import Derived.Lib.IndexBytes
import Derived.Lib.ItoaLen
import Derived.Lib.ItoaNum
import Derived.Lib.Strings
import Derived.Lib.TrimByte
import Derived.Lib.Walk
import Derived.OpenShut
import Derived.OwnWalk
import Derived.ProofKit
import Derived.RowKitTokens
import Derived.Shelf.Strconv.Clone
import Derived.Shelf.Strconv.Itoa3
import Derived.Shelf.Strings.BuilderK
import Derived.Shelf.Strings.OnBuilder
import Derived.ShutString
import Derived.Stop.Asserts
import Derived.WalkKit
import Derived.WalkLawsBesides
import Derived.WalkSpells
import Derived.Test.YtfgpjplfplbcdaaGreatDoorPt1
import Derived.Test.YtfgpjplfplbcdaaGreatDoorPt11
import Derived.Test.YtfgpjplfplbcdaaGreatDoorPt12
import Derived.Test.YtfgpjplfplbcdaaGreatDoorPt14
import Derived.Test.YtfgpjplfplbcdaaGreatDoorPt18
/- Layer 18: the document's text of a token, and its Tight. -/
namespace Go.Proofs.YtfgpjplfplbcdaaGreatDoor
open Go.ChangeShapes Go.WideShapes Go.ChangeAt Go.RowKit
open Lx Tk Go.Shelf
set_option linter.unusedVariables false
set_option maxHeartbeats 1600000 in
set_option maxRecDepth 100000 in
theorem rtext18_any (t : Tg) (hn : t.num.num.length ≤ 1000000000) (hd : t.num.den.length ≤ 1000000000) (w : World) :
    Calls Tryz.prog 31 #[.agg (tgA t)] w fun e w' => e = .returned (.tuple #[.string (str (txT t)), .bool (gapT t)]) ∧ Below w.heap.size w w' := by
  have hb0 : Below w.heap.size w (w.alloc (.cells (tgA t) 32)) := (Below.refl _ w).alloc (Nat.le_refl _) _
  have c5 : Calls Tryz.prog 43 #[.agg (numC t.num.kind t.num.neg (str t.num.num) t.num.exp (str t.num.den))] (w.alloc (.cells (tgA t) 32)) fun e w' => (∃ c, e = .returned (.tuple #[.string (str (if rightB t.num.kind t.num.num t.num.exp t.num.den then txL t.num.kind t.num.neg t.num.num t.num.exp t.num.den else [])), .int .i64 c])) ∧ Below (w.alloc (.cells (tgA t) 32)).heap.size (w.alloc (.cells (tgA t) 32)) w' := by
    cases hr : rightB t.num.kind t.num.num t.num.exp t.num.den
    · refine (r9text_bad _ _ (str t.num.num) _ (str t.num.den) (by rw [str_size]; omega) (by rw [str_size]; omega) (by rw [str_list, str_list]; exact hr) _).mono ?_
      rintro e w' ⟨rfl, hb⟩
      exact ⟨⟨_, rfl⟩, hb⟩
    · obtain ⟨r1, r2, r3, r4, r5⟩ := right_kind hr
      refine (r9text_good _ _ (str t.num.num) _ (str t.num.den) (by rw [str_size]; omega) (by rw [str_size]; omega) r1 r4 r5 (by rw [str_list, str_list]; exact hr) _).mono ?_
      rintro e w' ⟨rfl, hb⟩
      rw [str_list, str_list]
      exact ⟨⟨_, rfl⟩, hb⟩
  have e0 : txT t = if t.kind = 1 then t.word else if t.kind = 5 then (if rightB t.num.kind t.num.num t.num.exp t.num.den then txL t.num.kind t.num.neg t.num.num t.num.exp t.num.den else []) else if t.kind = 2 then [40] else if t.kind = 3 then [41] else if t.kind = 4 then [44] else [] := rfl
  have e9 : gapT t = (t.kind == 1 || t.kind == 5) := rfl
  rw [e0, e9]
  clear e0 e9
  generalize (if rightB t.num.kind t.num.num t.num.exp t.num.den then txL t.num.kind t.num.neg t.num.num t.num.exp t.num.den else []) = TX at *
  unfold tgA tkA at *
  unfold numC at c5
  obtain ⟨k, f, tl, wd, n⟩ := t
  simp only at *
  by_cases k1 : k = 1
  · rw [if_pos k1]
    subst k1
    clear c5
    go_enter Tryz.func31, Tryz.ntmps31
    go_wp2
    refine bodyPost_ret (v := .tuple #[.string (str wd), .bool true]) (by simp [results, Tryz.results31, go_sem, str]) rfl ?_
    exact ⟨rfl, hb0⟩
  · rw [if_neg k1]
    have d1 : (k == 1) = false := by simpa using k1
    by_cases k5 : k = 5
    · rw [if_pos k5]
      subst k5
      go_enter Tryz.func31, Tryz.ntmps31
      go_wp2_with fail
      refine c5.mono ?_
      rintro e w1 ⟨⟨c, rfl⟩, hb1⟩
      have hb2 := hb0.trans (hb1.mono hb0.size)
      clear c5 hb1 hb0
      go_wp2
      refine bodyPost_ret (v := .tuple #[.string (str TX), .bool true]) (by simp [results, Tryz.results31, go_sem]) rfl ?_
      exact ⟨rfl, hb2⟩
    · rw [if_neg k5]
      have d5 : (k == 5) = false := by simpa using k5
      clear c5
      by_cases k2 : k = 2
      · rw [if_pos k2]
        subst k2
        go_enter Tryz.func31, Tryz.ntmps31
        go_wp2
        refine bodyPost_ret (v := .tuple #[.string (str [40]), .bool false]) (by simp [results, Tryz.results31, go_sem, str]) rfl ?_
        exact ⟨rfl, hb0⟩
      · rw [if_neg k2]
        have d2 : (k == 2) = false := by simpa using k2
        by_cases k3 : k = 3
        · rw [if_pos k3]
          subst k3
          go_enter Tryz.func31, Tryz.ntmps31
          go_wp2
          refine bodyPost_ret (v := .tuple #[.string (str [41]), .bool false]) (by simp [results, Tryz.results31, go_sem, str]) rfl ?_
          exact ⟨rfl, hb0⟩
        · rw [if_neg k3]
          have d3 : (k == 3) = false := by simpa using k3
          by_cases k4 : k = 4
          · rw [if_pos k4]
            subst k4
            go_enter Tryz.func31, Tryz.ntmps31
            go_wp2
            refine bodyPost_ret (v := .tuple #[.string (str [44]), .bool false]) (by simp [results, Tryz.results31, go_sem, str]) rfl ?_
            exact ⟨rfl, hb0⟩
          · rw [if_neg k4]
            have d4 : (k == 4) = false := by simpa using k4
            have hg : (k == 1 || k == 5) = false := by rw [d1, d5]; rfl
            rw [hg]
            clear k1 k5 k2 k3 k4 hg
            go_enter Tryz.func31, Tryz.ntmps31
            go_wp2
            refine bodyPost_ret (v := .tuple #[.string (str []), .bool false]) (by simp [results, Tryz.results31, go_sem, str]) rfl ?_
            exact ⟨rfl, hb0⟩
set_option maxHeartbeats 3200000 in
set_option maxRecDepth 100000 in
theorem rtight18_any {w : World} {a : Option Addr} {n c : Nat} {l : List Tg} (hR : Rt w (.slice a n c) l) (hl : l.length ≤ 1000000000) (hn : ∀ t ∈ l, t.num.num.length ≤ 1000000000 ∧ t.num.den.length ≤ 1000000000) (hz : (tightL false l).length ≤ 10000000000) :
    Calls Tryz.prog 16 #[.slice a n c] w fun e w' => e = .returned (.string (str (tightL false l))) ∧ Below w.heap.size w w' := by
  have hnl : n = l.length := by
    obtain ⟨a', c', e⟩ := hR.slice
    simp only [Value.slice.injEq] at e
    exact e.2.1
  subst hnl
  have HR : Hid (Rt w (.slice a l.length c) l) := hR
  have HN : Hid (∀ t ∈ l, t.num.num.length ≤ 1000000000 ∧ t.num.den.length ≤ 1000000000) := hn
  clear hR hn
  go_enter Tryz.func16, Tryz.ntmps16
  go_wp2
  go_loopw [3, 4, 5] (fun ov gv iv wr => ∃ (O : B) (gp : Bool) (i : Nat), ov = .string (str O) ∧ gv = .bool gp ∧ iv = .int .i64 (i : Int) ∧ i ≤ l.length ∧ Hid (O ++ tightL gp (l.drop i) = tightL false l) ∧ Hid (Below w.heap.size w wr)) (fun _ _ i _ => l.length - (RowKit.intOf i).toNat)
  case atStart => exact ⟨[], false, 0, rfl, rfl, rfl, Nat.zero_le _, rfl, Below.refl _ _⟩
  case round =>
    obtain ⟨O, gp, i, rfl, rfl, rfl, hi, HP, HW⟩ := hrel
    by_cases hlt : i < l.length
    · obtain ⟨t, ht⟩ : ∃ t, l[i]? = some t := ⟨_, List.getElem?_eq_getElem hlt⟩
      obtain ⟨g, o, rfl, hcell⟩ := HR.out.at ht
      have hdr : l.drop i = t :: l.drop (i + 1) := by
        rw [List.drop_eq_getElem_cons hlt]
        rw [List.getElem?_eq_getElem hlt] at ht
        rw [Option.some.inj ht]
      obtain ⟨hn1, hn2⟩ := HN.out t (List.mem_of_getElem? ht)
      have hii : (i : Int) < (l.length : Int) := by omega
      have lo : ∀ {p : Addr} {u : Value}, w.cell? p = some u → wr.cell? p = some u := fun {p u} h => (HW.out.cell (cell_lt h)).trans h
      have p0 : wr.cell? ⟨g, o + i * 9, none⟩ = some (.int .i64 t.kind) := lo (hcell 0 _ rfl)
      have p1 : wr.cell? ⟨g, o + i * 9 + 1, none⟩ = some (.int .i64 t.fr) := lo (hcell 1 _ rfl)
      have p2 : wr.cell? ⟨g, o + i * 9 + 2, none⟩ = some (.int .i64 t.till) := lo (hcell 2 _ rfl)
      have p3 : wr.cell? ⟨g, o + i * 9 + 3, none⟩ = some (.string (str t.word)) := lo (hcell 3 _ rfl)
      have p4 : wr.cell? ⟨g, o + i * 9 + 4, none⟩ = some (.int .i64 t.num.kind) := lo (hcell 4 _ rfl)
      have p5 : wr.cell? ⟨g, o + i * 9 + 5, none⟩ = some (.bool t.num.neg) := lo (hcell 5 _ rfl)
      have p6 : wr.cell? ⟨g, o + i * 9 + 6, none⟩ = some (.string (str t.num.num)) := lo (hcell 6 _ rfl)
      have p7 : wr.cell? ⟨g, o + i * 9 + 7, none⟩ = some (.int .i64 t.num.exp) := lo (hcell 7 _ rfl)
      have p8 : wr.cell? ⟨g, o + i * 9 + 8, none⟩ = some (.string (str t.num.den)) := lo (hcell 8 _ rfl)
      clear hcell lo
      have cT := rtext18_any t hn1 hn2 wr
      unfold tgA tkA at cT
      have hOL : O.length + (txT t).length ≤ (tightL false l).length + 1 := by
        rw [← HP.out, hdr, tight_cons]
        split
        · rename_i h; rw [h]; simp; omega
        · simp; omega
      have hs1 : (str O).size = O.length := str_size O
      have hs2 : (str (txT t)).size = (txT t).length := str_size _
      cases htx0 : (txT t).isEmpty
      · have hne : txT t ≠ [] := fun e => by rw [e] at htx0; cases htx0
        have hsE : (str (txT t)).toList.isEmpty = false := by rw [Lib.toList_data, str_list]; exact htx0
        have HP2 : Hid ((O ++ ((if (gp && gapT t) = true then [32] else []) ++ txT t)) ++ tightL (gapT t) (l.drop (i + 1)) = tightL false l) := by
          show _ = _
          rw [← HP.out, hdr, tight_cons, if_neg hne, List.append_assoc, List.append_assoc]
        have x1 : str O ++ str (txT t) = str (O ++ txT t) := cat_str9b _ _
        have x2 : str O ++ ByteArray.mk #[32] ++ str (txT t) = str (O ++ ([32] ++ txT t)) := by
          apply ByteArray.ext
          simp [str]
        have HX1 : Hid _ := x1
        have HX2 : Hid _ := x2
        generalize gapT t = gt at *
        clear HP hdr htx0 hne x1 x2
        generalize str (txT t) = TX at *
        cases gp <;> cases gt
        all_goals
          go_wp2_with fail
          refine cT.mono ?_
          rintro e w2 ⟨rfl, hb2⟩
          have HW2 : Hid (Below w.heap.size w w2) := HW.out.trans (hb2.mono HW.out.size)
          clear cT hb2
          go_wp2
          go_roundw
          case rel =>
            first
              | exact ⟨O ++ txT t, _, i + 1, by rw [HX1.out], rfl, by go_num, by omega, HP2, HW2⟩
              | exact ⟨O ++ ([32] ++ txT t), _, i + 1, by rw [HX2.out], rfl, by go_num, by omega, HP2, HW2⟩
          case measure => simp [RowKit.intOf]; omega
      · have he : txT t = [] := by simpa using htx0
        have HP2 : Hid (O ++ tightL gp (l.drop (i + 1)) = tightL false l) := by
          show _ = _
          rw [← HP.out, hdr, tight_cons, if_pos he]
        rw [he] at cT
        have hE0 : str [] = ByteArray.mk #[] := rfl
        rw [hE0] at cT
        clear HP hdr htx0 hE0 hs2 hOL
        generalize gapT t = gt at *
        go_wp2_with fail
        refine cT.mono ?_
        rintro e w2 ⟨rfl, hb2⟩
        have HW2 : Hid (Below w.heap.size w w2) := HW.out.trans (hb2.mono HW.out.size)
        clear cT hb2
        go_wp2
        go_roundw
        case rel => exact ⟨O, gp, i + 1, rfl, rfl, by go_num, by omega, HP2, HW2⟩
        case measure => simp [RowKit.intOf]; omega
    · have hii : ¬ (i : Int) < (l.length : Int) := by omega
      have hie : i = l.length := by omega
      subst hie
      have hO : O = tightL false l := by
        have := HP.out
        rw [List.drop_length] at this
        rw [← this]
        cases gp <;> simp [tightL]
      go_wp2
      go_ret
      exact ⟨rfl, HW.out⟩
end Go.Proofs.YtfgpjplfplbcdaaGreatDoor

/- Layer 18: tokens written tight are read again; no blank can be left out: by numbers alone. -/
namespace Go.Proofs.YtfgpjplfplbcdaaGreatDoor
set_option linter.unusedVariables false
set_option linter.unusedSimpArgs false
open Lx
namespace Tk
/-- the digits of a reading are of its kind -/
def Qn (n : Nat) (p : Pc) : Prop := (p.kind ≠ 2 → p.ahead.all isD = true ∧ p.behind.all isD = true) ∧ (p.kind ≠ 3 → p.den = []) ∧ p.ahead.length + p.behind.length ≤ n
theorem q_finE {n : Nat} {rd wh : Pc} {k : Nat} {l : B} (h1 : Qn n rd) (h2 : Qn n wh) : Qn n (finE rd wh k l) := by
  unfold finE
  split
  · exact h2
  · exact h1
theorem q_finSlash {n : Nat} {rd wh : Pc} {k : Nat} {l : B} (h1 : Qn n rd) (h0 : rd.kind ≠ 2) (h2 : Qn n wh) : Qn n (finSlash rd wh k l) := by
  unfold finSlash
  split
  · exact h2
  · exact ⟨fun _ => h1.1 h0, fun h => absurd rfl h, h1.2.2⟩
theorem q_finPoint {n : Nat} {rd wh : Pc} {k : Nat} {l : B} (h1 : Qn n rd) (h0 : rd.kind ≠ 2) (hk : rd.ahead.length ≤ k) (hl : k + l.length ≤ n) (h2 : Qn n wh) : Qn n (finPoint rd wh k l) := by
  have ht := tkD_le l
  have hb : Qn n { rd with behind := tkD l, stop := k + (tkD l).length } := ⟨fun h => ⟨(h1.1 h0).1, allD_tk l⟩, h1.2.1, by show rd.ahead.length + (tkD l).length ≤ n; omega⟩
  unfold finPoint
  simp only
  split
  · exact h2
  · split
    · exact q_finE hb hb
    · exact hb
theorem q_finHexPoint {n : Nat} {rd wh : Pc} {k : Nat} {l : B} (h1 : Qn n rd) (h0 : rd.kind = 2) (hk : rd.ahead.length ≤ k) (hl : k + l.length ≤ n) (h2 : Qn n wh) : Qn n (finHexPoint rd wh k l) := by
  have ht := tkH_le l
  have hb : Qn n { rd with behind := tkH l } := ⟨fun h => absurd h0 h, h1.2.1, by show rd.ahead.length + (tkH l).length ≤ n; omega⟩
  unfold finHexPoint
  simp only
  split
  · exact q_finE hb h2
  · exact h2
theorem q_finX {n : Nat} {rd wh : Pc} {k : Nat} {l : B} (hb : rd.behind = []) (hd : rd.den = []) (hl : k + l.length ≤ n) (h2 : Qn n wh) : Qn n (finX rd wh k l) := by
  have ht := tkH_le l
  have hq : Qn n { rd with kind := 2, ahead := tkH l } := ⟨fun h => absurd rfl h, fun _ => hd, by show (tkH l).length + rd.behind.length ≤ n; rw [hb]; simp; omega⟩
  unfold finX
  simp only
  split
  · rename_i hf
    have := tail_len hf
    exact q_finHexPoint hq rfl (by show (tkH l).length ≤ _; omega) (by omega) h2
  · split
    · exact q_finE hq h2
    · exact h2
theorem q_finDigits {n : Nat} {rd wh : Pc} {k : Nat} {l : B} (h1 : Qn n rd) (h0 : rd.kind = 1) (hb : rd.behind = []) (hd : rd.den = []) (hk : rd.ahead.length ≤ k) (hl : k + l.length ≤ n) (h2 : Qn n wh) : Qn n (finDigits rd wh k l) := by
  unfold finDigits
  split
  · rename_i hf
    have := tail_len hf
    exact q_finPoint h1 (by omega) (by omega) (by omega) h2
  · split
    · exact q_finE h1 h2
    · split
      · exact q_finSlash h1 (by omega) h2
      · split
        · rename_i hf
          rw [Bool.and_eq_true] at hf
          have := tail_len hf.2
          exact q_finX hb hd (by omega) h2
        · exact h2
theorem q_finSign {n : Nat} {rd wh : Pc} {k : Nat} {l : B} (hb : rd.behind = []) (hd : rd.den = []) (hl : k + l.length ≤ n) (h2 : Qn n wh) : Qn n (finSign rd wh k l) := by
  have ht := tkD_le l
  have hq : Qn n { rd with kind := 1, ahead := tkD l } := ⟨fun _ => ⟨allD_tk l, by show rd.behind.all isD = true; rw [hb]; rfl⟩, fun _ => hd, by show (tkD l).length + rd.behind.length ≤ n; rw [hb]; simp; omega⟩
  unfold finSign
  simp only
  split
  · exact q_finDigits hq rfl hb hd (by show (tkD l).length ≤ _; omega) (by omega) hq
  · split
    · rename_i hf
      have := tail_len hf
      exact q_finPoint hq (by show (1 : Int) ≠ 2; omega) (by show (tkD l).length ≤ _; omega) (by omega) h2
    · exact h2
theorem q_longest (l : B) : Qn l.length (longestL l) := by
  have hz : Qn l.length Pc.zero := ⟨fun _ => ⟨rfl, rfl⟩, fun _ => rfl, Nat.zero_le _⟩
  unfold longestL finStart
  split
  · rename_i hf
    have := tail_len hf
    exact q_finSign rfl rfl (by omega) hz
  · split
    · rename_i hf
      have := tail_len hf
      exact q_finSign rfl rfl (by omega) hz
    · exact q_finSign rfl rfl (by omega) hz
set_option maxRecDepth 100000 in
theorem low_bytes (c : UInt8) : (isD c = true → digs9.contains (lowB c) = true) ∧ (isH c = true → smal9.contains (lowB c) = true) ∧ (isH c = true → c ≠ 48 → lowB c ≠ 48) := by
  have := bytes18 (p := fun c => (!isD c || digs9.contains (lowB c)) && ((!isH c || smal9.contains (lowB c)) && (!isH c || (c == 48 || lowB c != 48)))) (by decide) c
  simp only [Bool.and_eq_true, Bool.or_eq_true, Bool.not_eq_true', beq_iff_eq, bne_iff_ne] at this
  obtain ⟨a, b, d⟩ := this
  refine ⟨fun h => ?_, fun h => ?_, fun h h2 => ?_⟩
  · rcases a with a | a
    · rw [h] at a; cases a
    · exact a
  · rcases b with a | a
    · rw [h] at a; cases a
    · exact a
  · rcases d with a | a | a
    · rw [h] at a; cases a
    · exact absurd a h2
    · exact a
theorem strip_keep {cs l : B} (hl : l.length ≤ 65536) (hH : l.all isH = true) (hc : ∀ b ∈ l, cs.contains (lowB b) = true) : keptB cs (strip l) = true := by
  have hsub : ∀ b ∈ l.dropWhile (fun b => [48].contains b), b ∈ l := fun b hb => (List.dropWhile_sublist _).subset hb
  have hlen : (l.dropWhile (fun b => [48].contains b)).length ≤ l.length := (List.dropWhile_sublist _).length_le
  unfold keptB strip
  rw [List.length_map]
  simp only [Bool.and_eq_true, decide_eq_true_eq, Bool.not_eq_true', List.all_eq_true]
  refine ⟨by omega, ?_, ?_⟩
  · cases hd : l.dropWhile (fun b => [48].contains b) with
    | nil => rfl
    | cons x r =>
      have hx : ([48] : B).contains x = false := dk_head hd
      have hx48 : x ≠ 48 := fun q => by rw [q] at hx; exact absurd hx (by decide)
      have hin : x ∈ l := hsub x (by rw [hd]; exact List.mem_cons_self ..)
      have := (low_bytes x).2.2 (List.all_eq_true.mp hH x hin) hx48
      show ([48] : B).contains (lowB x) = false
      simpa using this
  · intro b hb
    obtain ⟨a, ha, rfl⟩ := List.mem_map.mp hb
    exact hc a (hsub a ha)
theorem held_with (e : Int) : withB (heldI e) = true := by
  unfold withB heldI
  simp only [Bool.and_eq_true, decide_eq_true_eq]
  split <;> split <;> omega
/-- what is read is a right numeral -/
theorem num_right {l : B} (hl : l.length ≤ 65536) (hk : (longestL l).kind ≠ 0) : rightB (numOf (longestL l)).kind (numOf (longestL l)).num (numOf (longestL l)).exp (numOf (longestL l)).den = true := by
  have ok := ok_longest l
  have q := q_longest l
  have hden : keptB digs9 (strip (longestL l).den) = true := strip_keep (by have := ok.ld; omega) (all_mono (fun _ => isH_of) ok.den) (fun b hb => (low_bytes b).1 (List.all_eq_true.mp ok.den b hb))
  have hall : ((longestL l).ahead ++ (longestL l).behind).all isH = true := by rw [List.all_append, ok.ahead, ok.behind]; rfl
  have hlen : ((longestL l).ahead ++ (longestL l).behind).length ≤ 65536 := by rw [List.length_append]; have := q.2.2; omega
  have hdec : (longestL l).kind ≠ 2 → keptB digs9 (strip ((longestL l).ahead ++ (longestL l).behind)) = true := fun h => strip_keep hlen hall (fun b hb => by
    obtain ⟨a1, a2⟩ := q.1 h
    rcases List.mem_append.mp hb with hb | hb
    · exact (low_bytes b).1 (List.all_eq_true.mp a1 b hb)
    · exact (low_bytes b).1 (List.all_eq_true.mp a2 b hb))
  have hhex : keptB smal9 (strip ((longestL l).ahead ++ (longestL l).behind)) = true := strip_keep hlen hall (fun b hb => (low_bytes b).2.1 (List.all_eq_true.mp hall b hb))
  have hno : (longestL l).kind ≠ 3 → strip (longestL l).den = [] := fun h => by rw [q.2.1 h]; rfl
  unfold numOf
  simp only
  unfold rightB
  rcases ok.kd with h | h | h | h
  · exact absurd h hk
  · rw [if_pos h, if_pos h, hdec (by omega), hno (by omega), held_with]
    rfl
  · rw [if_neg (by omega), if_pos h, if_neg (by omega), if_pos h, hhex, hno (by omega), held_with]
    rfl
  · rw [if_neg (by omega), if_neg (by omega), if_pos h, if_neg (by omega), if_neg (by omega), hdec (by omega), hden]
    rfl
/-- a token as one that is read -/
structure TOk (c : Ct) : Prop where
  kinds : (c.kind = 1 ∧ c.num = nmZ0 ∧ c.word ≠ [] ∧ c.word.all isLt = true ∧ c.word.map upB = c.word) ∨ (c.kind = 2 ∧ c.num = nmZ0 ∧ c.word = []) ∨ (c.kind = 3 ∧ c.num = nmZ0 ∧ c.word = []) ∨ (c.kind = 4 ∧ c.num = nmZ0 ∧ c.word = []) ∨ (c.kind = 5 ∧ c.word = [] ∧ rightB c.num.kind c.num.num c.num.exp c.num.den = true)
set_option maxRecDepth 100000 in
theorem up_bytes (c : UInt8) (h : isLt c = true) : isLt (upB c) = true ∧ upB (upB c) = upB c := by
  have := bytes18 (p := fun c => !isLt c || (isLt (upB c) && upB (upB c) == upB c)) (by decide) c
  rw [h] at this
  simpa using this
theorem Toks.ok {k : Nat} {r : B} {l : List Ct} {e : Option Nat} (h : Toks k r l e) : ∀ c ∈ l, TOk c := by
  induction h with
  | nil _ => intro c hc; cases hc
  | bad _ => intro c hc; cases hc
  | @cons k r l e hp _ ih =>
    intro c hc
    rcases List.mem_cons.mp hc with rfl | hc
    · have hk := cut_k hp
      have hp2 := (rest_parts hp).2
      have hu := hk.up
      unfold pieceR at hp2
      rcases hk.kinds with h | h | h | h | h
      · obtain ⟨a1, a2, a3, a4, _⟩ := h
        refine ⟨Or.inl ⟨a1, a2, ?_, ?_, ?_⟩⟩
        · show (cutR r).word ≠ []
          rw [a3]
          intro q
          have := congrArg List.length q
          rw [List.length_map, hp2] at this
          simp at this; omega
        · show (cutR r).word.all isLt = true
          rw [a3, List.all_map, List.all_eq_true]
          intro x hx
          exact (up_bytes x (List.all_eq_true.mp a4 x hx)).1
        · show (cutR r).word.map upB = (cutR r).word
          rw [a3, List.map_map]
          apply List.map_congr_left
          intro x hx
          exact (up_bytes x (List.all_eq_true.mp a4 x hx)).2
      · exact ⟨Or.inr (Or.inl ⟨h.1, h.2.1, h.2.2.1⟩)⟩
      · exact ⟨Or.inr (Or.inr (Or.inl ⟨h.1, h.2.1, h.2.2.1⟩))⟩
      · exact ⟨Or.inr (Or.inr (Or.inr (Or.inl ⟨h.1, h.2.1, h.2.2.1⟩)))⟩
      · obtain ⟨a1, a2, a3, a4, a5, a6, _⟩ := h
        refine ⟨Or.inr (Or.inr (Or.inr (Or.inr ⟨a1, a2, ?_⟩)))⟩
        show rightB (cutR r).num.kind (cutR r).num.num (cutR r).num.exp (cutR r).num.den = true
        rw [a6]
        exact num_right (by rw [hp2]; omega) a3
    · exact ih c hc
end Tk
end Go.Proofs.YtfgpjplfplbcdaaGreatDoor

