import Derived.Below
import Derived.BigQuiet
import Derived.ChangeOld
import Derived.Deep.CutRange
import Derived.Deep.LoopGhost
import Derived.Deep.QuietTactic
import Derived.Deep.RegionHeld3
import Derived.Deep.RegionWith
import Derived.Deep.WholeRow
import Derived.KernelRfl
import Derived.LaidEql
import Derived.Laws.AppendOwn
import Derived.Laws.BitsAllLaws
import Derived.Laws.CopyRow
import Derived.Laws.EntriesVeiled
import Derived.Laws.Externs
import Derived.Laws.IdiomCopy
import Derived.Laws.IdiomRangeMap
import Derived.Laws.RangeString
import Derived.Laws.ResultCell
import Derived.Laws.Runes
import Derived.Laws.Strings3
import Derived.Lib.AppendIntMem
import Derived.Lib.AsciiSet
import Derived.Lib.Builder
import Derived.Lib.Bytealg
import Derived.Lib.IndexBytes
import Derived.Lib.ItoaLen
import Derived.Lib.ItoaNum
import Derived.Lib.Strings
import Derived.Lib.TrimByte
import Derived.Lib.Walk
import Derived.OpenShut
import Derived.OwnWalk
import Derived.ProofKit
import Derived.RowKitTokens
import Derived.Shelf.Strconv.Clone
import Derived.Shelf.Strconv.Itoa3
import Derived.Shelf.Strings.BuilderK
import Derived.Shelf.Strings.OnBuilder
import Derived.ShutString
import Derived.Stop.Asserts
import Derived.WalkKit
import Derived.WalkLawsBesides
import Derived.WalkSpells
import Derived.Test.YtfgpjplfplbcdaaGreatDoorPl1
import Derived.Test.YtfgpjplfplbcdaaGreatDoorPl11
import Derived.Test.YtfgpjplfplbcdaaGreatDoorPl13
import Derived.Test.YtfgpjplfplbcdaaGreatDoorPl24
/- Layer 18: tokens written tight are read again; no blank can be left out: by numbers alone. -/
namespace Go.Proofs.YtfgpjplfplbcdaaGreatDoor
set_option linter.unusedVariables false
set_option linter.unusedSimpArgs false
open Lx
namespace Tk
/-- the digits of a reading are of its kind -/
def Qn (n : Nat) (p : Pc) : Prop := (p.kind ≠ 2 → p.ahead.all isD = true ∧ p.behind.all isD = true) ∧ (p.kind ≠ 3 → p.den = []) ∧ p.ahead.length + p.behind.length ≤ n
theorem q_finE {n : Nat} {rd wh : Pc} {k : Nat} {l : B} (h1 : Qn n rd) (h2 : Qn n wh) : Qn n (finE rd wh k l) := by
  unfold finE
  split
  · exact h2
  · exact h1
theorem q_finSlash {n : Nat} {rd wh : Pc} {k : Nat} {l : B} (h1 : Qn n rd) (h0 : rd.kind ≠ 2) (h2 : Qn n wh) : Qn n (finSlash rd wh k l) := by
  unfold finSlash
  split
  · exact h2
  · exact ⟨fun _ => h1.1 h0, fun h => absurd rfl h, h1.2.2⟩
theorem q_finPoint {n : Nat} {rd wh : Pc} {k : Nat} {l : B} (h1 : Qn n rd) (h0 : rd.kind ≠ 2) (hk : rd.ahead.length ≤ k) (hl : k + l.length ≤ n) (h2 : Qn n wh) : Qn n (finPoint rd wh k l) := by
  have ht := tkD_le l
  have hb : Qn n { rd with behind := tkD l, stop := k + (tkD l).length } := ⟨fun h => ⟨(h1.1 h0).1, allD_tk l⟩, h1.2.1, by show rd.ahead.length + (tkD l).length ≤ n; omega⟩
  unfold finPoint
  simp only
  split
  · exact h2
  · split
    · exact q_finE hb hb
    · exact hb
theorem q_finHexPoint {n : Nat} {rd wh : Pc} {k : Nat} {l : B} (h1 : Qn n rd) (h0 : rd.kind = 2) (hk : rd.ahead.length ≤ k) (hl : k + l.length ≤ n) (h2 : Qn n wh) : Qn n (finHexPoint rd wh k l) := by
  have ht := tkH_le l
  have hb : Qn n { rd with behind := tkH l } := ⟨fun h => absurd h0 h, h1.2.1, by show rd.ahead.length + (tkH l).length ≤ n; omega⟩
  unfold finHexPoint
  simp only
  split
  · exact q_finE hb h2
  · exact h2
theorem q_finX {n : Nat} {rd wh : Pc} {k : Nat} {l : B} (hb : rd.behind = []) (hd : rd.den = []) (hl : k + l.length ≤ n) (h2 : Qn n wh) : Qn n (finX rd wh k l) := by
  have ht := tkH_le l
  have hq : Qn n { rd with kind := 2, ahead := tkH l } := ⟨fun h => absurd rfl h, fun _ => hd, by show (tkH l).length + rd.behind.length ≤ n; rw [hb]; simp; omega⟩
  unfold finX
  simp only
  split
  · rename_i hf
    have := tail_len hf
    exact q_finHexPoint hq rfl (by show (tkH l).length ≤ _; omega) (by omega) h2
  · split
    · exact q_finE hq h2
    · exact h2
theorem q_finDigits {n : Nat} {rd wh : Pc} {k : Nat} {l : B} (h1 : Qn n rd) (h0 : rd.kind = 1) (hb : rd.behind = []) (hd : rd.den = []) (hk : rd.ahead.length ≤ k) (hl : k + l.length ≤ n) (h2 : Qn n wh) : Qn n (finDigits rd wh k l) := by
  unfold finDigits
  split
  · rename_i hf
    have := tail_len hf
    exact q_finPoint h1 (by omega) (by omega) (by omega) h2
  · split
    · exact q_finE h1 h2
    · split
      · exact q_finSlash h1 (by omega) h2
      · split
        · rename_i hf
          rw [Bool.and_eq_true] at hf
          have := tail_len hf.2
          exact q_finX hb hd (by omega) h2
        · exact h2
theorem q_finSign {n : Nat} {rd wh : Pc} {k : Nat} {l : B} (hb : rd.behind = []) (hd : rd.den = []) (hl : k + l.length ≤ n) (h2 : Qn n wh) : Qn n (finSign rd wh k l) := by
  have ht := tkD_le l
  have hq : Qn n { rd with kind := 1, ahead := tkD l } := ⟨fun _ => ⟨allD_tk l, by show rd.behind.all isD = true; rw [hb]; rfl⟩, fun _ => hd, by show (tkD l).length + rd.behind.length ≤ n; rw [hb]; simp; omega⟩
  unfold finSign
  simp only
  split
  · exact q_finDigits hq rfl hb hd (by show (tkD l).length ≤ _; omega) (by omega) hq
  · split
    · rename_i hf
      have := tail_len hf
      exact q_finPoint hq (by show (1 : Int) ≠ 2; omega) (by show (tkD l).length ≤ _; omega) (by omega) h2
    · exact h2
theorem q_longest (l : B) : Qn l.length (longestL l) := by
  have hz : Qn l.length Pc.zero := ⟨fun _ => ⟨rfl, rfl⟩, fun _ => rfl, Nat.zero_le _⟩
  unfold longestL finStart
  split
  · rename_i hf
    have := tail_len hf
    exact q_finSign rfl rfl (by omega) hz
  · split
    · rename_i hf
      have := tail_len hf
      exact q_finSign rfl rfl (by omega) hz
    · exact q_finSign rfl rfl (by omega) hz
set_option maxRecDepth 100000 in
theorem low_bytes (c : UInt8) : (isD c = true → digs9.contains (lowB c) = true) ∧ (isH c = true → smal9.contains (lowB c) = true) ∧ (isH c = true → c ≠ 48 → lowB c ≠ 48) := by
  have := bytes18 (p := fun c => (!isD c || digs9.contains (lowB c)) && ((!isH c || smal9.contains (lowB c)) && (!isH c || (c == 48 || lowB c != 48)))) (by decide) c
  simp only [Bool.and_eq_true, Bool.or_eq_true, Bool.not_eq_true', beq_iff_eq, bne_iff_ne] at this
  obtain ⟨a, b, d⟩ := this
  refine ⟨fun h => ?_, fun h => ?_, fun h h2 => ?_⟩
  · rcases a with a | a
    · rw [h] at a; cases a
    · exact a
  · rcases b with a | a
    · rw [h] at a; cases a
    · exact a
  · rcases d with a | a | a
    · rw [h] at a; cases a
    · exact absurd a h2
    · exact a
theorem strip_keep {cs l : B} (hl : l.length ≤ 65536) (hH : l.all isH = true) (hc : ∀ b ∈ l, cs.contains (lowB b) = true) : keptB cs (strip l) = true := by
  have hsub : ∀ b ∈ l.dropWhile (fun b => [48].contains b), b ∈ l := fun b hb => (List.dropWhile_sublist _).subset hb
  have hlen : (l.dropWhile (fun b => [48].contains b)).length ≤ l.length := (List.dropWhile_sublist _).length_le
  unfold keptB strip
  rw [List.length_map]
  simp only [Bool.and_eq_true, decide_eq_true_eq, Bool.not_eq_true', List.all_eq_true]
  refine ⟨by omega, ?_, ?_⟩
  · cases hd : l.dropWhile (fun b => [48].contains b) with
    | nil => rfl
    | cons x r =>
      have hx : ([48] : B).contains x = false := dk_head hd
      have hx48 : x ≠ 48 := fun q => by rw [q] at hx; exact absurd hx (by decide)
      have hin : x ∈ l := hsub x (by rw [hd]; exact List.mem_cons_self ..)
      have := (low_bytes x).2.2 (List.all_eq_true.mp hH x hin) hx48
      show ([48] : B).contains (lowB x) = false
      simpa using this
  · intro b hb
    obtain ⟨a, ha, rfl⟩ := List.mem_map.mp hb
    exact hc a (hsub a ha)
theorem held_with (e : Int) : withB (heldI e) = true := by
  unfold withB heldI
  simp only [Bool.and_eq_true, decide_eq_true_eq]
  split <;> split <;> omega
/-- what is read is a right numeral -/
theorem num_right {l : B} (hl : l.length ≤ 65536) (hk : (longestL l).kind ≠ 0) : rightB (numOf (longestL l)).kind (numOf (longestL l)).num (numOf (longestL l)).exp (numOf (longestL l)).den = true := by
  have ok := ok_longest l
  have q := q_longest l
  have hden : keptB digs9 (strip (longestL l).den) = true := strip_keep (by have := ok.ld; omega) (all_mono (fun _ => isH_of) ok.den) (fun b hb => (low_bytes b).1 (List.all_eq_true.mp ok.den b hb))
  have hall : ((longestL l).ahead ++ (longestL l).behind).all isH = true := by rw [List.all_append, ok.ahead, ok.behind]; rfl
  have hlen : ((longestL l).ahead ++ (longestL l).behind).length ≤ 65536 := by rw [List.length_append]; have := q.2.2; omega
  have hdec : (longestL l).kind ≠ 2 → keptB digs9 (strip ((longestL l).ahead ++ (longestL l).behind)) = true := fun h => strip_keep hlen hall (fun b hb => by
    obtain ⟨a1, a2⟩ := q.1 h
    rcases List.mem_append.mp hb with hb | hb
    · exact (low_bytes b).1 (List.all_eq_true.mp a1 b hb)
    · exact (low_bytes b).1 (List.all_eq_true.mp a2 b hb))
  have hhex : keptB smal9 (strip ((longestL l).ahead ++ (longestL l).behind)) = true := strip_keep hlen hall (fun b hb => (low_bytes b).2.1 (List.all_eq_true.mp hall b hb))
  have hno : (longestL l).kind ≠ 3 → strip (longestL l).den = [] := fun h => by rw [q.2.1 h]; rfl
  unfold numOf
  simp only
  unfold rightB
  rcases ok.kd with h | h | h | h
  · exact absurd h hk
  · rw [if_pos h, if_pos h, hdec (by omega), hno (by omega), held_with]
    rfl
  · rw [if_neg (by omega), if_pos h, if_neg (by omega), if_pos h, hhex, hno (by omega), held_with]
    rfl
  · rw [if_neg (by omega), if_neg (by omega), if_pos h, if_neg (by omega), if_neg (by omega), hdec (by omega), hden]
    rfl
/-- a token as one that is read -/
structure TOk (c : Ct) : Prop where
  kinds : (c.kind = 1 ∧ c.num = nmZ0 ∧ c.word ≠ [] ∧ c.word.all isLt = true ∧ c.word.map upB = c.word) ∨ (c.kind = 2 ∧ c.num = nmZ0 ∧ c.word = []) ∨ (c.kind = 3 ∧ c.num = nmZ0 ∧ c.word = []) ∨ (c.kind = 4 ∧ c.num = nmZ0 ∧ c.word = []) ∨ (c.kind = 5 ∧ c.word = [] ∧ rightB c.num.kind c.num.num c.num.exp c.num.den = true)
set_option maxRecDepth 100000 in
theorem up_bytes (c : UInt8) (h : isLt c = true) : isLt (upB c) = true ∧ upB (upB c) = upB c := by
  have := bytes18 (p := fun c => !isLt c || (isLt (upB c) && upB (upB c) == upB c)) (by decide) c
  rw [h] at this
  simpa using this
theorem Toks.ok {k : Nat} {r : B} {l : List Ct} {e : Option Nat} (h : Toks k r l e) : ∀ c ∈ l, TOk c := by
  induction h with
  | nil _ => intro c hc; cases hc
  | bad _ => intro c hc; cases hc
  | @cons k r l e hp _ ih =>
    intro c hc
    rcases List.mem_cons.mp hc with rfl | hc
    · have hk := cut_k hp
      have hp2 := (rest_parts hp).2
      have hu := hk.up
      unfold pieceR at hp2
      rcases hk.kinds with h | h | h | h | h
      · obtain ⟨a1, a2, a3, a4, _⟩ := h
        refine ⟨Or.inl ⟨a1, a2, ?_, ?_, ?_⟩⟩
        · show (cutR r).word ≠ []
          rw [a3]
          intro q
          have := congrArg List.length q
          rw [List.length_map, hp2] at this
          simp at this; omega
        · show (cutR r).word.all isLt = true
          rw [a3, List.all_map, List.all_eq_true]
          intro x hx
          exact (up_bytes x (List.all_eq_true.mp a4 x hx)).1
        · show (cutR r).word.map upB = (cutR r).word
          rw [a3, List.map_map]
          apply List.map_congr_left
          intro x hx
          exact (up_bytes x (List.all_eq_true.mp a4 x hx)).2
      · exact ⟨Or.inr (Or.inl ⟨h.1, h.2.1, h.2.2.1⟩)⟩
      · exact ⟨Or.inr (Or.inr (Or.inl ⟨h.1, h.2.1, h.2.2.1⟩))⟩
      · exact ⟨Or.inr (Or.inr (Or.inr (Or.inl ⟨h.1, h.2.1, h.2.2.1⟩)))⟩
      · obtain ⟨a1, a2, a3, a4, a5, a6, _⟩ := h
        refine ⟨Or.inr (Or.inr (Or.inr (Or.inr ⟨a1, a2, ?_⟩)))⟩
        show rightB (cutR r).num.kind (cutR r).num.num (cutR r).num.exp (cutR r).num.den = true
        rw [a6]
        exact num_right (by rw [hp2]; omega) a3
    · exact ih c hc
end Tk
end Go.Proofs.YtfgpjplfplbcdaaGreatDoor

/- Layer 18: the law's alike. -/
namespace Go.Proofs.YtfgpjplfplbcdaaGreatDoor
open Go.ChangeShapes Go.WideShapes Go.ChangeAt Go.RowKit
open Lx Tk Go.Shelf
set_option linter.unusedVariables false
theorem Tk.bare_at {l m : List Ct} (h : m.map Ct.bare = l.map Ct.bare) {i : Nat} (hi : i < l.length) : ∃ (kk : Int) (f1 t1 f2 t2 : Nat) (wd : B) (nn : Nm), l[i]? = some ⟨kk, f1, t1, wd, nn⟩ ∧ m[i]? = some ⟨kk, f2, t2, wd, nn⟩ := by
  have h2 := congrArg (fun x => x[i]?) h
  simp only [List.getElem?_map] at h2
  cases h1 : l[i]? with
  | none => rw [List.getElem?_eq_getElem hi] at h1; cases h1
  | some c =>
    rw [h1] at h2
    cases h3 : m[i]? with
    | none => rw [h3] at h2; cases h2
    | some d =>
      rw [h3] at h2
      simp only [Option.map_some, Option.some.injEq, Ct.bare, Prod.mk.injEq] at h2
      obtain ⟨a, b, e⟩ := h2
      refine ⟨c.kind, c.fr, c.to, d.fr, d.to, c.word, c.num, rfl, ?_⟩
      rw [← a, ← b, ← e]
set_option maxHeartbeats 3200000 in
set_option maxRecDepth 100000 in
theorem alike18_same {w : World} {v u : Value} {l m : List Ct} (h1 : Rt w v (l.map Ct.tg)) (h2 : Rt w u (m.map Ct.tg)) (hb : m.map Ct.bare = l.map Ct.bare) (hl : l.length ≤ 1000000000) :
    Calls Tryz.prog 19 #[v, u] w fun e w' => e = .returned (.bool true) ∧ Below w.heap.size w w' := by
  obtain ⟨a1, k1, rfl⟩ := h1.slice
  obtain ⟨a2, k2, rfl⟩ := h2.slice
  have hlm : m.length = l.length := by have := congrArg List.length hb; simpa using this
  rw [List.length_map] at h1 h2 ⊢
  rw [List.length_map]
  rw [hlm] at h2 ⊢
  have H1 : Hid (Rt w (.slice a1 l.length k1) (l.map Ct.tg)) := h1
  have H2 : Hid (Rt w (.slice a2 l.length k2) (m.map Ct.tg)) := h2
  have HB : Hid _ := hb
  clear h1 h2 hb hlm
  go_enter Tryz.func19, Tryz.ntmps19
  go_wp2
  go_loopw [5] (fun iv wr => ∃ (i : Nat), iv = .int .i64 (i : Int) ∧ i ≤ l.length ∧ Hid (Below w.heap.size w wr)) (fun i _ => l.length - (intOf i).toNat)
  case atStart => exact ⟨0, rfl, Nat.zero_le _, Below.refl _ _⟩
  case round =>
    obtain ⟨i, rfl, hi, HW⟩ := hrel
    by_cases hlt : i < l.length
    · obtain ⟨kk, f1, t1, f2, t2, wd, nn, e1, e2⟩ := bare_at HB.out hlt
      obtain ⟨g1, o1, rfl, hc1⟩ := H1.out.at (i := i) (t := Ct.tg ⟨kk, f1, t1, wd, nn⟩) (by rw [List.getElem?_map, e1]; rfl)
      obtain ⟨g2, o2, rfl, hc2⟩ := H2.out.at (i := i) (t := Ct.tg ⟨kk, f2, t2, wd, nn⟩) (by rw [List.getElem?_map, e2]; rfl)
      have hii : (i : Int) < (l.length : Int) := by omega
      have p0 : wr.cell? ⟨g1, o1 + i * 9, none⟩ = some (.int .i64 kk) := by
        have h := hc1 0 _ rfl
        exact (HW.out.cell (p := ⟨g1, o1 + i * 9 + 0, none⟩) (cell_lt h)).trans h
      have q0 : wr.cell? ⟨g2, o2 + i * 9, none⟩ = some (.int .i64 kk) := by
        have h := hc2 0 _ rfl
        exact (HW.out.cell (p := ⟨g2, o2 + i * 9 + 0, none⟩) (cell_lt h)).trans h
      have p3 : wr.cell? ⟨g1, o1 + i * 9 + 3, none⟩ = some (.string (str wd)) := by
        have h := hc1 3 _ rfl
        exact (HW.out.cell (p := ⟨g1, o1 + i * 9 + 3, none⟩) (cell_lt h)).trans h
      have q3 : wr.cell? ⟨g2, o2 + i * 9 + 3, none⟩ = some (.string (str wd)) := by
        have h := hc2 3 _ rfl
        exact (HW.out.cell (p := ⟨g2, o2 + i * 9 + 3, none⟩) (cell_lt h)).trans h
      have p4 : wr.cell? ⟨g1, o1 + i * 9 + 4, none⟩ = some (.int .i64 nn.kind) := by
        have h := hc1 4 _ rfl
        exact (HW.out.cell (p := ⟨g1, o1 + i * 9 + 4, none⟩) (cell_lt h)).trans h
      have q4 : wr.cell? ⟨g2, o2 + i * 9 + 4, none⟩ = some (.int .i64 nn.kind) := by
        have h := hc2 4 _ rfl
        exact (HW.out.cell (p := ⟨g2, o2 + i * 9 + 4, none⟩) (cell_lt h)).trans h
      have p5 : wr.cell? ⟨g1, o1 + i * 9 + 5, none⟩ = some (.bool nn.neg) := by
        have h := hc1 5 _ rfl
        exact (HW.out.cell (p := ⟨g1, o1 + i * 9 + 5, none⟩) (cell_lt h)).trans h
      have q5 : wr.cell? ⟨g2, o2 + i * 9 + 5, none⟩ = some (.bool nn.neg) := by
        have h := hc2 5 _ rfl
        exact (HW.out.cell (p := ⟨g2, o2 + i * 9 + 5, none⟩) (cell_lt h)).trans h
      have p6 : wr.cell? ⟨g1, o1 + i * 9 + 6, none⟩ = some (.string (str nn.num)) := by
        have h := hc1 6 _ rfl
        exact (HW.out.cell (p := ⟨g1, o1 + i * 9 + 6, none⟩) (cell_lt h)).trans h
      have q6 : wr.cell? ⟨g2, o2 + i * 9 + 6, none⟩ = some (.string (str nn.num)) := by
        have h := hc2 6 _ rfl
        exact (HW.out.cell (p := ⟨g2, o2 + i * 9 + 6, none⟩) (cell_lt h)).trans h
      have p7 : wr.cell? ⟨g1, o1 + i * 9 + 7, none⟩ = some (.int .i64 nn.exp) := by
        have h := hc1 7 _ rfl
        exact (HW.out.cell (p := ⟨g1, o1 + i * 9 + 7, none⟩) (cell_lt h)).trans h
      have q7 : wr.cell? ⟨g2, o2 + i * 9 + 7, none⟩ = some (.int .i64 nn.exp) := by
        have h := hc2 7 _ rfl
        exact (HW.out.cell (p := ⟨g2, o2 + i * 9 + 7, none⟩) (cell_lt h)).trans h
      have p8 : wr.cell? ⟨g1, o1 + i * 9 + 8, none⟩ = some (.string (str nn.den)) := by
        have h := hc1 8 _ rfl
        exact (HW.out.cell (p := ⟨g1, o1 + i * 9 + 8, none⟩) (cell_lt h)).trans h
      have q8 : wr.cell? ⟨g2, o2 + i * 9 + 8, none⟩ = some (.string (str nn.den)) := by
        have h := hc2 8 _ rfl
        exact (HW.out.cell (p := ⟨g2, o2 + i * 9 + 8, none⟩) (cell_lt h)).trans h
      clear hc1 hc2 e1 e2 H1 H2
      generalize str wd = W1 at *
      generalize str nn.num = W2 at *
      generalize str nn.den = W3 at *
      go_wp2_with fail
      go_quiet (fail)
      go_wp2
      exact ⟨⟨i + 1, by go_num, by omega, below_drewN HW.out _⟩, by simp [intOf]; omega⟩
    · have hii : ¬ (i : Int) < (l.length : Int) := by omega
      go_wp2
      go_ret
      exact ⟨rfl, HW.out⟩
end Go.Proofs.YtfgpjplfplbcdaaGreatDoor

