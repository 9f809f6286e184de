import Derived.Lib.ItoaLen
import Derived.Below
import Derived.BigQuiet
import Derived.ChangeOld
import Derived.Deep.CutRange
import Derived.Deep.LoopGhost
import Derived.Deep.QuietTactic
import Derived.Deep.RegionHeld3
import Derived.Deep.RegionWith
import Derived.Deep.WholeRow
import Derived.KernelRfl
import Derived.LaidEql
import Derived.Laws.AppendOwn
import Derived.Laws.BitsAllLaws
import Derived.Laws.CopyRow
import Derived.Laws.EntriesVeiled
import Derived.Laws.Externs
import Derived.Laws.IdiomCopy
import Derived.Laws.IdiomRangeMap
import Derived.Laws.RangeString
import Derived.Laws.ResultCell
import Derived.Laws.Runes
import Derived.Laws.Strings3
import Derived.Lib.AppendIntMem
import Derived.Lib.AsciiSet
import Derived.Lib.Builder
import Derived.Lib.Bytealg
import Derived.Lib.IndexBytes
import Derived.Lib.ItoaNum
import Derived.Lib.Strings
import Derived.Lib.TrimByte
import Derived.Lib.Walk
import Derived.OpenShut
import Derived.OwnWalk
import Derived.ProofKit
import Derived.RowKitTokens
import Derived.Shelf.Strconv.Clone
import Derived.Shelf.Strconv.Itoa3
import Derived.Shelf.Strings.BuilderK
import Derived.Shelf.Strings.OnBuilder
import Derived.ShutString
import Derived.Stop.Asserts
import Derived.WalkKit
import Derived.WalkLawsBesides
import Derived.WalkSpells
import Derived.Test.YtfgpjplfplbcdaaGreatDoorPb1
import Derived.Test.YtfgpjplfplbcdaaGreatDoorPb15
import Derived.Test.YtfgpjplfplbcdaaGreatDoorPb25
/- Layer 18: tokens written tight are read again; no blank can be left out: by numbers alone. -/
namespace Go.Proofs.YtfgpjplfplbcdaaGreatDoor
set_option linter.unusedVariables false
set_option linter.unusedSimpArgs false
open Lx
namespace Tk
/-- the digits of a reading are of its kind -/
def Qn (n : Nat) (p : Pc) : Prop := (p.kind ≠ 2 → p.ahead.all isD = true ∧ p.behind.all isD = true) ∧ (p.kind ≠ 3 → p.den = []) ∧ p.ahead.length + p.behind.length ≤ n
theorem q_finE {n : Nat} {rd wh : Pc} {k : Nat} {l : B} (h1 : Qn n rd) (h2 : Qn n wh) : Qn n (finE rd wh k l) := by
  unfold finE
  split
  · exact h2
  · exact h1
theorem q_finSlash {n : Nat} {rd wh : Pc} {k : Nat} {l : B} (h1 : Qn n rd) (h0 : rd.kind ≠ 2) (h2 : Qn n wh) : Qn n (finSlash rd wh k l) := by
  unfold finSlash
  split
  · exact h2
  · exact ⟨fun _ => h1.1 h0, fun h => absurd rfl h, h1.2.2⟩
theorem q_finPoint {n : Nat} {rd wh : Pc} {k : Nat} {l : B} (h1 : Qn n rd) (h0 : rd.kind ≠ 2) (hk : rd.ahead.length ≤ k) (hl : k + l.length ≤ n) (h2 : Qn n wh) : Qn n (finPoint rd wh k l) := by
  have ht := tkD_le l
  have hb : Qn n { rd with behind := tkD l, stop := k + (tkD l).length } := ⟨fun h => ⟨(h1.1 h0).1, allD_tk l⟩, h1.2.1, by show rd.ahead.length + (tkD l).length ≤ n; omega⟩
  unfold finPoint
  simp only
  split
  · exact h2
  · split
    · exact q_finE hb hb
    · exact hb
theorem q_finHexPoint {n : Nat} {rd wh : Pc} {k : Nat} {l : B} (h1 : Qn n rd) (h0 : rd.kind = 2) (hk : rd.ahead.length ≤ k) (hl : k + l.length ≤ n) (h2 : Qn n wh) : Qn n (finHexPoint rd wh k l) := by
  have ht := tkH_le l
  have hb : Qn n { rd with behind := tkH l } := ⟨fun h => absurd h0 h, h1.2.1, by show rd.ahead.length + (tkH l).length ≤ n; omega⟩
  unfold finHexPoint
  simp only
  split
  · exact q_finE hb h2
  · exact h2
theorem q_finX {n : Nat} {rd wh : Pc} {k : Nat} {l : B} (hb : rd.behind = []) (hd : rd.den = []) (hl : k + l.length ≤ n) (h2 : Qn n wh) : Qn n (finX rd wh k l) := by
  have ht := tkH_le l
  have hq : Qn n { rd with kind := 2, ahead := tkH l } := ⟨fun h => absurd rfl h, fun _ => hd, by show (tkH l).length + rd.behind.length ≤ n; rw [hb]; simp; omega⟩
  unfold finX
  simp only
  split
  · rename_i hf
    have := tail_len hf
    exact q_finHexPoint hq rfl (by show (tkH l).length ≤ _; omega) (by omega) h2
  · split
    · exact q_finE hq h2
    · exact h2
theorem q_finDigits {n : Nat} {rd wh : Pc} {k : Nat} {l : B} (h1 : Qn n rd) (h0 : rd.kind = 1) (hb : rd.behind = []) (hd : rd.den = []) (hk : rd.ahead.length ≤ k) (hl : k + l.length ≤ n) (h2 : Qn n wh) : Qn n (finDigits rd wh k l) := by
  unfold finDigits
  split
  · rename_i hf
    have := tail_len hf
    exact q_finPoint h1 (by omega) (by omega) (by omega) h2
  · split
    · exact q_finE h1 h2
    · split
      · exact q_finSlash h1 (by omega) h2
      · split
        · rename_i hf
          rw [Bool.and_eq_true] at hf
          have := tail_len hf.2
          exact q_finX hb hd (by omega) h2
        · exact h2
theorem q_finSign {n : Nat} {rd wh : Pc} {k : Nat} {l : B} (hb : rd.behind = []) (hd : rd.den = []) (hl : k + l.length ≤ n) (h2 : Qn n wh) : Qn n (finSign rd wh k l) := by
  have ht := tkD_le l
  have hq : Qn n { rd with kind := 1, ahead := tkD l } := ⟨fun _ => ⟨allD_tk l, by show rd.behind.all isD = true; rw [hb]; rfl⟩, fun _ => hd, by show (tkD l).length + rd.behind.length ≤ n; rw [hb]; simp; omega⟩
  unfold finSign
  simp only
  split
  · exact q_finDigits hq rfl hb hd (by show (tkD l).length ≤ _; omega) (by omega) hq
  · split
    · rename_i hf
      have := tail_len hf
      exact q_finPoint hq (by show (1 : Int) ≠ 2; omega) (by show (tkD l).length ≤ _; omega) (by omega) h2
    · exact h2
theorem q_longest (l : B) : Qn l.length (longestL l) := by
  have hz : Qn l.length Pc.zero := ⟨fun _ => ⟨rfl, rfl⟩, fun _ => rfl, Nat.zero_le _⟩
  unfold longestL finStart
  split
  · rename_i hf
    have := tail_len hf
    exact q_finSign rfl rfl (by omega) hz
  · split
    · rename_i hf
      have := tail_len hf
      exact q_finSign rfl rfl (by omega) hz
    · exact q_finSign rfl rfl (by omega) hz
set_option maxRecDepth 100000 in
theorem low_bytes (c : UInt8) : (isD c = true → digs9.contains (lowB c) = true) ∧ (isH c = true → smal9.contains (lowB c) = true) ∧ (isH c = true → c ≠ 48 → lowB c ≠ 48) := by
  have := bytes18 (p := fun c => (!isD c || digs9.contains (lowB c)) && ((!isH c || smal9.contains (lowB c)) && (!isH c || (c == 48 || lowB c != 48)))) (by decide) c
  simp only [Bool.and_eq_true, Bool.or_eq_true, Bool.not_eq_true', beq_iff_eq, bne_iff_ne] at this
  obtain ⟨a, b, d⟩ := this
  refine ⟨fun h => ?_, fun h => ?_, fun h h2 => ?_⟩
  · rcases a with a | a
    · rw [h] at a; cases a
    · exact a
  · rcases b with a | a
    · rw [h] at a; cases a
    · exact a
  · rcases d with a | a | a
    · rw [h] at a; cases a
    · exact absurd a h2
    · exact a
theorem strip_keep {cs l : B} (hl : l.length ≤ 65536) (hH : l.all isH = true) (hc : ∀ b ∈ l, cs.contains (lowB b) = true) : keptB cs (strip l) = true := by
  have hsub : ∀ b ∈ l.dropWhile (fun b => [48].contains b), b ∈ l := fun b hb => (List.dropWhile_sublist _).subset hb
  have hlen : (l.dropWhile (fun b => [48].contains b)).length ≤ l.length := (List.dropWhile_sublist _).length_le
  unfold keptB strip
  rw [List.length_map]
  simp only [Bool.and_eq_true, decide_eq_true_eq, Bool.not_eq_true', List.all_eq_true]
  refine ⟨by omega, ?_, ?_⟩
  · cases hd : l.dropWhile (fun b => [48].contains b) with
    | nil => rfl
    | cons x r =>
      have hx : ([48] : B).contains x = false := dk_head hd
      have hx48 : x ≠ 48 := fun q => by rw [q] at hx; exact absurd hx (by decide)
      have hin : x ∈ l := hsub x (by rw [hd]; exact List.mem_cons_self ..)
      have := (low_bytes x).2.2 (List.all_eq_true.mp hH x hin) hx48
      show ([48] : B).contains (lowB x) = false
      simpa using this
  · intro b hb
    obtain ⟨a, ha, rfl⟩ := List.mem_map.mp hb
    exact hc a (hsub a ha)
theorem held_with (e : Int) : withB (heldI e) = true := by
  unfold withB heldI
  simp only [Bool.and_eq_true, decide_eq_true_eq]
  split <;> split <;> omega
/-- what is read is a right numeral -/
theorem num_right {l : B} (hl : l.length ≤ 65536) (hk : (longestL l).kind ≠ 0) : rightB (numOf (longestL l)).kind (numOf (longestL l)).num (numOf (longestL l)).exp (numOf (longestL l)).den = true := by
  have ok := ok_longest l
  have q := q_longest l
  have hden : keptB digs9 (strip (longestL l).den) = true := strip_keep (by have := ok.ld; omega) (all_mono (fun _ => isH_of) ok.den) (fun b hb => (low_bytes b).1 (List.all_eq_true.mp ok.den b hb))
  have hall : ((longestL l).ahead ++ (longestL l).behind).all isH = true := by rw [List.all_append, ok.ahead, ok.behind]; rfl
  have hlen : ((longestL l).ahead ++ (longestL l).behind).length ≤ 65536 := by rw [List.length_append]; have := q.2.2; omega
  have hdec : (longestL l).kind ≠ 2 → keptB digs9 (strip ((longestL l).ahead ++ (longestL l).behind)) = true := fun h => strip_keep hlen hall (fun b hb => by
    obtain ⟨a1, a2⟩ := q.1 h
    rcases List.mem_append.mp hb with hb | hb
    · exact (low_bytes b).1 (List.all_eq_true.mp a1 b hb)
    · exact (low_bytes b).1 (List.all_eq_true.mp a2 b hb))
  have hhex : keptB smal9 (strip ((longestL l).ahead ++ (longestL l).behind)) = true := strip_keep hlen hall (fun b hb => (low_bytes b).2.1 (List.all_eq_true.mp hall b hb))
  have hno : (longestL l).kind ≠ 3 → strip (longestL l).den = [] := fun h => by rw [q.2.1 h]; rfl
  unfold numOf
  simp only
  unfold rightB
  rcases ok.kd with h | h | h | h
  · exact absurd h hk
  · rw [if_pos h, if_pos h, hdec (by omega), hno (by omega), held_with]
    rfl
  · rw [if_neg (by omega), if_pos h, if_neg (by omega), if_pos h, hhex, hno (by omega), held_with]
    rfl
  · rw [if_neg (by omega), if_neg (by omega), if_pos h, if_neg (by omega), if_neg (by omega), hdec (by omega), hden]
    rfl
/-- a token as one that is read -/
structure TOk (c : Ct) : Prop where
  kinds : (c.kind = 1 ∧ c.num = nmZ0 ∧ c.word ≠ [] ∧ c.word.all isLt = true ∧ c.word.map upB = c.word) ∨ (c.kind = 2 ∧ c.num = nmZ0 ∧ c.word = []) ∨ (c.kind = 3 ∧ c.num = nmZ0 ∧ c.word = []) ∨ (c.kind = 4 ∧ c.num = nmZ0 ∧ c.word = []) ∨ (c.kind = 5 ∧ c.word = [] ∧ rightB c.num.kind c.num.num c.num.exp c.num.den = true)
set_option maxRecDepth 100000 in
theorem up_bytes (c : UInt8) (h : isLt c = true) : isLt (upB c) = true ∧ upB (upB c) = upB c := by
  have := bytes18 (p := fun c => !isLt c || (isLt (upB c) && upB (upB c) == upB c)) (by decide) c
  rw [h] at this
  simpa using this
theorem Toks.ok {k : Nat} {r : B} {l : List Ct} {e : Option Nat} (h : Toks k r l e) : ∀ c ∈ l, TOk c := by
  induction h with
  | nil _ => intro c hc; cases hc
  | bad _ => intro c hc; cases hc
  | @cons k r l e hp _ ih =>
    intro c hc
    rcases List.mem_cons.mp hc with rfl | hc
    · have hk := cut_k hp
      have hp2 := (rest_parts hp).2
      have hu := hk.up
      unfold pieceR at hp2
      rcases hk.kinds with h | h | h | h | h
      · obtain ⟨a1, a2, a3, a4, _⟩ := h
        refine ⟨Or.inl ⟨a1, a2, ?_, ?_, ?_⟩⟩
        · show (cutR r).word ≠ []
          rw [a3]
          intro q
          have := congrArg List.length q
          rw [List.length_map, hp2] at this
          simp at this; omega
        · show (cutR r).word.all isLt = true
          rw [a3, List.all_map, List.all_eq_true]
          intro x hx
          exact (up_bytes x (List.all_eq_true.mp a4 x hx)).1
        · show (cutR r).word.map upB = (cutR r).word
          rw [a3, List.map_map]
          apply List.map_congr_left
          intro x hx
          exact (up_bytes x (List.all_eq_true.mp a4 x hx)).2
      · exact ⟨Or.inr (Or.inl ⟨h.1, h.2.1, h.2.2.1⟩)⟩
      · exact ⟨Or.inr (Or.inr (Or.inl ⟨h.1, h.2.1, h.2.2.1⟩))⟩
      · exact ⟨Or.inr (Or.inr (Or.inr (Or.inl ⟨h.1, h.2.1, h.2.2.1⟩)))⟩
      · obtain ⟨a1, a2, a3, a4, a5, a6, _⟩ := h
        refine ⟨Or.inr (Or.inr (Or.inr (Or.inr ⟨a1, a2, ?_⟩)))⟩
        show rightB (cutR r).num.kind (cutR r).num.num (cutR r).num.exp (cutR r).num.den = true
        rw [a6]
        exact num_right (by rw [hp2]; omega) a3
    · exact ih c hc
set_option maxRecDepth 100000 in
theorem dig_bytes (c : UInt8) (h : isD c = true ∨ c = 45) : isBl c = false ∧ isLt c = false ∧ c ≠ 40 ∧ c ≠ 41 ∧ c ≠ 44 := by
  have := bytes18 (p := fun c => !(isD c || c == 45) || (!isBl c && (!isLt c && (c != 40 && (c != 41 && c != 44))))) (by decide) c
  have h2 : (isD c || c == 45) = true := by rcases h with h | h <;> simp [h]
  rw [h2] at this
  simpa using this
theorem tx_head {k e : Int} {ng : Bool} {num den : B} (h : rightB k num e den = true) : ∃ y q, txL k ng num e den = y :: q ∧ (isD y = true ∨ y = 45) := by
  cases ng with
  | true => exact ⟨45, _, rfl, Or.inr rfl⟩
  | false =>
    by_cases h2 : k = 2
    · subst h2; exact ⟨48, _, rfl, Or.inl rfl⟩
    · have hk : keptB digs9 num = true := by
        unfold rightB at h
        split at h
        · simp only [Bool.and_eq_true] at h; exact h.1
        · split at h
          · simp only [Bool.and_eq_true] at h; exact h.1
          · cases h
      obtain ⟨d1, d2⟩ := oz_D hk
      cases ho : ozL num with
      | nil => exact absurd ho d2
      | cons y q =>
        rw [ho, List.all_cons, Bool.and_eq_true] at d1
        refine ⟨y, q ++ (if k = 3 then 47 :: ozL den else if k = 2 then 112 :: Lib.itoa e else if e ≠ 0 then 101 :: Lib.itoa e else []), ?_, Or.inl d1.1⟩
        unfold txL
        rw [if_neg (by decide : ¬ false = true), if_neg h2, ho]
        rfl
theorem num_cut {k e : Int} {ng : Bool} {num den : B} (h : rightB k num e den = true) (hl : (txL k ng num e den).length ≤ 65536) {X : B} (hX : shutB X = true) : cutR (txL k ng num e den ++ X) = ⟨5, 0, (txL k ng num e den).length, [], ⟨k, ng, num, e, den⟩⟩ := by
  obtain ⟨y, q, hy, hd⟩ := tx_head (ng := ng) h
  obtain ⟨b1, b2, b3, b4, b5⟩ := dig_bytes y hd
  have rd := text_reads (ng := ng) h [] Stops.nil
  rw [List.append_nil] at rd
  rw [hy] at rd hl ⊢
  rw [cut_shut b1 hX, cut_head b1]
  unfold tokB
  rw [if_neg (by rw [b2]; decide), if_neg b3, if_neg b4, if_neg b5, List.take_of_length_le hl]
  simp only
  rw [if_neg rd.1]
  unfold shutC
  rw [if_pos]
  · rw [rd.2.1, rd.2.2]
  · show shutB ((y :: q).drop (longestL (y :: q)).stop) = true
    rw [rd.2.1, List.drop_length]
    rfl
/-- the text of a token that is read, by itself -/
theorem tx_cut {c : Ct} (h : TOk c) (hl : (txT c.tg).length ≤ 65536 ∨ c.kind ≠ 5) : txT c.tg ≠ [] ∧ ∀ X, (gapT c.tg = true → shutB X = true) → cutR (txT c.tg ++ X) = ⟨c.kind, 0, (txT c.tg).length, c.word, c.num⟩ := by
  obtain ⟨kind, fr, tz, word, num⟩ := c
  have one : ∀ (b : UInt8) (k : Int), txT (Ct.tg ⟨k, fr, tz, [], nmZ0⟩) = [b] → (∀ q, cutR (b :: q) = ⟨k, 0, 1, [], nmZ0⟩) → txT (Ct.tg ⟨k, fr, tz, [], nmZ0⟩) ≠ [] ∧ ∀ X, (gapT (Ct.tg ⟨k, fr, tz, [], nmZ0⟩) = true → shutB X = true) → cutR (txT (Ct.tg ⟨k, fr, tz, [], nmZ0⟩) ++ X) = ⟨k, 0, (txT (Ct.tg ⟨k, fr, tz, [], nmZ0⟩)).length, [], nmZ0⟩ := by
    intro b k h1 h2
    rw [h1]
    exact ⟨by simp, fun X _ => h2 X⟩
  rcases h.kinds with h | h | h | h | h
  · obtain ⟨a1, a2, a3, a4, a5⟩ := h
    simp only at a1 a2 a3 a4 a5
    subst a1; subst a2
    refine ⟨a3, fun X hX => ?_⟩
    have := word_cut a3 a4 (hX rfl)
    rw [a5] at this
    exact this
  · obtain ⟨a1, a2, a3⟩ := h
    simp only at a1 a2 a3
    subst a1; subst a2; subst a3
    exact one 40 2 rfl (fun q => rfl)
  · obtain ⟨a1, a2, a3⟩ := h
    simp only at a1 a2 a3
    subst a1; subst a2; subst a3
    exact one 41 3 rfl (fun q => rfl)
  · obtain ⟨a1, a2, a3⟩ := h
    simp only at a1 a2 a3
    subst a1; subst a2; subst a3
    exact one 44 4 rfl (fun q => rfl)
  · obtain ⟨a1, a2, a3⟩ := h
    simp only at a1 a2 a3
    subst a1; subst a2
    have hx : txT (Ct.tg ⟨5, fr, tz, [], num⟩) = txL num.kind num.neg num.num num.exp num.den := by
      show (if rightB num.kind num.num num.exp num.den = true then txL num.kind num.neg num.num num.exp num.den else []) = _
      rw [if_pos a3]
    have hl : (txT (Ct.tg ⟨5, fr, tz, [], num⟩)).length ≤ 65536 := by
      rcases hl with hl | hl
      · exact hl
      · exact absurd rfl hl
    rw [hx] at hl ⊢
    refine ⟨fun q => ?_, fun X hX => num_cut a3 hl (hX rfl)⟩
    obtain ⟨y, p, hy, _⟩ := tx_head (ng := num.neg) a3
    rw [hy] at q; cases q
/-- tokens that are read, written tight, are read again -/
theorem tight_reads : ∀ (l : List Ct), (∀ c ∈ l, TOk c) → (∀ c ∈ l, (txT c.tg).length ≤ 65536 ∨ c.kind ≠ 5) → ∀ g : Bool, (g = true → shutB (tightL g (l.map Ct.tg)) = true) ∧ ∀ j, ∃ m, Toks j (tightL g (l.map Ct.tg)) m none ∧ m.map Ct.bare = l.map Ct.bare
  | [], _, _, g => ⟨fun _ => by cases g <;> rfl, fun j => ⟨[], by cases g <;> exact .nil rfl, rfl⟩⟩
  | c :: l, h1, h2, g => by
    obtain ⟨x1, x2⟩ := tx_cut (h1 c (List.mem_cons_self ..)) (h2 c (List.mem_cons_self ..))
    obtain ⟨i1, i2⟩ := tight_reads l (fun d hd => h1 d (List.mem_cons_of_mem _ hd)) (fun d hd => h2 d (List.mem_cons_of_mem _ hd)) (gapT c.tg)
    have e : tightL g ((c :: l).map Ct.tg) = (if (g && gapT c.tg) = true then [32] else []) ++ (txT c.tg ++ tightL (gapT c.tg) (l.map Ct.tg)) := by
      rw [List.map_cons, tight_cons, if_neg x1]
    rw [e]
    have hcut := x2 (tightL (gapT c.tg) (l.map Ct.tg)) (fun hg => i1 hg)
    refine ⟨fun hg => ?_, fun j => ?_⟩
    · by_cases hgap : gapT c.tg = true
      · rw [hg, hgap]; rfl
      · have : (g && gapT c.tg) = false := by simp [hgap]
        rw [this, if_neg (by decide), List.nil_append]
        have hk := (h1 c (List.mem_cons_self ..)).kinds
        have hne : c.kind ≠ 1 ∧ c.kind ≠ 5 := by
          have : gapT c.tg = (c.kind == 1 || c.kind == 5) := rfl
          rw [this] at hgap
          simpa using hgap
        rcases hk with h | h | h | h | h
        · exact absurd h.1 hne.1
        · have : txT c.tg = [40] := by unfold txT Ct.tg; simp only [h.1]; rfl
          rw [this]; rfl
        · have : txT c.tg = [41] := by unfold txT Ct.tg; simp only [h.1]; rfl
          rw [this]; rfl
        · have : txT c.tg = [44] := by unfold txT Ct.tg; simp only [h.1]; rfl
          rw [this]; rfl
        · exact absurd h.1 hne.2
    · have hb : (if (g && gapT c.tg) = true then [32] else ([] : B)).all isBl = true := by split <;> rfl
      obtain ⟨m, t1, t2⟩ := i2 (j + (if (g && gapT c.tg) = true then [32] else ([] : B)).length + (txT c.tg).length)
      have hp : 0 < c.kind := by
        rcases (h1 c (List.mem_cons_self ..)).kinds with h | h | h | h | h <;> omega
      refine ⟨_, Toks.bl hb (.cons (by rw [hcut]; exact hp) (l := m) ?_), ?_⟩
      · rw [hcut]
        show Toks _ ((txT c.tg ++ _).drop (txT c.tg).length) m none
        rw [List.drop_left]
        exact t1
      · rw [List.map_cons, List.map_cons, t2, hcut]
        rfl
/-- the text is the same for tokens that are the same but for their places -/
theorem tx_bare {c d : Ct} (h : c.bare = d.bare) : txT c.tg = txT d.tg ∧ gapT c.tg = gapT d.tg := by
  obtain ⟨k1, f1, t1, w1, n1⟩ := c
  obtain ⟨k2, f2, t2, w2, n2⟩ := d
  simp only [Ct.bare, Prod.mk.injEq] at h
  obtain ⟨rfl, rfl, rfl⟩ := h
  exact ⟨rfl, rfl⟩
theorem tight_bare : ∀ (l m : List Ct), m.map Ct.bare = l.map Ct.bare → ∀ g, tightL g (m.map Ct.tg) = tightL g (l.map Ct.tg)
  | [], [], _, g => rfl
  | [], _ :: _, h, g => by simp at h
  | _ :: _, [], h, g => by simp at h
  | c :: l, d :: m, h, g => by
    rw [List.map_cons, List.map_cons, List.cons.injEq] at h
    obtain ⟨e1, e2⟩ := tx_bare h.1
    rw [List.map_cons, List.map_cons, tight_cons, tight_cons, e1, e2, tight_bare l m h.2, tight_bare l m h.2]
end Tk
end Go.Proofs.YtfgpjplfplbcdaaGreatDoor

/- Layer 18: how long tight texts are; a blank left out: by numbers alone. -/
namespace Go.Proofs.YtfgpjplfplbcdaaGreatDoor
set_option linter.unusedVariables false
set_option linter.unusedSimpArgs false
open Lx
namespace Tk
theorem strip_le (l : B) : (strip l).length ≤ l.length := by
  unfold strip
  rw [List.length_map]
  exact (List.dropWhile_sublist _).length_le
theorem tx_le {k e : Int} {ng : Bool} {num den : B} {n : Nat} (h0 : -1073741824 ≤ e) (h1 : e ≤ 1073741824) (hn : num.length ≤ n) (hd : den.length ≤ n) : (txL k ng num e den).length ≤ 2 * n + 30 := by
  have o : ∀ l : B, l.length ≤ n → (ozL l).length ≤ n + 1 := fun l hl => by unfold ozL; split; simp; omega
  have := o num hn
  have := o den hd
  have hi : (Lib.itoa e).length ≤ 21 := Lib.itoa_length_le e (by omega) (by omega)
  unfold txL
  simp only [List.length_append]
  have a1 : (if ng = true then [45] else ([] : B)).length ≤ 1 := by split <;> simp
  have a2 : (if k = 2 then [48, 120] else ([] : B)).length ≤ 2 := by split <;> simp
  have a3 : (if k = 3 then 47 :: ozL den else if k = 2 then 112 :: Lib.itoa e else if e ≠ 0 then 101 :: Lib.itoa e else []).length ≤ n + 24 := by
    split
    · rw [List.length_cons]; omega
    · split
      · rw [List.length_cons]; omega
      · split
        · rw [List.length_cons]; omega
        · simp
  omega
theorem txT_le {r : B} (hp : 0 < (cutR r).kind) (k : Nat) : (txT ((cutR r).move k).tg).length ≤ 2 * ((cutR r).to - (cutR r).fr) + 30 := by
  have hk := cut_k hp
  have hl := (rest_parts hp).2
  unfold pieceR at hl
  have e : ∀ t : Tg, t.kind = 2 ∨ t.kind = 3 ∨ t.kind = 4 → (txT t).length ≤ 1 := by
    intro t ht
    unfold txT
    rcases ht with h | h | h <;> simp [h]
  rcases hk.kinds with h | h | h | h | h
  · have : txT ((cutR r).move k).tg = (cutR r).word := by
      show (if (cutR r).kind = 1 then (cutR r).word else _) = _
      rw [if_pos h.1]
    rw [this, h.2.2.1, List.length_map, hl]
    omega
  · have := e ((cutR r).move k).tg (Or.inl h.1); omega
  · have := e ((cutR r).move k).tg (Or.inr (Or.inl h.1)); omega
  · have := e ((cutR r).move k).tg (Or.inr (Or.inr h.1)); omega
  · obtain ⟨a1, a2, a3, a4, a5, a6, _⟩ := h
    have hr := num_right (l := (r.drop (cutR r).fr).take ((cutR r).to - (cutR r).fr)) (by rw [hl]; omega) a3
    rw [← a6] at hr
    have : txT ((cutR r).move k).tg = txL (cutR r).num.kind (cutR r).num.neg (cutR r).num.num (cutR r).num.exp (cutR r).num.den := by
      show (if (cutR r).kind = 1 then (cutR r).word else if (cutR r).kind = 5 then (if rightB (cutR r).num.kind (cutR r).num.num (cutR r).num.exp (cutR r).num.den = true then txL (cutR r).num.kind (cutR r).num.neg (cutR r).num.num (cutR r).num.exp (cutR r).num.den else []) else _) = _
      rw [if_neg (by omega), if_pos a1, if_pos hr]
    rw [this]
    obtain ⟨_, _, _, r4, r5⟩ := right_kind hr
    have q := q_longest ((r.drop (cutR r).fr).take ((cutR r).to - (cutR r).fr))
    have ok := ok_longest ((r.drop (cutR r).fr).take ((cutR r).to - (cutR r).fr))
    refine tx_le r4 r5 ?_ ?_
    · rw [a6]
      unfold numOf
      have h1 := strip_le ((longestL ((r.drop (cutR r).fr).take ((cutR r).to - (cutR r).fr))).ahead ++ (longestL ((r.drop (cutR r).fr).take ((cutR r).to - (cutR r).fr))).behind)
      rw [List.length_append] at h1
      have h2 := q.2.2
      rw [hl] at h2
      exact Nat.le_trans h1 h2
    · rw [a6]
      unfold numOf
      have h1 := strip_le (longestL ((r.drop (cutR r).fr).take ((cutR r).to - (cutR r).fr))).den
      have h2 := ok.ld
      rw [hl] at h2
      exact Nat.le_trans h1 h2
theorem Toks.tlen {k : Nat} {r : B} {l : List Ct} {e : Option Nat} (h : Toks k r l e) : ∀ g, (tightL g (l.map Ct.tg)).length ≤ 2 * r.length + 31 * l.length := by
  induction h with
  | nil _ => intro g; cases g <;> exact Nat.zero_le _
  | bad _ => intro g; cases g <;> exact Nat.zero_le _
  | @cons k r l e hp _ ih =>
    intro g
    have hx := txT_le hp k
    have hk := cut_k hp
    have h1 := hk.up
    have h2 := hk.le
    rw [List.map_cons, tight_cons, List.length_cons]
    rw [List.length_drop] at ih
    split
    · have := ih g; omega
    · have := ih (gapT ((cutR r).move k).tg)
      rw [List.length_append, List.length_append]
      have a : (if (g && gapT ((cutR r).move k).tg) = true then [32] else ([] : B)).length ≤ 1 := by split <;> simp
      omega
/-- a word or number has no separator in it -/
theorem nosep_num {p : B} (hk : (longestL p).kind ≠ 0) (hs : (longestL p).stop = p.length) : ∀ x ∈ p, isSp x = false := by
  intro x hx
  cases h : isSp x with
  | false => rfl
  | true =>
    obtain ⟨a, b, rfl⟩ := List.append_of_mem hx
    have e := longest_more h b a
    have := longest_le a
    rw [e] at hs
    rw [hs] at this
    simp at this
    omega
theorem nosep_word {p : B} (h : p.all isLt = true) : ∀ x ∈ p, isSp x = false := by
  intro x hx
  cases hs : isSp x with
  | false => rfl
  | true =>
    have h1 := List.all_eq_true.mp h x hx
    rw [sp_lt hs] at h1
    cases h1
theorem nosep_piece {r : B} (hp : 0 < (cutR r).kind) (hg : (cutR r).kind = 1 ∨ (cutR r).kind = 5) : ∀ x ∈ pieceR r (cutR r), isSp x = false := by
  have hk := cut_k hp
  have hl := (rest_parts hp).2
  rcases hk.kinds with h | h | h | h | h
  · exact nosep_word h.2.2.2.1
  · omega
  · omega
  · omega
  · exact nosep_num h.2.2.1 (h.2.2.2.1.trans hl.symm)
theorem nosep_tx {c : Ct} (h : TOk c) (hg : gapT c.tg = true) : ∀ x ∈ txT c.tg, isSp x = false := by
  have hg' : (c.kind == 1 || c.kind == 5) = true := hg
  simp only [Bool.or_eq_true, beq_iff_eq] at hg'
  rcases h.kinds with h | h | h | h | h
  · have : txT c.tg = c.word := by
      show (if c.kind = 1 then c.word else _) = _
      rw [if_pos h.1]
    rw [this]
    exact nosep_word h.2.2.2.1
  · omega
  · omega
  · omega
  · have : txT c.tg = txL c.num.kind c.num.neg c.num.num c.num.exp c.num.den := by
      show (if c.kind = 1 then c.word else if c.kind = 5 then (if rightB c.num.kind c.num.num c.num.exp c.num.den = true then txL c.num.kind c.num.neg c.num.num c.num.exp c.num.den else []) else _) = _
      rw [if_neg (by omega), if_pos h.1, if_pos h.2.2]
    rw [this]
    have rd := text_reads (ng := c.num.neg) h.2.2 [] Stops.nil
    rw [List.append_nil] at rd
    exact nosep_num rd.1 rd.2.1
/-- a blank of a tight text stands between two words or numbers -/
theorem tight_nb : ∀ (l : List Ct), (∀ c ∈ l, TOk c) → ∀ (g : Bool) (P Q : B), tightL g (l.map Ct.tg) = P ++ 32 :: Q → ((P = [] ∧ g = true) ∨ ∃ P' x, P = P' ++ [x] ∧ isSp x = false) ∧ ∃ y Q', Q = y :: Q' ∧ isSp y = false
  | [], _, g, P, Q, h => by
    have : tightL g (([] : List Ct).map Ct.tg) = [] := by cases g <;> rfl
    rw [this] at h
    simp at h
  | c :: l, hok, g, P, Q, h => by
    have hc := hok c (List.mem_cons_self ..)
    have ih := tight_nb l (fun d hd => hok d (List.mem_cons_of_mem _ hd)) (gapT c.tg)
    rw [List.map_cons, tight_cons] at h
    by_cases hx : txT c.tg = []
    · rw [if_pos hx] at h
      exact tight_nb l (fun d hd => hok d (List.mem_cons_of_mem _ hd)) g P Q h
    rw [if_neg hx] at h
    have no32 : ∀ x ∈ txT c.tg, x ≠ 32 := by
      intro x hxm
      by_cases hg : gapT c.tg = true
      · intro e
        have := nosep_tx hc hg x hxm
        rw [e] at this
        exact absurd this (by decide)
      · have hg' : ¬ (c.kind == 1 || c.kind == 5) = true := hg
        simp only [Bool.or_eq_true, beq_iff_eq, not_or] at hg'
        have e : txT c.tg = [40] ∨ txT c.tg = [41] ∨ txT c.tg = [44] := by
          rcases hc.kinds with h | h | h | h | h
          · exact absurd h.1 hg'.1
          · left; unfold txT Ct.tg; simp [h.1]
          · right; left; unfold txT Ct.tg; simp [h.1]
          · right; right; unfold txT Ct.tg; simp [h.1]
          · exact absurd h.1 hg'.2
        rcases e with e | e | e <;> rw [e] at hxm <;> simp at hxm <;> rw [hxm] <;> decide
    -- the rest of the text, from the token's own on
    have key : ∀ P Q, txT c.tg ++ tightL (gapT c.tg) (l.map Ct.tg) = P ++ 32 :: Q → (∃ P' x, P = P' ++ [x] ∧ isSp x = false) ∧ ∃ y Q', Q = y :: Q' ∧ isSp y = false := by
      intro P Q h
      rcases List.append_eq_append_iff.mp h with ⟨a, h1, h2⟩ | ⟨a, h1, h2⟩
      · -- P = txT ++ a, rest = a ++ 32 :: Q
        obtain ⟨b1, b2⟩ := ih a Q h2
        refine ⟨?_, b2⟩
        rcases b1 with ⟨ha, hg⟩ | ⟨P', x, ha, hs⟩
        · subst ha
          rw [List.append_nil] at h1
          rw [h1]
          have hne := hx
          refine ⟨(txT c.tg).dropLast, (txT c.tg).getLast hne, (List.dropLast_concat_getLast hne).symm, ?_⟩
          exact nosep_tx hc hg _ (List.getLast_mem hne)
        · exact ⟨txT c.tg ++ P', x, by rw [h1, ha, List.append_assoc], hs⟩
      · -- txT = P ++ a, 32 :: Q = a ++ rest
        cases a with
        | nil =>
          rw [List.nil_append] at h2
          obtain ⟨b1, b2⟩ := ih [] Q (by rw [← h2]; rfl)
          rw [List.append_nil] at h1
          refine ⟨?_, b2⟩
          rcases b1 with ⟨_, hg⟩ | ⟨P', x, ha, hs⟩
          · have hne := hx
            refine ⟨(txT c.tg).dropLast, (txT c.tg).getLast hne, ?_, nosep_tx hc hg _ (List.getLast_mem hne)⟩
            rw [← h1]
            exact (List.dropLast_concat_getLast hne).symm
          · simp at ha
        | cons y a =>
          rw [List.cons_append, List.cons.injEq] at h2
          exact absurd h2.1.symm (no32 y (by rw [h1]; simp))
    by_cases hb : (g && gapT c.tg) = true
    · rw [if_pos hb] at h
      rw [Bool.and_eq_true] at hb
      cases P with
      | nil =>
        rw [List.nil_append, List.cons_append, List.nil_append, List.cons.injEq] at h
        refine ⟨Or.inl ⟨rfl, hb.1⟩, ?_⟩
        cases ht : txT c.tg with
        | nil => exact absurd ht hx
        | cons y t =>
          rw [ht] at h
          exact ⟨y, t ++ tightL (gapT c.tg) (l.map Ct.tg), by rw [← h.2]; rfl, nosep_tx hc hb.2 y (by rw [ht]; exact List.mem_cons_self ..)⟩
      | cons p P =>
        rw [List.cons_append, List.nil_append, List.cons_append, List.cons.injEq] at h
        obtain ⟨⟨P', x, e1, e2⟩, b2⟩ := key P Q h.2
        exact ⟨Or.inr ⟨p :: P', x, by rw [e1]; rfl, e2⟩, b2⟩
    · rw [if_neg hb, List.nil_append] at h
      obtain ⟨b1, b2⟩ := key P Q h
      exact ⟨Or.inr b1, b2⟩
/-- a text that begins with no separator begins with a word or number -/
theorem cut_gap {y : UInt8} {q : B} (hy : isSp y = false) (hp : 0 < (cutR (y :: q)).kind) : ((cutR (y :: q)).kind = 1 ∨ (cutR (y :: q)).kind = 5) ∧ (cutR (y :: q)).fr = 0 ∧ shutB ((y :: q).drop (cutR (y :: q)).to) = true := by
  have hb : isBl y = false := by
    unfold isSp at hy
    simp only [Bool.or_eq_false_iff] at hy
    exact hy.1.1.1
  have hk := cut_k hp
  have hf : (cutR (y :: q)).fr = 0 := by
    rw [cut_head hb] at hp ⊢
    exact tokB_fr hp
  have hne : ∀ b : UInt8, isSp b = true → ¬ (((y :: q).drop (cutR (y :: q)).fr).take ((cutR (y :: q)).to - (cutR (y :: q)).fr)) = [b] := by
    intro b hb2 h
    rw [hf, List.drop_zero, Nat.sub_zero] at h
    have hu := hk.up
    rw [hf] at hu
    cases ht : (cutR (y :: q)).to with
    | zero => omega
    | succ m =>
      rw [ht, List.take_succ_cons, List.cons.injEq] at h
      rw [h.1, hb2] at hy
      cases hy
  rcases hk.kinds with h | h | h | h | h
  · exact ⟨Or.inl h.1, hf, h.2.2.2.2⟩
  · exact absurd h.2.2.2 (hne 40 rfl)
  · exact absurd h.2.2.2 (hne 41 rfl)
  · exact absurd h.2.2.2 (hne 44 rfl)
  · exact ⟨Or.inr h.1, hf, h.2.2.2.2.2.2⟩
theorem shut_first {x : UInt8} {q : B} (h : shutB (x :: q) = true) : isSp x = true := h
theorem drop_shut {p Z : B} {n : Nat} (hn : ∀ x ∈ p, isSp x = false) (hle : n ≤ p.length) (hs : shutB ((p ++ Z).drop n) = true) : n = p.length := by
  rcases Nat.lt_or_ge n p.length with h | h
  · rw [List.drop_append_of_le_length hle, List.drop_eq_getElem_cons h] at hs
    have := hn p[n] (List.getElem_mem h)
    rw [List.cons_append] at hs
    rw [shut_first hs] at this
    cases this
  · omega
theorem Toks.cons_inv {k : Nat} {r : B} {l : List Ct} (h : Toks k r l none) (hp : (cutR r).kind ≠ 0) : ∃ l', l = (cutR r).move k :: l' ∧ 0 < (cutR r).kind ∧ Toks (k + (cutR r).to) (r.drop (cutR r).to) l' none := by
  cases h with
  | nil h => exact absurd h hp
  | cons h1 h2 => exact ⟨_, rfl, h1, h2⟩
/-- a blank left out between two words or numbers: one token fewer, or an error -/
theorem Toks.glue {k : Nat} {P : B} {l : List Ct} {e : Option Nat} (h : Toks k P l e) : e = none → ∀ P' x, P = P' ++ [x] → isSp x = false → ∀ y Q' n, isSp y = false → (∀ j, ∃ lq, Toks j (y :: Q') lq none ∧ lq.length = n) → ∃ m e', Toks k (P ++ y :: Q') m e' ∧ (e' = none → m.length + 1 = l.length + n) := by
  induction h with
  | @nil k r h =>
    intro _ P' x hP hx
    have hall := cut_nil_all h
    rw [hP, List.all_append, Bool.and_eq_true] at hall
    have h2 := hall.2
    simp only [List.all_cons, List.all_nil, Bool.and_true] at h2
    have : isSp x = true := by unfold isSp; rw [h2]; rfl
    rw [this] at hx
    cases hx
  | bad h => intro he; cases he
  | @cons k r l e hp h1 ih =>
    intro he P' x hP hx y Q' n hy hq
    have hk := cut_k hp
    obtain ⟨p1, p2⟩ := rest_parts hp
    have hup := hk.up
    have hle := hk.le
    have hal : (r.take (cutR r).fr).length = (cutR r).fr := by rw [List.length_take]; omega
    have hne : pieceR r (cutR r) ≠ [] := fun q => by rw [q] at p2; simp at p2; omega
    have hby : isBl y = false := by
      unfold isSp at hy
      simp only [Bool.or_eq_false_iff] at hy
      exact hy.1.1.1
    have shutG : (cutR r).kind = 1 ∨ (cutR r).kind = 5 → shutB (r.drop (cutR r).to) = true := by
      intro hg
      rcases hk.kinds with h | h | h | h | h
      · exact h.2.2.2.2
      · omega
      · omega
      · omega
      · exact h.2.2.2.2.2.2
    by_cases hrest : r.drop (cutR r).to = []
    · -- the last token of P
      have hl0 : l = [] := by
        subst he
        rw [hrest] at h1
        cases h1 with
        | nil _ => rfl
        | cons h _ => exact absurd h (by decide)
      subst hl0
      rw [hrest, List.append_nil] at p1
      -- the piece ends in x
      have hlast : (pieceR r (cutR r)).getLast hne = x := by
        have e1 : r.getLast? = some x := by rw [hP]; simp
        rw [p1, List.getLast?_append] at e1
        rw [List.getLast?_eq_some_getLast hne] at e1
        simpa using e1
      have hgap : (cutR r).kind = 1 ∨ (cutR r).kind = 5 := by
        have one : ∀ b : UInt8, isSp b = true → ¬ (pieceR r (cutR r) = [b]) := by
          intro b hb2 e
          have : (pieceR r (cutR r)).getLast hne = b := by simp only [e, List.getLast_singleton]
          rw [hlast] at this
          rw [this, hb2] at hx
          cases hx
        rcases hk.kinds with h | h | h | h | h
        · exact Or.inl h.1
        · exact absurd h.2.2.2 (one 40 rfl)
        · exact absurd h.2.2.2 (one 41 rfl)
        · exact absurd h.2.2.2 (one 44 rfl)
        · exact Or.inr h.1
      have hno := nosep_piece hp hgap
      cases hpc : pieceR r (cutR r) with
      | nil => exact absurd hpc hne
      | cons u us =>
        have hu : isSp u = false := hno u (by rw [hpc]; exact List.mem_cons_self ..)
        have hbu : isBl u = false := by
          unfold isSp at hu
          simp only [Bool.or_eq_false_iff] at hu
          exact hu.1.1.1
        have hr2 : r ++ y :: Q' = r.take (cutR r).fr ++ ((u :: us) ++ y :: Q') := by
          have : r ++ y :: Q' = (r.take (cutR r).fr ++ pieceR r (cutR r)) ++ y :: Q' := by rw [← p1]
          rw [this, hpc, List.append_assoc]
        rw [hr2]
        have hcb := cut_bl hk.bl ((u :: us) ++ y :: Q')
        -- the first token of Q
        obtain ⟨lq, hlq, hln⟩ := hq (k + (cutR r).fr + (us.length + 1))
        obtain ⟨lz, rfl, q1, q2⟩ := hlq.cons_inv (cut_one hby)
        obtain ⟨g1, g2, g3⟩ := cut_gap hy q1
        have hnq := nosep_piece q1 g1
        obtain ⟨w1, w2⟩ := rest_parts q1
        rw [g2, List.take_zero, List.nil_append] at w1
        rw [g2, Nat.sub_zero] at w2
        -- both in one
        have hboth : (u :: us) ++ y :: Q' = ((u :: us) ++ pieceR (y :: Q') (cutR (y :: Q'))) ++ (y :: Q').drop (cutR (y :: Q')).to := by
          rw [List.append_assoc, ← w1]
        have hnb : ∀ x ∈ (u :: us) ++ pieceR (y :: Q') (cutR (y :: Q')), isSp x = false := by
          intro x hx
          rcases List.mem_append.mp hx with hx | hx
          · exact hno x (by rw [hpc]; exact hx)
          · exact hnq x hx
        have ecut : cutR ((u :: us) ++ y :: Q') = cutR ((u :: us) ++ pieceR (y :: Q') (cutR (y :: Q'))) := by
          rw [hboth]
          exact cut_shut (y := u) (q := us ++ pieceR (y :: Q') (cutR (y :: Q'))) hbu g3
        have hf := cut_f ((u :: us) ++ y :: Q')
        have hf2 := cut_f ((u :: us) ++ pieceR (y :: Q') (cutR (y :: Q')))
        rcases hf.kinds with hK | hK | hK
        · refine ⟨[], _, .bad (by rw [hcb]; exact hK), fun h => by cases h⟩
        · exact absurd hK (cut_one (y := u) (q := us ++ y :: Q') hbu)
        · have hK0 : 0 < (cutR ((u :: us) ++ y :: Q')).kind := by omega
          obtain ⟨t1, t2, t3⟩ := cut_gap (y := u) (q := us ++ y :: Q') hu hK0
          have hto : (cutR ((u :: us) ++ y :: Q')).to = ((u :: us) ++ pieceR (y :: Q') (cutR (y :: Q'))).length := by
            refine drop_shut hnb (by rw [ecut]; exact hf2.to) (Z := (y :: Q').drop (cutR (y :: Q')).to) ?_
            rw [← hboth]
            exact t3
          have hdrop : ((u :: us) ++ y :: Q').drop (cutR ((u :: us) ++ y :: Q')).to = (y :: Q').drop (cutR (y :: Q')).to := by
            have e9 : ((u :: us) ++ y :: Q').drop (cutR ((u :: us) ++ y :: Q')).to = (((u :: us) ++ pieceR (y :: Q') (cutR (y :: Q'))) ++ (y :: Q').drop (cutR (y :: Q')).to).drop ((u :: us) ++ pieceR (y :: Q') (cutR (y :: Q'))).length := by rw [← hto, ← hboth]
            rw [e9, List.drop_left]
          refine ⟨_, none, Toks.bl hk.bl (.cons hK0 (l := lz) ?_), fun _ => ?_⟩
          · rw [hdrop, hto, List.length_append, w2, hal]
            have : k + (cutR r).fr + ((u :: us).length + (cutR (y :: Q')).to) = k + (cutR r).fr + (us.length + 1) + (cutR (y :: Q')).to := by
              rw [List.length_cons]; omega
            rw [this]
            exact q2
          · rw [← hln, List.length_cons, List.length_cons, List.length_cons, List.length_nil]; omega
    · -- a token ahead of the last
      obtain ⟨P2, hP2⟩ : ∃ P2, r.drop (cutR r).to = P2 ++ [x] := by
        have e1 : (r.drop (cutR r).to).getLast? = some x := by
          have h3 : r.getLast? = some x := by rw [hP]; simp
          rw [p1, ← List.append_assoc, List.getLast?_append, List.getLast?_eq_some_getLast hrest] at h3
          rw [List.getLast?_eq_some_getLast hrest]
          simpa using h3
        refine ⟨(r.drop (cutR r).to).dropLast, ?_⟩
        rw [List.getLast?_eq_some_getLast hrest, Option.some.injEq] at e1
        rw [← e1]
        exact (List.dropLast_concat_getLast hrest).symm
      obtain ⟨m, e', i1, i2⟩ := ih he P2 x hP2 hx y Q' n hy hq
      have hr2 : r ++ y :: Q' = r.take (cutR r).fr ++ (pieceR r (cutR r) ++ (r.drop (cutR r).to ++ y :: Q')) := by
        have : r ++ y :: Q' = (r.take (cutR r).fr ++ (pieceR r (cutR r) ++ r.drop (cutR r).to)) ++ y :: Q' := by rw [← p1]
        rw [this, List.append_assoc, List.append_assoc]
      have pc := piece_cut hp (X := r.drop (cutR r).to ++ y :: Q') (fun hg => shut_app (shutG hg) hrest)
      rw [hr2]
      refine ⟨_, e', Toks.bl hk.bl (.cons (by rw [pc]; exact hp) (l := m) ?_), fun hn => ?_⟩
      · rw [pc]
        show Toks (k + (r.take (cutR r).fr).length + ((cutR r).to - (cutR r).fr)) ((pieceR r (cutR r) ++ _).drop ((cutR r).to - (cutR r).fr)) m e'
        rw [← p2, List.drop_left, p2, hal, show k + (cutR r).fr + ((cutR r).to - (cutR r).fr) = k + (cutR r).to from by omega]
        exact i1
      · have := i2 hn
        rw [List.length_cons, List.length_cons]
        omega
end Tk
end Go.Proofs.YtfgpjplfplbcdaaGreatDoor

/- Layer 18: the law's alike. -/
namespace Go.Proofs.YtfgpjplfplbcdaaGreatDoor
open Go.ChangeShapes Go.WideShapes Go.ChangeAt Go.RowKit
open Lx Tk Go.Shelf
set_option linter.unusedVariables false
theorem Tk.bare_at {l m : List Ct} (h : m.map Ct.bare = l.map Ct.bare) {i : Nat} (hi : i < l.length) : ∃ (kk : Int) (f1 t1 f2 t2 : Nat) (wd : B) (nn : Nm), l[i]? = some ⟨kk, f1, t1, wd, nn⟩ ∧ m[i]? = some ⟨kk, f2, t2, wd, nn⟩ := by
  have h2 := congrArg (fun x => x[i]?) h
  simp only [List.getElem?_map] at h2
  cases h1 : l[i]? with
  | none => rw [List.getElem?_eq_getElem hi] at h1; cases h1
  | some c =>
    rw [h1] at h2
    cases h3 : m[i]? with
    | none => rw [h3] at h2; cases h2
    | some d =>
      rw [h3] at h2
      simp only [Option.map_some, Option.some.injEq, Ct.bare, Prod.mk.injEq] at h2
      obtain ⟨a, b, e⟩ := h2
      refine ⟨c.kind, c.fr, c.to, d.fr, d.to, c.word, c.num, rfl, ?_⟩
      rw [← a, ← b, ← e]
set_option maxHeartbeats 3200000 in
set_option maxRecDepth 100000 in
theorem alike18_same {w : World} {v u : Value} {l m : List Ct} (h1 : Rt w v (l.map Ct.tg)) (h2 : Rt w u (m.map Ct.tg)) (hb : m.map Ct.bare = l.map Ct.bare) (hl : l.length ≤ 1000000000) :
    Calls Tryz.prog 19 #[v, u] w fun e w' => e = .returned (.bool true) ∧ Below w.heap.size w w' := by
  obtain ⟨a1, k1, rfl⟩ := h1.slice
  obtain ⟨a2, k2, rfl⟩ := h2.slice
  have hlm : m.length = l.length := by have := congrArg List.length hb; simpa using this
  rw [List.length_map] at h1 h2 ⊢
  rw [List.length_map]
  rw [hlm] at h2 ⊢
  have H1 : Hid (Rt w (.slice a1 l.length k1) (l.map Ct.tg)) := h1
  have H2 : Hid (Rt w (.slice a2 l.length k2) (m.map Ct.tg)) := h2
  have HB : Hid _ := hb
  clear h1 h2 hb hlm
  go_enter Tryz.func19, Tryz.ntmps19
  go_wp2
  go_loopw [5] (fun iv wr => ∃ (i : Nat), iv = .int .i64 (i : Int) ∧ i ≤ l.length ∧ Hid (Below w.heap.size w wr)) (fun i _ => l.length - (intOf i).toNat)
  case atStart => exact ⟨0, rfl, Nat.zero_le _, Below.refl _ _⟩
  case round =>
    obtain ⟨i, rfl, hi, HW⟩ := hrel
    by_cases hlt : i < l.length
    · obtain ⟨kk, f1, t1, f2, t2, wd, nn, e1, e2⟩ := bare_at HB.out hlt
      obtain ⟨g1, o1, rfl, hc1⟩ := H1.out.at (i := i) (t := Ct.tg ⟨kk, f1, t1, wd, nn⟩) (by rw [List.getElem?_map, e1]; rfl)
      obtain ⟨g2, o2, rfl, hc2⟩ := H2.out.at (i := i) (t := Ct.tg ⟨kk, f2, t2, wd, nn⟩) (by rw [List.getElem?_map, e2]; rfl)
      have hii : (i : Int) < (l.length : Int) := by omega
      have p0 : wr.cell? ⟨g1, o1 + i * 9, none⟩ = some (.int .i64 kk) := by
        have h := hc1 0 _ rfl
        exact (HW.out.cell (p := ⟨g1, o1 + i * 9 + 0, none⟩) (cell_lt h)).trans h
      have q0 : wr.cell? ⟨g2, o2 + i * 9, none⟩ = some (.int .i64 kk) := by
        have h := hc2 0 _ rfl
        exact (HW.out.cell (p := ⟨g2, o2 + i * 9 + 0, none⟩) (cell_lt h)).trans h
      have p3 : wr.cell? ⟨g1, o1 + i * 9 + 3, none⟩ = some (.string (str wd)) := by
        have h := hc1 3 _ rfl
        exact (HW.out.cell (p := ⟨g1, o1 + i * 9 + 3, none⟩) (cell_lt h)).trans h
      have q3 : wr.cell? ⟨g2, o2 + i * 9 + 3, none⟩ = some (.string (str wd)) := by
        have h := hc2 3 _ rfl
        exact (HW.out.cell (p := ⟨g2, o2 + i * 9 + 3, none⟩) (cell_lt h)).trans h
      have p4 : wr.cell? ⟨g1, o1 + i * 9 + 4, none⟩ = some (.int .i64 nn.kind) := by
        have h := hc1 4 _ rfl
        exact (HW.out.cell (p := ⟨g1, o1 + i * 9 + 4, none⟩) (cell_lt h)).trans h
      have q4 : wr.cell? ⟨g2, o2 + i * 9 + 4, none⟩ = some (.int .i64 nn.kind) := by
        have h := hc2 4 _ rfl
        exact (HW.out.cell (p := ⟨g2, o2 + i * 9 + 4, none⟩) (cell_lt h)).trans h
      have p5 : wr.cell? ⟨g1, o1 + i * 9 + 5, none⟩ = some (.bool nn.neg) := by
        have h := hc1 5 _ rfl
        exact (HW.out.cell (p := ⟨g1, o1 + i * 9 + 5, none⟩) (cell_lt h)).trans h
      have q5 : wr.cell? ⟨g2, o2 + i * 9 + 5, none⟩ = some (.bool nn.neg) := by
        have h := hc2 5 _ rfl
        exact (HW.out.cell (p := ⟨g2, o2 + i * 9 + 5, none⟩) (cell_lt h)).trans h
      have p6 : wr.cell? ⟨g1, o1 + i * 9 + 6, none⟩ = some (.string (str nn.num)) := by
        have h := hc1 6 _ rfl
        exact (HW.out.cell (p := ⟨g1, o1 + i * 9 + 6, none⟩) (cell_lt h)).trans h
      have q6 : wr.cell? ⟨g2, o2 + i * 9 + 6, none⟩ = some (.string (str nn.num)) := by
        have h := hc2 6 _ rfl
        exact (HW.out.cell (p := ⟨g2, o2 + i * 9 + 6, none⟩) (cell_lt h)).trans h
      have p7 : wr.cell? ⟨g1, o1 + i * 9 + 7, none⟩ = some (.int .i64 nn.exp) := by
        have h := hc1 7 _ rfl
        exact (HW.out.cell (p := ⟨g1, o1 + i * 9 + 7, none⟩) (cell_lt h)).trans h
      have q7 : wr.cell? ⟨g2, o2 + i * 9 + 7, none⟩ = some (.int .i64 nn.exp) := by
        have h := hc2 7 _ rfl
        exact (HW.out.cell (p := ⟨g2, o2 + i * 9 + 7, none⟩) (cell_lt h)).trans h
      have p8 : wr.cell? ⟨g1, o1 + i * 9 + 8, none⟩ = some (.string (str nn.den)) := by
        have h := hc1 8 _ rfl
        exact (HW.out.cell (p := ⟨g1, o1 + i * 9 + 8, none⟩) (cell_lt h)).trans h
      have q8 : wr.cell? ⟨g2, o2 + i * 9 + 8, none⟩ = some (.string (str nn.den)) := by
        have h := hc2 8 _ rfl
        exact (HW.out.cell (p := ⟨g2, o2 + i * 9 + 8, none⟩) (cell_lt h)).trans h
      clear hc1 hc2 e1 e2 H1 H2
      generalize str wd = W1 at *
      generalize str nn.num = W2 at *
      generalize str nn.den = W3 at *
      go_wp2_with fail
      go_quiet (fail)
      go_wp2
      exact ⟨⟨i + 1, by go_num, by omega, below_drewN HW.out _⟩, by simp [intOf]; omega⟩
    · have hii : ¬ (i : Int) < (l.length : Int) := by omega
      go_wp2
      go_ret
      exact ⟨rfl, HW.out⟩
set_option maxHeartbeats 3200000 in
set_option maxRecDepth 100000 in
theorem alike18_len {w : World} {a1 a2 : Option Addr} {n1 n2 k1 k2 : Nat} (h1 : n1 ≤ 1000000000) (h2 : n2 ≤ 1000000000) (hne : n1 ≠ n2) :
    Calls Tryz.prog 19 #[.slice a1 n1 k1, .slice a2 n2 k2] w fun e w' => e = .returned (.bool false) ∧ Below w.heap.size w w' := by
  have d1 : ((n1 : Int) == (n2 : Int)) = false := by simp; omega
  have d2 : ¬ (n1 : Int) = (n2 : Int) := by omega
  clear hne
  go_enter Tryz.func19, Tryz.ntmps19
  go_wp2
  go_ret
  exact ⟨rfl, Below.refl _ _⟩
end Go.Proofs.YtfgpjplfplbcdaaGreatDoor

