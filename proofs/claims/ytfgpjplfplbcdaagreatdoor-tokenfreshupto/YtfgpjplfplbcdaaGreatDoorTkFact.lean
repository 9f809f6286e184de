/- Layer 18: what stands at a place: facts. -/
import Derived.Test.YtfgpjplfplbcdaaGreatDoorTkMath
namespace Go.Proofs.YtfgpjplfplbcdaaGreatDoor
set_option linter.unusedVariables false
open Lx
namespace Tk
/-- a numeral that is none or has bytes -/
def Po (p : Pc) : Prop := p.kind ≠ 0 → 0 < p.stop
theorem po_finE {rd wh : Pc} {k : Nat} {l : B} (hk : 0 < k) (h : Po wh) : Po (finE rd wh k l) := by
  unfold finE
  split
  · exact h
  · intro _; show 0 < k + _; omega
theorem po_finSlash {rd wh : Pc} {k : Nat} {l : B} (hk : 0 < k) (h : Po wh) : Po (finSlash rd wh k l) := by
  unfold finSlash
  split
  · exact h
  · intro _; show 0 < k + _; omega
theorem po_finPoint {rd wh : Pc} {k : Nat} {l : B} (hk : 0 < k) (h : Po wh) : Po (finPoint rd wh k l) := by
  unfold finPoint
  simp only
  split
  · exact h
  · have h2 : Po { rd with behind := tkD l, stop := k + (tkD l).length } := fun _ => by show 0 < k + _; omega
    split
    · exact po_finE (by omega) h2
    · exact h2
theorem po_finHexPoint {rd wh : Pc} {k : Nat} {l : B} (hk : 0 < k) (h : Po wh) : Po (finHexPoint rd wh k l) := by
  unfold finHexPoint
  simp only
  split
  · exact po_finE (by omega) h
  · exact h
theorem po_finX {rd wh : Pc} {k : Nat} {l : B} (hk : 0 < k) (h : Po wh) : Po (finX rd wh k l) := by
  unfold finX
  simp only
  split
  · exact po_finHexPoint (by omega) h
  · split
    · exact po_finE (by omega) h
    · exact h
theorem po_finDigits {rd wh : Pc} {k : Nat} {l : B} (hk : 0 < k) (h : Po wh) : Po (finDigits rd wh k l) := by
  unfold finDigits
  split
  · exact po_finPoint (by omega) h
  · split
    · exact po_finE (by omega) h
    · split
      · exact po_finSlash (by omega) h
      · split
        · exact po_finX (by omega) h
        · exact h
theorem po_finSign {rd wh : Pc} {k : Nat} {l : B} (hb : rd.behind = []) (h : Po wh) : Po (finSign rd wh k l) := by
  unfold finSign
  simp only
  split
  · rename_i hh
    have hn : 0 < (tkD l).length := by
      rw [has_true] at hh
      apply Nat.pos_of_ne_zero
      intro e
      exact hh ⟨List.length_eq_zero_iff.mp e, hb⟩
    exact po_finDigits (by omega) (fun _ => by show 0 < k + _; omega)
  · split
    · exact po_finPoint (by omega) h
    · exact h
theorem longest_pos (l : B) : (longestL l).kind ≠ 0 → 0 < (longestL l).stop := by
  unfold longestL finStart
  have z : Po Pc.zero := fun h => absurd rfl h
  split
  · exact po_finSign rfl z
  · split
    · exact po_finSign rfl z
    · exact po_finSign rfl z
theorem longest_le (l : B) : (longestL l).stop ≤ l.length := (ok_longest l).st
theorem longest_kind (l : B) : (longestL l).kind = 0 ∨ (longestL l).kind = 1 ∨ (longestL l).kind = 2 ∨ (longestL l).kind = 3 := (ok_longest l).kd
/-- what may stand behind a word or a number -/
def isSp (c : UInt8) : Bool := isBl c || c == 44 || c == 40 || c == 41
theorem sp_cases {c : UInt8} (h : isSp c = true) : c = 32 ∨ c = 9 ∨ c = 10 ∨ c = 13 ∨ c = 44 ∨ c = 40 ∨ c = 41 := by
  unfold isSp isBl at h
  simp only [Bool.or_eq_true, beq_iff_eq] at h
  rcases h with (((((h | h) | h) | h) | h) | h) | h <;> simp [h]
theorem kd_cases (c : UInt8) : kd c = 0 ∨ kd c = 1 ∨ kd c = 2 ∨ kd c = 3 ∨ kd c = 4 ∨ kd c = 5 := by
  unfold kd
  split; · simp
  split; · simp
  split; · simp
  split; · simp
  split <;> simp
/-- the facts of a cut -/
structure CutF (r : B) (c : Ct) : Prop where
  kinds : c.kind = -1 ∨ c.kind = 0 ∨ c.kind = 1 ∨ c.kind = 2 ∨ c.kind = 3 ∨ c.kind = 4 ∨ c.kind = 5
  fr : c.fr ≤ r.length
  to : c.to ≤ r.length
  up : 0 < c.kind → c.fr < c.to
  nil : c.kind = 0 → c.fr = r.length ∧ c.to = r.length ∧ c.word = [] ∧ c.num = nmZ0
  bad : c.kind = -1 → c.fr < r.length
theorem shutC_len {r : B} {t : Ct} (h : shutB (r.drop t.to) = false) : t.to < r.length := by
  apply Decidable.byContradiction
  intro hc
  rw [List.drop_eq_nil_of_le (by omega)] at h
  cases h
theorem shutC_f {r : B} {t : Ct} (hk : 0 < t.kind) (hk5 : t.kind = 1 ∨ t.kind = 5) (hf : t.fr = 0) (ht : 0 < t.to) (hl : t.to ≤ r.length) : CutF r (shutC r t) := by
  unfold shutC
  by_cases h : shutB (r.drop t.to) = true
  · rw [if_pos h]
    exact ⟨by omega, by omega, hl, fun _ => by omega, fun e => by omega, fun e => by omega⟩
  · rw [if_neg h]
    have := shutC_len (r := r) (t := t) (by simpa using h)
    exact ⟨Or.inl rfl, by show t.to ≤ _; omega, Nat.zero_le _, fun e => by exact absurd e (by show ¬ (0 : Int) < -1; omega), fun e => by exact absurd e (by show ¬ (-1 : Int) = 0; omega), fun _ => this⟩
theorem tokB_f (c : UInt8) (q : B) : CutF (c :: q) (tokB c q) ∧ (tokB c q).kind ≠ 0 := by
  have one : ∀ k : Int, (k = 2 ∨ k = 3 ∨ k = 4) → CutF (c :: q) ⟨k, 0, 1, [], nmZ0⟩ := fun k hk =>
    ⟨by show k = -1 ∨ k = 0 ∨ k = 1 ∨ k = 2 ∨ k = 3 ∨ k = 4 ∨ k = 5; omega, Nat.zero_le _, by show 1 ≤ (c :: q).length; simp, fun _ => by show 0 < 1; omega, fun e => by have : k = 0 := e; omega, fun e => by have : k = -1 := e; omega⟩
  unfold tokB
  split
  · rename_i h
    have hp : 0 < ((c :: q).takeWhile isLt).length := by rw [List.takeWhile_cons, if_pos h]; simp
    have hl := dk_len isLt (c :: q)
    have hs := shutC_f (r := c :: q) (t := ⟨1, 0, ((c :: q).takeWhile isLt).length, ((c :: q).takeWhile isLt).map upB, nmZ0⟩) (by show (0 : Int) < 1; omega) (Or.inl rfl) rfl hp (by show ((c :: q).takeWhile isLt).length ≤ _; omega)
    refine ⟨hs, ?_⟩
    unfold shutC
    split
    · show (1 : Int) ≠ 0; omega
    · show (-1 : Int) ≠ 0; omega
  · split
    · exact ⟨one 2 (by omega), by show (2 : Int) ≠ 0; omega⟩
    · split
      · exact ⟨one 3 (by omega), by show (3 : Int) ≠ 0; omega⟩
      · split
        · exact ⟨one 4 (by omega), by show (4 : Int) ≠ 0; omega⟩
        · simp only
          split
          · exact ⟨⟨Or.inl rfl, Nat.zero_le _, Nat.zero_le _, fun e => by exact absurd e (by show ¬ (0 : Int) < -1; omega), fun e => by exact absurd e (by show ¬ (-1 : Int) = 0; omega), fun _ => by show 0 < (c :: q).length; simp⟩, by show (-1 : Int) ≠ 0; omega⟩
          · rename_i hk
            have h1 := longest_pos _ hk
            have h2 := longest_le ((c :: q).take 65536)
            have h3 : ((c :: q).take 65536).length ≤ (c :: q).length := by rw [List.length_take]; omega
            refine ⟨shutC_f (t := ⟨5, 0, (longestL ((c :: q).take 65536)).stop, [], numOf (longestL ((c :: q).take 65536))⟩) (by show (0 : Int) < 5; omega) (Or.inr rfl) rfl h1 (by show (longestL ((c :: q).take 65536)).stop ≤ _; omega), ?_⟩
            unfold shutC
            split
            · show (5 : Int) ≠ 0; omega
            · show (-1 : Int) ≠ 0; omega
theorem cut_f (r : B) : CutF r (cutR r) := by
  unfold cutR
  split
  · exact ⟨Or.inr (Or.inl rfl), Nat.le_refl _, Nat.le_refl _, fun e => by exact absurd e (by show ¬ (0 : Int) < 0; omega), fun _ => ⟨rfl, rfl, rfl, rfl⟩, fun e => by exact absurd e (by show ¬ (0 : Int) = -1; omega)⟩
  · rename_i c q he
    obtain ⟨hf, h0⟩ := tokB_f c q
    have hl := dk_len isBl r
    rw [he] at hl
    have a := hf.fr
    have b := hf.to
    refine ⟨hf.kinds, by show _ + (tokB c q).fr ≤ _; omega, by show _ + (tokB c q).to ≤ _; omega, fun e => ?_, fun e => absurd e h0, fun e => ?_⟩
    · have := hf.up e
      show _ + (tokB c q).fr < _ + (tokB c q).to; omega
    · have := hf.bad e
      show _ + (tokB c q).fr < _; omega
/-- the tokens of a rest, or a wrong place, are there -/
theorem toks_is (n : Nat) : ∀ (k : Nat) (r : B), r.length < n → ∃ l e, Toks k r l e := by
  induction n with
  | zero => intro k r h; omega
  | succ n ih =>
    intro k r h
    have f := cut_f r
    rcases f.kinds with q | q | q
    · exact ⟨_, _, .bad q⟩
    · exact ⟨_, _, .nil q⟩
    · have hp : 0 < (cutR r).kind := by omega
      have h1 := f.up hp
      have h2 := f.to
      obtain ⟨l, e, hl⟩ := ih (k + (cutR r).to) (r.drop (cutR r).to) (by rw [List.length_drop]; omega)
      exact ⟨_, _, .cons hp hl⟩
theorem toks_any (s : B) : ∃ l e, Toks 0 s l e := toks_is (s.length + 1) 0 s (by omega)
theorem Toks.len {k : Nat} {r : B} {l : List Ct} {e : Option Nat} (h : Toks k r l e) : l.length ≤ r.length := by
  induction h with
  | nil _ => simp
  | bad _ => simp
  | @cons k r l e hp _ ih =>
    have f := cut_f r
    have h1 := f.up hp
    have h2 := f.to
    rw [List.length_drop] at ih
    rw [List.length_cons]; omega
end Tk
end Go.Proofs.YtfgpjplfplbcdaaGreatDoor
