import Derived.Lib.ItoaNum
import Derived.Below
import Derived.BigQuiet
import Derived.Deep.CutRange
import Derived.Deep.LoopGhost
import Derived.Deep.QuietTactic
import Derived.Deep.RegionHeld3
import Derived.Deep.RegionWith
import Derived.Deep.WholeRow
import Derived.KernelRfl
import Derived.Laws.EntriesVeiled
import Derived.Laws.Externs
import Derived.Laws.RangeString
import Derived.Laws.ResultCell
import Derived.Laws.Runes
import Derived.Laws.Strings3
import Derived.Lib.AppendIntMem
import Derived.Lib.AsciiSet
import Derived.Lib.Builder
import Derived.Lib.Bytealg
import Derived.Lib.IndexBytes
import Derived.Lib.Strings
import Derived.Lib.TrimByte
import Derived.Lib.Walk
import Derived.OpenShut
import Derived.ProofKit
import Derived.Shelf.Strconv.Clone
import Derived.Shelf.Strconv.Itoa3
import Derived.Shelf.Strings.OnBuilder
import Derived.ShutString
import Derived.WalkKit
import Derived.WalkLawsBesides
import Derived.WalkSpells
import Derived.Test.YtfgpjplfplbcdaaGreatDoorPb1
import Derived.Test.YtfgpjplfplbcdaaGreatDoorPb11
import Derived.Test.YtfgpjplfplbcdaaGreatDoorPb13
/- Layer 9: the text of a right numeral is read as that numeral. -/
namespace Go.Proofs.YtfgpjplfplbcdaaGreatDoor
open Go.ChangeShapes Go.WideShapes Go.ChangeAt Go.RowKit
open Lx Go.Shelf
set_option linter.unusedVariables false
namespace Lx
/-- this text says this, whatever that can't go on stands behind it -/
def Reads (S : B) (N : Nm) : Prop := ∀ R : B, Stops R → (longestL (S ++ R)).kind ≠ 0 ∧ (longestL (S ++ R)).stop = S.length ∧ numOf (longestL (S ++ R)) = N
theorem dig_byte {d : Nat} (h : d < 10) : isD (UInt8.ofNat (48 + d)) = true ∧ ((UInt8.ofNat (48 + d)).toNat : Int) - 48 = d := by
  have e : (UInt8.ofNat (48 + d)).toNat = 48 + d := by
    rw [UInt8.toNat_ofNat']
    omega
  unfold isD
  rw [e]
  refine ⟨by simp; omega, by omega⟩
theorem dec_ok (u : Nat) : Lib.decDigits u ≠ [] ∧ (Lib.decDigits u).all isD = true := by
  induction u using Nat.strongRecOn with
  | _ u ih =>
    rw [Lib.decDigits]
    by_cases h : u < 10
    · rw [dif_pos h]
      exact ⟨by simp, by rw [List.all_cons, (dig_byte h).1]; rfl⟩
    · rw [dif_neg h]
      refine ⟨by simp, ?_⟩
      rw [List.all_append, (ih (u / 10) (by omega)).2, List.all_cons, (dig_byte (Nat.mod_lt u (by omega))).1]
      rfl
theorem stepP_dig {n : Int} {d : Nat} (h : d < 10) (hn : n < 2147483648) : stepP n (UInt8.ofNat (48 + d)) = 10 * n + d := by
  unfold stepP
  rw [if_pos hn, (dig_byte h).2]
theorem dec_fold (u : Nat) : (u : Int) ≤ 1073741824 → (Lib.decDigits u).foldl stepP 0 = (u : Int) := by
  induction u using Nat.strongRecOn with
  | _ u ih =>
    intro hu
    by_cases h : u < 10
    · rw [Lib.decDigits_one h, List.foldl_cons, List.foldl_nil, stepP_dig h (by omega)]
      omega
    · have e : Lib.decDigits u = Lib.decDigits (u / 10) ++ [UInt8.ofNat (48 + u % 10)] := by rw [Lib.decDigits, dif_neg h]
      rw [e, List.foldl_append, ih (u / 10) (by omega) (by omega), List.foldl_cons, List.foldl_nil, stepP_dig (Nat.mod_lt u (by omega)) (by omega)]
      omega
theorem dec_first {u : Nat} : fst [45] (Lib.decDigits u) = false ∧ expD (Lib.decDigits u) = Lib.decDigits u := by
  obtain ⟨h1, h2⟩ := dec_ok u
  cases hl : Lib.decDigits u with
  | nil => exact absurd hl h1
  | cons c r =>
    rw [hl] at h2
    simp only [List.all_cons, Bool.and_eq_true] at h2
    obtain ⟨b0, b1⟩ := isD_bd h2.1
    have n1 : c ≠ 45 := fun q => by rw [q] at b0; exact absurd b0 (by decide)
    have n2 : c ≠ 43 := fun q => by rw [q] at b0; exact absurd b0 (by decide)
    constructor
    · simp [fst, n1]
    · unfold expD
      rw [List.dropWhile_cons_of_neg]
      simp [n1, n2]
theorem itoa_expo {e : Int} (h0 : -1073741824 ≤ e) (h1 : e ≤ 1073741824) : ExpoOk (Lib.itoa e) ∧ Lib.itoa e ≠ [] ∧ expoN (Lib.itoa e) = e := by
  unfold Lib.itoa
  by_cases h : e < 0
  · rw [if_pos h]
    obtain ⟨d1, d2⟩ := dec_ok e.natAbs
    refine ⟨Or.inr ⟨[45], _, rfl, Or.inr (Or.inr rfl), d1, d2⟩, by simp, ?_⟩
    have f := dec_fold e.natAbs (by omega)
    have g := (dec_first (u := e.natAbs)).2
    unfold expoN
    have q : fst [45] (45 :: Lib.decDigits e.natAbs) = true := rfl
    have q2 : expD (45 :: Lib.decDigits e.natAbs) = expD (Lib.decDigits e.natAbs) := rfl
    rw [q, if_pos rfl, q2, g, f]
    omega
  · rw [if_neg h]
    obtain ⟨d1, d2⟩ := dec_ok e.toNat
    refine ⟨Or.inr ⟨[], _, rfl, Or.inl rfl, d1, d2⟩, d1, ?_⟩
    have f := dec_fold e.toNat (by omega)
    obtain ⟨g1, g2⟩ := dec_first (u := e.toNat)
    unfold expoN
    rw [g1, if_neg (by decide), g2, f]
    omega
theorem heldI_in {e : Int} (h0 : -1073741824 ≤ e) (h1 : e ≤ 1073741824) : heldI e = e := by
  unfold heldI
  split <;> split <;> omega
set_option maxRecDepth 100000 in
theorem low_fin9 : ∀ b : Fin 256, (digs9.contains (UInt8.ofNat b.val) = true → lowB (UInt8.ofNat b.val) = UInt8.ofNat b.val) ∧ (smal9.contains (UInt8.ofNat b.val) = true → lowB (UInt8.ofNat b.val) = UInt8.ofNat b.val ∧ isH (UInt8.ofNat b.val) = true) ∧ (digs9.contains (UInt8.ofNat b.val) = true → isD (UInt8.ofNat b.val) = true) := by decide
theorem low_set (c : UInt8) : (digs9.contains c = true → lowB c = c) ∧ (smal9.contains c = true → lowB c = c ∧ isH c = true) ∧ (digs9.contains c = true → isD c = true) := by
  have := low_fin9 ⟨c.toNat, c.toNat_lt⟩
  simp only [UInt8.ofNat_toNat] at this
  exact this
theorem oz_D {l : B} (h : keptB digs9 l = true) : (ozL l).all isD = true ∧ ozL l ≠ [] := by
  unfold keptB at h
  simp only [Bool.and_eq_true, List.all_eq_true] at h
  unfold ozL
  split
  · exact ⟨rfl, by simp⟩
  · next q => exact ⟨List.all_eq_true.mpr (fun b hb => (low_set b).2.2 (h.2.2 b hb)), q⟩
theorem oz_H {l : B} (h : keptB smal9 l = true) : (ozL l).all isH = true ∧ ozL l ≠ [] := by
  unfold keptB at h
  simp only [Bool.and_eq_true, List.all_eq_true] at h
  unfold ozL
  split
  · exact ⟨rfl, by simp⟩
  · next q => exact ⟨List.all_eq_true.mpr (fun b hb => ((low_set b).2.1 (h.2.2 b hb)).2), q⟩
/-- digits that are kept are what is left of them as they are written -/
theorem strip_kept {cs l : B} (hc : cs = digs9 ∨ cs = smal9) (h : keptB cs l = true) : strip (ozL l ++ []) = l := by
  unfold keptB at h
  simp only [Bool.and_eq_true, Bool.not_eq_true', List.all_eq_true] at h
  obtain ⟨_, h1, h2⟩ := h
  rw [List.append_nil]
  unfold ozL
  split
  · next q => rw [q]; rfl
  · next q =>
    unfold strip
    cases l with
    | nil => exact absurd rfl q
    | cons c r =>
      have n0 : ([48] : B).contains c = false := h1
      rw [List.dropWhile_cons_of_neg (by rw [n0]; decide)]
      have key : ∀ m : B, (∀ b ∈ m, cs.contains b = true) → m.map lowB = m := by
        intro m
        induction m with
        | nil => intro _; rfl
        | cons a q ih =>
          intro hm
          rw [List.map_cons, ih (fun b hb => hm b (List.mem_cons_of_mem _ hb))]
          have ha := hm a (List.mem_cons_self ..)
          congr 1
          rcases hc with rfl | rfl
          · exact (low_set a).1 ha
          · exact ((low_set a).2.1 ha).1
      exact key _ h2
theorem sg_dec (ng : Bool) : decide ((if ng = true then [45] else ([] : B)) = [45]) = ng := by cases ng <;> rfl
theorem sg_or (ng : Bool) : (if ng = true then [45] else ([] : B)) = [] ∨ (if ng = true then [45] else ([] : B)) = [43] ∨ (if ng = true then [45] else ([] : B)) = [45] := by
  cases ng
  · exact Or.inl rfl
  · exact Or.inr (Or.inr rfl)
theorem tx_1 {ng : Bool} {num den : B} {e : Int} : txL 1 ng num e den = (if ng = true then [45] else []) ++ (ozL num ++ (if e ≠ 0 then 101 :: Lib.itoa e else [])) := rfl
theorem tx_2 {ng : Bool} {num den : B} {e : Int} : txL 2 ng num e den = (if ng = true then [45] else []) ++ (48 :: 120 :: (ozL num ++ (112 :: Lib.itoa e))) := rfl
theorem tx_3 {ng : Bool} {num den : B} {e : Int} : txL 3 ng num e den = (if ng = true then [45] else []) ++ (ozL num ++ (47 :: ozL den)) := rfl
/-- the one text of a right numeral says it -/
theorem text_reads {k e : Int} {ng : Bool} {num den : B} (h : rightB k num e den = true) : Reads (txL k ng num e den) ⟨k, ng, num, e, den⟩ := by
  intro R hR
  unfold rightB at h
  by_cases h1 : k = 1
  · subst h1
    rw [if_pos rfl] at h
    simp only [Bool.and_eq_true, List.isEmpty_iff] at h
    obtain ⟨q1, rfl, q3⟩ := h
    unfold withB at q3
    simp only [Bool.and_eq_true, decide_eq_true_eq] at q3
    obtain ⟨x1, x2, x3⟩ := itoa_expo q3.1 q3.2
    obtain ⟨d1, d2⟩ := oz_D q1
    have hx : ExpW [101, 69] (if e ≠ 0 then 101 :: Lib.itoa e else []) := by
      split
      · exact Or.inr ⟨101, _, rfl, rfl, x2, x1⟩
      · exact Or.inl rfl
    have key := longest_dec (sg := if ng = true then [45] else []) (head := ozL num) (tail := []) (pt := false) (rest := R) (sg_or ng) d1 rfl (fun q => d2 q.1) (fun _ => rfl) hx hR
    have eS : txL 1 ng num e [] ++ R = (if ng = true then [45] else []) ++ (ozL num ++ ((if false = true then 46 :: ([] : B) else []) ++ ((if e ≠ 0 then 101 :: Lib.itoa e else []) ++ R))) := by
      rw [tx_1]
      simp only [List.append_assoc, List.nil_append, Bool.false_eq_true, if_false]
    rw [eS, key, sg_dec]
    refine ⟨by simp, ?_, ?_⟩
    · rw [tx_1]
      simp only [List.length_append, Bool.false_eq_true, if_false]
      omega
    · unfold numOf
      show Nm.mk 1 ng (strip (ozL num ++ [])) (if (1 : Int) = 1 then heldI (expoN (if e ≠ 0 then 101 :: Lib.itoa e else []).tail - ((0 : Nat) : Int)) else _) (strip []) = _
      rw [strip_kept (Or.inl rfl) q1, if_pos rfl]
      have ee : expoN (if e ≠ 0 then 101 :: Lib.itoa e else []).tail = e := by
        by_cases he : e = 0
        · rw [if_neg (by omega)]; rw [he]; rfl
        · rw [if_pos he]; exact x3
      rw [ee]
      have : e - ((0 : Nat) : Int) = e := by omega
      rw [this, heldI_in q3.1 q3.2]
      rfl
  · rw [if_neg h1] at h
    by_cases h2 : k = 2
    · subst h2
      rw [if_pos rfl] at h
      simp only [Bool.and_eq_true, List.isEmpty_iff] at h
      obtain ⟨q1, rfl, q3⟩ := h
      unfold withB at q3
      simp only [Bool.and_eq_true, decide_eq_true_eq] at q3
      obtain ⟨x1, x2, x3⟩ := itoa_expo q3.1 q3.2
      obtain ⟨d1, d2⟩ := oz_H q1
      have hx : ExpW [112, 80] (112 :: Lib.itoa e) := Or.inr ⟨112, _, rfl, rfl, x2, x1⟩
      have key := longest_hex (sg := if ng = true then [45] else []) (head := ozL num) (tail := []) (pt := false) (rest := R) (x := 120) (sg_or ng) (Or.inl rfl) d1 rfl (fun q => d2 q.1) (fun _ => rfl) hx (by simp) hR
      have eS : txL 2 ng num e [] ++ R = (if ng = true then [45] else []) ++ (48 :: 120 :: (ozL num ++ ((if false = true then 46 :: ([] : B) else []) ++ ((112 :: Lib.itoa e) ++ R)))) := by
        rw [tx_2]
        simp only [List.append_assoc, List.nil_append, List.cons_append, Bool.false_eq_true, if_false]
      rw [eS, key, sg_dec]
      refine ⟨by simp, ?_, ?_⟩
      · rw [tx_2]
        simp only [List.length_append, List.length_cons, Bool.false_eq_true, if_false]
        omega
      · unfold numOf
        show Nm.mk 2 ng (strip (ozL num ++ [])) (if (2 : Int) = 1 then _ else if (2 : Int) = 2 then heldI (expoN (Lib.itoa e) - 4 * ((0 : Nat) : Int)) else _) (strip []) = _
        rw [strip_kept (Or.inr rfl) q1, if_neg (by decide), if_pos rfl, x3]
        have : e - 4 * ((0 : Nat) : Int) = e := by omega
        rw [this, heldI_in q3.1 q3.2]
        rfl
    · rw [if_neg h2] at h
      by_cases h3 : k = 3
      · subst h3
        rw [if_pos rfl] at h
        simp only [Bool.and_eq_true, decide_eq_true_eq] at h
        obtain ⟨q1, q2, rfl⟩ := h
        obtain ⟨d1, d2⟩ := oz_D q1
        obtain ⟨d3, d4⟩ := oz_D q2
        have key := longest_rat (sg := if ng = true then [45] else []) (head := ozL num) (tail := ozL den) (rest := R) (sg_or ng) d1 d3 d2 d4 hR
        have eS : txL 3 ng num 0 den ++ R = (if ng = true then [45] else []) ++ (ozL num ++ (47 :: (ozL den ++ R))) := by
          rw [tx_3]
          simp only [List.append_assoc, List.cons_append]
        rw [eS, key, sg_dec]
        refine ⟨by simp, ?_, ?_⟩
        · rw [tx_3]
          simp only [List.length_append, List.length_cons]
          omega
        · unfold numOf
          have s2 := strip_kept (Or.inl rfl) q2
          rw [List.append_nil] at s2
          show Nm.mk 3 ng (strip (ozL num ++ [])) (if (3 : Int) = 1 then _ else if (3 : Int) = 2 then _ else 0) (strip (ozL den)) = _
          rw [strip_kept (Or.inl rfl) q1, s2, if_neg (by decide), if_neg (by decide)]
      · rw [if_neg h3] at h
        cases h
end Lx
end Go.Proofs.YtfgpjplfplbcdaaGreatDoor

