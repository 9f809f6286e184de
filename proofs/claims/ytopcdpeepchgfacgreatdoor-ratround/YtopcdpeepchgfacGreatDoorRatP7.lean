/- Parse: the program's way and the document's come to one answer. -/
import Derived.Test.YtopcdpeepchgfacGreatDoorRatP4
namespace Go.Proofs.YtopcdpeepchgfacGreatDoor
open Go.ChangeShapes Go.WideShapes Go.ChangeAt Go.RowKit
open Na Ar
set_option linter.unusedVariables false
namespace Na
theorem dgt_slash {s : ByteArray} {i : Nat} (h : s.get! i = 47) : dgt s i = 36 := by unfold dgt; rw [h]; rfl
theorem numB_congr {a b : ByteArray} {n : Nat} (h : ∀ i, i < n → a.get! i = b.get! i) : numB a 10 n = numB b 10 n := by
  induction n with
  | zero => rfl
  | succ n ih =>
    have e : dgt a n = dgt b n := by unfold dgt; rw [h n (by omega)]
    show numB a 10 n * 10 + dgt a n = numB b 10 n * 10 + dgt b n
    rw [ih (fun i hi => h i (by omega)), e]
theorem code_wrong {s : ByteArray} {c p : Int} {i : Nat} (hi : i < s.size) (hw : 10 ≤ dgt s i) (hd : ∀ j, j < i → dgt s j < 10) (h : PCode s 10 c p) : c = 41 ∧ p = i :=
  pcode_uniq h (Or.inr (Or.inr (Or.inl ⟨⟨by omega, by omega⟩, i, hi, hw, hd, rfl, rfl⟩)))
theorem code_empty {s : ByteArray} {c p : Int} (h0 : s.size = 0) (h : PCode s 10 c p) : c = 41 ∧ p = 0 :=
  pcode_uniq h (Or.inr (Or.inl ⟨⟨by omega, by omega⟩, h0, rfl, rfl⟩))
/-- the parts of a text, by its bytes -/
structure Parts (s : ByteArray) (f : Nat) (above below : ByteArray) (q : Bool) : Prop where
  le : f + above.size ≤ s.size
  ab : ∀ i, i < above.size → above.get! i = s.get! (f + i)
  no : ∀ j, f ≤ j → j < f + above.size → s.get! j ≠ 47
  rest : (q = false ∧ f + above.size = s.size ∧ below = ⟨#[49]⟩) ∨ (q = true ∧ f + above.size < s.size ∧ s.get! (f + above.size) = 47 ∧ below.size = s.size - (f + above.size + 1) ∧ ∀ i, i < below.size → below.get! i = s.get! (f + above.size + 1 + i))
theorem parts_of {s z above below0 below : ByteArray} {f : Nat} {neg neg' q : Bool} (hF : FromIs s f neg') (hP : PreIs s z neg) (hC : CutIs z above below0 q) (hb : below = if q = true then below0 else ⟨#[49]⟩) : Parts s f above below q ∧ neg = neg' ∧ (s.size : Int) - (z.size : Int) = f := by
  have hz : neg = neg' ∧ z.size = s.size - f ∧ f ≤ s.size ∧ ∀ i, i < z.size → z.get! i = s.get! (f + i) := by
    rcases hF with ⟨rfl, rfl, h0, h1⟩ | ⟨rfl, rfl, h1⟩ <;> rcases hP with ⟨rfl, k0, k1, rfl⟩ | ⟨rfl, k1, rfl⟩
    · have e := ext_size s (show 1 ≤ s.size by omega) (Nat.le_refl _)
      exact ⟨rfl, e, by omega, fun i hi => ext_get s (by omega)⟩
    · exact absurd h1 (k1 h0)
    · exact absurd k1 (h1 k0)
    · exact ⟨rfl, by omega, by omega, fun i hi => by rw [Nat.zero_add]⟩
  obtain ⟨e0, z1, z2, z3⟩ := hz
  refine ⟨?_, e0, by omega⟩
  rcases hC with ⟨rfl, c1, rfl, _⟩ | ⟨rfl, i, c1, c2, c3, rfl, rfl⟩
  · exact ⟨by omega, fun i hi => z3 i hi, fun j h1 h2 => by
      have := c1 (j - f) (by omega)
      rw [z3 _ (by omega)] at this
      have e : f + (j - f) = j := by omega
      rw [e] at this
      exact this, Or.inl ⟨rfl, by omega, hb⟩⟩
  · have a1 := ext_size z (show 0 ≤ i by omega) (show i ≤ z.size by omega)
    have a2 := ext_size z (show i + 1 ≤ z.size by omega) (Nat.le_refl _)
    rw [Nat.sub_zero] at a1
    have hb' : below = z.extract (i + 1) z.size := hb
    subst hb'
    refine ⟨by omega, fun j hj => ?_, fun j h1 h2 => ?_, Or.inr ⟨rfl, by omega, ?_, by omega, fun j hj => ?_⟩⟩
    · rw [ext_get z (by omega), Nat.zero_add]; exact z3 j (by omega)
    · have := c3 (j - f) (by omega)
      rw [z3 _ (by omega)] at this
      have e : f + (j - f) = j := by omega
      rw [e] at this
      exact this
    · rw [a1, ← z3 i (by omega)]; exact c2
    · rw [ext_get z (by omega), z3 _ (by omega), a1]
      congr 1
      omega
theorem agree {s above below : ByteArray} {f : Nat} {q : Bool} (hP : Parts s f above below q) (hs : s.size ≤ 4000) {c1 p1 c2 p2 code p code' p' N D bat : Int} (k1 : PCode above 10 c1 p1) (k2 : PCode below 10 c2 p2) (hbat : (f : Int) + (above.size : Int) + 1 = bat)
    (hA : PAns c1 p1 c2 p2 (numB below 10 below.size) f bat code p) (hR : RSpec s f code' p' N D) : code = code' ∧ p = p' ∧ (code = 0 → numB above 10 above.size = N ∧ numB below 10 below.size = D) := by
  obtain ⟨P1, P2, P3, P4⟩ := hP
  have dab : ∀ i, i < above.size → dgt above i = dgt s (f + i) := fun i hi => by unfold dgt; rw [P2 i hi]
  obtain ⟨e1, ⟨d1, d2, d3, d4⟩, hR⟩ := hR
  rcases hR with ⟨r1, rfl, rfl⟩ | ⟨r1, r2, r3, rfl, rfl⟩ | ⟨r1, r2, rfl, rfl, rfl, rfl⟩ | ⟨r1, r2, r3, e2, ⟨g1, g2, g3, g4⟩, hR⟩
  · have h41 : c1 = 41 ∧ p1 = 0 := by
      by_cases h0 : above.size = 0
      · exact code_empty h0 k1
      · exact code_wrong (i := 0) (by omega) (by rw [dab 0 (by omega), Nat.add_zero, ← r1]; exact d4 (by omega)) (fun j hj => by omega) k1
    unfold PAns at hA
    refine ⟨by omega, by omega, fun h => by omega⟩
  · have hL : e1 < f + above.size := by
      rcases P4 with ⟨_, h, _⟩ | ⟨_, h1, h2, _⟩
      · omega
      · apply Decidable.byContradiction
        intro hc
        by_cases q : f + above.size = e1
        · rw [q] at h2; exact r3 h2
        · have := d3 (f + above.size) (by omega) (by omega)
          rw [dgt_slash h2] at this
          omega
    have h41 := code_wrong (i := e1 - f) (by omega) (by
      rw [dab _ (by omega)]
      have e : f + (e1 - f) = e1 := by omega
      rw [e]; exact d4 r2) (fun j hj => by rw [dab _ (by omega)]; exact d3 _ (by omega) (by omega)) k1
    unfold PAns at hA
    refine ⟨by omega, by omega, fun h => by omega⟩
  · rcases P4 with ⟨_, h, rfl⟩ | ⟨_, h1, h2, _⟩
    · have z1 := code_digits (by omega) (by omega) (fun i hi => by rw [dab i hi]; exact d3 _ (by omega) (by omega)) k1
      have z2 := code_digits (s := (⟨#[49]⟩ : ByteArray)) (by decide) (by decide) (by decide) k2
      have nb : numB (⟨#[49]⟩ : ByteArray) 10 (⟨#[49]⟩ : ByteArray).size = 1 := by decide
      rw [nb] at hA
      unfold PAns at hA
      refine ⟨by omega, by omega, fun _ => ⟨?_, nb⟩⟩
      have ee := ext_size s (show f ≤ e1 by omega) (show e1 ≤ s.size by omega)
      have el : above.size = (s.extract f e1).size := by omega
      rw [el]
      exact numB_congr fun i hi => by rw [P2 i (by omega), ext_get s (by omega)]
    · have := d3 (f + above.size) (by omega) (by omega)
      rw [dgt_slash h2] at this
      omega
  · have hq : q = true ∧ f + above.size = e1 ∧ below.size = s.size - (e1 + 1) ∧ ∀ i, i < below.size → below.get! i = s.get! (e1 + 1 + i) := by
      rcases P4 with ⟨_, h, _⟩ | ⟨h0, h1, h2, h3, h4⟩
      · exact absurd r3 (P3 e1 (by omega) (by omega))
      · have e : f + above.size = e1 := by
          rcases Nat.lt_trichotomy (f + above.size) e1 with l | l | l
          · have := d3 (f + above.size) (by omega) l
            rw [dgt_slash h2] at this
            omega
          · exact l
          · exact absurd r3 (P3 e1 (by omega) l)
        rw [e] at h3 h4
        exact ⟨h0, e, h3, h4⟩
    obtain ⟨_, hL, hbs, hbb⟩ := hq
    have dbl : ∀ i, i < below.size → dgt below i = dgt s (e1 + 1 + i) := fun i hi => by unfold dgt; rw [hbb i hi]
    have z1 := code_digits (by omega) (by omega) (fun i hi => by rw [dab i hi]; exact d3 _ (by omega) (by omega)) k1
    rcases hR with ⟨t1, rfl, rfl⟩ | ⟨t1, t2, rfl, rfl⟩ | ⟨t1, t2, t3, rfl, rfl⟩ | ⟨t1, t2, t3, rfl, rfl, rfl, rfl⟩
    · have h41 : c2 = 41 ∧ p2 = 0 := by
        by_cases h0 : below.size = 0
        · exact code_empty h0 k2
        · exact code_wrong (i := 0) (by omega) (by rw [dbl 0 (by omega), Nat.add_zero, ← t1]; exact g4 (by omega)) (fun j hj => by omega) k2
      unfold PAns at hA
      refine ⟨by omega, by omega, fun h => by omega⟩
    · have h41 := code_wrong (i := e2 - (e1 + 1)) (by omega) (by
        rw [dbl _ (by omega)]
        have e : e1 + 1 + (e2 - (e1 + 1)) = e2 := by omega
        rw [e]; exact g4 t2) (fun j hj => by rw [dbl _ (by omega)]; exact g3 _ (by omega) (by omega)) k2
      unfold PAns at hA
      refine ⟨by omega, by omega, fun h => by omega⟩
    · have z2 := code_digits (by omega) (by omega) (fun i hi => by rw [dbl i hi]; exact g3 _ (by omega) (by omega)) k2
      have ee := ext_size s (show e1 + 1 ≤ e2 by omega) (show e2 ≤ s.size by omega)
      have el : below.size = (s.extract (e1 + 1) e2).size := by omega
      have en : numB below 10 below.size = numB (s.extract (e1 + 1) e2) 10 (s.extract (e1 + 1) e2).size := by
        rw [el]; exact numB_congr fun i hi => by rw [hbb i (by omega), ext_get s (by omega)]
      rw [← en] at t3
      unfold PAns at hA
      refine ⟨by omega, by omega, fun h => by omega⟩
    · have z2 := code_digits (by omega) (by omega) (fun i hi => by rw [dbl i hi]; exact g3 _ (by omega) (by omega)) k2
      have ee := ext_size s (show e1 + 1 ≤ e2 by omega) (show e2 ≤ s.size by omega)
      have el : below.size = (s.extract (e1 + 1) e2).size := by omega
      have en : numB below 10 below.size = numB (s.extract (e1 + 1) e2) 10 (s.extract (e1 + 1) e2).size := by
        rw [el]; exact numB_congr fun i hi => by rw [hbb i (by omega), ext_get s (by omega)]
      have ef := ext_size s (show f ≤ e1 by omega) (show e1 ≤ s.size by omega)
      have el1 : above.size = (s.extract f e1).size := by omega
      rw [← en] at t3
      unfold PAns at hA
      refine ⟨by omega, by omega, fun _ => ⟨?_, en⟩⟩
      rw [el1]
      exact numB_congr fun i hi => by rw [P2 i (by omega), ext_get s (by omega)]
end Na
end Go.Proofs.YtopcdpeepchgfacGreatDoor
