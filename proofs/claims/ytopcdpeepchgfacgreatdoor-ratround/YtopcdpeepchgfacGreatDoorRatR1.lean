/- Texts of Rats, by their bytes; what Parse makes of them. -/
import Derived.Test.YtopcdpeepchgfacGreatDoorRatP9
namespace Go.Proofs.YtopcdpeepchgfacGreatDoor
open Go.ChangeShapes Go.WideShapes Go.ChangeAt Go.RowKit
open Na Ar
set_option linter.unusedVariables false
set_option linter.unusedSimpArgs false
namespace Na
/-- a text's bytes -/
def bl (u : ByteArray) : List UInt8 := u.data.toList
theorem bl_app (a b : ByteArray) : bl (a ++ b) = bl a ++ bl b := by unfold bl; simp
theorem bl_size (u : ByteArray) : u.size = (bl u).length := Lib.size_eq u
theorem bl_get (u : ByteArray) (i : Nat) : u.get! i = (bl u).getD i 0 := byte_list u i
theorem bl_eq {u v : ByteArray} (h : bl u = bl v) : u = v := bytes_eq h
theorem getD_app (a b : List UInt8) (i : Nat) : (a ++ b).getD i 0 = if i < a.length then a.getD i 0 else b.getD (i - a.length) 0 := by
  by_cases h : i < a.length
  · rw [if_pos h]; simp [List.getD_eq_getElem?_getD, List.getElem?_append_left h]
  · rw [if_neg h]; simp [List.getD_eq_getElem?_getD, List.getElem?_append_right (Nat.le_of_not_lt h)]
/-- the sign's text -/
def sgS (s : Bool) : ByteArray := if s = true then ⟨#[45]⟩ else ⟨#[]⟩
def fS (s : Bool) : Nat := if s = true then 1 else 0
theorem bl_sgS (s : Bool) : (bl (sgS s)).length = fS s := by cases s <;> rfl
theorem good_first {A : ByteArray} (h : Good A 10) : A.get! 0 ≠ 45 := by
  intro e
  have := h.2.2.2 0 h.2.2.1
  unfold dgt at this
  rw [e] at this
  revert this
  decide
/-- the sign, the digits, and what is behind them -/
structure Lead2 (t A : ByteArray) (s : Bool) (B : List UInt8) : Prop where
  eq : bl t = bl (sgS s) ++ (bl A ++ B)
  good : Good A 10
theorem Lead2.size {t A : ByteArray} {s : Bool} {B : List UInt8} (h : Lead2 t A s B) : t.size = fS s + A.size + B.length := by
  rw [bl_size, h.eq, List.length_append, List.length_append, bl_sgS, ← bl_size]; omega
theorem Lead2.top {t A : ByteArray} {s : Bool} {B : List UInt8} (h : Lead2 t A s B) {i : Nat} (hi : i < A.size) : t.get! (fS s + i) = A.get! i := by
  rw [bl_get, h.eq, getD_app, bl_sgS, if_neg (by omega), getD_app]
  have : fS s + i - fS s = i := by omega
  rw [this, if_pos (by rw [← bl_size]; exact hi), ← bl_get]
theorem Lead2.rest {t A : ByteArray} {s : Bool} {B : List UInt8} (h : Lead2 t A s B) (i : Nat) : t.get! (fS s + A.size + i) = B.getD i 0 := by
  rw [bl_get, h.eq, getD_app, bl_sgS, if_neg (by omega), getD_app, ← bl_size, if_neg (by omega)]
  congr 1
  omega
theorem Lead2.from {t A : ByteArray} {s : Bool} {B : List UInt8} (h : Lead2 t A s B) : FromIs t (fS s) s := by
  have h1 := h.good.2.2.1
  cases s
  · right
    refine ⟨rfl, rfl, fun _ => ?_⟩
    have := h.top (i := 0) h1
    have e : fS false + 0 = 0 := rfl
    rw [e] at this
    rw [this]; exact good_first h.good
  · left
    refine ⟨rfl, rfl, by rw [h.size]; have : fS true = 1 := rfl; omega, ?_⟩
    rw [bl_get, h.eq]; rfl
theorem Lead2.digs {t A : ByteArray} {s : Bool} {B : List UInt8} (h : Lead2 t A s B) : ∀ j, fS s ≤ j → j < fS s + A.size → dgt t j < 10 := fun j h1 h2 => by
  have := h.top (i := j - fS s) (by omega)
  have e : fS s + (j - fS s) = j := by omega
  rw [e] at this
  have g := h.good.2.2.2 (j - fS s) (by omega)
  unfold dgt at *
  rw [this]; exact g
theorem Lead2.num {t A : ByteArray} {s : Bool} {B : List UInt8} (h : Lead2 t A s B) : numB (t.extract (fS s) (fS s + A.size)) 10 (t.extract (fS s) (fS s + A.size)).size = numB A 10 A.size := by
  have hs := h.size
  have e := ext_size t (show fS s ≤ fS s + A.size by omega) (show fS s + A.size ≤ t.size by omega)
  have e2 : (t.extract (fS s) (fS s + A.size)).size = A.size := by omega
  rw [e2]
  exact numB_congr fun i hi => by rw [ext_get t (by omega)]; exact h.top hi
/-- a whole number -/
theorem spec_whole {t A : ByteArray} {s : Bool} (h : Lead2 t A s []) : RSpec t (fS s) 0 (-1) (numB A 10 A.size) 1 := by
  have hs := h.size
  simp only [List.length_nil, Nat.add_zero] at hs
  have hA := h.good.2.2.1
  refine ⟨fS s + A.size, ⟨by omega, by omega, h.digs, fun hh => by omega⟩, Or.inr (Or.inr (Or.inl ⟨by omega, hs.symm, rfl, rfl, h.num.symm, rfl⟩))⟩
/-- something else behind it -/
theorem spec_wrong {t A : ByteArray} {s : Bool} {c : UInt8} {B : List UInt8} (h : Lead2 t A s (c :: B)) (hc : 10 ≤ valN (c.toNat : Int)) (h7 : c ≠ 47) : RSpec t (fS s) 41 ((fS s + A.size : Nat) : Int) 0 0 := by
  have hs := h.size
  simp only [List.length_cons] at hs
  have hA := h.good.2.2.1
  have hr := h.rest 0
  rw [Nat.add_zero] at hr
  have hr' : t.get! (fS s + A.size) = c := hr
  refine ⟨fS s + A.size, ⟨by omega, by omega, h.digs, fun _ => by unfold dgt; rw [hr']; exact hc⟩, Or.inr (Or.inl ⟨by omega, by omega, by rw [hr']; exact h7, rfl, rfl⟩)⟩
/-- a quotient -/
theorem quot_end {t A B : ByteArray} {s : Bool} {C : List UInt8} (h : Lead2 t A s (47 :: (bl B ++ C))) (hB : Good B 10) : (∀ i, i < B.size → t.get! (fS s + A.size + 1 + i) = B.get! i) ∧ t.size = fS s + A.size + 1 + B.size + C.length ∧ t.get! (fS s + A.size) = 47 ∧ ∀ i, t.get! (fS s + A.size + 1 + B.size + i) = C.getD i 0 := by
  have hs := h.size
  simp only [List.length_cons, List.length_append, ← bl_size] at hs
  refine ⟨fun i hi => ?_, by omega, ?_, fun i => ?_⟩
  · have := h.rest (1 + i)
    rw [show fS s + A.size + (1 + i) = fS s + A.size + 1 + i by omega, show 1 + i = i + 1 by omega, List.getD_cons_succ, getD_app, if_pos (by rw [← bl_size]; exact hi), ← bl_get] at this
    exact this
  · have := h.rest 0
    rw [Nat.add_zero] at this
    exact this
  · have := h.rest (1 + (B.size + i))
    rw [show fS s + A.size + (1 + (B.size + i)) = fS s + A.size + 1 + B.size + i by omega, show 1 + (B.size + i) = (B.size + i) + 1 by omega, List.getD_cons_succ, getD_app, ← bl_size, if_neg (by omega), show B.size + i - B.size = i by omega] at this
    exact this
theorem quot_digs {t A B : ByteArray} {s : Bool} {C : List UInt8} (h : Lead2 t A s (47 :: (bl B ++ C))) (hB : Good B 10) : (∀ j, fS s + A.size + 1 ≤ j → j < fS s + A.size + 1 + B.size → dgt t j < 10) ∧ numB (t.extract (fS s + A.size + 1) (fS s + A.size + 1 + B.size)) 10 (t.extract (fS s + A.size + 1) (fS s + A.size + 1 + B.size)).size = numB B 10 B.size := by
  obtain ⟨q1, q2, q3, q4⟩ := quot_end h hB
  refine ⟨fun j h1 h2 => ?_, ?_⟩
  · have := q1 (j - (fS s + A.size + 1)) (by omega)
    rw [show fS s + A.size + 1 + (j - (fS s + A.size + 1)) = j by omega] at this
    have g := hB.2.2.2 (j - (fS s + A.size + 1)) (by omega)
    unfold dgt at *
    rw [this]; exact g
  · have e := ext_size t (show fS s + A.size + 1 ≤ fS s + A.size + 1 + B.size by omega) (show fS s + A.size + 1 + B.size ≤ t.size by omega)
    have e2 : (t.extract (fS s + A.size + 1) (fS s + A.size + 1 + B.size)).size = B.size := by omega
    rw [e2]
    exact numB_congr fun i hi => by rw [ext_get t (by omega)]; exact q1 i hi
theorem slash_dgt {t : ByteArray} {i : Nat} (h : t.get! i = 47) : 10 ≤ dgt t i := by rw [dgt_slash h]; omega
theorem spec_quot {t A B : ByteArray} {s : Bool} (h : Lead2 t A s (47 :: (bl B ++ []))) (hB : Good B 10) (h0 : numB B 10 B.size ≠ 0) : RSpec t (fS s) 0 (-1) (numB A 10 A.size) (numB B 10 B.size) := by
  obtain ⟨q1, q2, q3, q4⟩ := quot_end h hB
  obtain ⟨d1, d2⟩ := quot_digs h hB
  simp only [List.length_nil, Nat.add_zero] at q2
  have hA := h.good.2.2.1
  have hb := hB.2.2.1
  exact ⟨fS s + A.size, ⟨by omega, by omega, h.digs, fun _ => slash_dgt q3⟩, Or.inr (Or.inr (Or.inr ⟨by omega, by omega, q3, fS s + A.size + 1 + B.size, ⟨by omega, by omega, d1, fun hh => by omega⟩, Or.inr (Or.inr (Or.inr ⟨by omega, q2.symm, by rw [d2]; exact h0, rfl, rfl, h.num.symm, d2.symm⟩))⟩))⟩
theorem spec_zero {t A B : ByteArray} {s : Bool} (h : Lead2 t A s (47 :: (bl B ++ []))) (hB : Good B 10) (h0 : numB B 10 B.size = 0) : RSpec t (fS s) 50 ((fS s + A.size : Nat) + 1 : Int) 0 0 := by
  obtain ⟨q1, q2, q3, q4⟩ := quot_end h hB
  obtain ⟨d1, d2⟩ := quot_digs h hB
  simp only [List.length_nil, Nat.add_zero] at q2
  have hA := h.good.2.2.1
  have hb := hB.2.2.1
  exact ⟨fS s + A.size, ⟨by omega, by omega, h.digs, fun _ => slash_dgt q3⟩, Or.inr (Or.inr (Or.inr ⟨by omega, by omega, q3, fS s + A.size + 1 + B.size, ⟨by omega, by omega, d1, fun hh => by omega⟩, Or.inr (Or.inr (Or.inl ⟨by omega, q2.symm, by rw [d2]; exact h0, rfl, by omega⟩))⟩))⟩
theorem spec_behind {t A B : ByteArray} {s : Bool} {c : UInt8} {C : List UInt8} (h : Lead2 t A s (47 :: (bl B ++ (c :: C)))) (hB : Good B 10) (hc : 10 ≤ valN (c.toNat : Int)) : RSpec t (fS s) 41 ((fS s + A.size + 1 + B.size : Nat) : Int) 0 0 := by
  obtain ⟨q1, q2, q3, q4⟩ := quot_end h hB
  obtain ⟨d1, d2⟩ := quot_digs h hB
  simp only [List.length_cons] at q2
  have hA := h.good.2.2.1
  have hb := hB.2.2.1
  have q5 : t.get! (fS s + A.size + 1 + B.size) = c := q4 0
  exact ⟨fS s + A.size, ⟨by omega, by omega, h.digs, fun _ => slash_dgt q3⟩, Or.inr (Or.inr (Or.inr ⟨by omega, by omega, q3, fS s + A.size + 1 + B.size, ⟨by omega, by omega, d1, fun _ => by unfold dgt; rw [q5]; exact hc⟩, Or.inr (Or.inl ⟨by omega, by omega, rfl, rfl⟩)⟩))⟩
/-- a plus ahead -/
theorem spec_plus (u : ByteArray) : FromIs ((⟨#[43]⟩ : ByteArray) ++ u) 0 false ∧ RSpec ((⟨#[43]⟩ : ByteArray) ++ u) 0 41 0 0 0 := by
  have e : ((⟨#[43]⟩ : ByteArray) ++ u).get! 0 = 43 := by rw [bl_get, bl_app]; rfl
  refine ⟨Or.inr ⟨rfl, rfl, fun _ => by rw [e]; decide⟩, 0, ⟨by omega, by omega, fun j h1 h2 => by omega, fun _ => ?_⟩, Or.inl ⟨rfl, rfl, rfl⟩⟩
  unfold dgt
  rw [e]
  decide
end Na
theorem parse_ok {t : ByteArray} {f : Nat} {s : Bool} {p N D : Int} (hF : FromIs t f s) (ht : t.size ≤ 4000) (hR : RSpec t f 0 p N D) (w : World) (hE : ErrVar w) :
    Calls Tryz.prog 9 #[.string t] w fun e w' => ∃ s' a n c b m d, e = .returned (.tuple #[.agg #[.bool s', .slice a n c, .slice b m d], .nilIface]) ∧ Od w' s' a n c b m d (.ok (mkR s N D)) ∧ Below w.heap.size w w' := by
  obtain ⟨above, below, q, hp, hP⟩ := rParse_any hF ht
  have hN : Lt N 4096 ∧ Lt D 4096 ∧ 0 < D := rspec_lt ht hR
  have sz : Sz (mkR s N D) 4096 := Sz.mkR hN.1 hN.2.1 hN.2.2
  refine (hP w hE).mono ?_
  rintro e w' ⟨c1, p1, c2, p2, code', p', k1, k2, hA, hr, hb⟩
  obtain ⟨rfl, rfl, hND⟩ := agree hp ht k1 k2 rfl hA hR
  obtain ⟨e1, e2⟩ := hND rfl
  rcases hr with ⟨_, s9, v1, v2, rfl, hRt⟩ | ⟨hne, _⟩
  · rw [e1, e2] at hRt
    obtain ⟨a', n', c', b', m', d', rfl, rfl, od⟩ := od_ok hRt sz
    exact ⟨_, _, _, _, _, _, _, rfl, od, hb⟩
  · exact absurd rfl hne
theorem parse_err {t : ByteArray} {f : Nat} {s : Bool} {code p N D : Int} (hF : FromIs t f s) (ht : t.size ≤ 4000) (hR : RSpec t f code p N D) (h0 : code ≠ 0) (w : World) (hE : ErrVar w) :
    Calls Tryz.prog 9 #[.string t] w fun e w' => ∃ g, e = .returned (.tuple #[.agg #[.bool false, .slice none 0 0, .slice none 0 0], .iface 74 (.pointer (some ⟨g, 0, none⟩))]) ∧ FaultAt w' g p code ∧ Below w.heap.size w w' := by
  obtain ⟨above, below, q, hp, hP⟩ := rParse_any hF ht
  refine (hP w hE).mono ?_
  rintro e w' ⟨c1, p1, c2, p2, code', p', k1, k2, hA, hr, hb⟩
  obtain ⟨rfl, rfl, _⟩ := agree hp ht k1 k2 rfl hA hR
  rcases hr with ⟨hc, _⟩ | ⟨hne, g, rfl, hFt⟩
  · exact absurd hc h0
  · exact ⟨g, rfl, hFt, hb⟩
end Go.Proofs.YtopcdpeepchgfacGreatDoor
