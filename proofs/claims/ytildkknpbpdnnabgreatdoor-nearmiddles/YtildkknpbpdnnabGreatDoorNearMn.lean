/- NearMiddles: what its numbers are. -/
import Derived.Test.YtildkknpbpdnnabGreatDoorNearMm
namespace Go.Proofs.YtildkknpbpdnnabGreatDoor
open Go.ChangeShapes Go.WideShapes Go.ChangeAt Go.RowKit
open Na Ar
set_option linter.unusedVariables false
namespace Na
theorem val_form {d : Int} {s : Bool} (h0 : 0 ≤ d) (h1 : d ≤ mostP) : U (d + sgB s) ∧ ef (d + sgB s) ≠ 2047 ∧ valR (d + sgB s) = mkR s (numW d) (e2 1074) := by
  obtain ⟨u1, f1, m1⟩ := size_fin h0 h1
  have hs : sgB s = if s = true then 9223372036854775808 else 0 := rfl
  have u : U (d + sgB s) := by unfold mostP at h1; unfold U; rw [hs]; split <;> omega
  have f : ef (d + sgB s) ≠ 2047 := by unfold mostP at h1; unfold ef; rw [hs]; split <;> omega
  have m : mg (d + sgB s) = d := by unfold mostP at h1; unfold mg; rw [hs]; split <;> omega
  have sp : spS (d + sgB s) = s := by
    unfold spS
    rw [if_neg f]
    unfold mostP at h1
    rw [hs]
    cases s
    · simp; omega
    · simp; omega
  have n : numW (d + sgB s) = numW d := (num_ord u u1 f f1).2 (by rw [m, m1])
  exact ⟨u, f, by rw [valR_num u f, sp, n]⟩
theorem mid_form {b : Int} (hu : U b) (hf : ef b ≠ 2047) : midR b = mkR (decide (9223372036854775808 < b)) (numW (mg (innB b)) + nxtN (mg (innB b))) (2 * e2 1074) := by
  obtain ⟨ui, fi⟩ := inn_fin hu hf
  obtain ⟨p, e1, e2', e3, e4, e5, e6, e7⟩ := num_parts ui fi
  obtain ⟨f1, f2, f3⟩ := fin_size ui fi
  have se : (2 : Int) ^ stepN (mg (innB b)) = e2 (spX (innB b) + 1074) := by
    have ee : ef (mg (innB b)) = ef (innB b) := by unfold ef mg; omega
    unfold stepN e2
    have : spX (mg (innB b)) = spX (innB b) := by unfold spX; rw [ee]
    rw [this]
  have ne : numW (innB b) = spM (innB b) * e2 (spX (innB b) + 1074) := by rw [e7, e1, e2_nat]
  unfold midR binQ nxtN
  rw [se, f3, ne]
  generalize spM (innB b) = M at *
  have hX : -1074 ≤ spX (innB b) := by omega
  generalize spX (innB b) = X at *
  have p1 := e2_pos (X - 1)
  have p2 := e2_pos (-(X - 1))
  have p3 := e2_pos (X + 1074)
  have p4 := e2_pos 1074
  have ms : 0 ≤ M * e2 (X + 1074) := Int.mul_nonneg e3 (by omega)
  rw [mk_eq (Int.mul_nonneg (by omega) (by omega)) p2 (by omega) (by omega)]
  have sh := e2_shift (P := X + 1074) (T := X - 1) (by omega) (by omega)
  have e75 : e2 (1 + 1074) = 2 * e2 1074 := by rw [e2_add (by omega) (by omega), e2_one]
  rw [show X + 1074 - (X - 1) = 1 + 1074 by omega, e75] at sh
  have q : (2 * M + 1) * e2 (X - 1) * (2 * e2 1074) = (M * e2 (X + 1074) + (M * e2 (X + 1074) + e2 (X + 1074))) * e2 (-(X - 1)) := by
    rw [show M * e2 (X + 1074) + (M * e2 (X + 1074) + e2 (X + 1074)) = (2 * M + 1) * e2 (X + 1074) by generalize e2 (X + 1074) = a; grind]
    rw [Int.mul_assoc, Int.mul_assoc, sh]
    generalize e2 (X - 1) = a
    generalize e2 1074 = c
    grind
  unfold sg
  split
  · rw [Int.neg_mul, Int.neg_mul, q]
  · exact q
/-- what the middle and its neighbours are rounded to -/
def RdTo (q : Rat) (x : Int) : Prop := ∀ s v E, s = decide (q.num < 0) → RoundIs (scA (q.num.natAbs : Int) 0) (scB (q.den : Int) 0) false s 0 v E → v = x ∧ E = 0
theorem rdTo_of {q : Rat} {s : Bool} {A B x : Int} (hA : 0 < A) (hB : 0 < B) (hq : q = mkR s A (B * e2 1074)) (h : RoundIs A B false s 0 x 0) : RdTo q x := by
  intro s' v E hs hr
  have a := (round_mk (v := v) (e := E) (mode := 0) hA hB hq)
  rw [a.1] at hs
  subst hs
  exact roundIs_uniq hB (a.2.mp hr) h
theorem mid_data {b : Int} (hu : U b) (hf : ef b ≠ 2047) (hm : b ≠ mostP) : ∃ LO HI X : Int, (U LO ∧ ef LO ≠ 2047) ∧ (U HI ∧ ef HI ≠ 2047) ∧ midR b + midR b = valR LO + valR HI ∧ RdTo (midR b) X ∧
    RdTo (midR b - (valR HI - midR b) * mkR false 1 8) LO ∧ RdTo (midR b + (valR HI - midR b) * mkR false 1 8) HI ∧
    ((b < 9223372036854775808 ∧ LO = b ∧ HI = b + 1) ∨ (b = 9223372036854775808 ∧ LO = 0 ∧ HI = 1) ∨ (9223372036854775808 < b ∧ LO = b ∧ HI = b - 1)) ∧ ((LO % 2 = 1 ∧ X = HI) ∨ (LO % 2 = 0 ∧ X = LO)) := by
  obtain ⟨ui, fi⟩ := inn_fin hu hf
  obtain ⟨f1, f2, f3⟩ := fin_size ui fi
  have mf := mid_form hu hf
  obtain ⟨s, hs⟩ : ∃ s, s = decide (9223372036854775808 < b) := ⟨_, rfl⟩
  obtain ⟨d, hd⟩ : ∃ d, d = mg (innB b) := ⟨_, rfl⟩
  rw [← hs, ← hd] at mf
  rw [← hd] at f1 f2
  have hu' := hu
  unfold U at hu'
  have hf' := hf
  unfold ef at hf'
  unfold mostP at hm
  have hdv : (9223372036854775808 < b → d = b - 1 - 9223372036854775808) ∧ (¬ 9223372036854775808 < b → d = b % 9223372036854775808) := by
    rw [hd]
    unfold innB mg
    constructor
    · intro q; rw [if_pos q]; omega
    · intro q; rw [if_neg q]
  have d1 : d < mostP := by unfold mostP; by_cases q : 9223372036854775808 < b <;> omega
  have g := nxt_gt d
  have n0 := num_nonneg' f1 f2
  have su := num_succ f1 d1
  have pE := e2_pos 1074
  obtain ⟨a1, a2, a3⟩ := val_form (s := s) f1 f2
  obtain ⟨b1, b2, b3⟩ := val_form (d := d + 1) (s := s) (by omega) (by omega)
  rw [su] at b3
  have tie := round_tie (s := s) f1 d1
  have lo := round_lower (s := s) f1 d1
  have up := round_upper (s := s) f1 d1
  have hsg : sgB s = if s = true then 9223372036854775808 else 0 := rfl
  have rt := rdTo_of (q := midR b) (by omega) (by omega) mf tie
  have ml := mid_left (n0 := numW d) (n1 := nxtN d) pE s
  have mr := mid_right (n0 := numW d) (n1 := nxtN d) pE s
  have mt := mid_twice (n0 := numW d) (n1 := nxtN d) pE s
  by_cases q : 9223372036854775808 < b
  · have st : s = true := by rw [hs]; simpa using q
    subst st
    simp only [if_true] at ml mr hsg
    have e1 := hdv.1 q
    refine ⟨d + 1 + sgB true, d + sgB true, _, ⟨b1, b2⟩, ⟨a1, a2⟩, ?_, rt, ?_, ?_, Or.inr (Or.inr ⟨q, by rw [hsg]; omega, by rw [hsg]; omega⟩), ?_⟩
    · rw [mf, b3, a3, Rat.add_comm (mkR true (nxtN d) (e2 1074))]; exact mt
    · rw [mf, a3, ml]; exact rdTo_of (by omega) (by omega) rfl up
    · rw [mf, a3, mr]; exact rdTo_of (by omega) (by omega) rfl lo
    · by_cases pr : d % 2 = 1
      · right; rw [if_pos pr, hsg]; exact ⟨by omega, rfl⟩
      · left; rw [if_neg pr, hsg]; exact ⟨by omega, rfl⟩
  · have st : s = false := by rw [hs]; simpa using q
    subst st
    simp only [Bool.false_eq_true, if_false] at ml mr hsg
    have e1 := hdv.2 q
    refine ⟨d + sgB false, d + 1 + sgB false, _, ⟨a1, a2⟩, ⟨b1, b2⟩, ?_, rt, ?_, ?_, ?_, ?_⟩
    · rw [mf, b3, a3]; exact mt
    · rw [mf, b3, ml]; exact rdTo_of (by omega) (by omega) rfl lo
    · rw [mf, b3, mr]; exact rdTo_of (by omega) (by omega) rfl up
    · by_cases z : b = 9223372036854775808
      · right; left; exact ⟨z, by rw [hsg]; omega, by rw [hsg]; omega⟩
      · left; exact ⟨by omega, by rw [hsg]; omega, by rw [hsg]; omega⟩
    · by_cases pr : d % 2 = 1
      · left; rw [if_pos pr, hsg]; exact ⟨by omega, rfl⟩
      · right; rw [if_neg pr, hsg]; exact ⟨by omega, rfl⟩
end Na
theorem mid_size {b : Int} (hu : U b) (hf : ef b ≠ 2047) : Sz (midR b) 20 := by
  obtain ⟨ui, fi⟩ := inn_fin hu hf
  obtain ⟨p, e1, e2', e3, e4, e5, e6, e7⟩ := num_parts ui fi
  unfold midR binQ
  have l1 : Lt ((2 * spM (innB b) + 1) * e2 (spX (innB b) - 1)) 20 := by
    have := (Lt.word (x := 2 * spM (innB b) + 1) (by omega)).pow2 (t := (spX (innB b) - 1).toNat)
    exact this.mono (by omega)
  have l2 : Lt (e2 (-(spX (innB b) - 1))) 20 := by
    have := lt_one.pow2 (t := (-(spX (innB b) - 1)).toNat)
    rw [Int.one_mul] at this
    exact this.mono (by omega)
  exact Sz.mkR l1 l2 (e2_pos _)
end Go.Proofs.YtildkknpbpdnnabGreatDoor
