/- Layer 18: what a token is at its places, by numbers alone. -/
import Derived.Test.YtnnpakllehldhaaGreatDoorTkS
namespace Go.Proofs.YtnnpakllehldhaaGreatDoor
set_option linter.unusedVariables false
open Lx
namespace Tk
theorem bytes18 {p : UInt8 → Bool} (h : (List.range 256).all (fun n => p (UInt8.ofNat n)) = true) (b : UInt8) : p b = true := by
  have := List.all_eq_true.mp h b.toNat (List.mem_range.mpr (UInt8.toNat_lt b))
  rw [UInt8.ofNat_toNat] at this
  exact this
/-- a token of the rest r, its places from the rest's beginning on -/
structure TkF (r : B) (c : Ct) : Prop where
  up : c.fr < c.to
  le : c.to ≤ r.length
  bl : (r.take c.fr).all isBl = true
  kinds : (c.kind = 1 ∧ c.num = nmZ0 ∧ c.word = ((r.drop c.fr).take (c.to - c.fr)).map upB ∧ ((r.drop c.fr).take (c.to - c.fr)).all isLt = true ∧ shutB (r.drop c.to) = true) ∨
    (c.kind = 2 ∧ c.num = nmZ0 ∧ c.word = [] ∧ (r.drop c.fr).take (c.to - c.fr) = [40]) ∨
    (c.kind = 3 ∧ c.num = nmZ0 ∧ c.word = [] ∧ (r.drop c.fr).take (c.to - c.fr) = [41]) ∨
    (c.kind = 4 ∧ c.num = nmZ0 ∧ c.word = [] ∧ (r.drop c.fr).take (c.to - c.fr) = [44]) ∨
    (c.kind = 5 ∧ c.word = [] ∧ (longestL ((r.drop c.fr).take (c.to - c.fr))).kind ≠ 0 ∧ (longestL ((r.drop c.fr).take (c.to - c.fr))).stop = c.to - c.fr ∧ c.to - c.fr ≤ 65536 ∧ c.num = numOf (longestL ((r.drop c.fr).take (c.to - c.fr))) ∧ shutB (r.drop c.to) = true)
theorem tokB_k {x : UInt8} {q : B} (hp : 0 < (tokB x q).kind) : TkF (x :: q) (tokB x q) := by
  have hf := (tokB_f x q).1
  have up := hf.up hp
  have le := hf.to
  unfold tokB at *
  split
  · rename_i hL
    rw [if_pos hL] at hp up le
    unfold shutC at *
    split
    · rename_i hs
      refine ⟨by rw [if_pos hs] at up; exact up, by rw [if_pos hs] at le; exact le, rfl, Or.inl ⟨rfl, rfl, ?_, ?_, hs⟩⟩
      · show ((x :: q).takeWhile isLt).map upB = (((x :: q).drop 0).take (((x :: q).takeWhile isLt).length - 0)).map upB
        rw [List.drop_zero, Nat.sub_zero, take_tk]
      · show (((x :: q).drop 0).take (((x :: q).takeWhile isLt).length - 0)).all isLt = true
        rw [List.drop_zero, Nat.sub_zero, take_tk]
        exact all_tk isLt _
    · rename_i hs
      rw [if_neg hs] at hp
      exact absurd hp (by show ¬ (0 : Int) < -1; omega)
  · rename_i hL
    rw [if_neg hL] at hp up le
    split
    · rename_i h
      rw [if_pos h] at up le
      exact ⟨up, le, rfl, Or.inr (Or.inl ⟨rfl, rfl, rfl, by rw [h]; rfl⟩)⟩
    · rename_i h40
      rw [if_neg h40] at hp up le
      split
      · rename_i h
        rw [if_pos h] at up le
        exact ⟨up, le, rfl, Or.inr (Or.inr (Or.inl ⟨rfl, rfl, rfl, by rw [h]; rfl⟩))⟩
      · rename_i h41
        rw [if_neg h41] at hp up le
        split
        · rename_i h
          rw [if_pos h] at up le
          exact ⟨up, le, rfl, Or.inr (Or.inr (Or.inr (Or.inl ⟨rfl, rfl, rfl, by rw [h]; rfl⟩)))⟩
        · rename_i h44
          rw [if_neg h44] at hp up le
          simp only at hp up le ⊢
          split
          · rename_i hz
            rw [if_pos hz] at hp
            exact absurd hp (by show ¬ (0 : Int) < -1; omega)
          · rename_i hz
            rw [if_neg hz] at hp up le
            unfold shutC at *
            split
            · rename_i hs
              have hst := longest_le ((x :: q).take 65536)
              have hst2 : (longestL ((x :: q).take 65536)).stop ≤ 65536 := by rw [List.length_take] at hst; omega
              have hself := longest_self hz
              have e : ((x :: q).take 65536).take (longestL ((x :: q).take 65536)).stop = (x :: q).take (longestL ((x :: q).take 65536)).stop := by rw [List.take_take, Nat.min_eq_left hst2]
              rw [e] at hself
              have e2 : ((x :: q).drop 0).take ((longestL ((x :: q).take 65536)).stop - 0) = (x :: q).take (longestL ((x :: q).take 65536)).stop := by rw [List.drop_zero, Nat.sub_zero]
              refine ⟨by rw [if_pos hs] at up; exact up, by rw [if_pos hs] at le; exact le, rfl, Or.inr (Or.inr (Or.inr (Or.inr ⟨rfl, rfl, ?_, ?_, ?_, ?_, hs⟩)))⟩
              · show (longestL (((x :: q).drop 0).take ((longestL ((x :: q).take 65536)).stop - 0))).kind ≠ 0
                rw [e2, hself]; exact hz
              · show (longestL (((x :: q).drop 0).take ((longestL ((x :: q).take 65536)).stop - 0))).stop = (longestL ((x :: q).take 65536)).stop - 0
                rw [e2, hself, Nat.sub_zero]
              · show (longestL ((x :: q).take 65536)).stop - 0 ≤ 65536
                omega
              · show numOf (longestL ((x :: q).take 65536)) = numOf (longestL (((x :: q).drop 0).take ((longestL ((x :: q).take 65536)).stop - 0)))
                rw [e2, hself]
            · rename_i hs
              rw [if_neg hs] at hp
              exact absurd hp (by show ¬ (0 : Int) < -1; omega)
theorem cut_k {r : B} (hp : 0 < (cutR r).kind) : TkF r (cutR r) := by
  obtain ⟨y, q, h1, h2⟩ := cutR_nonil (r := r) (by omega)
  rw [h2] at hp ⊢
  have f := tokB_k (x := y) (q := q) hp
  have hl := dk_len isBl r
  have hd : r.drop (r.takeWhile isBl).length = y :: q := by rw [drop_dk, h1]
  rw [h1] at hl
  generalize tokB y q = c at *
  have e1 : r.drop (c.move (r.takeWhile isBl).length).fr = (y :: q).drop c.fr := by
    show r.drop ((r.takeWhile isBl).length + c.fr) = _
    rw [← hd, List.drop_drop]
  have e2 : r.drop (c.move (r.takeWhile isBl).length).to = (y :: q).drop c.to := by
    show r.drop ((r.takeWhile isBl).length + c.to) = _
    rw [← hd, List.drop_drop]
  have e3 : (c.move (r.takeWhile isBl).length).to - (c.move (r.takeWhile isBl).length).fr = c.to - c.fr := by
    show (r.takeWhile isBl).length + c.to - ((r.takeWhile isBl).length + c.fr) = _
    omega
  refine ⟨by show _ + c.fr < _ + c.to; have := f.up; omega, by show _ + c.to ≤ _; have := f.le; omega, ?_, ?_⟩
  · show (r.take ((r.takeWhile isBl).length + c.fr)).all isBl = true
    have h := tk_take isBl r c.fr
    rw [h.1, h1, List.all_append, all_tk]
    exact f.bl
  · rw [e1, e2, e3]
    exact f.kinds
/-- the wrong byte is none that may stand there -/
theorem cut_bad {r : B} (hk : (cutR r).kind = -1) : ∃ x q, r.drop (cutR r).fr = x :: q ∧ isBl x = false ∧ x ≠ 40 ∧ x ≠ 41 ∧ x ≠ 44 := by
  obtain ⟨y, q, h1, h2⟩ := cutR_nonil (r := r) (by omega)
  rw [h2] at hk ⊢
  have hd : r.drop (r.takeWhile isBl).length = y :: q := by rw [drop_dk, h1]
  have hb := dk_head h1
  have e1 : r.drop ((tokB y q).move (r.takeWhile isBl).length).fr = (y :: q).drop (tokB y q).fr := by
    show r.drop ((r.takeWhile isBl).length + (tokB y q).fr) = _
    rw [← hd, List.drop_drop]
  rw [e1]
  have hk : (tokB y q).kind = -1 := hk
  clear e1 h1 h2 hd
  have shutF : ∀ t : Ct, t.kind ≠ -1 → (shutC (y :: q) t).kind = -1 → ∃ x q', (y :: q).drop (shutC (y :: q) t).fr = x :: q' ∧ isBl x = false ∧ x ≠ 40 ∧ x ≠ 41 ∧ x ≠ 44 := by
    intro t ht h
    unfold shutC at *
    split
    · rename_i hs
      rw [if_pos hs] at h
      exact absurd h ht
    · rename_i hs
      show ∃ x q', (y :: q).drop t.to = x :: q' ∧ _
      cases hdd : (y :: q).drop t.to with
      | nil => rw [hdd] at hs; exact absurd rfl hs
      | cons x q' =>
        rw [hdd] at hs
        have hs' : (isBl x || x == 44 || x == 40 || x == 41) = false := by simpa [shutB] using hs
        simp only [Bool.or_eq_false_iff, beq_eq_false_iff_ne] at hs'
        exact ⟨x, q', rfl, hs'.1.1.1, hs'.1.2, hs'.2, hs'.1.1.2⟩
  unfold tokB at *
  split
  · rename_i hL
    rw [if_pos hL] at hk
    exact shutF _ (by show (1 : Int) ≠ -1; omega) hk
  · rename_i hL
    rw [if_neg hL] at hk
    split
    · rename_i h
      rw [if_pos h] at hk
      exact absurd hk (by show ¬ (2 : Int) = -1; omega)
    · rename_i h40
      rw [if_neg h40] at hk
      split
      · rename_i h
        rw [if_pos h] at hk
        exact absurd hk (by show ¬ (3 : Int) = -1; omega)
      · rename_i h41
        rw [if_neg h41] at hk
        split
        · rename_i h
          rw [if_pos h] at hk
          exact absurd hk (by show ¬ (4 : Int) = -1; omega)
        · rename_i h44
          rw [if_neg h44] at hk
          simp only at hk ⊢
          split
          · exact ⟨y, q, rfl, hb, h40, h41, h44⟩
          · rename_i hz
            rw [if_neg hz] at hk
            exact shutF _ (by show (5 : Int) ≠ -1; omega) hk
end Tk
end Go.Proofs.YtnnpakllehldhaaGreatDoor
