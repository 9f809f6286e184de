/- the text of a number is one. -/
import Derived.Test.YtmenhfnakcdnnabDoorRadixText
namespace Go.Proofs.YtmenhfnakcdnnabDoor
open Go.ChangeShapes Go.WideShapes Go.ChangeAt Go.RowKit
open Na Ar
set_option linter.unusedVariables false
namespace Na
theorem laidD_zero {b : Int} (hb : 2 ≤ b) (m : Nat) : laidD b m 0 = List.replicate m 48 := by
  induction m with
  | zero => rfl
  | succ m ih =>
    have e : laidD b (m + 1) 0 = laidD b m (0 / b) ++ [dch (0 % b)] := rfl
    rw [e, Int.zero_ediv, Int.zero_emod, ih, List.replicate_succ']
    rfl
theorem laidD_pad {b X : Int} (hb : 2 ≤ b) {j d : Nat} (h0 : 0 ≤ X) (h : X < b ^ d) : laidD b (j + d) X = List.replicate j 48 ++ laidD b d X := by
  rw [laidD_split hb, Int.ediv_eq_zero_of_lt h0 h, laidD_zero hb]
theorem dch_ne {x : Int} (h0 : 1 ≤ x) (h1 : x < 36) : UInt8.ofNat (dch x).toNat ≠ 48 := by
  intro e
  have a := congrArg UInt8.toNat e
  rw [UInt8.toNat_ofNat'] at a
  have b := dch_bd (d := x) (by omega) h1
  have c : dch x ≠ 48 := by unfold dch; split <;> omega
  have f : (48 : UInt8).toNat = 48 := rfl
  rw [f] at a
  omega
theorem text_bytes {X b : Int} {t : ByteArray} {d : Nat} (h : TextIs X b t) (hb : 2 ≤ b) (hb9 : b ≤ 36) (h1 : b ^ d ≤ X) (h2 : X < b ^ (d + 1)) : t.data.toList = bytesOf (laidD b (d + 1) X) := by
  obtain ⟨m, u, hm, hX, hu, k, hF, hz, hnz⟩ := h
  have hpos : 0 < b ^ d := Int.pow_pos (by omega)
  have hmd : d < m := by
    by_cases g : d < m
    · exact g
    · have := ipow_monoB (b := b) (by omega) (show m ≤ d by omega)
      omega
  obtain ⟨j, rfl⟩ : ∃ j, m = j + (d + 1) := ⟨m - (d + 1), by omega⟩
  rw [laidD_pad hb (by omega) h2] at hu
  have hcons := laidD_cons hb d X
  have q1 : 1 ≤ X / b ^ d := Int.le_ediv_of_mul_le hpos (by omega)
  have q2 : X / b ^ d < b := by
    refine Int.ediv_lt_of_lt_mul hpos ?_
    rw [Int.pow_succ] at h2
    rw [Int.mul_comm]; exact h2
  have q3 : X / b ^ d % b = X / b ^ d := Int.emod_eq_of_lt (by omega) q2
  rw [q3] at hcons
  have hul : u.data.toList = List.replicate j 48 ++ bytesOf (laidD b (d + 1) X) := by
    rw [hu]
    unfold bytesOf
    rw [List.map_append, List.map_replicate]
    rfl
  have hlen : u.size = j + (d + 1) := by rw [Lib.size_eq, hul]; unfold bytesOf; simp [laidD_length]
  have hat : u.get! j ≠ 48 := by
    rw [byte_list, hul, List.getD_eq_getElem?_getD, List.getElem?_append_right (by simp)]
    rw [hcons]
    unfold bytesOf
    simp
    exact dch_ne q1 (by omega)
  have hkj : k = j := by
    rcases Nat.lt_trichotomy k j with g | g | g
    · exfalso
      refine hnz (by omega) ?_
      rw [byte_list, hul, List.getD_eq_getElem?_getD, List.getElem?_append_left (by simpa using g)]
      simp [g]
    · exact g
    · exact absurd (hz j g) hat
  rw [hF.1, hul, hkj]
  simp
end Na
end Go.Proofs.YtmenhfnakcdnnabDoor
