/- radix.layWord: digits, laid into bytes. -/
import Derived.Test.YtmenhfnakcdnnabDoorRadixParse
import Derived.Test.YtmenhfnakcdnnabDoorBaseB
namespace Go.Proofs.YtmenhfnakcdnnabDoor
open Go.ChangeShapes Go.WideShapes Go.ChangeAt Go.RowKit
open Na Ar
set_option linter.unusedVariables false
theorem info_u8 : (Tryd.prog.info? 5).map (fun i => (i.zero, i.size, i.bytes)) = some (some (.int .u8 0), 1, 1) := by kernel_rfl
namespace Na
/-- a digit's byte -/
def dch (d : Int) : Int := if d < 10 then 48 + d else 87 + d
/-- the lowest m digits, the highest first -/
def laidD (b : Int) : Nat → Int → List Int
  | 0, _ => []
  | m + 1, X => laidD b m (X / b) ++ [dch (X % b)]
theorem laidD_length (b : Int) (m : Nat) (X : Int) : (laidD b m X).length = m := by
  induction m generalizing X with
  | zero => rfl
  | succ m ih => simp [laidD, ih]
theorem laidD_cons {b : Int} (hb : 2 ≤ b) (m : Nat) (X : Int) : laidD b (m + 1) X = dch (X / b ^ m % b) :: laidD b m X := by
  induction m generalizing X with
  | zero => simp [laidD]
  | succ m ih =>
    have e : laidD b (m + 1 + 1) X = laidD b (m + 1) (X / b) ++ [dch (X % b)] := rfl
    rw [e, ih (X / b)]
    have d : X / b / b ^ m = X / b ^ (m + 1) := by rw [Int.ediv_ediv_of_nonneg (by omega), Int.pow_succ, Int.mul_comm]
    rw [d]
    rfl
theorem laidD_split {b : Int} (hb : 2 ≤ b) (m k : Nat) (X : Int) : laidD b (m + k) X = laidD b m (X / b ^ k) ++ laidD b k X := by
  induction k generalizing X with
  | zero => simp [laidD]
  | succ k ih =>
    have e : laidD b (m + (k + 1)) X = laidD b (m + k) (X / b) ++ [dch (X % b)] := rfl
    rw [e, ih (X / b)]
    have d : X / b / b ^ k = X / b ^ (k + 1) := by rw [Int.ediv_ediv_of_nonneg (by omega), Int.pow_succ, Int.mul_comm]
    rw [d, List.append_assoc]
    rfl
theorem laidD_mod {b : Int} (hb : 2 ≤ b) (k : Nat) (X : Int) : laidD b k (X % b ^ k) = laidD b k X := by
  induction k generalizing X with
  | zero => rfl
  | succ k ih =>
    have e1 : laidD b (k + 1) (X % b ^ (k + 1)) = laidD b k (X % b ^ (k + 1) / b) ++ [dch (X % b ^ (k + 1) % b)] := rfl
    have e2 : laidD b (k + 1) X = laidD b k (X / b) ++ [dch (X % b)] := rfl
    have p : 0 < b ^ k := Int.pow_pos (by omega)
    have f1 : X % b ^ (k + 1) % b = X % b := by
      rw [Int.pow_succ, Int.mul_comm]
      exact Int.emod_emod_of_dvd X (Int.dvd_mul_right b (b ^ k))
    have f2 : X % b ^ (k + 1) / b = X / b % b ^ k := by
      rw [Int.pow_succ]
      have d := Int.mul_ediv_add_emod X b
      have d2 := Int.mul_ediv_add_emod (X / b) (b ^ k)
      have m0 := Int.emod_nonneg X (show b ≠ 0 by omega)
      have m1 := Int.emod_lt_of_pos X (show 0 < b by omega)
      have n0 := Int.emod_nonneg (X / b) (show b ^ k ≠ 0 by omega)
      have n1 := Int.emod_lt_of_pos (X / b) p
      generalize X / b / b ^ k = Q at *
      generalize X / b % b ^ k = R at *
      generalize X % b = r at *
      generalize b ^ k = P at *
      have e : X = (r + b * R) + P * b * Q := by rw [← d, ← d2]; grind
      rw [e, Int.add_mul_emod_self_left]
      have lt : r + b * R < P * b := by
        have := Int.mul_le_mul_of_nonneg_left (show R + 1 ≤ P by omega) (show 0 ≤ b by omega)
        rw [Int.mul_comm P b]
        rw [Int.mul_add] at this
        omega
      have nn : 0 ≤ b * R := Int.mul_nonneg (by omega) n0
      rw [Int.emod_eq_of_lt (by omega) lt, Int.add_mul_ediv_left _ _ (by omega), Int.ediv_eq_zero_of_lt m0 m1]
      omega
    rw [e1, e2, f1, f2, ih]
theorem over_set {ds ps : List Int} {p : Nat} (h : p + 1 + ps.length ≤ ds.length) (x : Int) : (over ds ps (p + 1)).set p x = over ds (x :: ps) p := by
  unfold over
  have e : ds.take (p + 1) = ds.take p ++ [ds.getD p 0] := take_next (by omega)
  rw [e]
  have l : (ds.take p).length = p := by rw [List.length_take]; omega
  rw [List.append_assoc, List.append_assoc, List.set_append_right _ _ (by omega), l, Nat.sub_self]
  simp
  congr 1
  omega
theorem over_over {ds A B : List Int} {o : Nat} (h : o + A.length + B.length ≤ ds.length) : over (over ds A o) B (o + A.length) = over ds (A ++ B) o := by
  unfold over
  have l : (ds.take o).length = o := by rw [List.length_take]; omega
  have t : (ds.take o ++ A ++ ds.drop (o + A.length)).take (o + A.length) = ds.take o ++ A := by
    rw [List.take_append_of_le_length (by simp [l])]
    rw [List.take_of_length_le (by simp [l])]
  have d : (ds.take o ++ A ++ ds.drop (o + A.length)).drop (o + A.length + B.length) = ds.drop (o + A.length + B.length) := by
    rw [List.drop_append, List.drop_of_length_le (by simp [l] <;> omega), List.nil_append, List.drop_drop]
    congr 1
    simp [l] <;> omega
  rw [t, d]
  simp <;> (congr 1; omega)
theorem dig_all : ∀ d : Fin 36, ((#[48, 49, 50, 51, 52, 53, 54, 55, 56, 57, 97, 98, 99, 100, 101, 102, 103, 104, 105, 106, 107, 108, 109, 110, 111, 112, 113, 114, 115, 116, 117, 118, 119, 120, 121, 122] : Array UInt8)[d.val]!).toNat = (if d.val < 10 then 48 + d.val else 87 + d.val) := by decide
theorem dig_nat (k : Nat) (hk : k < 36) (h : k < (⟨#[48, 49, 50, 51, 52, 53, 54, 55, 56, 57, 97, 98, 99, 100, 101, 102, 103, 104, 105, 106, 107, 108, 109, 110, 111, 112, 113, 114, 115, 116, 117, 118, 119, 120, 121, 122]⟩ : ByteArray).size) : (((⟨#[48, 49, 50, 51, 52, 53, 54, 55, 56, 57, 97, 98, 99, 100, 101, 102, 103, 104, 105, 106, 107, 108, 109, 110, 111, 112, 113, 114, 115, 116, 117, 118, 119, 120, 121, 122]⟩ : ByteArray)[k]'h).toNat : Int) = dch (k : Int) := by
  have a : ((#[48, 49, 50, 51, 52, 53, 54, 55, 56, 57, 97, 98, 99, 100, 101, 102, 103, 104, 105, 106, 107, 108, 109, 110, 111, 112, 113, 114, 115, 116, 117, 118, 119, 120, 121, 122] : Array UInt8)[k]!).toNat = (if k < 10 then 48 + k else 87 + k) := dig_all ⟨k, hk⟩
  have e : (⟨#[48, 49, 50, 51, 52, 53, 54, 55, 56, 57, 97, 98, 99, 100, 101, 102, 103, 104, 105, 106, 107, 108, 109, 110, 111, 112, 113, 114, 115, 116, 117, 118, 119, 120, 121, 122]⟩ : ByteArray)[k]'h = (#[48, 49, 50, 51, 52, 53, 54, 55, 56, 57, 97, 98, 99, 100, 101, 102, 103, 104, 105, 106, 107, 108, 109, 110, 111, 112, 113, 114, 115, 116, 117, 118, 119, 120, 121, 122] : Array UInt8)[k]! := by
    rw [getElem!_pos _ k (show k < 36 from hk)]
    rfl
  rw [e, a]
  unfold dch
  by_cases q : k < 10
  · rw [if_pos q, if_pos (by omega)]; omega
  · rw [if_neg q, if_neg (by omega)]; omega
theorem dig_byte {d : Int} (h0 : 0 ≤ d) (h1 : d < 36) (h : d.toNat < (⟨#[48, 49, 50, 51, 52, 53, 54, 55, 56, 57, 97, 98, 99, 100, 101, 102, 103, 104, 105, 106, 107, 108, 109, 110, 111, 112, 113, 114, 115, 116, 117, 118, 119, 120, 121, 122]⟩ : ByteArray).size) : (((⟨#[48, 49, 50, 51, 52, 53, 54, 55, 56, 57, 97, 98, 99, 100, 101, 102, 103, 104, 105, 106, 107, 108, 109, 110, 111, 112, 113, 114, 115, 116, 117, 118, 119, 120, 121, 122]⟩ : ByteArray)[d.toNat]'h).toNat : Int) = dch d := by
  rw [dig_nat d.toNat (by omega) h]
  congr 1
  omega
theorem over_nil (ds : List Int) {o : Nat} (h : o ≤ ds.length) : over ds [] o = ds := by unfold over; simp
end Na
set_option maxHeartbeats 1600000 in
set_option maxRecDepth 100000 in
theorem layWord_in {g cap N o m dcap base : Nat} {ds : List Int} {X b : Int} {w : World} (hown : Own .u8 w base 5 (.slice (some ⟨g, 0, none⟩) N cap) ds) (hN : N = ds.length) (ho : o + m ≤ N) (hN' : N ≤ 12000000) (hX : U X) (hb : 2 ≤ b) (hb9 : b ≤ 36) :
    Calls Tryd.prog 68 #[.slice (some ⟨g, o, none⟩) m dcap, .int .u64 X, .int .u64 b] w fun e w' => e = .returned (.tuple #[]) ∧ Own .u8 w' base 5 (.slice (some ⟨g, 0, none⟩) N cap) (over ds (laidD b m X) o) ∧ In g (g + 1) w w' := by
  have HN : Hid (N = ds.length) := hN
  have hii := In.refl g (g + 1) w
  have hst : Own .u8 w base 5 (.slice (some ⟨g, 0, none⟩) N cap) (over ds (laidD b (m - m) X) (o + m)) := by
    rw [Nat.sub_self]
    have : laidD b 0 X = [] := rfl
    rw [this, over_nil ds (by omega)]; exact hown
  have hbz : (b == 0) = false := by simp; omega
  clear hN
  go_enter Tryd.func68, Tryd.ntmps68
  go_wp2
  go_loopw [1, 6] (fun x i wr => ∃ (j : Nat) (I W : Int), i = .int .i64 I ∧ I = (j : Int) - 1 ∧ x = .int .u64 W ∧ Hid (W = X / b ^ (m - j)) ∧ j ≤ m ∧ Own .u8 wr base 5 (.slice (some ⟨g, 0, none⟩) N cap) (over ds (laidD b (m - j) X) (o + j)) ∧ In g (g + 1) w wr) (fun _ i _ => (RowKit.intOf i + 1).toNat)
  case atStart => exact ⟨m, _, X, rfl, rfl, rfl, (by rw [Nat.sub_self]; simp : X = X / b ^ (m - m)), Nat.le_refl _, hst, hii⟩
  case round =>
    obtain ⟨j, I, W, rfl, hI, rfl, hW, hj, hou, hnx⟩ := hrel
    clear hown hst hii
    cases j with
    | zero =>
      have hneg : I < 0 := by omega
      rw [Nat.sub_zero, Nat.add_zero] at hou
      clear hI
      go_wp2
      go_end0
      exact ⟨rfl, hou, hnx⟩
    | succ k =>
      have hI' : I = (k : Int) := by omega
      clear hI
      subst hI'
      have hlu : N = (over ds (laidD b (m - (k + 1)) X) (o + (k + 1))).length := by
        rw [over_length (by rw [laidD_length, ← HN.out]; omega)]; exact HN.out
      have hce := hou.cellAt hlu (j := o + k) (by omega)
      have hfz := hou.frozenAt hlu (o + k)
      have hset := hou.set hlu (o + k) (dch (W % b))
      have e1 : m - k = m - (k + 1) + 1 := by omega
      have hW0 : 0 ≤ W := by rw [hW.out]; exact Int.ediv_nonneg hX.1 (Int.pow_nonneg (by omega))
      have hWU : W < 18446744073709551616 := by
        rw [hW.out]
        have := Int.ediv_le_self (b ^ (m - (k + 1))) hX.1
        have := hX.2
        omega
      have HL : Hid ((over ds (laidD b (m - (k + 1)) X) (o + (k + 1))).set (o + k) (dch (W % b)) = over ds (laidD b (m - k) X) (o + k)) := by
        show _ = _
        rw [e1, laidD_cons hb, ← hW.out]
        exact over_set (ds := ds) (ps := laidD b (m - (k + 1)) X) (p := o + k) (by rw [laidD_length, ← HN.out]; omega) _
      rw [HL.out] at hset
      have HW2 : Hid (W / b = X / b ^ (m - k)) := by
        show _ = _
        rw [hW.out, e1, Int.pow_succ, ← Int.ediv_ediv_of_nonneg (Int.pow_nonneg (by omega))]
      have r0 := Int.emod_nonneg W (show b ≠ 0 by omega)
      have r1 := Int.emod_lt_of_pos W (show 0 < b by omega)
      have q0 : 0 ≤ W / b := Int.ediv_nonneg hW0 (by omega)
      have q1 : W / b ≤ W := Int.ediv_le_self b hW0
      have hgb := hou.base_le
      have hdig := fun h => dig_byte r0 (show W % b < 36 by omega) h
      have HW0 : Hid (0 ≤ W) := hW0
      clear hou hlu HL e1 hW
      go_wp2
      go_roundw
      case rel => exact ⟨k, _, _, rfl, rfl, rfl, HW2.out, by omega, hset, hnx.set1 _ _⟩
      case measure => simp [RowKit.intOf]
end Go.Proofs.YtmenhfnakcdnnabDoor
