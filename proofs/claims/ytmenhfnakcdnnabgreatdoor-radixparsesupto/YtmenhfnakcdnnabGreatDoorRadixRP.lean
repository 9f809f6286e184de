/- plumbref04.Parse. -/
import Derived.Test.YtmenhfnakcdnnabGreatDoorRadixPF
namespace Go.Proofs.YtmenhfnakcdnnabGreatDoor
open Go.ChangeShapes Go.WideShapes Go.ChangeAt Go.RowKit
open Na Ar
set_option linter.unusedVariables false
namespace Na
/-- the document's value of a byte -/
def refV (r : Int) : Int := if valN r = 36 then 99 else valN r
theorem refV_lt {r b : Int} (hb : b ≤ 36) : refV r < b ↔ valN r < b := by
  have := valN_bd r
  unfold refV
  split <;> omega
theorem refV_eq {r b : Int} (hb : b ≤ 36) (h : valN r < b) : refV r = valN r := by
  unfold refV; rw [if_neg (by omega)]
theorem refV_of {r x : Int} (h : valN r = x) (hx : x ≠ 36) : refV r = x := by unfold refV; rw [h, if_neg hx]
theorem refV_none {r : Int} (h : valN r = 36) : refV r = 99 := by unfold refV; rw [if_pos h]
theorem numB_lead {s : ByteArray} {b : Int} {f : Nat} (hb : 2 ≤ b) (hz : ∀ j, j < f → s.get! j = 48) (h1 : 1 ≤ dgt s f) (n : Nat) : b ^ n ≤ numB s b (f + n + 1) := by
  induction n with
  | zero =>
    show b ^ 0 ≤ numB s b (f + 0) * b + dgt s (f + 0)
    rw [Nat.add_zero, numB_zeros hz, Int.pow_zero, Int.zero_mul]; omega
  | succ n ih =>
    show b ^ (n + 1) ≤ numB s b (f + (n + 1)) * b + dgt s (f + (n + 1))
    have d := (valN_bd ((s.get! (f + (n + 1))).toNat : Int)).1
    have e : dgt s (f + (n + 1)) = valN ((s.get! (f + (n + 1))).toNat : Int) := rfl
    rw [Int.pow_succ]
    have m := Int.mul_le_mul_of_nonneg_right ih (show 0 ≤ b by omega)
    have e2 : f + (n + 1) = f + n + 1 := by omega
    rw [e2] at d e ⊢
    omega
/-- zeros ahead up to f, within the first i -/
def Lead (s : ByteArray) (f i : Nat) : Prop := f ≤ i ∧ (∀ j, j < f → s.get! j = 48) ∧ (f < i → s.get! f ≠ 48)
theorem lead_skip {s : ByteArray} {f i : Nat} (h : Lead s f i) (hs : ¬ (s.get! i = 48 ∧ i = f)) : Lead s f (i + 1) := by
  obtain ⟨h1, h2, h3⟩ := h
  refine ⟨by omega, h2, fun q => ?_⟩
  by_cases g : f < i
  · exact h3 g
  · have e : i = f := by omega
    intro z
    exact hs ⟨by rw [e]; exact z, e⟩
theorem lead_step {s : ByteArray} {f i : Nat} (h : Lead s f i) (hz : s.get! i = 48) (e : i = f) : Lead s (f + 1) (i + 1) := by
  obtain ⟨h1, h2, h3⟩ := h
  refine ⟨by omega, fun j hj => ?_, fun q => by omega⟩
  by_cases g : j < f
  · exact h2 j g
  · have : j = i := by omega
    rw [this]; exact hz
end Na
theorem refValue_any (r : Int) (h0 : 0 ≤ r) (h1 : r ≤ 255) (w : World) :
    Calls Tryz.prog 15 #[.int .u8 r] w fun e w' => e = .returned (.int .i64 (refV r)) ∧ w = w' := by
  by_cases a1 : 48 ≤ r
  · by_cases a2 : r ≤ 57
    · have HE : Hid (r - 48 = refV r) := (refV_of (by unfold valN; rw [if_pos ⟨a1, a2⟩]) (by omega)).symm
      go_enter Tryz.func15, Tryz.ntmps15
      go_wp2
      go_ret
      exact ⟨ret_int HE.out, rfl⟩
    · by_cases a3 : 97 ≤ r
      · by_cases a4 : r ≤ 122
        · have HE : Hid (r - 97 + 10 = refV r) := (refV_of (by unfold valN; rw [if_neg (by omega), if_pos ⟨a3, a4⟩]; omega) (by omega)).symm
          go_enter Tryz.func15, Tryz.ntmps15
          go_wp2
          go_ret
          exact ⟨ret_int HE.out, rfl⟩
        · have HE : Hid (99 = refV r) := (refV_none (by unfold valN; rw [if_neg (by omega), if_neg (by omega), if_neg (by omega)])).symm
          have a5 : 65 ≤ r := by omega
          have a6 : ¬ r ≤ 90 := by omega
          go_enter Tryz.func15, Tryz.ntmps15
          go_wp2
          go_ret
          exact ⟨ret_int HE.out, rfl⟩
      · by_cases a5 : 65 ≤ r
        · by_cases a6 : r ≤ 90
          · have HE : Hid (r - 65 + 10 = refV r) := (refV_of (by unfold valN; rw [if_neg (by omega), if_neg (by omega), if_pos ⟨a5, a6⟩]; omega) (by omega)).symm
            go_enter Tryz.func15, Tryz.ntmps15
            go_wp2
            go_ret
            exact ⟨ret_int HE.out, rfl⟩
          · have HE : Hid (99 = refV r) := (refV_none (by unfold valN; rw [if_neg (by omega), if_neg (by omega), if_neg (by omega)])).symm
            go_enter Tryz.func15, Tryz.ntmps15
            go_wp2
            go_ret
            exact ⟨ret_int HE.out, rfl⟩
        · have HE : Hid (99 = refV r) := (refV_none (by unfold valN; rw [if_neg (by omega), if_neg (by omega), if_neg (by omega)])).symm
          go_enter Tryz.func15, Tryz.ntmps15
          go_wp2
          go_ret
          exact ⟨ret_int HE.out, rfl⟩
  · have HE : Hid (99 = refV r) := (refV_none (by unfold valN; rw [if_neg (by omega), if_neg (by omega), if_neg (by omega)])).symm
    have a3 : ¬ 97 ≤ r := by omega
    have a5 : ¬ 65 ≤ r := by omega
    go_enter Tryz.func15, Tryz.ntmps15
    go_wp2
    go_ret
    exact ⟨ret_int HE.out, rfl⟩
set_option maxHeartbeats 1600000 in
set_option maxRecDepth 100000 in
theorem putNil_any {x c0 : Int} {base : Nat} {w : World} (hx : 0 ≤ x ∧ x < 4294967296) (hc : 0 ≤ c0 ∧ c0 < 4294967296) (hbase : base ≤ w.heap.size) :
    Calls Tryz.prog 16 #[.slice none 0 0, .int .u64 x, .int .u64 c0] w fun e w' => ∃ v, e = .returned v ∧ LimbsIs w' base v 1 c0 ∧ Below base w w' := by
  obtain ⟨i_u64, hi_u64, hz0_u64, hz1_u64, hz2_u64⟩ := info_parts info_u64
  have hou := own_nil .u64 w base 43
  have hnx := Below.refl base w
  go_enter Tryz.func16, Tryz.ntmps16
  go_wp2
  refine wp_loop_rounds 1 ?_
  rw [rounds_succ]
  by_cases h0 : 0 < c0
  · have hdg2 : Dg 4294967296 [c0] := Dg.one hc
    go_wp2_with (at_builtin; refine wpList_append_own _ rfl _ _ 22 rfl base 43 i_u64 (.int .u64 0) 1 8 Tryz.underlying22 hi_u64 hz0_u64 hz1_u64 hz2_u64 rfl (by decide) _ 0 [] rfl ((World.ownsRow_nil w base 43 1).alloc _) ⟨w.heap.size, 0, none⟩ 1 1 [.int .u64 c0] rfl rfl one_new one_cell (by unfold maxLen; omega) (by omega) (by simp; omega) ?_)
    intro v' w2 hown' hgrow _
    have hb' := grow_below hbase hou.row hnx hgrow
    have ho' : Own .u64 w2 base 43 v' ([] ++ [c0]) := own_next hown' rfl
    clear hown' hgrow hou hnx
    go_wp2
    go_ret
    exact ⟨_, rfl, ⟨_, ho', hdg2, by simp, by simp [val]⟩, hb'⟩
  · have HZ : Hid (c0 = 0) := by show _ = _; omega
    go_wp2
    go_ret
    exact ⟨_, rfl, ⟨[], hou, Dg.nil _, by simp, by rw [HZ.out]; rfl⟩, hnx⟩
theorem putAll_any {v : Value} {n base : Nat} {V x c0 : Int} {w : World} (h : LimbsIs w base v n V) (hx : 0 ≤ x ∧ x < 4294967296) (hc : 0 ≤ c0 ∧ c0 < 4294967296) (hn : n ≤ 1000000) (hbase : base ≤ w.heap.size) :
    Calls Tryz.prog 16 #[v, .int .u64 x, .int .u64 c0] w fun e w' => ∃ v', e = .returned v' ∧ LimbsIs w' base v' (n + 1) (V * x + c0) ∧ Below base w w' := by
  obtain ⟨us, ho, hd, hl, hV⟩ := h
  rcases ho.2 with ⟨h1, h2⟩ | ⟨g, c, cur, hv, hg, _⟩
  · have e : us = [] := List.eq_nil_of_length_eq_zero h2
    subst h1
    refine (putNil_any hx hc hbase).mono ?_
    rintro e' w' ⟨v', rfl, ⟨us', p1, p2, p3, p4⟩, hB⟩
    refine ⟨v', rfl, ⟨us', p1, p2, by omega, ?_⟩, hB⟩
    rw [p4, ← hV, e]; simp [val]
  · subst hv
    refine (put_any ho rfl hd hx hc (by omega) hbase).mono ?_
    rintro e' w' ⟨v', rfl, ⟨us', p1, p2, p3, p4⟩, hB⟩
    refine ⟨v', rfl, ⟨us', p1, p2, by omega, ?_⟩, hB⟩
    rw [p4, hV]
end Go.Proofs.YtmenhfnakcdnnabGreatDoor
