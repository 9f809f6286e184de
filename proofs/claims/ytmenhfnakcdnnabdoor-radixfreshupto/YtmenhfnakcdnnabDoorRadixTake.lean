/- plumbref04.take: by a small number, from the top. -/
import Derived.Test.YtmenhfnakcdnnabDoorRadixRef
namespace Go.Proofs.YtmenhfnakcdnnabDoor
open Go.ChangeShapes Go.WideShapes Go.ChangeAt Go.RowKit
open Na Ar
set_option linter.unusedVariables false
namespace Na
theorem strip_strip (xs : List Int) : strip (strip xs) = strip xs := by
  obtain ⟨n, hn⟩ : ∃ n, xs.length = n := ⟨_, rfl⟩
  induction n generalizing xs with
  | zero => rw [List.length_eq_zero_iff.mp hn]; rfl
  | succ n ih =>
    have hne : xs ≠ [] := by intro q; rw [q] at hn; simp at hn
    have e := List.dropLast_concat_getLast hne
    rw [← e]
    by_cases q : xs.getLast hne = 0
    · rw [q, strip_zero_end]; exact ih _ (by simp; omega)
    · rw [strip_end _ _ q, strip_end _ _ q]
/-- what is divided from place j on -/
def TkI (ls : List Int) (m : Int) (j : Nat) (qs : List Int) (R : Int) : Prop :=
  qs.length = ls.length - j ∧ Dg 4294967296 qs ∧ val 4294967296 (ls.drop j) = m * val 4294967296 qs + R ∧ 0 ≤ R ∧ R < m
theorem tk_start {ls : List Int} {m : Int} (hm : 1 ≤ m) : TkI ls m ls.length [] 0 := by
  refine ⟨by simp, Dg.nil _, by simp [val], by omega, by omega⟩
theorem tk_step {ls qs : List Int} {m R : Int} {k : Nat} (h : TkI ls m (k + 1) qs R) (hk : k < ls.length) (hd : Dg 4294967296 ls) (hm : 1 ≤ m) : TkI ls m k ((4294967296 * R + ls.getD k 0) / m :: qs) ((4294967296 * R + ls.getD k 0) % m) := by
  obtain ⟨h1, h2, h3, h4, h5⟩ := h
  have gd := hd.get hk
  have e : ls.drop k = ls.getD k 0 :: ls.drop (k + 1) := by
    rw [List.drop_eq_getElem_cons hk, List.getD_eq_getElem?_getD, List.getElem?_eq_getElem hk]; rfl
  generalize ls.getD k 0 = x at *
  have q := Int.mul_ediv_add_emod (4294967296 * R + x) m
  have q0 : 0 ≤ (4294967296 * R + x) / m := Int.ediv_nonneg (by omega) (by omega)
  have q1 : (4294967296 * R + x) / m < 4294967296 := by
    refine Int.ediv_lt_of_lt_mul (by omega) ?_
    have := Int.mul_le_mul_of_nonneg_left (show R + 1 ≤ m by omega) (show (0 : Int) ≤ 4294967296 by omega)
    omega
  refine ⟨by simp; omega, ?_, ?_, Int.emod_nonneg _ (by omega), Int.emod_lt_of_pos _ (by omega)⟩
  · intro y hy
    rcases List.mem_cons.mp hy with rfl | hy
    · exact ⟨q0, q1⟩
    · exact h2 y hy
  · rw [e]
    show x + 4294967296 * val 4294967296 (ls.drop (k + 1)) = m * ((4294967296 * R + x) / m + 4294967296 * val 4294967296 qs) + _
    rw [h3]
    generalize (4294967296 * R + x) / m = Q at *
    generalize (4294967296 * R + x) % m = S at *
    generalize val 4294967296 qs = V at *
    have : m * (Q + 4294967296 * V) = m * Q + 4294967296 * (m * V) := by rw [Int.mul_add, ← Int.mul_assoc, Int.mul_comm m 4294967296, Int.mul_assoc]
    rw [this]
    omega
theorem tk_set {ls qs : List Int} {k : Nat} (hk : k < ls.length) (y : Int) : (ls.take (k + 1) ++ qs).set k y = ls.take k ++ y :: qs := by
  have l : (ls.take k).length = k := by rw [List.length_take]; omega
  rw [take_next hk, List.append_assoc, List.set_append_right _ _ (by omega), l, Nat.sub_self]
  simp
theorem tk_get {ls qs : List Int} {k : Nat} (hk : k < ls.length) : (ls.take (k + 1) ++ qs).getD k 0 = ls.getD k 0 := by
  have l : (ls.take k).length = k := by rw [List.length_take]; omega
  rw [take_next hk, List.append_assoc, List.getD_eq_getElem?_getD, List.getElem?_append_right (by omega), l, Nat.sub_self]
  simp
theorem tk_length {ls qs : List Int} {m R : Int} {j : Nat} (h : TkI ls m j qs R) (hj : j ≤ ls.length) : (ls.take j ++ qs).length = ls.length := by
  rw [List.length_append, List.length_take, h.1]; omega
theorem or_hi {R x : Int} (hR : 0 ≤ R ∧ R < 4294967296) (hx : 0 ≤ x ∧ x < 4294967296) : bits .or .u64 (R * 4294967296) x = 4294967296 * R + x := by
  have h := or_join (x := R) hx
  rw [wrapU, show R * 4294967296 % 18446744073709551616 = R * 4294967296 by omega] at h
  rw [h]; omega
end Na
set_option maxHeartbeats 1000000 in
set_option maxRecDepth 100000 in
theorem take4_any {g cap N base : Nat} {ls : List Int} {m : Int} {w : World} (hown : Own .u64 w base 35 (.slice (some ⟨g, 0, none⟩) N cap) ls) (hN : N = ls.length) (hd : Dg 4294967296 ls) (hm : 1 ≤ m) (hm9 : m < 4294967296) (hN' : N ≤ 6000000) :
    Calls Tryd.prog 56 #[.slice (some ⟨g, 0, none⟩) N cap, .int .u64 m] w fun e w' => ∃ (n : Nat) (us : List Int), e = .returned (.tuple #[.slice (some ⟨g, 0, none⟩) n cap, .int .u64 (val 4294967296 ls % m)]) ∧ (Own .u64 w' base 35 (.slice (some ⟨g, 0, none⟩) n cap) us ∧ n = us.length ∧ n ≤ N ∧ Dg 4294967296 us ∧ val 4294967296 us = val 4294967296 ls / m ∧ strip us = us) ∧ In g (g + 1) w w' := by
  have HN : Hid (N = ls.length) := hN
  have hst : Own .u64 w base 35 (.slice (some ⟨g, 0, none⟩) N cap) (ls.take N ++ []) := by
    rw [hN, List.take_of_length_le (Nat.le_refl _), List.append_nil, ← hN]; exact hown
  have hti : TkI ls m N [] 0 := by rw [hN]; exact tk_start hm
  have hm0 : (m == 0) = false := by rw [beq_eq_false_iff_ne]; omega
  have hii := In.refl g (g + 1) w
  clear hN
  go_enter Tryd.func56, Tryd.ntmps56
  go_wp2
  go_loopw [6, 7, 8] (fun r i _ wr => ∃ (j : Nat) (I R : Int) (qs : List Int), i = .int .i64 I ∧ I = (j : Int) - 1 ∧ r = .int .u64 R ∧ j ≤ N ∧ Hid (TkI ls m j qs R) ∧ Own .u64 wr base 35 (.slice (some ⟨g, 0, none⟩) N cap) (ls.take j ++ qs) ∧ In g (g + 1) w wr) (fun _ i _ _ => (RowKit.intOf i + 1).toNat)
  case atStart => exact ⟨N, _, 0, [], rfl, rfl, rfl, Nat.le_refl _, hti, hst, hii⟩
  case round =>
    obtain ⟨j, I, R, qs, rfl, hI, rfl, hj, htk, hou, hnx⟩ := hrel
    clear hown hst hii hti
    have hlu := tk_length htk.out (by have := HN.out; omega)
    cases j with
    | zero =>
      have hneg : I < 0 := by omega
      clear hI
      obtain ⟨t1, t2, t3, t4, t5⟩ := htk.out
      rw [List.take_zero, List.nil_append] at hou hlu
      rw [List.drop_zero] at t3
      have hqN : N = qs.length := by rw [hlu]; exact HN.out
      have hq : val 4294967296 qs = val 4294967296 ls / m := by
        rw [t3, Int.add_comm, Int.add_mul_ediv_left _ _ (by omega), Int.ediv_eq_zero_of_lt t4 t5, Int.zero_add]
      have hr : R = val 4294967296 ls % m := by
        rw [t3, Int.add_comm, Int.add_mul_emod_self_left, Int.emod_eq_of_lt t4 t5]
      have HR : Hid (R = val 4294967296 ls % m) := hr
      have cc := cut4_any (hou.rowC hqN) (by omega)
      have HQN : Hid (N = qs.length) := hqN
      have HQ : Hid (val 4294967296 qs = val 4294967296 ls / m) := hq
      clear t1 t3 t4 t5 hlu htk hr hqN hq
      go_wp2_with fail
      refine cc.mono ?_
      rintro e w' ⟨n, rfl, ⟨hnN, hns⟩, rfl⟩
      have hss := strip_strip qs
      have hfin : ∃ us, Own .u64 wr base 35 (.slice (some ⟨g, 0, none⟩) n cap) us ∧ n = us.length ∧ n ≤ N ∧ Dg 4294967296 us ∧ val 4294967296 us = val 4294967296 ls / m ∧ strip us = us := by
        refine ⟨strip qs, ?_, ?_, hnN, ?_, by rw [strip_val]; exact HQ.out, hss⟩
        · rw [hns]
          have hc := hou
          rw [HQN.out] at hc
          exact hc.cut (by have := HQN.out; omega)
        · rw [hns, List.length_take]; have := HQN.out; omega
        · rw [hns]; exact fun y hy => t2 y (List.mem_of_mem_take hy)
      obtain ⟨us, hus'⟩ := hfin
      have hus : Hid _ := hus'
      clear hus'
      have hRR := HR.out
      clear cc hss hns hou HR
      subst hRR
      go_wp2
      go_ret2
      exact ⟨n, us, rfl, hus.out, hnx⟩
    | succ k =>
      have hI' : I = (k : Int) := by omega
      clear hI
      subst hI'
      have hkl : k < ls.length := by have := HN.out; omega
      have hnext := tk_step htk.out hkl hd hm
      obtain ⟨t1, t2, t3, t4, t5⟩ := htk.out
      have gd := hd.get hkl
      have hlN : N = (ls.take (k + 1) ++ qs).length := by rw [hlu]; exact HN.out
      have hce := hou.cellAt hlN (j := k) (by omega)
      rw [tk_get hkl] at hce
      have hfz := hou.frozenAt hlN k
      have hset := hou.set hlN k ((4294967296 * R + ls.getD k 0) / m)
      rw [tk_set hkl] at hset
      have hor := or_hi (R := R) (x := ls.getD k 0) ⟨t4, by omega⟩ gd
      have HNX : Hid (TkI ls m k ((4294967296 * R + ls.getD k 0) / m :: qs) ((4294967296 * R + ls.getD k 0) % m)) := hnext
      have q0 : 0 ≤ 4294967296 * R + ls.getD k 0 := by omega
      have q9 : 4294967296 * R + ls.getD k 0 < 18446744073709551616 := by omega
      generalize ls.getD k 0 = x at *
      generalize 4294967296 * R + x = v at *
      have r0 := Int.emod_nonneg v (show m ≠ 0 by omega)
      have r1 := Int.emod_lt_of_pos v (show 0 < m by omega)
      have d0 : 0 ≤ v / m := Int.ediv_nonneg q0 (by omega)
      have d1 : v / m ≤ v := Int.ediv_le_self m q0
      clear hnext htk hou hlN hlu t1 t2 t3
      go_wp2
      go_roundw
      case rel => exact ⟨k, _, _, _, rfl, rfl, rfl, by omega, HNX, hset, hnx.set1 _ _⟩
      case measure => simp [RowKit.intOf]
end Go.Proofs.YtmenhfnakcdnnabDoor
