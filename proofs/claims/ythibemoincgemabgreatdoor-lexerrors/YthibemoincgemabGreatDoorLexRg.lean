/- Layer 9: the document's decimal, hexadecimal and rational. -/
import Derived.Test.YthibemoincgemabGreatDoorLexRf
namespace Go.Proofs.YthibemoincgemabGreatDoor
open Go.ChangeShapes Go.WideShapes Go.ChangeAt Go.RowKit
open Lx
set_option linter.unusedVariables false
set_option maxHeartbeats 6400000 in
set_option maxRecDepth 100000 in
theorem hexa9_any (s : ByteArray) (kk kr b : Nat) (ng : Bool) (hs : s.size ≤ 10000) (hk : kk ≤ s.size) (hb : kk = b + kr) (w : World) :
    Calls Tryz.prog 34 #[.string s, .int .i64 (kk : Int)] w (KindR w b (refHex ng kr (s.data.toList.drop kk))) := by
  have HB : Hid (Bk (w.alloc (.cells zero5 26)) w.heap.size 26 zero5) := Bk.new w 26 zero5
  have hb0 : Below w.heap.size w (w.alloc (.cells zero5 26)) := (Below.refl _ w).alloc (Nat.le_refl _) _
  obtain ⟨w1, hw1⟩ : ∃ w1, w1 = w.alloc (.cells zero5 26) := ⟨_, rfl⟩
  have HB1 : Hid (Bk w1 w.heap.size 26 zero5) := by rw [hw1]; exact HB
  have hb1 : Below w.heap.size w w1 := by rw [hw1]; exact hb0
  clear HB hb0
  have HKK : Hid (kk = b + kr) := hb
  clear hb
  by_cases hl : kk + 1 < s.size
  · have hli : ¬ (s.size : Int) ≤ (kk : Int) + 1 := by omega
    have hki : (kk : Int) < (s.size : Int) := by omega
    have hk1i : (kk : Int) + 1 < (s.size : Int) := by omega
    have hk0 : kk < s.size := by omega
    have e0 := (fst_at (cs := [48]) hk0).symm
    have e1 := (fst_at (cs := [120, 88]) hl).symm
    rw [has1] at e0
    rw [has2] at e1
    change ((((s[kk]'hk0).toNat : Nat) : Int) == 48) = _ at e0
    change (((((s[kk + 1]'hl).toNat : Nat) : Int) == 120) || ((((s[kk + 1]'hl).toNat : Nat) : Int) == 88)) = _ at e1
    have htl : (s.data.toList.drop kk).tail = s.data.toList.drop (kk + 1) := by rw [drop_cons_of hk0]; rfl
    have htl2 : (s.data.toList.drop kk).tail.tail = s.data.toList.drop (kk + 2) := by rw [htl, drop_cons_of hl]; rfl
    generalize hb0' : ((((s[kk]'hk0).toNat : Nat) : Int) == 48) = b0 at *
    generalize hb1' : ((((s[kk + 1]'hl).toNat : Nat) : Int) == 120) = b1 at *
    generalize hb2' : ((((s[kk + 1]'hl).toNat : Nat) : Int) == 88) = b2 at *
    have n0 : ((((s[kk]'hk0).toNat : Nat) : Int) != 48) = !b0 := by rw [← hb0']; rfl
    have n1 : ((((s[kk + 1]'hl).toNat : Nat) : Int) != 120) = !b1 := by rw [← hb1']; rfl
    have n2 : ((((s[kk + 1]'hl).toNat : Nat) : Int) != 88) = !b2 := by rw [← hb2']; rfl
    by_cases hx : (fst [48] (s.data.toList.drop kk) && fst [120, 88] (s.data.toList.drop kk).tail) = true
    · have hx0 := hx
      rw [Bool.and_eq_true, htl] at hx
      rw [hx.1] at e0
      rw [hx.2] at e1
      subst e0
      clear hx htl
      have c1 := fun w => parts9_any s (kk + 2) b true ⟨2, ng, [], [], [], [], kr + 2⟩ (by omega) (by omega) (show kk + 2 = b + (kr + 2) from by have := HKK.out; omega) w
      rw [show isX true = isH from by funext x; rfl] at c1
      have HX0 : Hid _ := hx0
      clear hx0
      have htl3 : Hid ((s.data.toList.drop kk).tail.tail = s.data.toList.drop (kk + 2)) := htl2
      clear htl2
      cases b1
      all_goals (try cases b2)
      all_goals (try (simp at e1; done))
      all_goals
        go_enter Tryz.func34, Tryz.ntmps34
        go_wp2_with fail
        rw [show w.alloc (.cells #[.int .i64 0, .bool false, .string ⟨#[]⟩, .int .i64 0, .string ⟨#[]⟩] 26) = w1 from hw1.symm]
        refine (c1 _).mono ?_
        rintro e w9 ⟨hw9, hr⟩
        rw [hw9]
        clear hw9
        have hx0 := HX0.out
        rcases hr with ⟨hp, x, y, z, rfl⟩ | ⟨p1, hp, hps, rfl⟩
        · rw [← htl3.out] at hp
          have HO : Hid (refHex ng kr (s.data.toList.drop kk) = none) := hex_none hx0 hp
          clear hx0 hp
          have HBw := HB1
          have hbw := hb1
          clear hw1
          have z0 := (HBw.out).cell 0 rfl
          have zf0 := (HBw.out).frozen 0
          have z1 := (HBw.out).cell 1 rfl
          have zf1 := (HBw.out).frozen 1
          have z2 := (HBw.out).cell 2 rfl
          have zf2 := (HBw.out).frozen 2
          have z3 := (HBw.out).cell 3 rfl
          have zf3 := (HBw.out).frozen 3
          have z4 := (HBw.out).cell 4 rfl
          have zf4 := (HBw.out).frozen 4
          go_wp2
          refine bodyPost_ret (results_c2 rfl _ _ w.heap.size 26 (nmA nmZ) _ rfl (Bk.all5 HBw.out _ _ _ _ _) Tryz.underlying26 rfl (by kernel_rfl)) rfl ?_
          refine ⟨Tn.below hbw (Tn.all5 ..) (Nat.le_refl _) (Nat.le_refl _), Or.inl ⟨HO.out, rfl⟩⟩
        · skip
          clear hw1
          have hp0 := hp
          have hp' := hp
          rw [← htl3.out] at hp'
          have KP := refParts_keep hp
          have l1 := KP.la
          have l2 := KP.lb
          have ll := len_drop s (kk + 2)
          have hsA : (str p1.ahead).size ≤ 10000 := by rw [str_size]; omega
          have hsB : (str p1.behind).size = p1.behind.length := str_size _
          have hcat := cat_str p1.ahead p1.behind
          have cb := fun w => bare9_any (str (p1.ahead ++ p1.behind)) (by rw [str_size, List.length_append]; omega) w
          rw [str_list] at cb
          go_wp2_with fail
          refine (expo9_112 s (b + p1.stop) b p1 (by omega) hps rfl _).mono ?_
          rintro e w2 ⟨hb2, hE⟩
          rcases hE with ⟨hE0, rfl⟩ | ⟨p2, hE1, hE2, rfl⟩
          · have HO : Hid (refHex ng kr (s.data.toList.drop kk) = none) := by
              unfold Hid
              rw [hex_some hx0 hp', hE0]
            have HBw : Hid (Bk w2 w.heap.size 26 zero5) := HB1.out.later hb2
            have hbw := hb1.trans (hb2.mono hb1.size)
            have z0 := (HBw.out).cell 0 rfl
            have zf0 := (HBw.out).frozen 0
            have z1 := (HBw.out).cell 1 rfl
            have zf1 := (HBw.out).frozen 1
            have z2 := (HBw.out).cell 2 rfl
            have zf2 := (HBw.out).frozen 2
            have z3 := (HBw.out).cell 3 rfl
            have zf3 := (HBw.out).frozen 3
            have z4 := (HBw.out).cell 4 rfl
            have zf4 := (HBw.out).frozen 4
            go_wp2
            refine bodyPost_ret (results_c2 rfl _ _ w.heap.size 26 (nmA nmZ) _ rfl (Bk.all5 HBw.out _ _ _ _ _) Tryz.underlying26 rfl (by kernel_rfl)) rfl ?_
            refine ⟨Tn.below hbw (Tn.all5 ..) (Nat.le_refl _) (Nat.le_refl _), Or.inl ⟨HO.out, rfl⟩⟩
          · have HO : Hid (refHex ng kr (s.data.toList.drop kk) = some p2) := by
              unfold Hid
              rw [hex_some hx0 hp', hE1]
            obtain ⟨q1, q2, q3, q4, q5, q6⟩ := refE_keep hE1
            have ll2 := len_drop s (b + p1.stop)
            have HKD : Hid (p2.kind = 2) := q1.trans KP.kind
            have HDN : Hid (p2.den = []) := q3.trans KP.den
            have HAH : Hid (p2.ahead = p1.ahead) := q4
            have HBE : Hid (p2.behind = p1.behind) := q5
            have HEX : Hid (p2.expo = p2.expo) := rfl
            clear q1 q2 q3 q4 q5
            have hm4 : ((4 * p1.behind.length : Nat) : Int) = 4 * (p1.behind.length : Int) := by omega
            have ch := fun w => held9r_any (str p2.expo) (4 * p1.behind.length) (by rw [str_size]; first | omega | simp) (by omega) w
            rw [str_list] at ch
            have HBb := HB1.out.later hb2
            generalize hS : bareR (p1.ahead ++ p1.behind) = S1 at *
            generalize hV : heldR (expoR p2.expo - ((4 * p1.behind.length : Nat) : Int)) = V at *
            have HF : Hid (nmA { numR p2 with neg := false } = #[.int .i64 2, .bool false, .string (str S1), .int .i64 V, .string ⟨#[]⟩]) := by
              unfold Hid nmA numR
              simp only
              rw [HKD.out, HDN.out, HAH.out, HBE.out, hS, if_neg (show ¬ (2 : Int) = 1 from by decide), if_pos rfl, ← hm4]
              rw [← hV]
              rfl
            clear hS hV
            go_wp2_with fail
            refine (cb _).mono ?_
            rintro e w3 ⟨rfl, hb3⟩
            go_wp2_with fail
            refine (ch _).mono ?_
            rintro e w4 ⟨rfl, hw4⟩
            rw [hw4]
            have HBw := HBb.later hb3
            have z0 := HBw.cell 0 rfl
            have zf0 := HBw.frozen 0
            have z1 := HBw.cell 1 rfl
            have zf1 := HBw.frozen 1
            have z2 := HBw.cell 2 rfl
            have zf2 := HBw.frozen 2
            have z3 := HBw.cell 3 rfl
            have zf3 := HBw.frozen 3
            have z4 := HBw.cell 4 rfl
            have zf4 := HBw.frozen 4
            have HBz : Hid (Bk w3 w.heap.size 26 zero5) := HBw
            clear HBw
            have hbA := hb1.trans (hb2.mono hb1.size)
            have hbB := hbA.trans (hb3.mono hbA.size)
            go_wp2
            refine bodyPost_ret (results_c2 rfl _ _ w.heap.size 26 #[.int .i64 2, .bool false, .string (str S1), .int .i64 V, .string ⟨#[]⟩] _ rfl (Bk.all5 HBz.out _ _ _ _ _) Tryz.underlying26 rfl (by kernel_rfl)) rfl ?_
            refine ⟨Tn.below hbB (Tn.all5 ..) (Nat.le_refl _) (Nat.le_refl _), Or.inr ⟨p2, HO.out, by rw [HF.out]; rfl⟩⟩
    · have HO : Hid (refHex ng kr (s.data.toList.drop kk) = none) := by unfold Hid refHex; rw [if_neg hx]
      have hbb : b0 = false ∨ (b1 = false ∧ b2 = false) := by
        rw [htl, ← e0, ← e1] at hx
        cases b0 <;> cases b1 <;> cases b2 <;> simp at hx ⊢
      clear hx e0 e1 htl htl2
      cases b0
      all_goals (try cases b1)
      all_goals (try cases b2)
      all_goals (try (simp at hbb; done))
      all_goals
        clear hbb
        go_enter Tryz.func34, Tryz.ntmps34
        go_wp2
        refine bodyPost_ret (results_c2 rfl _ _ w.heap.size 26 (nmA nmZ) _ rfl (Bk.new w _ _) Tryz.underlying26 rfl (by kernel_rfl)) rfl ?_
        exact ⟨(Below.refl _ w).alloc (Nat.le_refl _) _, Or.inl ⟨HO.out, rfl⟩⟩
  · have hli : (s.size : Int) ≤ (kk : Int) + 1 := by omega
    have HO : Hid (refHex ng kr (s.data.toList.drop kk) = none) := by
      unfold Hid refHex
      rw [if_neg]
      intro h
      rw [Bool.and_eq_true] at h
      obtain ⟨hk0, _, htl⟩ := fst_drop_lt h.1
      rw [htl] at h
      exact absurd (fst_drop_lt h.2).1 hl
    clear hw1
    go_enter Tryz.func34, Tryz.ntmps34
    go_wp2
    refine bodyPost_ret (results_c2 rfl _ _ w.heap.size 26 (nmA nmZ) _ rfl (Bk.new w _ _) Tryz.underlying26 rfl (by kernel_rfl)) rfl ?_
    exact ⟨(Below.refl _ w).alloc (Nat.le_refl _) _, Or.inl ⟨HO.out, rfl⟩⟩
end Go.Proofs.YthibemoincgemabGreatDoor
