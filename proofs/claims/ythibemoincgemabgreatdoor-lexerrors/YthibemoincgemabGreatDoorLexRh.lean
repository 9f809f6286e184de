/- Layer 9: the document's rational; which kinds go together. -/
import Derived.Test.YthibemoincgemabGreatDoorLexRg
import Derived.Deep.RegionHeld3
namespace Go.Proofs.YthibemoincgemabGreatDoor
open Go.ChangeShapes Go.WideShapes Go.ChangeAt Go.RowKit
open Lx
set_option linter.unusedVariables false
namespace Lx
theorem hex_with {ng : Bool} {k : Nat} {l : B} {q : Pc} (h : refHex ng k l = some q) : ∃ p, refDec ng k l = some p ∧ p.stop < q.stop ∧ refRat ng k l = none := by
  have hc : (fst [48] l && fst [120, 88] l.tail) = true := by
    unfold refHex at h
    split at h
    · assumption
    · cases h
  obtain ⟨h1, h2⟩ := hex_zero hc
  have hx : fst [120, 88] (dkD l) = true := by rw [h2]; rw [Bool.and_eq_true] at hc; exact hc.2
  have hnp : ¬ fst [46] (l.dropWhile isD) = true := by rw [show fst [46] (l.dropWhile isD) = false from fst_not hx (dis [120, 88] [46] rfl)]; simp
  have hnn : ¬ l.takeWhile isD = [] := by rw [show l.takeWhile isD = [48] from h1]; simp
  have hd := dec_some (neg := ng) (k := k) (parts_plain _ hnp hnn)
  have hE : refE [101, 69] { (⟨1, ng, [], [], [], [], k⟩ : Pc) with ahead := l.takeWhile isD, behind := [], stop := k + (l.takeWhile isD).length } (l.dropWhile isD) = none := by
    unfold refE
    rw [if_neg]
    rw [show fst [101, 69] (l.dropWhile isD) = false from fst_not hx (dis [120, 88] [101, 69] rfl)]; simp
  rw [hE] at hd
  refine ⟨_, hd, ?_, ?_⟩
  · show k + (l.takeWhile isD).length < q.stop
    rw [show l.takeWhile isD = [48] from h1]
    unfold refHex at h
    rw [if_pos hc] at h
    split at h
    · cases h
    · rename_i p r hp
      have a1 := refParts_lt hp
      have a2 := refE_lt h
      simp only at a1
      show k + 1 < q.stop
      omega
  · unfold refRat
    rw [if_neg (show ¬ tkD l = [] from hnn), if_neg]
    rw [fst_not hx (dis [120, 88] [47] rfl)]; simp
theorem rat_with {ng : Bool} {k : Nat} {l : B} {q : Pc} (h : refRat ng k l = some q) : ∃ p, refDec ng k l = some p ∧ p.stop < q.stop ∧ refHex ng k l = none := by
  unfold refRat at h
  split at h
  · cases h
  · rename_i hnn
    split at h
    · rename_i hs
      split at h
      · cases h
      · cases h
        have hnp : ¬ fst [46] (l.dropWhile isD) = true := by rw [show fst [46] (l.dropWhile isD) = false from fst_not hs (dis [47] [46] rfl)]; simp
        have hd := dec_some (neg := ng) (k := k) (parts_plain _ hnp hnn)
        have hE : refE [101, 69] { (⟨1, ng, [], [], [], [], k⟩ : Pc) with ahead := l.takeWhile isD, behind := [], stop := k + (l.takeWhile isD).length } (l.dropWhile isD) = none := by
          unfold refE
          rw [if_neg]
          rw [show fst [101, 69] (l.dropWhile isD) = false from fst_not hs (dis [47] [101, 69] rfl)]; simp
        rw [hE] at hd
        refine ⟨_, hd, ?_, ?_⟩
        · show k + (l.takeWhile isD).length < k + (tkD l).length + 1 + (tkD (dkD l).tail).length
          show k + (tkD l).length < _
          omega
        · unfold refHex
          rw [if_neg]
          intro hc
          have h2 := (hex_zero hc).2
          rw [Bool.and_eq_true] at hc
          rw [h2] at hs
          have := fst_not hc.2 (dis [120, 88] [47] rfl)
          rw [hs] at this; cases this
    · cases h
theorem all_three (ng : Bool) (k : Nat) (l : B) :
    (refDec ng k l = none ∧ refHex ng k l = none ∧ refRat ng k l = none ∧ refAll ng k l = none) ∨
    (∃ p, refDec ng k l = some p ∧ refHex ng k l = none ∧ refRat ng k l = none ∧ refAll ng k l = some p) ∨
    (∃ p q, refDec ng k l = some p ∧ refHex ng k l = some q ∧ refRat ng k l = none ∧ p.stop < q.stop ∧ refAll ng k l = some q) ∨
    (∃ p q, refDec ng k l = some p ∧ refHex ng k l = none ∧ refRat ng k l = some q ∧ p.stop < q.stop ∧ refAll ng k l = some q) := by
  unfold refAll
  cases hh : refHex ng k l with
  | some q =>
    obtain ⟨p, h1, h2, h3⟩ := hex_with hh
    refine Or.inr (Or.inr (Or.inl ⟨p, q, h1, rfl, h3, h2, ?_⟩))
    rw [h1, h3]
    unfold better
    simp only
    rw [if_pos h2]
  | none =>
    cases hr : refRat ng k l with
    | some q =>
      obtain ⟨p, h1, h2, h3⟩ := rat_with hr
      refine Or.inr (Or.inr (Or.inr ⟨p, q, h1, rfl, rfl, h2, ?_⟩))
      rw [h1]
      unfold better
      simp only
      rw [if_pos h2]
    | none =>
      cases hd : refDec ng k l with
      | none => exact Or.inl ⟨rfl, rfl, rfl, rfl⟩
      | some p => exact Or.inr (Or.inl ⟨p, rfl, rfl, rfl, rfl⟩)
end Lx
set_option maxHeartbeats 6400000 in
set_option maxRecDepth 100000 in
theorem rat9_any (s : ByteArray) (kk kr b : Nat) (ng : Bool) (hs : s.size ≤ 10000) (hk : kk ≤ s.size) (hb : kk = b + kr) (w : World) :
    Calls Tryz.prog 35 #[.string s, .int .i64 (kk : Int)] w (KindR w b (refRat ng kr (s.data.toList.drop kk))) := by
  have hb0 : Below w.heap.size w (w.alloc (.cells zero5 26)) := (Below.refl _ w).alloc (Nat.le_refl _) _
  have HB : Hid (Bk (w.alloc (.cells zero5 26)) w.heap.size 26 zero5) := Bk.new w 26 zero5
  have HKK : Hid (kk = b + kr) := hb
  clear hb
  have c1 := fun w => run9_any s kk false (by omega) hk w
  have hle := run_le9 (isX false) hk
  have hdr := drop_run s kk (isX false)
  have hx1 := run_ext (t := s) (k := kk) (isX false)
  have cb1 := fun w => bare9_any (str (tkD (s.data.toList.drop kk))) (by rw [str_size]; have := tkD_le (s.data.toList.drop kk); have := len_drop s kk; omega) w
  rw [str_list] at cb1
  change ∀ w, Calls Tryz.prog _ _ w (fun e w' => e = .returned (.int .i64 ((kk + (tkD (s.data.toList.drop kk)).length : Nat) : Int)) ∧ w' = w) at c1
  change kk + (tkD (s.data.toList.drop kk)).length ≤ s.size at hle
  change s.data.toList.drop (kk + (tkD (s.data.toList.drop kk)).length) = dkD (s.data.toList.drop kk) at hdr
  change s.extract kk (kk + (tkD (s.data.toList.drop kk)).length) = str (tkD (s.data.toList.drop kk)) at hx1
  have hR : refRat ng kr (s.data.toList.drop kk) = (if tkD (s.data.toList.drop kk) = [] then none else if fst [47] (dkD (s.data.toList.drop kk)) then (if tkD (dkD (s.data.toList.drop kk)).tail = [] then none else some ⟨3, ng, tkD (s.data.toList.drop kk), [], [], tkD (dkD (s.data.toList.drop kk)).tail, kr + (tkD (s.data.toList.drop kk)).length + 1 + (tkD (dkD (s.data.toList.drop kk)).tail).length⟩) else none) := rfl
  rw [← hdr] at hR
  clear hdr
  generalize tkD (s.data.toList.drop kk) = A at *
  generalize hM : kk + A.length = M at *
  have HM : Hid (kk + A.length = M) := hM
  clear hM
  have hMi : (M : Int) ≤ (s.size : Int) := by omega
  have hs2 : M ≤ 10000 := by omega
  have hkM : (kk : Int) ≤ (M : Int) := by have := HM.out; omega
  have HR : Hid _ := hR
  clear hR
  by_cases hA : A = []
  · have HO : Hid (refRat ng kr (s.data.toList.drop kk) = none) := by unfold Hid; rw [HR.out, if_pos hA]
    have hme : M = kk := by rw [← HM.out, hA]; rfl
    have heq : ((M : Int) == (kk : Int)) = true := by rw [beq_iff_eq]; omega
    clear hA hme
    go_enter Tryz.func35, Tryz.ntmps35
    go_wp2_with fail
    refine (c1 _).mono ?_
    rintro e w1 ⟨rfl, hw1⟩
    have HB1 : Hid (Bk w1 w.heap.size 26 zero5) := by rw [hw1]; exact HB
    have hb1 : Below w.heap.size w w1 := by rw [hw1]; exact hb0
    clear hw1 HB hb0
    have z0 := (HB1.out).cell 0 rfl
    have zf0 := (HB1.out).frozen 0
    have z1 := (HB1.out).cell 1 rfl
    have zf1 := (HB1.out).frozen 1
    have z2 := (HB1.out).cell 2 rfl
    have zf2 := (HB1.out).frozen 2
    have z3 := (HB1.out).cell 3 rfl
    have zf3 := (HB1.out).frozen 3
    have z4 := (HB1.out).cell 4 rfl
    have zf4 := (HB1.out).frozen 4
    go_wp2
    refine bodyPost_ret (results_c2 rfl _ _ w.heap.size 26 (nmA nmZ) _ rfl (Bk.all5 HB1.out _ _ _ _ _) Tryz.underlying26 rfl (by kernel_rfl)) rfl ?_
    exact ⟨Tn.below hb1 (Tn.all5 ..) (Nat.le_refl _) (Nat.le_refl _), Or.inl ⟨HO.out, rfl⟩⟩
  · have hlA : A.length ≠ 0 := fun h => hA (List.length_eq_zero_iff.mp h)
    have heq : ((M : Int) == (kk : Int)) = false := beq_eq_false_iff_ne.2 (by have := HM.out; omega)
    by_cases hq : M < s.size
    · have hqi : ¬ (s.size : Int) ≤ (M : Int) := by omega
      have hqj : (M : Int) < (s.size : Int) := by omega
      have hf := (fst_at (cs := [47]) hq).symm
      rw [has1] at hf
      change ((((s[M]'hq).toNat : Nat) : Int) == 47) = _ at hf
      cases hsl : fst [47] (s.data.toList.drop M)
      · rw [hsl] at hf
        have HO : Hid (refRat ng kr (s.data.toList.drop kk) = none) := by unfold Hid; rw [HR.out, if_neg hA, hsl]; rfl
        have hn : ((((s[M]'hq).toNat : Nat) : Int) != 47) = true := by rw [bne, hf]; rfl
        clear hA hsl hlA
        go_enter Tryz.func35, Tryz.ntmps35
        go_wp2_with fail
        refine (c1 _).mono ?_
        rintro e w1 ⟨rfl, hw1⟩
        have HB1 : Hid (Bk w1 w.heap.size 26 zero5) := by rw [hw1]; exact HB
        have hb1 : Below w.heap.size w w1 := by rw [hw1]; exact hb0
        clear hw1 HB hb0
        have z0 := (HB1.out).cell 0 rfl
        have zf0 := (HB1.out).frozen 0
        have z1 := (HB1.out).cell 1 rfl
        have zf1 := (HB1.out).frozen 1
        have z2 := (HB1.out).cell 2 rfl
        have zf2 := (HB1.out).frozen 2
        have z3 := (HB1.out).cell 3 rfl
        have zf3 := (HB1.out).frozen 3
        have z4 := (HB1.out).cell 4 rfl
        have zf4 := (HB1.out).frozen 4
        go_wp2
        refine bodyPost_ret (results_c2 rfl _ _ w.heap.size 26 (nmA nmZ) _ rfl (Bk.all5 HB1.out _ _ _ _ _) Tryz.underlying26 rfl (by kernel_rfl)) rfl ?_
        exact ⟨Tn.below hb1 (Tn.all5 ..) (Nat.le_refl _) (Nat.le_refl _), Or.inl ⟨HO.out, rfl⟩⟩
      · rw [hsl] at hf
        have hn : ((((s[M]'hq).toNat : Nat) : Int) != 47) = false := by rw [bne, hf]; rfl
        have htl : (s.data.toList.drop M).tail = s.data.toList.drop (M + 1) := (fst_drop_lt hsl).2.2
        have hM1 : M + 1 ≤ s.size := by omega
        have c2 := fun w => run9_any s (M + 1) false (by omega) hM1 w
        have hle2 := run_le9 (isX false) hM1
        have hx2 := run_ext (t := s) (k := M + 1) (isX false)
        have cb2 := fun w => bare9_any (str (tkD (s.data.toList.drop (M + 1)))) (by rw [str_size]; have := tkD_le (s.data.toList.drop (M + 1)); have := len_drop s (M + 1); omega) w
        rw [str_list] at cb2
        change ∀ w, Calls Tryz.prog _ _ w (fun e w' => e = .returned (.int .i64 ((M + 1 + (tkD (s.data.toList.drop (M + 1))).length : Nat) : Int)) ∧ w' = w) at c2
        change M + 1 + (tkD (s.data.toList.drop (M + 1))).length ≤ s.size at hle2
        change s.extract (M + 1) (M + 1 + (tkD (s.data.toList.drop (M + 1))).length) = str (tkD (s.data.toList.drop (M + 1))) at hx2
        have hR2 := HR.out
        rw [if_neg hA, if_pos hsl, htl] at hR2
        clear htl
        generalize tkD (s.data.toList.drop (M + 1)) = C at *
        generalize hM2 : M + 1 + C.length = M2 at *
        have HM2 : Hid (M + 1 + C.length = M2) := hM2
        clear hM2
        have hM2i : (M2 : Int) ≤ (s.size : Int) := by omega
        have hkM2 : (M : Int) + 1 ≤ (M2 : Int) := by have := HM2.out; omega
        by_cases hC : C = []
        · have HO : Hid (refRat ng kr (s.data.toList.drop kk) = none) := by unfold Hid; rw [hR2, if_pos hC]
          have heq2 : ((M2 : Int) == (M : Int) + 1) = true := by
            have := HM2.out
            rw [hC] at this
            simp at this
            rw [beq_iff_eq]; omega
          clear hA hsl hlA hR2 hC
          go_enter Tryz.func35, Tryz.ntmps35
          go_wp2_with fail
          refine (c1 _).mono ?_
          rintro e w1 ⟨rfl, hw1⟩
          have HB1 : Hid (Bk w1 w.heap.size 26 zero5) := by rw [hw1]; exact HB
          have hb1 : Below w.heap.size w w1 := by rw [hw1]; exact hb0
          clear hw1 HB hb0
          go_wp2_with fail
          refine (c2 _).mono ?_
          rintro e w2 ⟨rfl, hw2⟩
          rw [hw2]
          have z0 := (HB1.out).cell 0 rfl
          have zf0 := (HB1.out).frozen 0
          have z1 := (HB1.out).cell 1 rfl
          have zf1 := (HB1.out).frozen 1
          have z2 := (HB1.out).cell 2 rfl
          have zf2 := (HB1.out).frozen 2
          have z3 := (HB1.out).cell 3 rfl
          have zf3 := (HB1.out).frozen 3
          have z4 := (HB1.out).cell 4 rfl
          have zf4 := (HB1.out).frozen 4
          go_wp2
          refine bodyPost_ret (results_c2 rfl _ _ w.heap.size 26 (nmA nmZ) _ rfl (Bk.all5 HB1.out _ _ _ _ _) Tryz.underlying26 rfl (by kernel_rfl)) rfl ?_
          exact ⟨Tn.below hb1 (Tn.all5 ..) (Nat.le_refl _) (Nat.le_refl _), Or.inl ⟨HO.out, rfl⟩⟩
        · have hO : refRat ng kr (s.data.toList.drop kk) = some ⟨3, ng, A, [], [], C, kr + A.length + 1 + C.length⟩ := by rw [hR2, if_neg hC]
          have hst : b + (kr + A.length + 1 + C.length) = M2 := by
            have a1 := HKK.out
            have a2 := HM.out
            have a3 := HM2.out
            omega
          have HST : Hid (b + (kr + A.length + 1 + C.length) = M2) := hst
          have HO : Hid (refRat ng kr (s.data.toList.drop kk) = some ⟨3, ng, A, [], [], C, kr + A.length + 1 + C.length⟩) := hO
          have heq2 : ((M2 : Int) == (M : Int) + 1) = false := beq_eq_false_iff_ne.2 (by
            have := HM2.out
            have : C.length ≠ 0 := fun h => hC (List.length_eq_zero_iff.mp h)
            omega)
          clear hA hsl hlA hR2 hC hO hst
          have HF : Hid (nmA { numR ⟨3, ng, A, [], [], C, kr + A.length + 1 + C.length⟩ with neg := false } = #[.int .i64 3, .bool false, .string (str (bareR A)), .int .i64 0, .string (str (bareR C))]) := by
            unfold Hid nmA numR
            simp only
            rw [List.append_nil]
            rfl
          generalize bareR A = SA at *
          generalize bareR C = SC at *
          generalize hAA : str A = AA at *
          generalize hCC : str C = CC at *
          clear hAA hCC
          go_enter Tryz.func35, Tryz.ntmps35
          go_wp2_with fail
          refine (c1 _).mono ?_
          rintro e w1 ⟨rfl, hw1⟩
          have HB1 : Hid (Bk w1 w.heap.size 26 zero5) := by rw [hw1]; exact HB
          have hb1 : Below w.heap.size w w1 := by rw [hw1]; exact hb0
          clear hw1 HB hb0
          go_wp2_with fail
          refine (c2 _).mono ?_
          rintro e w2 ⟨rfl, hw2⟩
          rw [hw2]
          clear hw2
          go_wp2_with fail
          have g1 : (0 : Int) ≤ (M : Int) + 1 := by omega
          have g2 : ((M : Int) + 1).toNat = M + 1 := by omega
          have g3 : IntKind.i64.wrap ((M : Int) + 1) = (M : Int) + 1 := wrapI (by omega) (by omega)
          have g4 : ((M : Int) + 1 < 0) = False := eq_false (by omega)
          have g5 : ((M : Int) + 1 ≤ (M2 : Int)) = True := eq_true hkM2
          have g6 : ((M2 : Int) < (M : Int) + 1) = False := eq_false (by omega)
          have g7 : (M + 1 ≤ M2) = True := eq_true (by omega)
          have g8 : (M2 ≤ s.size) = True := eq_true (by omega)
          go_region_held3 (fun _ => True) (go_keep) (first | (go_at_call_of 63 AA; refine (cb1 _).mono ?_; rintro e wX ⟨rfl, hbX⟩; have hBX : Below w1.heap.size w1 wX := (by first | exact hbX | exact (below_drewN (Below.refl _ w1) _).trans (hbX.mono (Nat.le_refl _)))) | (go_at_call 63; refine (cb2 _).mono ?_; rintro e wY ⟨rfl, hbY⟩; have hBY : Below w1.heap.size w1 wY := (by first | exact hBX.trans (hbY.mono hBX.size) | exact (below_drewN hBX _).trans (hbY.mono hBX.size)); have B3 := HB1.out.later hBY; have z0 := B3.cell 0 rfl; have zf0 := B3.frozen 0; have z1 := B3.cell 1 rfl; have zf1 := B3.frozen 1; have z2 := B3.cell 2 rfl; have zf2 := B3.frozen 2; have z3 := B3.cell 3 rfl; have zf3 := B3.frozen 3; have z4 := B3.cell 4 rfl; have zf4 := B3.frozen 4))
          go_wp2
          refine bodyPost_ret (results_c2 rfl _ _ w.heap.size 26 #[.int .i64 3, .bool false, .string (str SA), .int .i64 0, .string (str SC)] _ rfl (Bk.all5 (HB1.out.later hBY) _ _ _ _ _) Tryz.underlying26 rfl (by kernel_rfl)) rfl ?_
          refine ⟨Tn.below (hb1.trans (hBY.mono hb1.size)) (Tn.all5 ..) (Nat.le_refl _) (Nat.le_refl _), Or.inr ⟨_, HO.out, ?_⟩⟩
          rw [HF.out, HST.out]; rfl
    · have hqi : (s.size : Int) ≤ (M : Int) := by omega
      have HO : Hid (refRat ng kr (s.data.toList.drop kk) = none) := by unfold Hid; rw [HR.out, if_neg hA, fst_end hq]; rfl
      clear hA hlA
      go_enter Tryz.func35, Tryz.ntmps35
      go_wp2_with fail
      refine (c1 _).mono ?_
      rintro e w1 ⟨rfl, hw1⟩
      have HB1 : Hid (Bk w1 w.heap.size 26 zero5) := by rw [hw1]; exact HB
      have hb1 : Below w.heap.size w w1 := by rw [hw1]; exact hb0
      clear hw1 HB hb0
      have z0 := (HB1.out).cell 0 rfl
      have zf0 := (HB1.out).frozen 0
      have z1 := (HB1.out).cell 1 rfl
      have zf1 := (HB1.out).frozen 1
      have z2 := (HB1.out).cell 2 rfl
      have zf2 := (HB1.out).frozen 2
      have z3 := (HB1.out).cell 3 rfl
      have zf3 := (HB1.out).frozen 3
      have z4 := (HB1.out).cell 4 rfl
      have zf4 := (HB1.out).frozen 4
      go_wp2
      refine bodyPost_ret (results_c2 rfl _ _ w.heap.size 26 (nmA nmZ) _ rfl (Bk.all5 HB1.out _ _ _ _ _) Tryz.underlying26 rfl (by kernel_rfl)) rfl ?_
      exact ⟨Tn.below hb1 (Tn.all5 ..) (Nat.le_refl _) (Nat.le_refl _), Or.inl ⟨HO.out, rfl⟩⟩
end Go.Proofs.YthibemoincgemabGreatDoor
