/- Layer 9: the document's expo, bare and held. -/
import Derived.Test.YthibemoincgemabGreatDoorLexRb
namespace Go.Proofs.YthibemoincgemabGreatDoor
open Go.ChangeShapes Go.WideShapes Go.ChangeAt Go.RowKit
open Lx
set_option linter.unusedVariables false
namespace Lx
theorem refE_none1 {cs : B} {p : Pc} {l : B} (h : fst cs l = false) : refE cs p l = none := by unfold refE; rw [h]; rfl
theorem refE_none2 {cs : B} {p : Pc} {l : B} (h : expoL l.tail = []) : refE cs p l = none := by
  unfold refE
  rw [if_pos h]
  split <;> rfl
theorem refE_some {cs : B} {p : Pc} {l : B} (h : fst cs l = true) (hn : expoL l.tail ≠ []) : refE cs p l = some { p with expo := expoL l.tail, stop := p.stop + 1 + (expoL l.tail).length } := by
  unfold refE
  rw [if_pos h, if_neg hn]
theorem bne_or (a b : Bool) : (!a && !b) = !(a || b) := by cases a <;> cases b <;> rfl
end Lx
set_option maxHeartbeats 3200000 in
set_option maxRecDepth 100000 in
theorem expo9_101 (s : ByteArray) (k b : Nat) (p : Pc) (hs : s.size ≤ 100000) (hk : k ≤ s.size) (hb : k = b + p.stop) (w : World) :
    Calls Tryz.prog 62 #[.string s, .int .i64 (k : Int), .int .u8 101] w fun e w' => Below w.heap.size w w' ∧
      ((refE [101, 69] p (s.data.toList.drop k) = none ∧ e = .returned (.tuple #[.int .i64 (k : Int), .string ⟨#[]⟩, .bool false])) ∨
       (∃ p', refE [101, 69] p (s.data.toList.drop k) = some p' ∧ b + p'.stop ≤ s.size ∧ e = .returned (.tuple #[.int .i64 ((b + p'.stop : Nat) : Int), .string (str p'.expo), .bool true]))) := by
  have HK : Hid (k = b + p.stop) := hb
  clear hb
  by_cases hlt : k < s.size
  · have hlti : ¬ (s.size : Int) ≤ (k : Int) := by omega
    have hki : (k : Int) < (s.size : Int) := by omega
    have hf := (fst_at (cs := [101, 69]) hlt).symm
    rw [has2] at hf
    change (((((s[k]'hlt).toNat : Nat) : Int) == 101) || ((((s[k]'hlt).toNat : Nat) : Int) == 69)) = _ at hf
    generalize hb1 : ((((s[k]'hlt).toNat : Nat) : Int) == 101) = b1 at *
    generalize hb2 : ((((s[k]'hlt).toNat : Nat) : Int) == 69) = b2 at *
    have hn1 : ((((s[k]'hlt).toNat : Nat) : Int) != 101) = !b1 := by rw [← hb1]; rfl
    have hn2 : ((((s[k]'hlt).toNat : Nat) : Int) != 69) = !b2 := by rw [← hb2]; rfl
    cases hq : fst [101, 69] (s.data.toList.drop k)
    · rw [hq] at hf
      have h1 : b1 = false := by cases b1 <;> simp at hf ⊢
      have h2 : b2 = false := by cases b2 <;> simp at hf ⊢
      subst h1; subst h2
      have HQ : Hid (fst [101, 69] (s.data.toList.drop k) = false) := hq
      clear hq hf
      go_enter Tryz.func62, Tryz.ntmps62
      go_wp2
      refine bodyPost_ret (results_t3 rfl _ _ _) rfl ?_
      exact ⟨Below.refl _ _, Or.inl ⟨refE_none1 HQ.out, rfl⟩⟩
    · rw [hq] at hf
      have HQ : Hid (fst [101, 69] (s.data.toList.drop k) = true) := hq
      have htl : (s.data.toList.drop k).tail = s.data.toList.drop (k + 1) := (fst_drop_lt hq).2.2
      have hS := fun hn => refE_some (p := p) hq hn
      have hN := fun h => refE_none2 (cs := [101, 69]) (p := p) (l := s.data.toList.drop k) h
      rw [htl] at hS hN
      have HS : Hid _ := hS
      have HN : Hid _ := hN
      clear hS hN hq htl
      have hk1 : k + 1 ≤ s.size := by omega
      have hk1i : (k : Int) + 1 ≤ (s.size : Int) := by omega
      by_cases hsg : fst [43, 45] (s.data.toList.drop (k + 1)) = true
      · obtain ⟨hk2, hc2, _⟩ := fst_drop_lt hsg
        obtain ⟨x1, x2⟩ := expo_sign hsg
        have cs := sign9_any (s[k + 1]'hk2)
        rw [hc2] at cs
        have c1 := fun w => run9_any s (k + 1 + 1) false hs hk2 w
        have hle := run_le9 (isX false) (show k + 1 + 1 ≤ s.size from hk2)
        change ∀ w, Calls Tryz.prog _ _ w (fun e w' => e = .returned (.int .i64 ((k + 1 + 1 + (tkD (s.data.toList.drop (k + 1 + 1))).length : Nat) : Int)) ∧ w' = w) at c1
        change k + 1 + 1 + (tkD (s.data.toList.drop (k + 1 + 1))).length ≤ s.size at hle
        have hk2i : (k : Int) + 1 < (s.size : Int) := by omega
        clear hsg hc2
        generalize hT : tkD (s.data.toList.drop (k + 1 + 1)) = T at *
        clear hT
        generalize hM : k + 1 + 1 + T.length = M at *
        by_cases hn : T = []
        · have HX : Hid (expoL (s.data.toList.drop (k + 1)) = []) := x1 hn
          have hMe : M = k + 1 + 1 := by rw [← hM, hn]; rfl
          subst hMe
          have heq : (((k + 1 + 1 : Nat) : Int) == (k : Int) + 1 + 1) = true := by rw [beq_iff_eq]; omega
          clear hn x1 x2 hM
          cases b1
          all_goals (try cases b2)
          all_goals (try (simp at hf; done))
          all_goals
            go_enter Tryz.func62, Tryz.ntmps62
            go_wp2_with (first | (go_at_call 32; refine (cs _).mono ?_; rintro e w' ⟨rfl, rfl⟩) | (go_at_call 65; refine (c1 _).mono ?_; rintro e w' ⟨rfl, rfl⟩))
            refine bodyPost_ret (results_t3 rfl _ _ _) rfl ?_
            exact ⟨Below.refl _ _, Or.inl ⟨HN.out HX.out, rfl⟩⟩
        · obtain ⟨y1, y2, y3⟩ := x2 hn
          have hlenT : T.length ≠ 0 := fun h => hn (List.length_eq_zero_iff.mp h)
          have heq : ((M : Int) == (k : Int) + 1 + 1) = false := beq_eq_false_iff_ne.2 (by omega)
          have HM : Hid (M = k + 1 + 1 + T.length) := hM.symm
          have y1' : s.extract (k + 1) M = str (expoL (s.data.toList.drop (k + 1))) := by rw [← y1, ← hM]
          have HY : Hid ((expoL (s.data.toList.drop (k + 1))).length = 1 + T.length) := y2
          have HZ : Hid (expoL (s.data.toList.drop (k + 1)) ≠ []) := y3
          have hMi : (M : Int) ≤ (s.size : Int) := by omega
          have hkM : (k : Int) + 1 ≤ (M : Int) := by omega
          clear hn x1 x2 hM y1 y2 y3 hlenT
          generalize hE : expoL (s.data.toList.drop (k + 1)) = E at *
          cases b1
          all_goals (try cases b2)
          all_goals (try (simp at hf; done))
          all_goals
            go_enter Tryz.func62, Tryz.ntmps62
            go_wp2_with (first | (go_at_call 32; refine (cs _).mono ?_; rintro e w' ⟨rfl, hw⟩; rw [hw]) | (go_at_call 65; refine (c1 _).mono ?_; rintro e w' ⟨rfl, hw⟩; rw [hw]))
            go_quiet (fail)
            go_wp2
            refine bodyPost_ret (results_t3 rfl _ _ _) rfl ?_
            have hst : b + (p.stop + 1 + E.length) = M := by
              have a1 := HK.out
              have a2 := HM.out
              have a3 := HY.out
              omega
            refine ⟨below_drewN (Below.refl _ _) _, Or.inr ⟨{ p with expo := E, stop := p.stop + 1 + E.length }, ?_, ?_, ?_⟩⟩
            · exact HS.out HZ.out
            · show b + (p.stop + 1 + E.length) ≤ s.size
              rw [hst]; omega
            · show Ending.returned (.tuple #[.int .i64 (M : Int), .string (str E), .bool true]) = .returned (.tuple #[.int .i64 ((b + (p.stop + 1 + E.length) : Nat) : Int), _, _])
              rw [hst]
      · have hsg' : fst [43, 45] (s.data.toList.drop (k + 1)) = false := by simpa using hsg
        have x1 := expo_plain hsg'
        have c1 := fun w => run9_any s (k + 1) false hs hk1 w
        have hle := run_le9 (isX false) hk1
        have hx := run_ext (t := s) (k := k + 1) isD
        change ∀ w, Calls Tryz.prog _ _ w (fun e w' => e = .returned (.int .i64 ((k + 1 + (tkD (s.data.toList.drop (k + 1))).length : Nat) : Int)) ∧ w' = w) at c1
        change k + 1 + (tkD (s.data.toList.drop (k + 1))).length ≤ s.size at hle
        change s.extract (k + 1) (k + 1 + (tkD (s.data.toList.drop (k + 1))).length) = str (tkD (s.data.toList.drop (k + 1))) at hx
        have hsgn : ∀ (h : k + 1 < s.size) w, Calls Tryz.prog 32 #[.int .u8 (s[k + 1]'h).toNat] w fun e w' => e = .returned (.bool false) ∧ w' = w := fun h w => by
          have := sign9_any (s[k + 1]'h) w
          rw [← fst_at h, hsg'] at this
          exact this
        clear hsg hsg'
        rw [x1] at HS HN
        clear x1
        generalize hT : tkD (s.data.toList.drop (k + 1)) = E at *
        clear hT
        generalize hM : k + 1 + E.length = M at *
        have HM : Hid (M = k + 1 + E.length) := hM.symm
        have hMi : (M : Int) ≤ (s.size : Int) := by omega
        have hkM : (k : Int) + 1 ≤ (M : Int) := by omega
        by_cases hk2 : k + 1 < s.size
        · have hk2i : (k : Int) + 1 < (s.size : Int) := by omega
          have cs := hsgn hk2
          clear hsgn
          by_cases hn : E = []
          · have hMe : M = k + 1 := by rw [← hM, hn]; rfl
            subst hMe
            have heq : (((k + 1 : Nat) : Int) == (k : Int) + 1) = true := by rw [beq_iff_eq]; omega
            have HX : Hid (E = []) := hn
            clear hn hM hx
            cases b1
            all_goals (try cases b2)
            all_goals (try (simp at hf; done))
            all_goals
              go_enter Tryz.func62, Tryz.ntmps62
              go_wp2_with (first | (go_at_call 32; refine (cs _).mono ?_; rintro e w' ⟨rfl, rfl⟩) | (go_at_call 65; refine (c1 _).mono ?_; rintro e w' ⟨rfl, rfl⟩))
              refine bodyPost_ret (results_t3 rfl _ _ _) rfl ?_
              exact ⟨Below.refl _ _, Or.inl ⟨HN.out HX.out, rfl⟩⟩
          · have hlenT : E.length ≠ 0 := fun h => hn (List.length_eq_zero_iff.mp h)
            have heq : ((M : Int) == (k : Int) + 1) = false := beq_eq_false_iff_ne.2 (by omega)
            have HX : Hid (E ≠ []) := hn
            clear hn hM hlenT
            cases b1
            all_goals (try cases b2)
            all_goals (try (simp at hf; done))
            all_goals
              go_enter Tryz.func62, Tryz.ntmps62
              go_wp2_with (first | (go_at_call 32; refine (cs _).mono ?_; rintro e w' ⟨rfl, hw⟩; rw [hw]) | (go_at_call 65; refine (c1 _).mono ?_; rintro e w' ⟨rfl, hw⟩; rw [hw]))
              go_quiet (fail)
              go_wp2
              refine bodyPost_ret (results_t3 rfl _ _ _) rfl ?_
              have hst : b + (p.stop + 1 + E.length) = M := by
                have a1 := HK.out
                have a2 := HM.out
                omega
              refine ⟨below_drewN (Below.refl _ _) _, Or.inr ⟨{ p with expo := E, stop := p.stop + 1 + E.length }, ?_, ?_, ?_⟩⟩
              · exact HS.out HX.out
              · show b + (p.stop + 1 + E.length) ≤ s.size
                rw [hst]; omega
              · show Ending.returned (.tuple #[.int .i64 (M : Int), .string (str E), .bool true]) = .returned (.tuple #[.int .i64 ((b + (p.stop + 1 + E.length) : Nat) : Int), _, _])
                rw [hst]
        · have hk2i : ¬ (k : Int) + 1 < (s.size : Int) := by omega
          clear hsgn
          have hMe : M = k + 1 := by omega
          subst hMe
          have heq : (((k + 1 : Nat) : Int) == (k : Int) + 1) = true := by rw [beq_iff_eq]; omega
          have HX : Hid (E = []) := List.length_eq_zero_iff.mp (by omega)
          clear hM hx
          cases b1
          all_goals (try cases b2)
          all_goals (try (simp at hf; done))
          all_goals
            go_enter Tryz.func62, Tryz.ntmps62
            go_wp2_with (go_at_call 65; refine (c1 _).mono ?_; rintro e w' ⟨rfl, rfl⟩)
            refine bodyPost_ret (results_t3 rfl _ _ _) rfl ?_
            exact ⟨Below.refl _ _, Or.inl ⟨HN.out HX.out, rfl⟩⟩
  · have hlti : (s.size : Int) ≤ (k : Int) := by omega
    go_enter Tryz.func62, Tryz.ntmps62
    go_wp2
    refine bodyPost_ret (results_t3 rfl _ _ _) rfl ?_
    exact ⟨Below.refl _ _, Or.inl ⟨refE_none1 (fst_end hlt), rfl⟩⟩
set_option maxHeartbeats 3200000 in
set_option maxRecDepth 100000 in
theorem expo9_112 (s : ByteArray) (k b : Nat) (p : Pc) (hs : s.size ≤ 100000) (hk : k ≤ s.size) (hb : k = b + p.stop) (w : World) :
    Calls Tryz.prog 62 #[.string s, .int .i64 (k : Int), .int .u8 112] w fun e w' => Below w.heap.size w w' ∧
      ((refE [112, 80] p (s.data.toList.drop k) = none ∧ e = .returned (.tuple #[.int .i64 (k : Int), .string ⟨#[]⟩, .bool false])) ∨
       (∃ p', refE [112, 80] p (s.data.toList.drop k) = some p' ∧ b + p'.stop ≤ s.size ∧ e = .returned (.tuple #[.int .i64 ((b + p'.stop : Nat) : Int), .string (str p'.expo), .bool true]))) := by
  have HK : Hid (k = b + p.stop) := hb
  clear hb
  by_cases hlt : k < s.size
  · have hlti : ¬ (s.size : Int) ≤ (k : Int) := by omega
    have hki : (k : Int) < (s.size : Int) := by omega
    have hf := (fst_at (cs := [112, 80]) hlt).symm
    rw [has2] at hf
    change (((((s[k]'hlt).toNat : Nat) : Int) == 112) || ((((s[k]'hlt).toNat : Nat) : Int) == 80)) = _ at hf
    generalize hb1 : ((((s[k]'hlt).toNat : Nat) : Int) == 112) = b1 at *
    generalize hb2 : ((((s[k]'hlt).toNat : Nat) : Int) == 80) = b2 at *
    have hn1 : ((((s[k]'hlt).toNat : Nat) : Int) != 112) = !b1 := by rw [← hb1]; rfl
    have hn2 : ((((s[k]'hlt).toNat : Nat) : Int) != 80) = !b2 := by rw [← hb2]; rfl
    cases hq : fst [112, 80] (s.data.toList.drop k)
    · rw [hq] at hf
      have h1 : b1 = false := by cases b1 <;> simp at hf ⊢
      have h2 : b2 = false := by cases b2 <;> simp at hf ⊢
      subst h1; subst h2
      have HQ : Hid (fst [112, 80] (s.data.toList.drop k) = false) := hq
      clear hq hf
      go_enter Tryz.func62, Tryz.ntmps62
      go_wp2
      refine bodyPost_ret (results_t3 rfl _ _ _) rfl ?_
      exact ⟨Below.refl _ _, Or.inl ⟨refE_none1 HQ.out, rfl⟩⟩
    · rw [hq] at hf
      have HQ : Hid (fst [112, 80] (s.data.toList.drop k) = true) := hq
      have htl : (s.data.toList.drop k).tail = s.data.toList.drop (k + 1) := (fst_drop_lt hq).2.2
      have hS := fun hn => refE_some (p := p) hq hn
      have hN := fun h => refE_none2 (cs := [112, 80]) (p := p) (l := s.data.toList.drop k) h
      rw [htl] at hS hN
      have HS : Hid _ := hS
      have HN : Hid _ := hN
      clear hS hN hq htl
      have hk1 : k + 1 ≤ s.size := by omega
      have hk1i : (k : Int) + 1 ≤ (s.size : Int) := by omega
      by_cases hsg : fst [43, 45] (s.data.toList.drop (k + 1)) = true
      · obtain ⟨hk2, hc2, _⟩ := fst_drop_lt hsg
        obtain ⟨x1, x2⟩ := expo_sign hsg
        have cs := sign9_any (s[k + 1]'hk2)
        rw [hc2] at cs
        have c1 := fun w => run9_any s (k + 1 + 1) false hs hk2 w
        have hle := run_le9 (isX false) (show k + 1 + 1 ≤ s.size from hk2)
        change ∀ w, Calls Tryz.prog _ _ w (fun e w' => e = .returned (.int .i64 ((k + 1 + 1 + (tkD (s.data.toList.drop (k + 1 + 1))).length : Nat) : Int)) ∧ w' = w) at c1
        change k + 1 + 1 + (tkD (s.data.toList.drop (k + 1 + 1))).length ≤ s.size at hle
        have hk2i : (k : Int) + 1 < (s.size : Int) := by omega
        clear hsg hc2
        generalize hT : tkD (s.data.toList.drop (k + 1 + 1)) = T at *
        clear hT
        generalize hM : k + 1 + 1 + T.length = M at *
        by_cases hn : T = []
        · have HX : Hid (expoL (s.data.toList.drop (k + 1)) = []) := x1 hn
          have hMe : M = k + 1 + 1 := by rw [← hM, hn]; rfl
          subst hMe
          have heq : (((k + 1 + 1 : Nat) : Int) == (k : Int) + 1 + 1) = true := by rw [beq_iff_eq]; omega
          clear hn x1 x2 hM
          cases b1
          all_goals (try cases b2)
          all_goals (try (simp at hf; done))
          all_goals
            go_enter Tryz.func62, Tryz.ntmps62
            go_wp2_with (first | (go_at_call 32; refine (cs _).mono ?_; rintro e w' ⟨rfl, rfl⟩) | (go_at_call 65; refine (c1 _).mono ?_; rintro e w' ⟨rfl, rfl⟩))
            refine bodyPost_ret (results_t3 rfl _ _ _) rfl ?_
            exact ⟨Below.refl _ _, Or.inl ⟨HN.out HX.out, rfl⟩⟩
        · obtain ⟨y1, y2, y3⟩ := x2 hn
          have hlenT : T.length ≠ 0 := fun h => hn (List.length_eq_zero_iff.mp h)
          have heq : ((M : Int) == (k : Int) + 1 + 1) = false := beq_eq_false_iff_ne.2 (by omega)
          have HM : Hid (M = k + 1 + 1 + T.length) := hM.symm
          have y1' : s.extract (k + 1) M = str (expoL (s.data.toList.drop (k + 1))) := by rw [← y1, ← hM]
          have HY : Hid ((expoL (s.data.toList.drop (k + 1))).length = 1 + T.length) := y2
          have HZ : Hid (expoL (s.data.toList.drop (k + 1)) ≠ []) := y3
          have hMi : (M : Int) ≤ (s.size : Int) := by omega
          have hkM : (k : Int) + 1 ≤ (M : Int) := by omega
          clear hn x1 x2 hM y1 y2 y3 hlenT
          generalize hE : expoL (s.data.toList.drop (k + 1)) = E at *
          cases b1
          all_goals (try cases b2)
          all_goals (try (simp at hf; done))
          all_goals
            go_enter Tryz.func62, Tryz.ntmps62
            go_wp2_with (first | (go_at_call 32; refine (cs _).mono ?_; rintro e w' ⟨rfl, hw⟩; rw [hw]) | (go_at_call 65; refine (c1 _).mono ?_; rintro e w' ⟨rfl, hw⟩; rw [hw]))
            go_quiet (fail)
            go_wp2
            refine bodyPost_ret (results_t3 rfl _ _ _) rfl ?_
            have hst : b + (p.stop + 1 + E.length) = M := by
              have a1 := HK.out
              have a2 := HM.out
              have a3 := HY.out
              omega
            refine ⟨below_drewN (Below.refl _ _) _, Or.inr ⟨{ p with expo := E, stop := p.stop + 1 + E.length }, ?_, ?_, ?_⟩⟩
            · exact HS.out HZ.out
            · show b + (p.stop + 1 + E.length) ≤ s.size
              rw [hst]; omega
            · show Ending.returned (.tuple #[.int .i64 (M : Int), .string (str E), .bool true]) = .returned (.tuple #[.int .i64 ((b + (p.stop + 1 + E.length) : Nat) : Int), _, _])
              rw [hst]
      · have hsg' : fst [43, 45] (s.data.toList.drop (k + 1)) = false := by simpa using hsg
        have x1 := expo_plain hsg'
        have c1 := fun w => run9_any s (k + 1) false hs hk1 w
        have hle := run_le9 (isX false) hk1
        have hx := run_ext (t := s) (k := k + 1) isD
        change ∀ w, Calls Tryz.prog _ _ w (fun e w' => e = .returned (.int .i64 ((k + 1 + (tkD (s.data.toList.drop (k + 1))).length : Nat) : Int)) ∧ w' = w) at c1
        change k + 1 + (tkD (s.data.toList.drop (k + 1))).length ≤ s.size at hle
        change s.extract (k + 1) (k + 1 + (tkD (s.data.toList.drop (k + 1))).length) = str (tkD (s.data.toList.drop (k + 1))) at hx
        have hsgn : ∀ (h : k + 1 < s.size) w, Calls Tryz.prog 32 #[.int .u8 (s[k + 1]'h).toNat] w fun e w' => e = .returned (.bool false) ∧ w' = w := fun h w => by
          have := sign9_any (s[k + 1]'h) w
          rw [← fst_at h, hsg'] at this
          exact this
        clear hsg hsg'
        rw [x1] at HS HN
        clear x1
        generalize hT : tkD (s.data.toList.drop (k + 1)) = E at *
        clear hT
        generalize hM : k + 1 + E.length = M at *
        have HM : Hid (M = k + 1 + E.length) := hM.symm
        have hMi : (M : Int) ≤ (s.size : Int) := by omega
        have hkM : (k : Int) + 1 ≤ (M : Int) := by omega
        by_cases hk2 : k + 1 < s.size
        · have hk2i : (k : Int) + 1 < (s.size : Int) := by omega
          have cs := hsgn hk2
          clear hsgn
          by_cases hn : E = []
          · have hMe : M = k + 1 := by rw [← hM, hn]; rfl
            subst hMe
            have heq : (((k + 1 : Nat) : Int) == (k : Int) + 1) = true := by rw [beq_iff_eq]; omega
            have HX : Hid (E = []) := hn
            clear hn hM hx
            cases b1
            all_goals (try cases b2)
            all_goals (try (simp at hf; done))
            all_goals
              go_enter Tryz.func62, Tryz.ntmps62
              go_wp2_with (first | (go_at_call 32; refine (cs _).mono ?_; rintro e w' ⟨rfl, rfl⟩) | (go_at_call 65; refine (c1 _).mono ?_; rintro e w' ⟨rfl, rfl⟩))
              refine bodyPost_ret (results_t3 rfl _ _ _) rfl ?_
              exact ⟨Below.refl _ _, Or.inl ⟨HN.out HX.out, rfl⟩⟩
          · have hlenT : E.length ≠ 0 := fun h => hn (List.length_eq_zero_iff.mp h)
            have heq : ((M : Int) == (k : Int) + 1) = false := beq_eq_false_iff_ne.2 (by omega)
            have HX : Hid (E ≠ []) := hn
            clear hn hM hlenT
            cases b1
            all_goals (try cases b2)
            all_goals (try (simp at hf; done))
            all_goals
              go_enter Tryz.func62, Tryz.ntmps62
              go_wp2_with (first | (go_at_call 32; refine (cs _).mono ?_; rintro e w' ⟨rfl, hw⟩; rw [hw]) | (go_at_call 65; refine (c1 _).mono ?_; rintro e w' ⟨rfl, hw⟩; rw [hw]))
              go_quiet (fail)
              go_wp2
              refine bodyPost_ret (results_t3 rfl _ _ _) rfl ?_
              have hst : b + (p.stop + 1 + E.length) = M := by
                have a1 := HK.out
                have a2 := HM.out
                omega
              refine ⟨below_drewN (Below.refl _ _) _, Or.inr ⟨{ p with expo := E, stop := p.stop + 1 + E.length }, ?_, ?_, ?_⟩⟩
              · exact HS.out HX.out
              · show b + (p.stop + 1 + E.length) ≤ s.size
                rw [hst]; omega
              · show Ending.returned (.tuple #[.int .i64 (M : Int), .string (str E), .bool true]) = .returned (.tuple #[.int .i64 ((b + (p.stop + 1 + E.length) : Nat) : Int), _, _])
                rw [hst]
        · have hk2i : ¬ (k : Int) + 1 < (s.size : Int) := by omega
          clear hsgn
          have hMe : M = k + 1 := by omega
          subst hMe
          have heq : (((k + 1 : Nat) : Int) == (k : Int) + 1) = true := by rw [beq_iff_eq]; omega
          have HX : Hid (E = []) := List.length_eq_zero_iff.mp (by omega)
          clear hM hx
          cases b1
          all_goals (try cases b2)
          all_goals (try (simp at hf; done))
          all_goals
            go_enter Tryz.func62, Tryz.ntmps62
            go_wp2_with (go_at_call 65; refine (c1 _).mono ?_; rintro e w' ⟨rfl, rfl⟩)
            refine bodyPost_ret (results_t3 rfl _ _ _) rfl ?_
            exact ⟨Below.refl _ _, Or.inl ⟨HN.out HX.out, rfl⟩⟩
  · have hlti : (s.size : Int) ≤ (k : Int) := by omega
    go_enter Tryz.func62, Tryz.ntmps62
    go_wp2
    refine bodyPost_ret (results_t3 rfl _ _ _) rfl ?_
    exact ⟨Below.refl _ _, Or.inl ⟨refE_none1 (fst_end hlt), rfl⟩⟩
end Go.Proofs.YthibemoincgemabGreatDoor
