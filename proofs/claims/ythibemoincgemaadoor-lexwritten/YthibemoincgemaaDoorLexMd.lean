/- plumblaw09: what is read where a piece is written. -/
import Derived.Test.YthibemoincgemaaDoorLexMc
namespace Go.Proofs.YthibemoincgemaaDoor
set_option linter.unusedVariables false
namespace Lx
theorem strip_nil : strip [] = [] := rfl
theorem mdS_0 {s h t x : B} {pt ne big : Bool} : mdS 0 s h t pt ne big x = s ++ (mdHead 0 h t ++ ((if mdPt t pt = true then 46 :: t else []) ++ mdExp ne big 0 x)) := rfl
theorem mdS_1 {s h t x : B} {pt ne big : Bool} : mdS 1 s h t pt ne big x = s ++ (48 :: (if big = true then 88 else 120) :: (mdHead 1 h t ++ ((if mdPt t pt = true then 46 :: t else []) ++ mdExp ne big 1 x))) := rfl
theorem mdS_2 {s h t x : B} {pt ne big : Bool} : mdS 2 s h t pt ne big x = s ++ (mdHead 2 h t ++ (47 :: mdTail 2 t)) := rfl
theorem mdN_0 {s h t : B} {ne : Bool} {e : Int} : mdN 0 s h t ne e = ⟨1, decide (s = [45]), bareR (mdHead 0 h t ++ t), (if ne = true then -(t.length : Int) else e - t.length), []⟩ := rfl
theorem mdN_1 {s h t : B} {ne : Bool} {e : Int} : mdN 1 s h t ne e = ⟨2, decide (s = [45]), bareR (mdHead 1 h t ++ t), e - 4 * t.length, []⟩ := rfl
theorem mdN_2 {s h t : B} {ne : Bool} {e : Int} : mdN 2 s h t ne e = ⟨3, decide (s = [45]), bareR (mdHead 2 h t), 0, bareR (mdTail 2 t)⟩ := rfl
theorem made_read {k : Int} (hk : k = 0 ∨ k = 1 ∨ k = 2) {s h t x rest : B} {pt ne big : Bool} {e : Int} (hs : s = [] ∨ s = [43] ∨ s = [45])
    (hh : h.all isH = true) (ht : t.all isH = true) (hd : k ≠ 1 → h.all isD = true ∧ t.all isD = true) (hx : ExpoOk x) (hxn : x ≠ []) (hev : expoN x = e) (he : e.natAbs < 100000) (hl : t.length ≤ 40) (hr : Stops rest) :
    (longestL (mdS k s h t pt ne big x ++ rest)).kind ≠ 0 ∧ (longestL (mdS k s h t pt ne big x ++ rest)).stop = (mdS k s h t pt ne big x).length ∧ numOf (longestL (mdS k s h t pt ne big x ++ rest)) = mdN k s h t ne e := by
  have hpt : mdPt t pt = false → t = [] := by
    intro q
    unfold mdPt at q
    cases t with
    | nil => rfl
    | cons a b => simp at q
  rcases hk with rfl | rfl | rfl
  · obtain ⟨hD, tD⟩ := hd (by omega)
    have eh : mdHead 0 h t = if h = [] ∧ t = [] then [48] else h := by unfold mdHead; rw [if_neg (by omega)]
    have hD' : (mdHead 0 h t).all isD = true := by rw [eh]; split; rfl; exact hD
    have hne : ¬ (mdHead 0 h t = [] ∧ t = []) := by rw [eh]; split; simp; assumption
    have hxw : ExpW [101, 69] (mdExp ne big 0 x) := by
      unfold mdExp
      rw [if_neg (by omega)]
      cases ne
      · refine Or.inr ⟨_, x, rfl, ?_, hxn, hx⟩
        cases big <;> rfl
      · exact Or.inl rfl
    have eS : mdS 0 s h t pt ne big x ++ rest = s ++ (mdHead 0 h t ++ ((if mdPt t pt = true then 46 :: t else []) ++ (mdExp ne big 0 x ++ rest))) := by
      rw [mdS_0]
      simp only [List.append_assoc]
    have key := longest_dec (pt := mdPt t pt) hs hD' tD hne hpt hxw hr
    rw [eS, key]
    have hHH : (mdHead 0 h t ++ t).all isH = true := by rw [List.all_append, all_mono (fun _ => isH_of) hD', ht]; rfl
    refine ⟨by simp, ?_, ?_⟩
    · show _ = (mdS 0 s h t pt ne big x).length
      rw [mdS_0]
      show _ = (_ : Nat)
      simp only [List.length_append]
      split <;> simp <;> omega
    · rw [mdN_0]
      unfold numOf
      show Nm.mk 1 (decide (s = [45])) (strip (mdHead 0 h t ++ t)) (if (1 : Int) = 1 then heldI (expoN (mdExp ne big 0 x).tail - t.length) else _) (strip []) = _
      rw [strip_same hHH, if_pos rfl, strip_nil]
      congr 1
      unfold mdExp
      rw [if_neg (by omega)]
      cases ne
      · show heldI (expoN x - _) = e - _
        rw [hev, heldI_small (by omega) (by omega)]
      · rw [if_pos rfl, if_pos rfl]
        show heldI (0 - _) = _
        rw [heldI_small (by omega) (by omega)]
        omega
  · have eh : mdHead 1 h t = if h = [] ∧ t = [] then [48] else h := by unfold mdHead; rw [if_neg (by omega)]
    have hH' : (mdHead 1 h t).all isH = true := by rw [eh]; split; rfl; exact hh
    have hne : ¬ (mdHead 1 h t = [] ∧ t = []) := by rw [eh]; split; simp; assumption
    have hxw : ExpW [112, 80] (mdExp ne big 1 x) := by
      unfold mdExp
      rw [if_pos rfl]
      refine Or.inr ⟨_, x, rfl, ?_, hxn, hx⟩
      cases big <;> rfl
    have hx0 : mdExp ne big 1 x ≠ [] := by unfold mdExp; rw [if_pos rfl]; exact List.cons_ne_nil _ _
    have eS : mdS 1 s h t pt ne big x ++ rest = s ++ (48 :: (if big = true then 88 else 120) :: (mdHead 1 h t ++ ((if mdPt t pt = true then 46 :: t else []) ++ (mdExp ne big 1 x ++ rest)))) := by
      rw [mdS_1]
      simp only [List.append_assoc, List.cons_append]
    have key := longest_hex (pt := mdPt t pt) (x := if big = true then 88 else 120) hs (by cases big; exact Or.inl rfl; exact Or.inr rfl) hH' ht hne hpt hxw hx0 hr
    rw [eS, key]
    have hHH : (mdHead 1 h t ++ t).all isH = true := by rw [List.all_append, hH', ht]; rfl
    refine ⟨by simp, ?_, ?_⟩
    · show _ = (mdS 1 s h t pt ne big x).length
      rw [mdS_1]
      show _ = (_ : Nat)
      simp only [List.length_append, List.length_cons]
      split <;> simp <;> omega
    · rw [mdN_1]
      unfold numOf
      show Nm.mk 2 (decide (s = [45])) (strip (mdHead 1 h t ++ t)) (if (2 : Int) = 1 then _ else if (2 : Int) = 2 then heldI (expoN (mdExp ne big 1 x).tail - 4 * t.length) else _) (strip []) = _
      rw [strip_same hHH, if_neg (by omega), if_pos rfl, strip_nil]
      congr 1
      unfold mdExp
      rw [if_pos rfl]
      show heldI (expoN x - _) = _
      rw [hev, heldI_small (by omega) (by omega)]
  · obtain ⟨hD, tD⟩ := hd (by omega)
    have eh : mdHead 2 h t = if h = [] then [55] else h := by unfold mdHead; rw [if_pos rfl]
    have et : mdTail 2 t = if t = [] then [48, 50] else t := by unfold mdTail; rw [if_pos rfl]
    have hD' : (mdHead 2 h t).all isD = true := by rw [eh]; split; rfl; exact hD
    have tD' : (mdTail 2 t).all isD = true := by rw [et]; split; rfl; exact tD
    have hne : mdHead 2 h t ≠ [] := by rw [eh]; split; simp; assumption
    have tne : mdTail 2 t ≠ [] := by rw [et]; split; simp; assumption
    have eS : mdS 2 s h t pt ne big x ++ rest = s ++ (mdHead 2 h t ++ (47 :: (mdTail 2 t ++ rest))) := by
      rw [mdS_2]
      simp only [List.append_assoc, List.cons_append]
    have key := longest_rat hs hD' tD' hne tne hr
    rw [eS, key]
    refine ⟨by simp, ?_, ?_⟩
    · show _ = (mdS 2 s h t pt ne big x).length
      rw [mdS_2]
      show _ = (_ : Nat)
      simp only [List.length_append, List.length_cons]
      omega
    · rw [mdN_2]
      unfold numOf
      show Nm.mk 3 (decide (s = [45])) (strip (mdHead 2 h t ++ [])) (if (3 : Int) = 1 then _ else if (3 : Int) = 2 then _ else 0) (strip (mdTail 2 t)) = _
      rw [List.append_nil, strip_same (all_mono (fun _ => isH_of) hD'), strip_same (all_mono (fun _ => isH_of) tD'), if_neg (by omega), if_neg (by omega)]
end Lx
end Go.Proofs.YthibemoincgemaaDoor
