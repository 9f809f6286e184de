/- Layer 18: the text of a token. -/
import Derived.Test.YtfgpjplfplbcdaaGreatDoorTkB
import Derived.Test.YtfgpjplfplbcdaaGreatDoorLexTy
namespace Go.Proofs.YtfgpjplfplbcdaaGreatDoor
open Go.ChangeShapes Go.WideShapes Go.ChangeAt Go.RowKit
open Lx Tk Go.Shelf
set_option linter.unusedVariables false
namespace Tk
/-- any token -/
structure Tg where
  kind : Int
  fr : Int
  till : Int
  word : B
  num : Nm
/-- what it is written as -/
def txT (t : Tg) : B :=
  if t.kind = 1 then t.word
  else if t.kind = 5 then (if rightB t.num.kind t.num.num t.num.exp t.num.den then txL t.num.kind t.num.neg t.num.num t.num.exp t.num.den else [])
  else if t.kind = 2 then [40] else if t.kind = 3 then [41] else if t.kind = 4 then [44] else []
def gapT (t : Tg) : Bool := t.kind == 1 || t.kind == 5
def tgA (t : Tg) : Array Value := tkA t.kind t.fr t.till t.word t.num
/-- written tight -/
def tightL : Bool → List Tg → B
  | _, [] => []
  | g, t :: r => if txT t = [] then tightL g r else (if (g && gapT t) = true then [32] else []) ++ (txT t ++ tightL (gapT t) r)
theorem right_kind {k e : Int} {num den : B} (h : rightB k num e den = true) : (k = 1 ∨ k = 2 ∨ k = 3) ∧ num.length ≤ 65536 ∧ den.length ≤ 65536 ∧ -1073741824 ≤ e ∧ e ≤ 1073741824 := by
  unfold rightB at h
  split at h
  · rename_i h1
    simp only [keptB, withB, Bool.and_eq_true, decide_eq_true_eq, isEmpty_iff] at h
    refine ⟨Or.inl h1, h.1.1, ?_, h.2.2.1, h.2.2.2⟩
    rw [h.2.1]; simp
  · split at h
    · rename_i h1
      simp only [keptB, withB, Bool.and_eq_true, decide_eq_true_eq, isEmpty_iff] at h
      refine ⟨Or.inr (Or.inl h1), h.1.1, ?_, h.2.2.1, h.2.2.2⟩
      rw [h.2.1]; simp
    · split at h
      · rename_i h1
        simp only [keptB, Bool.and_eq_true, decide_eq_true_eq] at h
        exact ⟨Or.inr (Or.inr h1), h.1.1, h.2.1.1, by omega, by omega⟩
      · cases h
end Tk
set_option maxHeartbeats 1600000 in
set_option maxRecDepth 100000 in
theorem text18_any (t : Tg) (hn : t.num.num.length ≤ 1000000000) (hd : t.num.den.length ≤ 1000000000) {w : World} (hT : ∀ w', Below w.heap.size w w' → PowTab w') :
    Calls Tryz.prog 26 #[.agg (tgA t)] w fun e w' => e = .returned (.string (str (txT t))) ∧ Below w.heap.size w w' := by
  have hb0 : Below w.heap.size w (w.alloc (.cells (tgA t) 32)) := (Below.refl _ w).alloc (Nat.le_refl _) _
  have c5 : Calls Tryz.prog 18 #[.agg (numC t.num.kind t.num.neg (str t.num.num) t.num.exp (str t.num.den))] (w.alloc (.cells (tgA t) 32)) fun e w' => (∃ c, e = .returned (.tuple #[.string (str (if rightB t.num.kind t.num.num t.num.exp t.num.den then txL t.num.kind t.num.neg t.num.num t.num.exp t.num.den else [])), .int .i64 c])) ∧ Below (w.alloc (.cells (tgA t) 32)).heap.size (w.alloc (.cells (tgA t) 32)) w' := by
    cases hr : rightB t.num.kind t.num.num t.num.exp t.num.den
    · refine (text9_bad _ _ (str t.num.num) _ (str t.num.den) (by rw [str_size]; omega) (by rw [str_size]; omega) (by rw [str_list, str_list]; exact hr) _).mono ?_
      rintro e w' ⟨rfl, hb⟩
      exact ⟨⟨_, rfl⟩, hb⟩
    · obtain ⟨r1, r2, r3, r4, r5⟩ := right_kind hr
      refine (text9_good _ _ (str t.num.num) _ (str t.num.den) (by rw [str_size]; omega) (by rw [str_size]; omega) r1 r4 r5 (by rw [str_list, str_list]; exact hr) (hT _ hb0) (fun w' hb => hT w' (hb0.trans (hb.mono hb0.size)))).mono ?_
      rintro e w' ⟨rfl, hb⟩
      rw [str_list, str_list]
      exact ⟨⟨_, rfl⟩, hb⟩
  have e0 : txT t = if t.kind = 1 then t.word else if t.kind = 5 then (if rightB t.num.kind t.num.num t.num.exp t.num.den then txL t.num.kind t.num.neg t.num.num t.num.exp t.num.den else []) else if t.kind = 2 then [40] else if t.kind = 3 then [41] else if t.kind = 4 then [44] else [] := rfl
  rw [e0]
  clear e0
  generalize (if rightB t.num.kind t.num.num t.num.exp t.num.den then txL t.num.kind t.num.neg t.num.num t.num.exp t.num.den else []) = TX at *
  unfold tgA tkA at *
  unfold numC at c5
  obtain ⟨k, f, tl, wd, n⟩ := t
  simp only at *
  by_cases k1 : k = 1
  · rw [if_pos k1]
    have d1 : (k == 1) = true := by simpa using k1
    clear k1 c5
    go_enter Tryz.func26, Tryz.ntmps26
    go_wp2
    go_ret
    exact ⟨rfl, hb0⟩
  · rw [if_neg k1]
    have d1 : (k == 1) = false := by simpa using k1
    by_cases k5 : k = 5
    · rw [if_pos k5]
      have d5 : (k == 5) = true := by simpa using k5
      clear k1 k5
      go_enter Tryz.func26, Tryz.ntmps26
      go_wp2_with fail
      refine c5.mono ?_
      rintro e w1 ⟨⟨c, rfl⟩, hb1⟩
      have hb2 := hb0.trans (hb1.mono hb0.size)
      clear c5 hb1 hb0
      go_wp2
      go_ret
      exact ⟨rfl, hb2⟩
    · rw [if_neg k5]
      have d5 : (k == 5) = false := by simpa using k5
      clear c5
      by_cases k2 : k = 2
      · rw [if_pos k2]
        have d2 : (k == 2) = true := by simpa using k2
        clear k1 k5 k2
        go_enter Tryz.func26, Tryz.ntmps26
        go_wp2
        go_ret
        exact ⟨rfl, hb0⟩
      · rw [if_neg k2]
        have d2 : (k == 2) = false := by simpa using k2
        by_cases k3 : k = 3
        · rw [if_pos k3]
          have d3 : (k == 3) = true := by simpa using k3
          clear k1 k5 k2 k3
          go_enter Tryz.func26, Tryz.ntmps26
          go_wp2
          go_ret
          exact ⟨rfl, hb0⟩
        · rw [if_neg k3]
          have d3 : (k == 3) = false := by simpa using k3
          by_cases k4 : k = 4
          · rw [if_pos k4]
            have d4 : (k == 4) = true := by simpa using k4
            clear k1 k5 k2 k3 k4
            go_enter Tryz.func26, Tryz.ntmps26
            go_wp2
            go_ret
            exact ⟨rfl, hb0⟩
          · rw [if_neg k4]
            have d4 : (k == 4) = false := by simpa using k4
            clear k1 k5 k2 k3 k4
            go_enter Tryz.func26, Tryz.ntmps26
            go_wp2
            go_ret
            exact ⟨rfl, hb0⟩
end Go.Proofs.YtfgpjplfplbcdaaGreatDoor
