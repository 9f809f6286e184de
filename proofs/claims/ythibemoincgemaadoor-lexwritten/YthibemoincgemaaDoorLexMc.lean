/- plumblaw09: a piece as it is written, and what it says. -/
import Derived.Test.YthibemoincgemaaDoorLexForm
import Derived.Test.YthibemoincgemaaDoorLemCm
import Derived.Test.YthibemoincgemaaDoorLexMa
namespace Go.Proofs.YthibemoincgemaaDoor
set_option linter.unusedVariables false
namespace Lx
def mdHead (k : Int) (h t : B) : B := if k = 2 then (if h = [] then [55] else h) else (if h = [] ∧ t = [] then [48] else h)
def mdTail (k : Int) (t : B) : B := if k = 2 then (if t = [] then [48, 50] else t) else t
def mdPt (t : B) (pt : Bool) : Bool := !t.isEmpty || pt
def mdExp (ne big : Bool) (k : Int) (x : B) : B := if k = 1 then (if big then 80 else 112) :: x else if ne = true then [] else (if big then 69 else 101) :: x
/-- the text -/
def mdS (k : Int) (s h t : B) (pt ne big : Bool) (x : B) : B :=
  if k = 2 then s ++ (mdHead k h t ++ (47 :: mdTail k t))
  else if k = 1 then s ++ (48 :: (if big then 88 else 120) :: (mdHead k h t ++ ((if mdPt t pt then 46 :: t else []) ++ mdExp ne big k x)))
  else s ++ (mdHead k h t ++ ((if mdPt t pt then 46 :: t else []) ++ mdExp ne big k x))
/-- what it says -/
def mdN (k : Int) (s h t : B) (ne : Bool) (e : Int) : Nm :=
  if k = 2 then ⟨3, decide (s = [45]), bareR (mdHead k h t), 0, bareR (mdTail k t)⟩
  else if k = 1 then ⟨2, decide (s = [45]), bareR (mdHead k h t ++ t), e - 4 * t.length, []⟩
  else ⟨1, decide (s = [45]), bareR (mdHead k h t ++ t), (if ne = true then -(t.length : Int) else e - t.length), []⟩
/-- an exponent as it is written -/
def exL (e : Int) (plus : Bool) : B := sgL e plus ++ decF 5 e.natAbs
theorem exL_ok {e : Int} (h : e.natAbs < 100000) (plus : Bool) : ExpoOk (exL e plus) ∧ exL e plus ≠ [] ∧ (exL e plus).length ≤ 7 := by
  obtain ⟨a, b, c⟩ := decF_D 5 e.natAbs (by omega)
  have hs := sgL_cases e plus
  refine ⟨Or.inr ⟨_, _, rfl, hs, b, a⟩, ?_, ?_⟩
  · unfold exL
    simp [b]
  · unfold exL
    rw [List.length_append]
    have : (sgL e plus).length ≤ 1 := by rcases hs with q | q | q <;> rw [q] <;> simp
    omega
theorem expo_of {sg ds : B} (hs : sg = [] ∨ sg = [43] ∨ sg = [45]) (hd : ds.all isD = true) (hn : ds ≠ []) : expoN (sg ++ ds) = (if sg = [45] then -(ds.foldl stepP 0) else ds.foldl stepP 0) := by
  obtain ⟨c, r, rfl⟩ : ∃ c r, ds = c :: r := by
    cases ds with
    | nil => exact absurd rfl hn
    | cons c r => exact ⟨c, r, rfl⟩
  have hc : isD c = true := by rw [List.all_cons] at hd; simp at hd; exact hd.1
  have hb := isD_bd hc
  have c43 : ([43, 45] : B).contains c = false := by
    have h1 : c ≠ 43 := fun q => by rw [q] at hb; simp at hb
    have h2 : c ≠ 45 := fun q => by rw [q] at hb; simp at hb
    simp [h1, h2]
  have c45 : ([45] : B).contains c = false := by
    have h2 : c ≠ 45 := fun q => by rw [q] at hb; simp at hb
    simp [h2]
  rcases hs with rfl | rfl | rfl
  · rw [List.nil_append, if_neg (by simp)]
    unfold expoN expD
    have f1 : fst [45] (c :: r) = false := c45
    rw [List.dropWhile_cons, c43, f1]
    rfl
  · rw [if_neg (by decide)]
    unfold expoN expD
    have f1 : fst [45] ([43] ++ (c :: r)) = false := rfl
    have f2 : ([43] ++ (c :: r)).dropWhile (fun b => ([43, 45] : B).contains b) = (c :: r) := by
      show ((43 : UInt8) :: c :: r).dropWhile (fun b => ([43, 45] : B).contains b) = _
      rw [List.dropWhile_cons, show ([43, 45] : B).contains 43 = true from rfl, if_pos rfl, List.dropWhile_cons, c43]
      rfl
    rw [f2, f1]
    rfl
  · rw [if_pos rfl]
    unfold expoN expD
    have f1 : fst [45] ([45] ++ (c :: r)) = true := rfl
    have f2 : ([45] ++ (c :: r)).dropWhile (fun b => ([43, 45] : B).contains b) = (c :: r) := by
      show ((45 : UInt8) :: c :: r).dropWhile (fun b => ([43, 45] : B).contains b) = _
      rw [List.dropWhile_cons, show ([43, 45] : B).contains 45 = true from rfl, if_pos rfl, List.dropWhile_cons, c43]
      rfl
    rw [f2, f1]
    rfl
theorem exL_val {e : Int} (h : e.natAbs < 100000) (plus : Bool) : expoN (exL e plus) = e := by
  obtain ⟨a, b, c⟩ := decF_D 5 e.natAbs (by omega)
  have hs := sgL_cases e plus
  have hv := decF_val 5 e.natAbs (by omega) (by omega)
  unfold exL
  rw [expo_of hs a b, hv]
  unfold sgL
  by_cases hn : e < 0
  · rw [if_pos hn, if_pos rfl]; omega
  · rw [if_neg hn]
    cases plus
    · simp; omega
    · simp; omega
theorem heldI_small {n : Int} (h0 : -1073741824 ≤ n) (h1 : n ≤ 1073741824) : heldI n = n := by
  unfold heldI
  split <;> split <;> omega
end Lx
end Go.Proofs.YthibemoincgemaaDoor
