/- RadixFresh: the answers, and where they lie. -/
import Derived.Test.YtfnpigkiookejaaDoorRadixFrS
import Derived.Test.YtfnpigkiookejaaDoorBaseE
import Derived.Test.YtfnpigkiookejaaDoorBaseI
namespace Go.Proofs.YtfnpigkiookejaaDoor
open Go.ChangeShapes Go.WideShapes Go.ChangeAt Go.RowKit
open Na Ar
set_option linter.unusedVariables false
namespace Na
/-- X without its tens -/
def TrimOf (X U : Int) (k : Nat) : Prop := 0 ≤ U ∧ X = U * 10 ^ k ∧ (X = 0 → k = 0) ∧ (0 < X → U % 10 ≠ 0)
theorem trimOf_uniq {X U U' : Int} {k k' : Nat} (h0 : 0 ≤ X) (h : TrimOf X U k) (h' : TrimOf X U' k') : U = U' := by
  obtain ⟨a1, a2, a3, a4⟩ := h
  obtain ⟨b1, b2, b3, b4⟩ := h'
  by_cases z : X = 0
  · have k0 := a3 z
    have k1 := b3 z
    subst k0 k1
    simp at a2 b2
    omega
  · exact (trim_uniq (a2.symm.trans b2) (a4 (by omega)) (b4 (by omega))).2
end Na
theorem parseT {s : ByteArray} {X : Int} (hg : Good s 10) (hX : numB s 10 s.size = X) (hs : s.size ≤ 10000000) (hl : (words X).length ≤ 4096) (w : World) :
    Calls Tryd.prog 11 #[.string s, .int .i64 10] w fun e w' => ∃ v, e = .returned (.tuple #[v, .nilIface]) ∧ Ls w' w.heap.size w'.heap.size v (words X) ∧ Below w.heap.size w w' := by
  refine (parse_good s 10 (by omega) (by omega) hs hg.2.2.1 hg.2.2.2 w).mono ?_
  intro e w' h
  rw [hX] at h
  rcases h with ⟨_, v, rfl, ho, hb⟩ | ⟨q, _⟩
  · exact ⟨v, rfl, Ls.of_own ho, hb⟩
  · omega
theorem fiveT {k : Nat} (h : k ≤ 78913) (w : World) :
    Calls Tryd.prog 17 #[.int .i64 (k : Int)] w fun e w' => ∃ v, e = .returned (.tuple #[v, .int .i64 0]) ∧ Ls w' w.heap.size w'.heap.size v (words (5 ^ k)) ∧ Below w.heap.size w w' := by
  have f := five_any (k : Int) (by omega) (by omega) w
  have E1 : pwE 112899 (k : Int) = 0 := by unfold pwE; rw [if_neg (by omega), if_neg (by omega)]
  have E2 : pwL 5 112899 (k : Int) = words (5 ^ k) := by unfold pwL; rw [if_neg (by omega), if_neg (by omega), Int.toNat_natCast]
  rw [E1, E2] at f
  refine f.mono ?_
  rintro e w' ⟨v, rfl, ho, hb⟩
  exact ⟨v, rfl, Ls.of_own ho, hb⟩
theorem tenT {k : Nat} (h : k ≤ 78913) (w : World) :
    Calls Tryd.prog 18 #[.int .i64 (k : Int)] w fun e w' => ∃ v, e = .returned (.tuple #[v, .int .i64 0]) ∧ Ls w' w.heap.size w'.heap.size v (words (10 ^ k)) ∧ Below w.heap.size w w' := by
  have f := ten_any (k : Int) (by omega) (by omega) w
  have E1 : pwE 78913 (k : Int) = 0 := by unfold pwE; rw [if_neg (by omega), if_neg (by omega)]
  have E2 : pwL 10 78913 (k : Int) = words (10 ^ k) := by unfold pwL; rw [if_neg (by omega), if_neg (by omega), Int.toNat_natCast]
  rw [E1, E2] at f
  refine f.mono ?_
  rintro e w' ⟨v, rfl, ho, hb⟩
  exact ⟨v, rfl, Ls.of_own ho, hb⟩
theorem trimT {a : Option Addr} {l c : Nat} {xs : List Int} {w : World} (hr : RowC w a l c xs) (hw : Ws xs) (hl : l ≤ 3000000) :
    Calls Tryd.prog 20 #[.slice a l c] w fun e w' => ∃ (v : Value) (U : Int) (k : Nat), e = .returned (.tuple #[v, .int .i64 (k : Int)]) ∧ (TrimOf (num xs) U k ∧ Ls w' w.heap.size w'.heap.size v (words U)) ∧ Below w.heap.size w w' := by
  refine (trim10_any hr hw hl).mono ?_
  rintro e w' ⟨v, U, k, rfl, h1, h2, h3, h4, ho, hb⟩
  exact ⟨v, U, k, rfl, ⟨⟨h1, h2, h3, h4⟩, Ls.of_own ho⟩, hb⟩
/-- one of eight -/
def p8 {α : Type} (a b c d e f g h : α) : Nat → α
  | 0 => a | 1 => b | 2 => c | 3 => d | 4 => e | 5 => f | 6 => g | _ => h
def p4 {α : Type} (a b c d : α) : Nat → α
  | 0 => a | 1 => b | 2 => c | _ => d
theorem lt8 {P : Nat → Prop} (h0 : P 0) (h1 : P 1) (h2 : P 2) (h3 : P 3) (h4 : P 4) (h5 : P 5) (h6 : P 6) (h7 : P 7) : ∀ k, k < 8 → P k := by
  intro k hk
  have hc : k = 0 ∨ k = 1 ∨ k = 2 ∨ k = 3 ∨ k = 4 ∨ k = 5 ∨ k = 6 ∨ k = 7 := by omega
  rcases hc with rfl | rfl | rfl | rfl | rfl | rfl | rfl | rfl <;> assumption
theorem lt4 {P : Nat → Prop} (h0 : P 0) (h1 : P 1) (h2 : P 2) (h3 : P 3) : ∀ k, k < 4 → P k := by
  intro k hk
  have hc : k = 0 ∨ k = 1 ∨ k = 2 ∨ k = 3 := by omega
  rcases hc with rfl | rfl | rfl | rfl <;> assumption
theorem geo_of {s0 s1 s2 s3 s4 gl q0 q1 q2 q3 q4 gw t0 t1 t2 t3 t4 gt H : Nat} (a0 : s0 ≤ s1) (a1 : s1 ≤ s2) (a2 : s2 ≤ s3) (a3 : s3 ≤ s4) (a4 : s4 ≤ gl) (a5 : gl < q0) (b0 : q0 ≤ q1) (b1 : q1 ≤ q2) (b2 : q2 ≤ q3) (b3 : q3 ≤ q4) (b4 : q4 ≤ gw) (b5 : gw < t0) (c0 : t0 ≤ t1) (c1 : t1 ≤ t2) (c2 : t2 ≤ t3) (c3 : t3 ≤ t4) (c4 : t4 ≤ gt) (c5 : gt < H) :
    Geo (p8 s0 s1 s2 s3 t0 t1 t2 t3) (p8 s1 s2 s3 s4 t1 t2 t3 t4) (p4 q0 q1 q2 q3) (p4 q1 q2 q3 q4) gl gt gw H := by
  refine ⟨?_, ?_, ?_, ?_, ⟨by omega, c5, by omega⟩⟩
  · intro j k hj hk
    revert j
    refine lt8 (P := fun j => j ≠ k → p8 s1 s2 s3 s4 t1 t2 t3 t4 j ≤ p8 s0 s1 s2 s3 t0 t1 t2 t3 k ∨ p8 s1 s2 s3 s4 t1 t2 t3 t4 k ≤ p8 s0 s1 s2 s3 t0 t1 t2 t3 j) ?_ ?_ ?_ ?_ ?_ ?_ ?_ ?_
    all_goals (revert k; refine lt8 ?_ ?_ ?_ ?_ ?_ ?_ ?_ ?_ <;> (simp only [p8]; omega))
  · intro j k hj hk
    revert j
    refine lt4 ?_ ?_ ?_ ?_
    all_goals (revert k; refine lt8 ?_ ?_ ?_ ?_ ?_ ?_ ?_ ?_ <;> (simp only [p8, p4]; omega))
  · refine lt8 ?_ ?_ ?_ ?_ ?_ ?_ ?_ ?_ <;> (simp only [p8]; omega)
  · refine lt8 ?_ ?_ ?_ ?_ ?_ ?_ ?_ ?_ <;> (simp only [p8]; omega)
end Go.Proofs.YtfnpigkiookejaaDoor
