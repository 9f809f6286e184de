/- plumblaw09: a piece is made, and read. -/
import Derived.Test.YthibemoincgemabGreatDoorLexMf
import Derived.Test.YthibemoincgemabGreatDoorLexMg
import Derived.Test.YthibemoincgemabGreatDoorLexMh
import Derived.Test.YthibemoincgemabGreatDoorLexRk
namespace Go.Proofs.YthibemoincgemabGreatDoor
open Go.ChangeShapes Go.WideShapes Go.ChangeAt Go.RowKit
open Lx
set_option linter.unusedVariables false
namespace Lx
/-- this text says this, whatever that can't go on stands behind it -/
def Reads (S : B) (N : Nm) : Prop := ∀ R : B, Stops R → (longestL (S ++ R)).kind ≠ 0 ∧ (longestL (S ++ R)).stop = S.length ∧ numOf (longestL (S ++ R)) = N
theorem mdS_len {k : Int} (hk : k = 0 ∨ k = 1 ∨ k = 2) {s h t x : B} {pt ne big : Bool} (hs : s.length ≤ 1) (hh : h.length ≤ 40) (ht : t.length ≤ 40) (hx : x.length ≤ 7) : (mdS k s h t pt ne big x).length ≤ 200 := by
  have h1 : ∀ k : Int, (mdHead k h t).length ≤ 40 := by
    intro k
    unfold mdHead
    split
    · split
      · simp
      · exact hh
    · split
      · simp
      · exact hh
  have h2 : ∀ k : Int, (mdTail k t).length ≤ 40 := by
    intro k
    unfold mdTail
    split
    · split
      · simp
      · exact ht
    · exact ht
  have h3 : (if mdPt t pt = true then 46 :: t else []).length ≤ 41 := by
    split
    · rw [List.length_cons]; omega
    · simp
  have h4 : ∀ k : Int, (mdExp ne big k x).length ≤ 8 := by
    intro k
    unfold mdExp
    split
    · rw [List.length_cons]; omega
    · split
      · simp
      · rw [List.length_cons]; omega
  rcases hk with rfl | rfl | rfl
  · rw [mdS_0]; simp only [List.length_append]; have := h1 0; have := h4 0; omega
  · rw [mdS_1]; simp only [List.length_append, List.length_cons]; have := h1 1; have := h4 1; omega
  · rw [mdS_2]; simp only [List.length_append, List.length_cons]; have := h1 2; have := h2 2; omega
theorem made_say {k q e : Int} {plus pt ne big : Bool} {z1 z2 : List Int} (hk : k = 0 ∨ k = 1 ∨ k = 2) :
    Reads (mdS k (sgL q plus) (dgL (baseOf k) big z1) (dgL (baseOf k) big z2) pt ne big (exL (e.tmod 100000) plus)) (mdN k (sgL q plus) (dgL (baseOf k) big z1) (dgL (baseOf k) big z2) ne (e.tmod 100000)) ∧
    (mdS k (sgL q plus) (dgL (baseOf k) big z1) (dgL (baseOf k) big z2) pt ne big (exL (e.tmod 100000) plus)).length ≤ 200 := by
  have he0 : -100000 < e.tmod 100000 := Int.lt_tmod_of_pos e (by omega)
  have he1 : e.tmod 100000 < 100000 := Int.tmod_lt_of_pos e (by omega)
  have hb0 : 0 < baseOf k := by unfold baseOf; split <;> omega
  have hb1 : baseOf k ≤ 16 := by unfold baseOf; split <;> omega
  obtain ⟨x1, x2, x3⟩ := exL_ok (e := e.tmod 100000) (by omega) plus
  refine ⟨fun R hR => ?_, mdS_len hk ?_ dgL_len dgL_len x3⟩
  · refine made_read hk (sgL_cases _ _) (dgL_H hb0 hb1) (dgL_H hb0 hb1) (fun hk1 => ?_) x1 x2 (exL_val (by omega) plus) (by omega) dgL_len hR
    have : baseOf k = 10 := by unfold baseOf; rw [if_neg hk1]
    rw [this]
    exact ⟨dgL_D, dgL_D⟩
  · rcases sgL_cases q plus with h | h | h <;> rw [h] <;> simp
end Lx
theorem made9_all {kd sg e : Int} {a1 a2 : Option Addr} {n1 c1 n2 c2 : Nat} {z1 z2 : List Int} (hn1 : n1 ≤ 9223372036854775807) (hn2 : n2 ≤ 9223372036854775807) (pt ne plus big : Bool) :
    ∃ S N, Reads S N ∧ S.length ≤ 200 ∧ ∀ w, RowAt .i64 w a1 n1 z1 → RowAt .i64 w a2 n2 z2 → Calls Tryz.prog 6 #[.agg (pieA kd sg (.slice a1 n1 c1) (.slice a2 n2 c2) pt ne e plus big)] w fun r w' =>
      r = .returned (.tuple #[.string (str S), .agg (nmA N)]) ∧ Below w.heap.size w w' := by
  have hk : kd % 3 = 0 ∨ kd % 3 = 1 ∨ kd % 3 = 2 := by omega
  obtain ⟨h1, h2⟩ := made_say (k := kd % 3) (q := sg % 3 - 1) (e := e) (plus := plus) (pt := pt) (ne := ne) (big := big) (z1 := z1) (z2 := z2) hk
  refine ⟨_, _, h1, h2, fun w hr1 hr2 => ?_⟩
  rcases hk with k0 | k1 | k2
  · rw [k0]; exact made9_k0 hr1 hr2 hn1 hn2 pt ne plus big k0 rfl rfl rfl rfl
  · rw [k1]; exact made9_k1 hr1 hr2 hn1 hn2 pt ne plus big k1 rfl rfl rfl rfl
  · rw [k2]; exact made9_k2 hr1 hr2 hn1 hn2 pt ne plus big k2 rfl rfl rfl rfl
namespace Lx
theorem scan_of {S R : B} {N : Nm} (h : Reads S N) (hl : S.length + R.length ≤ 60000) (hR : Stops R) : scanP (S ++ R) 0 = longestL (S ++ R) := by
  unfold scanP
  rw [List.drop_zero, List.take_of_length_le (by rw [List.length_append]; omega)]
/-- Parse of it -/
theorem parse_of {S : B} {N : Nm} (h : Reads S N) (hl : S.length ≤ 60000) : paN (str S) = N ∧ paC (str S) = 0 ∧ paP (str S) = -1 := by
  obtain ⟨k1, k2, k3⟩ := h [] Stops.nil
  have hs := scan_of h (R := []) (by simpa using hl) Stops.nil
  rw [List.append_nil] at k1 k2 k3 hs
  have ok : scOk (str S) 0 := ⟨by omega, by omega, by rw [str_list]; show (scanP S 0).kind ≠ 0; rw [hs]; exact k1⟩
  have hst : (scanP (str S).data.toList 0).stop = (str S).size := by rw [str_list, hs, k2, str_size]
  unfold paN paC paP
  rw [if_pos ⟨ok, hst⟩, if_pos ok, if_pos hst, if_pos ok, if_pos hst, str_list, hs]
  exact ⟨k3, rfl, rfl⟩
theorem parse_exact {S : B} {p : Pc} (hp : scanP S 0 = p) (hk : p.kind ≠ 0) (hst : p.stop = S.length) : paN (str S) = numOf p ∧ paC (str S) = 0 ∧ paP (str S) = -1 := by
  have ok : scOk (str S) 0 := ⟨by omega, by omega, by rw [str_list]; show (scanP S 0).kind ≠ 0; rw [hp]; exact hk⟩
  have hs : (scanP (str S).data.toList 0).stop = (str S).size := by rw [str_list, hp, hst, str_size]
  unfold paN paC paP
  rw [if_pos ⟨ok, hs⟩, if_pos ok, if_pos hs, if_pos ok, if_pos hs, str_list, hp]
  exact ⟨rfl, rfl, rfl⟩
theorem alive_said : paN (ByteArray.mk #[45, 49, 46, 53, 48, 101, 49]) = ⟨1, true, [49, 53, 48], -1, []⟩ ∧ paC (ByteArray.mk #[45, 49, 46, 53, 48, 101, 49]) = 0 ∧ paP (ByteArray.mk #[45, 49, 46, 53, 48, 101, 49]) = -1 := by
  have := parse_exact (S := [45, 49, 46, 53, 48, 101, 49]) (p := ⟨1, true, [49], [53, 48], [49], [], 7⟩) (by rfl) (by decide) rfl
  have e : numOf ⟨1, true, [49], [53, 48], [49], [], 7⟩ = ⟨1, true, [49, 53, 48], -1, []⟩ := by rfl
  rw [e] at this
  exact this
/-- Parse of it with something behind -/
theorem parse_more {S r : B} {c : UInt8} {N : Nm} (h : Reads S N) (hl : S.length + (c :: r).length ≤ 60000) (hR : Stops (c :: r)) : paC (str (S ++ c :: r)) = trl c ∧ paP (str (S ++ c :: r)) = S.length := by
  obtain ⟨k1, k2, k3⟩ := h _ hR
  have hs := scan_of h hl hR
  have ok : scOk (str (S ++ c :: r)) 0 := ⟨by omega, by omega, by rw [str_list]; show (scanP (S ++ c :: r) 0).kind ≠ 0; rw [hs]; exact k1⟩
  have hst : (scanP (str (S ++ c :: r)).data.toList 0).stop = S.length := by rw [str_list, hs, k2]
  have hne : ¬ (scanP (str (S ++ c :: r)).data.toList 0).stop = (str (S ++ c :: r)).size := by rw [hst, str_size, List.length_append, List.length_cons]; omega
  unfold paC paP
  rw [if_pos ok, if_neg hne, if_pos ok, if_neg hne, hst]
  refine ⟨?_, rfl⟩
  congr 1
  have hlt : S.length < (str (S ++ c :: r)).size := by rw [str_size, List.length_append, List.length_cons]; omega
  rw [Na.get_byte hlt]
  show (List.toArray (S ++ c :: r))[S.length]'(by rw [List.size_toArray, List.length_append, List.length_cons]; omega) = c
  rw [List.getElem_toArray]
  simp
/-- Scan of it -/
theorem scan_said9 {S : B} {N : Nm} (h : Reads S N) (hl : S.length ≤ 60000) : scN (str S) 0 = N ∧ scT (str S) 0 = S.length ∧ scC (str S) 0 = 0 ∧ scP (str S) 0 = -1 := by
  obtain ⟨k1, k2, k3⟩ := h [] Stops.nil
  have hs := scan_of h (R := []) (by simpa using hl) Stops.nil
  rw [List.append_nil] at k1 k2 k3 hs
  have ok : scOk (str S) 0 := ⟨by omega, by omega, by rw [str_list]; show (scanP S 0).kind ≠ 0; rw [hs]; exact k1⟩
  unfold scN scT scC scP
  rw [if_pos ok, if_pos ok, if_pos ok, if_pos ok, str_list]
  have e0 : (0 : Int).toNat = 0 := rfl
  rw [e0, hs, k2]
  exact ⟨k3, by omega, rfl, rfl⟩
/-- no numeral there -/
theorem parse_none {S : B} (h : (longestL (S.take 65536)).kind = 0) : paC (str S) = 90 ∧ paP (str S) = 0 := by
  have no : ¬ scOk (str S) 0 := fun q => q.2.2 (by rw [str_list]; exact h)
  unfold paC paP
  rw [if_neg no, if_neg no]
  exact ⟨rfl, rfl⟩
theorem none_comma (l : B) : (longestL (44 :: l)).kind = 0 := rfl
theorem none_signs (l : B) : (longestL (43 :: 45 :: l)).kind = 0 := rfl
theorem none_nil : (longestL []).kind = 0 := rfl
end Lx
set_option maxRecDepth 100000 in
theorem alive9_any (w : World) :
    Calls Tryz.prog 8 #[] w fun r w' => r = .returned (.bool true) ∧ Below w.heap.size w w' := by
  obtain ⟨p1, p2, p3⟩ := alive_said
  have hP := fun w => parse9_all (ByteArray.mk #[45, 49, 46, 53, 48, 101, 49]) (by decide) w
  rw [p1, p2, p3] at hP
  go_enter Tryz.func8, Tryz.ntmps8
  go_wp2_with fail
  refine (hP _).mono ?_
  rintro r w1 ⟨er, rfl, hE, hb⟩
  obtain rfl : er = .nilIface := by
    rcases hE with ⟨_, h⟩ | ⟨h, _⟩
    · exact h
    · exact absurd rfl h
  have hB : Hid (Below w.heap.size w (w1.alloc (.cells (nmA ⟨1, true, [49, 53, 48], -1, []⟩) 26))) := hb.alloc hb.size _
  unfold nmA at hB
  clear hE hP hb p1 p2 p3
  unfold nmA
  have s1 : str [49, 53, 48] = ByteArray.mk #[49, 53, 48] := rfl
  have s2 : str [] = ByteArray.mk #[] := rfl
  simp only [s1, s2] at hB ⊢
  go_wp2
  go_ret
  exact ⟨rfl, hB.out⟩
end Go.Proofs.YthibemoincgemabGreatDoor
