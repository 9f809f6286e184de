/- Layer 9: the document's decimal, hexadecimal and rational. -/
import Derived.Test.YthibemoincgemabGreatDoorLexRe
namespace Go.Proofs.YthibemoincgemabGreatDoor
open Go.ChangeShapes Go.WideShapes Go.ChangeAt Go.RowKit
open Lx
set_option linter.unusedVariables false
namespace Lx
structure Keep (p q : Pc) (n : Nat) : Prop where
  kind : q.kind = p.kind
  neg : q.neg = p.neg
  den : q.den = p.den
  expo : q.expo = p.expo
  la : q.ahead.length ≤ n
  lb : q.behind.length ≤ n
theorem refParts_keep {t : UInt8 → Bool} {p q : Pc} {l r : B} (h : refParts t p l = some (q, r)) : Keep p q l.length := by
  have h1 := dk_len t l
  have h2 := dk_len t (l.dropWhile t).tail
  have h3 : (l.dropWhile t).tail.length ≤ (l.dropWhile t).length := by rw [List.length_tail]; omega
  unfold refParts at h
  simp only at h
  split at h
  · split at h
    · cases h
    · cases h
      exact ⟨rfl, rfl, rfl, rfl, by show (List.takeWhile t l).length ≤ _; omega, by show (List.takeWhile t (l.dropWhile t).tail).length ≤ _; omega⟩
  · split at h
    · cases h
    · cases h
      exact ⟨rfl, rfl, rfl, rfl, by show (List.takeWhile t l).length ≤ _; omega, Nat.zero_le _⟩
theorem refE_keep {cs : B} {p q : Pc} {l : B} (h : refE cs p l = some q) : q.kind = p.kind ∧ q.neg = p.neg ∧ q.den = p.den ∧ q.ahead = p.ahead ∧ q.behind = p.behind ∧ q.expo.length ≤ l.length := by
  unfold refE at h
  split at h
  · split at h
    · cases h
    · cases h
      have := expo_le l.tail
      have h2 : l.tail.length ≤ l.length := by rw [List.length_tail]; omega
      exact ⟨rfl, rfl, rfl, rfl, rfl, by show (expoL l.tail).length ≤ _; omega⟩
  · cases h
/-- what one of the kinds answers: a numeral without its sign and the place behind it; or none -/
def KindR (w : World) (b : Nat) (o : Option Pc) (e : Ending) (w' : World) : Prop :=
  Below w.heap.size w w' ∧ ((o = none ∧ e = .returned (.tuple #[.agg (nmA nmZ), .int .i64 0, .bool false])) ∨ (∃ p, o = some p ∧ e = .returned (.tuple #[.agg (nmA { numR p with neg := false }), .int .i64 ((b + p.stop : Nat) : Int), .bool true])))
theorem cat_str (a b : B) : str a ++ str b = str (a ++ b) := by apply ByteArray.ext; simp [str]
theorem len_drop (s : ByteArray) (k : Nat) : (s.data.toList.drop k).length ≤ s.size := by rw [List.length_drop, ← Lib.size_eq]; omega
end Lx
set_option maxHeartbeats 3200000 in
set_option maxRecDepth 100000 in
theorem dec9_any (s : ByteArray) (kk kr b : Nat) (ng : Bool) (hs : s.size ≤ 10000) (hk : kk ≤ s.size) (hb : kk = b + kr) (w : World) :
    Calls Tryz.prog 33 #[.string s, .int .i64 (kk : Int)] w (KindR w b (refDec ng kr (s.data.toList.drop kk))) := by
  have c1 := fun w => parts9_any s kk b false ⟨1, ng, [], [], [], [], kr⟩ (by omega) hk hb w
  clear hb
  have HB : Hid (Bk (w.alloc (.cells zero5 26)) w.heap.size 26 zero5) := Bk.new w 26 zero5
  have hb0 : Below w.heap.size w (w.alloc (.cells zero5 26)) := (Below.refl _ w).alloc (Nat.le_refl _) _
  go_enter Tryz.func33, Tryz.ntmps33
  go_wp2_with fail
  refine (c1 _).mono ?_
  rintro e w1 ⟨hw1, hr⟩
  have HB1 : Hid (Bk w1 w.heap.size 26 zero5) := by rw [hw1]; exact HB
  have hb1 : Below w.heap.size w w1 := by rw [hw1]; exact hb0
  clear hw1 HB hb0
  rcases hr with ⟨hp, x, y, z, rfl⟩ | ⟨p1, hp, hps, rfl⟩
  · have HO : Hid (refDec ng kr (s.data.toList.drop kk) = none) := dec_none hp
    have HBw : Hid (Bk w1 w.heap.size 26 zero5) := HB1
    have hbw := hb1
    have z0 := (HBw.out).cell 0 rfl
    have zf0 := (HBw.out).frozen 0
    have z1 := (HBw.out).cell 1 rfl
    have zf1 := (HBw.out).frozen 1
    have z2 := (HBw.out).cell 2 rfl
    have zf2 := (HBw.out).frozen 2
    have z3 := (HBw.out).cell 3 rfl
    have zf3 := (HBw.out).frozen 3
    have z4 := (HBw.out).cell 4 rfl
    have zf4 := (HBw.out).frozen 4
    go_wp2
    refine bodyPost_ret (results_c2 rfl _ _ w.heap.size 26 (nmA nmZ) _ rfl (Bk.all5 HBw.out _ _ _ _ _) Tryz.underlying26 rfl (by kernel_rfl)) rfl ?_
    refine ⟨Tn.below hbw (Tn.all5 ..) (Nat.le_refl _) (Nat.le_refl _), Or.inl ⟨HO.out, rfl⟩⟩
  · skip
    have KP := refParts_keep hp
    have l1 := KP.la
    have l2 := KP.lb
    have ll := len_drop s kk
    have hsA : (str p1.ahead).size ≤ 10000 := by rw [str_size]; omega
    have hsB : (str p1.behind).size = p1.behind.length := str_size _
    have hcat := cat_str p1.ahead p1.behind
    have cb := fun w => bare9_any (str (p1.ahead ++ p1.behind)) (by rw [str_size, List.length_append]; omega) w
    rw [str_list] at cb
    go_wp2_with fail
    refine (expo9_101 s (b + p1.stop) b p1 (by omega) hps rfl _).mono ?_
    rintro e w2 ⟨hb2, hE⟩
    rcases hE with ⟨hE0, rfl⟩ | ⟨p2, hE1, hE2, rfl⟩
    · have HO : Hid (refDec ng kr (s.data.toList.drop kk) = some p1) := by
        unfold Hid
        rw [dec_some hp, hE0]; rfl
      have HKD : Hid (p1.kind = 1) := KP.kind
      have HDN : Hid (p1.den = []) := KP.den
      have HAH : Hid (p1.ahead = p1.ahead) := rfl
      have HBE : Hid (p1.behind = p1.behind) := rfl
      have hx0 : p1.expo = [] := KP.expo
      have HEX : Hid (p1.expo = []) := hx0
      clear hx0
      have hm4 : ((4 * p1.behind.length : Nat) : Int) = 4 * (p1.behind.length : Int) := by omega
      have ch := fun w => held9r_any (str ([] : B)) (p1.behind.length) (by rw [str_size]; first | omega | simp) (by omega) w
      rw [str_list] at ch
      have HBb := HB1.out.later hb2
      generalize hS : bareR (p1.ahead ++ p1.behind) = S1 at *
      generalize hV : heldR (expoR ([] : B) - ((p1.behind.length : Nat) : Int)) = V at *
      have HF : Hid (nmA { numR p1 with neg := false } = #[.int .i64 1, .bool false, .string (str S1), .int .i64 V, .string ⟨#[]⟩]) := by
        unfold Hid nmA numR
        simp only
        rw [HKD.out, HDN.out, HAH.out, HBE.out, hS, if_pos rfl, HEX.out]
        rw [← hV]
        rfl
      clear hS hV
      go_wp2_with fail
      refine (cb _).mono ?_
      rintro e w3 ⟨rfl, hb3⟩
      go_wp2_with fail
      refine (ch _).mono ?_
      rintro e w4 ⟨rfl, hw4⟩
      rw [hw4]
      have HBw := HBb.later hb3
      have z0 := HBw.cell 0 rfl
      have zf0 := HBw.frozen 0
      have z1 := HBw.cell 1 rfl
      have zf1 := HBw.frozen 1
      have z2 := HBw.cell 2 rfl
      have zf2 := HBw.frozen 2
      have z3 := HBw.cell 3 rfl
      have zf3 := HBw.frozen 3
      have z4 := HBw.cell 4 rfl
      have zf4 := HBw.frozen 4
      have HBz : Hid (Bk w3 w.heap.size 26 zero5) := HBw
      clear HBw
      have hbA := hb1.trans (hb2.mono hb1.size)
      have hbB := hbA.trans (hb3.mono hbA.size)
      go_wp2
      refine bodyPost_ret (results_c2 rfl _ _ w.heap.size 26 #[.int .i64 1, .bool false, .string (str S1), .int .i64 V, .string ⟨#[]⟩] _ rfl (Bk.all5 HBz.out _ _ _ _ _) Tryz.underlying26 rfl (by kernel_rfl)) rfl ?_
      refine ⟨Tn.below hbB (Tn.all5 ..) (Nat.le_refl _) (Nat.le_refl _), Or.inr ⟨p1, HO.out, by rw [HF.out]; rfl⟩⟩
    · have HO : Hid (refDec ng kr (s.data.toList.drop kk) = some p2) := by
        unfold Hid
        rw [dec_some hp, hE1]; rfl
      obtain ⟨q1, q2, q3, q4, q5, q6⟩ := refE_keep hE1
      have ll2 := len_drop s (b + p1.stop)
      have HKD : Hid (p2.kind = 1) := q1.trans KP.kind
      have HDN : Hid (p2.den = []) := q3.trans KP.den
      have HAH : Hid (p2.ahead = p1.ahead) := q4
      have HBE : Hid (p2.behind = p1.behind) := q5
      have HEX : Hid (p2.expo = p2.expo) := rfl
      clear q1 q2 q3 q4 q5
      have hm4 : ((4 * p1.behind.length : Nat) : Int) = 4 * (p1.behind.length : Int) := by omega
      have ch := fun w => held9r_any (str p2.expo) (p1.behind.length) (by rw [str_size]; first | omega | simp) (by omega) w
      rw [str_list] at ch
      have HBb := HB1.out.later hb2
      generalize hS : bareR (p1.ahead ++ p1.behind) = S1 at *
      generalize hV : heldR (expoR p2.expo - ((p1.behind.length : Nat) : Int)) = V at *
      have HF : Hid (nmA { numR p2 with neg := false } = #[.int .i64 1, .bool false, .string (str S1), .int .i64 V, .string ⟨#[]⟩]) := by
        unfold Hid nmA numR
        simp only
        rw [HKD.out, HDN.out, HAH.out, HBE.out, hS, if_pos rfl]
        rw [← hV]
        rfl
      clear hS hV
      go_wp2_with fail
      refine (cb _).mono ?_
      rintro e w3 ⟨rfl, hb3⟩
      go_wp2_with fail
      refine (ch _).mono ?_
      rintro e w4 ⟨rfl, hw4⟩
      rw [hw4]
      have HBw := HBb.later hb3
      have z0 := HBw.cell 0 rfl
      have zf0 := HBw.frozen 0
      have z1 := HBw.cell 1 rfl
      have zf1 := HBw.frozen 1
      have z2 := HBw.cell 2 rfl
      have zf2 := HBw.frozen 2
      have z3 := HBw.cell 3 rfl
      have zf3 := HBw.frozen 3
      have z4 := HBw.cell 4 rfl
      have zf4 := HBw.frozen 4
      have HBz : Hid (Bk w3 w.heap.size 26 zero5) := HBw
      clear HBw
      have hbA := hb1.trans (hb2.mono hb1.size)
      have hbB := hbA.trans (hb3.mono hbA.size)
      go_wp2
      refine bodyPost_ret (results_c2 rfl _ _ w.heap.size 26 #[.int .i64 1, .bool false, .string (str S1), .int .i64 V, .string ⟨#[]⟩] _ rfl (Bk.all5 HBz.out _ _ _ _ _) Tryz.underlying26 rfl (by kernel_rfl)) rfl ?_
      refine ⟨Tn.below hbB (Tn.all5 ..) (Nat.le_refl _) (Nat.le_refl _), Or.inr ⟨p2, HO.out, by rw [HF.out]; rfl⟩⟩
end Go.Proofs.YthibemoincgemabGreatDoor
