/- Layer 9: what each state of the reader leaves. -/
import Derived.Test.YtfgpjplfplbcdaaGreatDoorLexSb
namespace Go.Proofs.YtfgpjplfplbcdaaGreatDoor
open Go.ChangeShapes Go.WideShapes Go.ChangeAt Go.RowKit
open Lx
set_option linter.unusedVariables false
section
variable {w : World} {g : Nat} {t : ByteArray} {k : Nat} {rd wh : Pc}
end
namespace Lx
theorem expo_sign {t : ByteArray} {k : Nat} (hf : fst [43, 45] (t.data.toList.drop k) = true) :
    (tkD (t.data.toList.drop (k + 1)) = [] → expoL (t.data.toList.drop k) = []) ∧
    (tkD (t.data.toList.drop (k + 1)) ≠ [] → t.extract k (k + 1 + (tkD (t.data.toList.drop (k + 1))).length) = str (expoL (t.data.toList.drop k)) ∧ (expoL (t.data.toList.drop k)).length = 1 + (tkD (t.data.toList.drop (k + 1))).length ∧ expoL (t.data.toList.drop k) ≠ []) := by
  obtain ⟨hk, _, htl⟩ := fst_drop_lt hf
  unfold expoL
  rw [if_pos hf, htl]
  refine ⟨fun h => by rw [if_pos h], fun h => ?_⟩
  rw [if_neg h]
  have e1 : (t.data.toList.drop k).take (1 + (tkD (t.data.toList.drop (k + 1))).length) = (t.data.toList.drop k).take 1 ++ tkD (t.data.toList.drop (k + 1)) := by
    rw [drop_cons_of hk, Nat.add_comm, List.take_succ_cons]
    have := take_tk isD (t.data.toList.drop (k + 1))
    rw [show List.take (tkD (t.data.toList.drop (k + 1))).length (t.data.toList.drop (k + 1)) = tkD (t.data.toList.drop (k + 1)) from this]
    rfl
  refine ⟨?_, ?_, ?_⟩
  · rw [ext_str, ← e1]
    congr 2
    omega
  · rw [List.length_append, drop_cons_of hk]; rfl
  · rw [drop_cons_of hk]; simp
theorem expo_plain {t : ByteArray} {k : Nat} (hf : fst [43, 45] (t.data.toList.drop k) = false) : expoL (t.data.toList.drop k) = tkD (t.data.toList.drop k) := by
  unfold expoL; rw [hf]; rfl
end Lx
section
variable {w : World} {g : Nat} {t : ByteArray} {k : Nat} {rd wh : Pc}
set_option maxHeartbeats 1600000 in
set_option maxRecDepth 100000 in
theorem st_e (h : RB w g t k (stV g .stop) rd wh) (ht : t.size ≤ 65536) (hk : k ≤ t.size) :
    Calls Tryz.prog 147 #[.pointer (some ⟨g, 0, none⟩)] w (Post .e w g t k rd wh) := by
  have HB : Hid (RB w g t k (stV g .stop) rd wh) := h
  have hst : stV g .stop = .nilFunc := rfl
  obtain ⟨c0, c1, c2⟩ := h.head
  obtain ⟨c3, c4, c5, c6, c7, c8, c9⟩ := h.read
  have cf1 := Bk.frozen h 1
  have cf2 := Bk.frozen h 2
  have cf3 := Bk.frozen h 3
  have cf4 := Bk.frozen h 4
  have cf5 := Bk.frozen h 5
  have cf6 := Bk.frozen h 6
  have cf7 := Bk.frozen h 7
  have cf8 := Bk.frozen h 8
  have cf9 := Bk.frozen h 9
  by_cases hf : fst [43, 45] (t.data.toList.drop k) = true
  · obtain ⟨hk1, _, htl⟩ := fst_drop_lt hf
    obtain ⟨x1, x2⟩ := expo_sign hf
    have hle := run_le isD (show k + 1 ≤ t.size by omega)
    change k + 1 + (tkD (t.data.toList.drop (k + 1))).length ≤ t.size at hle
    have c1 := one_yes [43, 45] h ht hf
    clear h
    by_cases hn : tkD (t.data.toList.drop (k + 1)) = []
    · have e1 : (str (tkD (t.data.toList.drop (k + 1)))).toList.isEmpty = true := by rw [str_empty, hn]; rfl
      have HX : Hid (expoL (t.data.toList.drop k) = []) := x1 hn
      clear hn x1 x2
      go_enter Tryz.func147, Tryz.ntmps147
      go_wp2_with fail
      refine (c1).mono ?_
      rintro e w1 ⟨rfl, R1, T1⟩
      obtain ⟨a0, a1, a2⟩ := R1.head
      obtain ⟨a3, a4, a5, a6, a7, a8, a9⟩ := R1.read
      have af1 := Bk.frozen R1 1
      have af2 := Bk.frozen R1 2
      have af3 := Bk.frozen R1 3
      have af4 := Bk.frozen R1 4
      have af5 := Bk.frozen R1 5
      have af6 := Bk.frozen R1 6
      have af7 := Bk.frozen R1 7
      have af8 := Bk.frozen R1 8
      have af9 := Bk.frozen R1 9
      go_wp2_with fail
      refine (runD_any R1 ht hk1).mono ?_
      rintro e w2 ⟨rfl, R2, T2⟩
      obtain ⟨b0, b1, b2⟩ := R2.head
      obtain ⟨b3, b4, b5, b6, b7, b8, b9⟩ := R2.read
      have bf1 := Bk.frozen R2 1
      have bf2 := Bk.frozen R2 2
      have bf3 := Bk.frozen R2 3
      have bf4 := Bk.frozen R2 4
      have bf5 := Bk.frozen R2 5
      have bf6 := Bk.frozen R2 6
      have bf7 := Bk.frozen R2 7
      have bf8 := Bk.frozen R2 8
      have bf9 := Bk.frozen R2 9
      go_wp2
      go_end0
      refine ⟨rfl, .stop, k + 1 + (tkD (t.data.toList.drop (k + 1))).length, _, _, R2, hle, ?_, by decide, T1.trans T2⟩
      show _ = finE _ _ _ _
      unfold finE
      rw [if_pos HX.out]
      rfl
    · have e1 : (str (tkD (t.data.toList.drop (k + 1)))).toList.isEmpty = false := by rw [str_empty]; exact isEmpty_ne hn
      obtain ⟨y1, y2, y3⟩ := x2 hn
      have HY : Hid ((expoL (t.data.toList.drop k)).length = 1 + (tkD (t.data.toList.drop (k + 1))).length) := y2
      have HZ : Hid (expoL (t.data.toList.drop k) ≠ []) := y3
      clear hn x1 x2 y2 y3
      go_enter Tryz.func147, Tryz.ntmps147
      go_wp2_with fail
      refine (c1).mono ?_
      rintro e w1 ⟨rfl, R1, T1⟩
      obtain ⟨a0, a1, a2⟩ := R1.head
      obtain ⟨a3, a4, a5, a6, a7, a8, a9⟩ := R1.read
      have af1 := Bk.frozen R1 1
      have af2 := Bk.frozen R1 2
      have af3 := Bk.frozen R1 3
      have af4 := Bk.frozen R1 4
      have af5 := Bk.frozen R1 5
      have af6 := Bk.frozen R1 6
      have af7 := Bk.frozen R1 7
      have af8 := Bk.frozen R1 8
      have af9 := Bk.frozen R1 9
      go_wp2_with fail
      refine (runD_any R1 ht hk1).mono ?_
      rintro e w2 ⟨rfl, R2, T2⟩
      obtain ⟨b0, b1, b2⟩ := R2.head
      obtain ⟨b3, b4, b5, b6, b7, b8, b9⟩ := R2.read
      have bf1 := Bk.frozen R2 1
      have bf2 := Bk.frozen R2 2
      have bf3 := Bk.frozen R2 3
      have bf4 := Bk.frozen R2 4
      have bf5 := Bk.frozen R2 5
      have bf6 := Bk.frozen R2 6
      have bf7 := Bk.frozen R2 7
      have bf8 := Bk.frozen R2 8
      have bf9 := Bk.frozen R2 9
      have hb1 : (k : Int) ≤ ((k + 1 + (tkD (t.data.toList.drop (k + 1))).length : Nat) : Int) := by omega
      have hb2 : ((k + 1 + (tkD (t.data.toList.drop (k + 1))).length : Nat) : Int) ≤ (t.size : Int) := by omega
      generalize hM : k + 1 + (tkD (t.data.toList.drop (k + 1))).length = M at *
      generalize hE : expoL (t.data.toList.drop k) = E at *
      have HE : Hid (expoL (t.data.toList.drop k) = E) := hE
      have HM : Hid (k + 1 + (tkD (t.data.toList.drop (k + 1))).length = M) := hM
      clear hE hM
      go_wp2
      go_region
      all_goals
        have R5 := (R2.expo E).drew 1
        have c5 := keep_any R5
        go_wp2_with fail
        refine c5.mono ?_
        rintro e w5 ⟨rfl, R6, T6⟩
        go_wp2
        go_end0
        refine ⟨rfl, .stop, M, _, _, R6, by omega, ?_, by decide, (((T1.trans T2).set 7 _).later (below_drewN (Below.refl _ _) 1)).trans T6⟩
        show _ = finE _ _ _ _
        unfold finE
        rw [HE.out, if_neg HZ.out]
        have q := HY.out
        have q2 := HM.out
        have q3 : M = k + E.length := by omega
        rw [← q3]
        rfl
  · have hf' : fst [43, 45] (t.data.toList.drop k) = false := by simpa using hf
    have x1 := expo_plain hf'
    have hle := run_le isD hk
    change k + (tkD (t.data.toList.drop k)).length ≤ t.size at hle
    have hx := run_ext (t := t) (k := k) isD
    change t.extract k (k + (tkD (t.data.toList.drop k)).length) = str (tkD (t.data.toList.drop k)) at hx
    have c1 := one_no [43, 45] h ht hk hf'
    clear h
    by_cases hn : tkD (t.data.toList.drop k) = []
    · have e1 : (str (tkD (t.data.toList.drop k))).toList.isEmpty = true := by rw [str_empty, hn]; rfl
      have HX : Hid (expoL (t.data.toList.drop k) = []) := x1.trans hn
      clear hn x1 hx
      go_enter Tryz.func147, Tryz.ntmps147
      go_wp2_with fail
      refine (c1).mono ?_
      rintro e w1 ⟨rfl, R1, T1⟩
      obtain ⟨a0, a1, a2⟩ := R1.head
      obtain ⟨a3, a4, a5, a6, a7, a8, a9⟩ := R1.read
      have af1 := Bk.frozen R1 1
      have af2 := Bk.frozen R1 2
      have af3 := Bk.frozen R1 3
      have af4 := Bk.frozen R1 4
      have af5 := Bk.frozen R1 5
      have af6 := Bk.frozen R1 6
      have af7 := Bk.frozen R1 7
      have af8 := Bk.frozen R1 8
      have af9 := Bk.frozen R1 9
      go_wp2_with fail
      refine (runD_any R1 ht hk).mono ?_
      rintro e w2 ⟨rfl, R2, T2⟩
      obtain ⟨b0, b1, b2⟩ := R2.head
      obtain ⟨b3, b4, b5, b6, b7, b8, b9⟩ := R2.read
      have bf1 := Bk.frozen R2 1
      have bf2 := Bk.frozen R2 2
      have bf3 := Bk.frozen R2 3
      have bf4 := Bk.frozen R2 4
      have bf5 := Bk.frozen R2 5
      have bf6 := Bk.frozen R2 6
      have bf7 := Bk.frozen R2 7
      have bf8 := Bk.frozen R2 8
      have bf9 := Bk.frozen R2 9
      go_wp2
      go_end0
      refine ⟨rfl, .stop, k + (tkD (t.data.toList.drop k)).length, _, _, R2, hle, ?_, by decide, T1.trans T2⟩
      show _ = finE _ _ _ _
      unfold finE
      rw [if_pos HX.out]
      rfl
    · have e1 : (str (tkD (t.data.toList.drop k))).toList.isEmpty = false := by rw [str_empty]; exact isEmpty_ne hn
      have HX : Hid (expoL (t.data.toList.drop k) = tkD (t.data.toList.drop k)) := x1
      have HZ : Hid (tkD (t.data.toList.drop k) ≠ []) := hn
      clear hn x1
      go_enter Tryz.func147, Tryz.ntmps147
      go_wp2_with fail
      refine (c1).mono ?_
      rintro e w1 ⟨rfl, R1, T1⟩
      obtain ⟨a0, a1, a2⟩ := R1.head
      obtain ⟨a3, a4, a5, a6, a7, a8, a9⟩ := R1.read
      have af1 := Bk.frozen R1 1
      have af2 := Bk.frozen R1 2
      have af3 := Bk.frozen R1 3
      have af4 := Bk.frozen R1 4
      have af5 := Bk.frozen R1 5
      have af6 := Bk.frozen R1 6
      have af7 := Bk.frozen R1 7
      have af8 := Bk.frozen R1 8
      have af9 := Bk.frozen R1 9
      go_wp2_with fail
      refine (runD_any R1 ht hk).mono ?_
      rintro e w2 ⟨rfl, R2, T2⟩
      obtain ⟨b0, b1, b2⟩ := R2.head
      obtain ⟨b3, b4, b5, b6, b7, b8, b9⟩ := R2.read
      have bf1 := Bk.frozen R2 1
      have bf2 := Bk.frozen R2 2
      have bf3 := Bk.frozen R2 3
      have bf4 := Bk.frozen R2 4
      have bf5 := Bk.frozen R2 5
      have bf6 := Bk.frozen R2 6
      have bf7 := Bk.frozen R2 7
      have bf8 := Bk.frozen R2 8
      have bf9 := Bk.frozen R2 9
      have hb1 : (k : Int) ≤ ((k + (tkD (t.data.toList.drop k)).length : Nat) : Int) := by omega
      have hb2 : ((k + (tkD (t.data.toList.drop k)).length : Nat) : Int) ≤ (t.size : Int) := by omega
      generalize hM : k + (tkD (t.data.toList.drop k)).length = M at *
      generalize hE : tkD (t.data.toList.drop k) = E at *
      have HM : Hid (k + E.length = M) := hM
      clear hE hM
      go_wp2
      go_region
      all_goals
        have R5 := (R2.expo E).drew 1
        have c5 := keep_any R5
        go_wp2_with fail
        refine c5.mono ?_
        rintro e w5 ⟨rfl, R6, T6⟩
        go_wp2
        go_end0
        refine ⟨rfl, .stop, M, _, _, R6, by omega, ?_, by decide, (((T1.trans T2).set 7 _).later (below_drewN (Below.refl _ _) 1)).trans T6⟩
        show _ = finE _ _ _ _
        unfold finE
        rw [HX.out, if_neg HZ.out, HM.out]
        rfl
end
end Go.Proofs.YtfgpjplfplbcdaaGreatDoor
