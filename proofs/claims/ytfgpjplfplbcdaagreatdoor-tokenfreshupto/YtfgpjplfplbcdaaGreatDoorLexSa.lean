/- Layer 9: what each state of the reader leaves. -/
import Derived.Test.YtfgpjplfplbcdaaGreatDoorLexSt
namespace Go.Proofs.YtfgpjplfplbcdaaGreatDoor
open Go.ChangeShapes Go.WideShapes Go.ChangeAt Go.RowKit
open Lx
set_option linter.unusedVariables false
section
variable {w : World} {g : Nat} {t : ByteArray} {k : Nat} {rd wh : Pc}
set_option maxHeartbeats 1600000 in
set_option maxRecDepth 100000 in
theorem st_start (h : RB w g t k (stV g .stop) rd wh) (ht : t.size ≤ 65536) (hk : k ≤ t.size) :
    Calls Tryz.prog 112 #[.pointer (some ⟨g, 0, none⟩)] w (Post .start w g t k rd wh) := by
  have HB : Hid (RB w g t k (stV g .stop) rd wh) := h
  have hst : stV g .stop = .nilFunc := rfl
  obtain ⟨c0, c1, c2⟩ := h.head
  obtain ⟨c3, c4, c5, c6, c7, c8, c9⟩ := h.read
  have cf1 := Bk.frozen h 1
  have cf2 := Bk.frozen h 2
  have cf3 := Bk.frozen h 3
  have cf4 := Bk.frozen h 4
  have cf5 := Bk.frozen h 5
  have cf6 := Bk.frozen h 6
  have cf7 := Bk.frozen h 7
  have cf8 := Bk.frozen h 8
  have cf9 := Bk.frozen h 9
  by_cases hf : fst [45] (t.data.toList.drop k) = true
  · obtain ⟨hk1, _, htl⟩ := fst_drop_lt hf
    have c1 := one_yes [45] h ht hf
    clear h
    go_enter Tryz.func112, Tryz.ntmps112
    go_wp2_with fail
    refine (c1).mono ?_
    rintro e w1 ⟨rfl, R1, T1⟩
    obtain ⟨a0, a1, a2⟩ := R1.head
    obtain ⟨a3, a4, a5, a6, a7, a8, a9⟩ := R1.read
    have af1 := Bk.frozen R1 1
    have af2 := Bk.frozen R1 2
    have af3 := Bk.frozen R1 3
    have af4 := Bk.frozen R1 4
    have af5 := Bk.frozen R1 5
    have af6 := Bk.frozen R1 6
    have af7 := Bk.frozen R1 7
    have af8 := Bk.frozen R1 8
    have af9 := Bk.frozen R1 9
    go_wp2
    go_end0
    refine ⟨rfl, .sign, k + 1, _, _, (R1.neg true).setSt (stV g .sign), by omega, ?_, by decide, (T1.set 4 _).set 2 _⟩
    show finSign _ _ _ _ = finStart _ _ _ _
    unfold finStart
    rw [if_pos hf, htl]
  · have hf' : fst [45] (t.data.toList.drop k) = false := by simpa using hf
    have c1 := one_no [45] h ht hk hf'
    clear h
    by_cases hp : fst [43] (t.data.toList.drop k) = true
    · obtain ⟨hk1, _, htl⟩ := fst_drop_lt hp
      go_enter Tryz.func112, Tryz.ntmps112
      go_wp2_with fail
      refine (c1).mono ?_
      rintro e w1 ⟨rfl, R1, T1⟩
      obtain ⟨a0, a1, a2⟩ := R1.head
      obtain ⟨a3, a4, a5, a6, a7, a8, a9⟩ := R1.read
      have af1 := Bk.frozen R1 1
      have af2 := Bk.frozen R1 2
      have af3 := Bk.frozen R1 3
      have af4 := Bk.frozen R1 4
      have af5 := Bk.frozen R1 5
      have af6 := Bk.frozen R1 6
      have af7 := Bk.frozen R1 7
      have af8 := Bk.frozen R1 8
      have af9 := Bk.frozen R1 9
      go_wp2_with fail
      refine (one_yes [43] (R1.neg false) ht hp).mono ?_
      rintro e w2 ⟨rfl, R2, T2⟩
      obtain ⟨b0, b1, b2⟩ := R2.head
      obtain ⟨b3, b4, b5, b6, b7, b8, b9⟩ := R2.read
      have bf1 := Bk.frozen R2 1
      have bf2 := Bk.frozen R2 2
      have bf3 := Bk.frozen R2 3
      have bf4 := Bk.frozen R2 4
      have bf5 := Bk.frozen R2 5
      have bf6 := Bk.frozen R2 6
      have bf7 := Bk.frozen R2 7
      have bf8 := Bk.frozen R2 8
      have bf9 := Bk.frozen R2 9
      go_wp2
      go_end0
      refine ⟨rfl, .sign, k + 1, _, _, R2.setSt (stV g .sign), by omega, ?_, by decide, ((T1.set 4 _).trans T2).set 2 _⟩
      show finSign _ _ _ _ = finStart _ _ _ _
      unfold finStart
      rw [if_neg hf, if_pos hp, htl]
    · have hp' : fst [43] (t.data.toList.drop k) = false := by simpa using hp
      go_enter Tryz.func112, Tryz.ntmps112
      go_wp2_with fail
      refine (c1).mono ?_
      rintro e w1 ⟨rfl, R1, T1⟩
      obtain ⟨a0, a1, a2⟩ := R1.head
      obtain ⟨a3, a4, a5, a6, a7, a8, a9⟩ := R1.read
      have af1 := Bk.frozen R1 1
      have af2 := Bk.frozen R1 2
      have af3 := Bk.frozen R1 3
      have af4 := Bk.frozen R1 4
      have af5 := Bk.frozen R1 5
      have af6 := Bk.frozen R1 6
      have af7 := Bk.frozen R1 7
      have af8 := Bk.frozen R1 8
      have af9 := Bk.frozen R1 9
      go_wp2_with fail
      refine (one_no [43] (R1.neg false) ht hk hp').mono ?_
      rintro e w2 ⟨rfl, R2, T2⟩
      obtain ⟨b0, b1, b2⟩ := R2.head
      obtain ⟨b3, b4, b5, b6, b7, b8, b9⟩ := R2.read
      have bf1 := Bk.frozen R2 1
      have bf2 := Bk.frozen R2 2
      have bf3 := Bk.frozen R2 3
      have bf4 := Bk.frozen R2 4
      have bf5 := Bk.frozen R2 5
      have bf6 := Bk.frozen R2 6
      have bf7 := Bk.frozen R2 7
      have bf8 := Bk.frozen R2 8
      have bf9 := Bk.frozen R2 9
      go_wp2
      go_end0
      refine ⟨rfl, .sign, k, _, _, R2.setSt (stV g .sign), hk, ?_, by decide, ((T1.set 4 _).trans T2).set 2 _⟩
      show finSign _ _ _ _ = finStart _ _ _ _
      unfold finStart
      rw [if_neg hf, if_neg hp]
set_option maxHeartbeats 1600000 in
set_option maxRecDepth 100000 in
theorem st_sign (h : RB w g t k (stV g .stop) rd wh) (ht : t.size ≤ 65536) (hk : k ≤ t.size) :
    Calls Tryz.prog 127 #[.pointer (some ⟨g, 0, none⟩)] w (Post .sign w g t k rd wh) := by
  have HB : Hid (RB w g t k (stV g .stop) rd wh) := h
  have hst : stV g .stop = .nilFunc := rfl
  obtain ⟨c0, c1, c2⟩ := h.head
  obtain ⟨c3, c4, c5, c6, c7, c8, c9⟩ := h.read
  have cf1 := Bk.frozen h 1
  have cf2 := Bk.frozen h 2
  have cf3 := Bk.frozen h 3
  have cf4 := Bk.frozen h 4
  have cf5 := Bk.frozen h 5
  have cf6 := Bk.frozen h 6
  have cf7 := Bk.frozen h 7
  have cf8 := Bk.frozen h 8
  have cf9 := Bk.frozen h 9
  have hle := run_le isD hk
  have hdr := drop_run t k isD
  change k + (tkD (t.data.toList.drop k)).length ≤ t.size at hle
  change t.data.toList.drop (k + (tkD (t.data.toList.drop k)).length) = dkD (t.data.toList.drop k) at hdr
  have c1 := runD_any (h.kind 1) ht hk
  clear h
  cases hh : ({ rd with kind := 1, ahead := tkD (t.data.toList.drop k) } : Pc).has
  · have hh' : ({ rd with kind := 1, ahead := tkD (t.data.toList.drop k) } : Pc).has = false := hh
    by_cases hp : fst [46] (dkD (t.data.toList.drop k)) = true
    · have hp2 := hp
      rw [← hdr] at hp2
      obtain ⟨hk1, _, htl⟩ := fst_drop_lt hp2
      rw [hdr] at htl
      go_enter Tryz.func127, Tryz.ntmps127
      go_wp2_with fail
      refine (c1).mono ?_
      rintro e w1 ⟨rfl, R1, T1⟩
      obtain ⟨a0, a1, a2⟩ := R1.head
      obtain ⟨a3, a4, a5, a6, a7, a8, a9⟩ := R1.read
      have af1 := Bk.frozen R1 1
      have af2 := Bk.frozen R1 2
      have af3 := Bk.frozen R1 3
      have af4 := Bk.frozen R1 4
      have af5 := Bk.frozen R1 5
      have af6 := Bk.frozen R1 6
      have af7 := Bk.frozen R1 7
      have af8 := Bk.frozen R1 8
      have af9 := Bk.frozen R1 9
      have c2 := has_any (R1.ahead (tkD (t.data.toList.drop k)))
      rw [hh] at c2
      go_wp2_with fail
      refine c2.mono ?_
      rintro e w2 ⟨rfl, rfl⟩
      go_wp2_with fail
      refine (one_yes [46] (R1.ahead (tkD (t.data.toList.drop k))) ht hp2).mono ?_
      rintro e w3 ⟨rfl, R3, T3⟩
      obtain ⟨b0, b1, b2⟩ := R3.head
      obtain ⟨b3, b4, b5, b6, b7, b8, b9⟩ := R3.read
      have bf1 := Bk.frozen R3 1
      have bf2 := Bk.frozen R3 2
      have bf3 := Bk.frozen R3 3
      have bf4 := Bk.frozen R3 4
      have bf5 := Bk.frozen R3 5
      have bf6 := Bk.frozen R3 6
      have bf7 := Bk.frozen R3 7
      have bf8 := Bk.frozen R3 8
      have bf9 := Bk.frozen R3 9
      go_wp2
      go_end0
      refine ⟨rfl, .point, k + (tkD (t.data.toList.drop k)).length + 1, _, _, R3.setSt (stV g .point), by omega, ?_, by decide, ((((Tn.refl g w).set 3 _).trans T1).set 5 _).trans T3 |>.set 2 _⟩
      show finPoint _ _ _ _ = finSign _ _ _ _
      unfold finSign
      simp only [hh', Bool.false_eq_true, if_false]
      rw [if_pos hp, htl]
    · have hp2 : fst [46] (dkD (t.data.toList.drop k)) = false := by simpa using hp
      rw [← hdr] at hp2
      go_enter Tryz.func127, Tryz.ntmps127
      go_wp2_with fail
      refine (c1).mono ?_
      rintro e w1 ⟨rfl, R1, T1⟩
      obtain ⟨a0, a1, a2⟩ := R1.head
      obtain ⟨a3, a4, a5, a6, a7, a8, a9⟩ := R1.read
      have af1 := Bk.frozen R1 1
      have af2 := Bk.frozen R1 2
      have af3 := Bk.frozen R1 3
      have af4 := Bk.frozen R1 4
      have af5 := Bk.frozen R1 5
      have af6 := Bk.frozen R1 6
      have af7 := Bk.frozen R1 7
      have af8 := Bk.frozen R1 8
      have af9 := Bk.frozen R1 9
      have c2 := has_any (R1.ahead (tkD (t.data.toList.drop k)))
      rw [hh] at c2
      go_wp2_with fail
      refine c2.mono ?_
      rintro e w2 ⟨rfl, rfl⟩
      go_wp2_with fail
      refine (one_no [46] (R1.ahead (tkD (t.data.toList.drop k))) ht hle hp2).mono ?_
      rintro e w3 ⟨rfl, R3, T3⟩
      obtain ⟨b0, b1, b2⟩ := R3.head
      obtain ⟨b3, b4, b5, b6, b7, b8, b9⟩ := R3.read
      have bf1 := Bk.frozen R3 1
      have bf2 := Bk.frozen R3 2
      have bf3 := Bk.frozen R3 3
      have bf4 := Bk.frozen R3 4
      have bf5 := Bk.frozen R3 5
      have bf6 := Bk.frozen R3 6
      have bf7 := Bk.frozen R3 7
      have bf8 := Bk.frozen R3 8
      have bf9 := Bk.frozen R3 9
      go_wp2
      go_end0
      refine ⟨rfl, .stop, k + (tkD (t.data.toList.drop k)).length, _, _, R3, hle, ?_, by decide, ((((Tn.refl g w).set 3 _).trans T1).set 5 _).trans T3⟩
      show _ = finSign _ _ _ _
      unfold finSign
      simp only [hh', Bool.false_eq_true, if_false]
      rw [if_neg hp]
      rfl
  · have hh' : ({ rd with kind := 1, ahead := tkD (t.data.toList.drop k) } : Pc).has = true := hh
    go_enter Tryz.func127, Tryz.ntmps127
    go_wp2_with fail
    refine (c1).mono ?_
    rintro e w1 ⟨rfl, R1, T1⟩
    obtain ⟨a0, a1, a2⟩ := R1.head
    obtain ⟨a3, a4, a5, a6, a7, a8, a9⟩ := R1.read
    have af1 := Bk.frozen R1 1
    have af2 := Bk.frozen R1 2
    have af3 := Bk.frozen R1 3
    have af4 := Bk.frozen R1 4
    have af5 := Bk.frozen R1 5
    have af6 := Bk.frozen R1 6
    have af7 := Bk.frozen R1 7
    have af8 := Bk.frozen R1 8
    have af9 := Bk.frozen R1 9
    have c2 := has_any (R1.ahead (tkD (t.data.toList.drop k)))
    rw [hh] at c2
    go_wp2_with fail
    refine c2.mono ?_
    rintro e w2 ⟨rfl, rfl⟩
    go_wp2_with fail
    refine (keep_any (R1.ahead (tkD (t.data.toList.drop k)))).mono ?_
    rintro e w3 ⟨rfl, R3, T3⟩
    obtain ⟨b0, b1, b2⟩ := R3.head
    obtain ⟨b3, b4, b5, b6, b7, b8, b9⟩ := R3.read
    have bf1 := Bk.frozen R3 1
    have bf2 := Bk.frozen R3 2
    have bf3 := Bk.frozen R3 3
    have bf4 := Bk.frozen R3 4
    have bf5 := Bk.frozen R3 5
    have bf6 := Bk.frozen R3 6
    have bf7 := Bk.frozen R3 7
    have bf8 := Bk.frozen R3 8
    have bf9 := Bk.frozen R3 9
    go_wp2
    go_end0
    refine ⟨rfl, .digits, k + (tkD (t.data.toList.drop k)).length, _, _, R3.setSt (stV g .digits), hle, ?_, by decide, ((((Tn.refl g w).set 3 _).trans T1).set 5 _).trans T3 |>.set 2 _⟩
    show finDigits _ _ _ _ = finSign _ _ _ _
    unfold finSign
    simp only [hh', if_true]
    rw [hdr]
end
end Go.Proofs.YtfgpjplfplbcdaaGreatDoor
