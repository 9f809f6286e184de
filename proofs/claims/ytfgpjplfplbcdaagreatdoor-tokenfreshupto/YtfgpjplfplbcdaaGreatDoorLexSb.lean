/- Layer 9: what each state of the reader leaves. -/
import Derived.Test.YtfgpjplfplbcdaaGreatDoorLexSa
namespace Go.Proofs.YtfgpjplfplbcdaaGreatDoor
open Go.ChangeShapes Go.WideShapes Go.ChangeAt Go.RowKit
open Lx
set_option linter.unusedVariables false
section
variable {w : World} {g : Nat} {t : ByteArray} {k : Nat} {rd wh : Pc}
set_option maxHeartbeats 1600000 in
set_option maxRecDepth 100000 in
theorem st_digits (h : RB w g t k (stV g .stop) rd wh) (ht : t.size ≤ 65536) (hk : k ≤ t.size) :
    Calls Tryz.prog 140 #[.pointer (some ⟨g, 0, none⟩)] w (Post .digits w g t k rd wh) := by
  have HB : Hid (RB w g t k (stV g .stop) rd wh) := h
  have hst : stV g .stop = .nilFunc := rfl
  obtain ⟨c0, c1, c2⟩ := h.head
  obtain ⟨c3, c4, c5, c6, c7, c8, c9⟩ := h.read
  have cf1 := Bk.frozen h 1
  have cf2 := Bk.frozen h 2
  have cf3 := Bk.frozen h 3
  have cf4 := Bk.frozen h 4
  have cf5 := Bk.frozen h 5
  have cf6 := Bk.frozen h 6
  have cf7 := Bk.frozen h 7
  have cf8 := Bk.frozen h 8
  have cf9 := Bk.frozen h 9
  by_cases h1 : fst [46] (t.data.toList.drop k) = true
  · obtain ⟨hk1, _, htl⟩ := fst_drop_lt h1
    have c1 := one_yes [46] h ht h1
    clear h
    go_enter Tryz.func140, Tryz.ntmps140
    go_wp2_with fail
    refine (c1).mono ?_
    rintro e w1 ⟨rfl, R1, T1⟩
    obtain ⟨a0, a1, a2⟩ := R1.head
    obtain ⟨a3, a4, a5, a6, a7, a8, a9⟩ := R1.read
    have af1 := Bk.frozen R1 1
    have af2 := Bk.frozen R1 2
    have af3 := Bk.frozen R1 3
    have af4 := Bk.frozen R1 4
    have af5 := Bk.frozen R1 5
    have af6 := Bk.frozen R1 6
    have af7 := Bk.frozen R1 7
    have af8 := Bk.frozen R1 8
    have af9 := Bk.frozen R1 9
    go_wp2
    go_end0
    refine ⟨rfl, .point, k + 1, _, _, R1.setSt (stV g .point), by omega, ?_, by decide, T1.set 2 _⟩
    show finPoint _ _ _ _ = finDigits _ _ _ _
    unfold finDigits
    rw [if_pos h1, htl]
  · have h1' : fst [46] (t.data.toList.drop k) = false := by simpa using h1
    have c1 := one_no [46] h ht hk h1'
    clear h
    by_cases h2 : fst [101, 69] (t.data.toList.drop k) = true
    · obtain ⟨hk1, _, htl⟩ := fst_drop_lt h2
      go_enter Tryz.func140, Tryz.ntmps140
      go_wp2_with fail
      refine (c1).mono ?_
      rintro e w1 ⟨rfl, R1, T1⟩
      obtain ⟨a0, a1, a2⟩ := R1.head
      obtain ⟨a3, a4, a5, a6, a7, a8, a9⟩ := R1.read
      have af1 := Bk.frozen R1 1
      have af2 := Bk.frozen R1 2
      have af3 := Bk.frozen R1 3
      have af4 := Bk.frozen R1 4
      have af5 := Bk.frozen R1 5
      have af6 := Bk.frozen R1 6
      have af7 := Bk.frozen R1 7
      have af8 := Bk.frozen R1 8
      have af9 := Bk.frozen R1 9
      go_wp2_with fail
      refine (one_yes [101, 69] R1 ht h2).mono ?_
      rintro e w2 ⟨rfl, R2, T2⟩
      obtain ⟨b0, b1, b2⟩ := R2.head
      obtain ⟨b3, b4, b5, b6, b7, b8, b9⟩ := R2.read
      have bf1 := Bk.frozen R2 1
      have bf2 := Bk.frozen R2 2
      have bf3 := Bk.frozen R2 3
      have bf4 := Bk.frozen R2 4
      have bf5 := Bk.frozen R2 5
      have bf6 := Bk.frozen R2 6
      have bf7 := Bk.frozen R2 7
      have bf8 := Bk.frozen R2 8
      have bf9 := Bk.frozen R2 9
      go_wp2
      go_end0
      refine ⟨rfl, .e, k + 1, _, _, R2.setSt (stV g .e), by omega, ?_, by decide, (T1.trans T2).set 2 _⟩
      show finE _ _ _ _ = finDigits _ _ _ _
      unfold finDigits
      rw [if_neg h1, if_pos h2, htl]
    · have h2' : fst [101, 69] (t.data.toList.drop k) = false := by simpa using h2
      by_cases h3 : fst [47] (t.data.toList.drop k) = true
      · obtain ⟨hk1, _, htl⟩ := fst_drop_lt h3
        go_enter Tryz.func140, Tryz.ntmps140
        go_wp2_with fail
        refine (c1).mono ?_
        rintro e w1 ⟨rfl, R1, T1⟩
        obtain ⟨a0, a1, a2⟩ := R1.head
        obtain ⟨a3, a4, a5, a6, a7, a8, a9⟩ := R1.read
        have af1 := Bk.frozen R1 1
        have af2 := Bk.frozen R1 2
        have af3 := Bk.frozen R1 3
        have af4 := Bk.frozen R1 4
        have af5 := Bk.frozen R1 5
        have af6 := Bk.frozen R1 6
        have af7 := Bk.frozen R1 7
        have af8 := Bk.frozen R1 8
        have af9 := Bk.frozen R1 9
        go_wp2_with fail
        refine (one_no [101, 69] R1 ht hk h2').mono ?_
        rintro e w2 ⟨rfl, R2, T2⟩
        obtain ⟨b0, b1, b2⟩ := R2.head
        obtain ⟨b3, b4, b5, b6, b7, b8, b9⟩ := R2.read
        have bf1 := Bk.frozen R2 1
        have bf2 := Bk.frozen R2 2
        have bf3 := Bk.frozen R2 3
        have bf4 := Bk.frozen R2 4
        have bf5 := Bk.frozen R2 5
        have bf6 := Bk.frozen R2 6
        have bf7 := Bk.frozen R2 7
        have bf8 := Bk.frozen R2 8
        have bf9 := Bk.frozen R2 9
        go_wp2_with fail
        refine (one_yes [47] R2 ht h3).mono ?_
        rintro e w3 ⟨rfl, R3, T3⟩
        obtain ⟨d0, d1, d2⟩ := R3.head
        obtain ⟨d3, d4, d5, d6, d7, d8, d9⟩ := R3.read
        have df1 := Bk.frozen R3 1
        have df2 := Bk.frozen R3 2
        have df3 := Bk.frozen R3 3
        have df4 := Bk.frozen R3 4
        have df5 := Bk.frozen R3 5
        have df6 := Bk.frozen R3 6
        have df7 := Bk.frozen R3 7
        have df8 := Bk.frozen R3 8
        have df9 := Bk.frozen R3 9
        go_wp2
        go_end0
        refine ⟨rfl, .slash, k + 1, _, _, R3.setSt (stV g .slash), by omega, ?_, by decide, ((T1.trans T2).trans T3).set 2 _⟩
        show finSlash _ _ _ _ = finDigits _ _ _ _
        unfold finDigits
        rw [if_neg h1, if_neg h2, if_pos h3, htl]
      · have h3' : fst [47] (t.data.toList.drop k) = false := by simpa using h3
        by_cases hz : rd.ahead = [48]
        · have hz1 : ((str rd.ahead).toList == [48]) = true := by rw [Lib.toList_data, str_list, hz]; rfl
          have HZ : Hid (rd.ahead = [48]) := hz
          clear hz
          by_cases h4 : fst [120, 88] (t.data.toList.drop k) = true
          · obtain ⟨hk1, _, htl⟩ := fst_drop_lt h4
            go_enter Tryz.func140, Tryz.ntmps140
            go_wp2_with fail
            refine (c1).mono ?_
            rintro e w1 ⟨rfl, R1, T1⟩
            obtain ⟨a0, a1, a2⟩ := R1.head
            obtain ⟨a3, a4, a5, a6, a7, a8, a9⟩ := R1.read
            have af1 := Bk.frozen R1 1
            have af2 := Bk.frozen R1 2
            have af3 := Bk.frozen R1 3
            have af4 := Bk.frozen R1 4
            have af5 := Bk.frozen R1 5
            have af6 := Bk.frozen R1 6
            have af7 := Bk.frozen R1 7
            have af8 := Bk.frozen R1 8
            have af9 := Bk.frozen R1 9
            go_wp2_with fail
            refine (one_no [101, 69] R1 ht hk h2').mono ?_
            rintro e w2 ⟨rfl, R2, T2⟩
            obtain ⟨b0, b1, b2⟩ := R2.head
            obtain ⟨b3, b4, b5, b6, b7, b8, b9⟩ := R2.read
            have bf1 := Bk.frozen R2 1
            have bf2 := Bk.frozen R2 2
            have bf3 := Bk.frozen R2 3
            have bf4 := Bk.frozen R2 4
            have bf5 := Bk.frozen R2 5
            have bf6 := Bk.frozen R2 6
            have bf7 := Bk.frozen R2 7
            have bf8 := Bk.frozen R2 8
            have bf9 := Bk.frozen R2 9
            go_wp2_with fail
            refine (one_no [47] R2 ht hk h3').mono ?_
            rintro e w3 ⟨rfl, R3, T3⟩
            obtain ⟨d0, d1, d2⟩ := R3.head
            obtain ⟨d3, d4, d5, d6, d7, d8, d9⟩ := R3.read
            have df1 := Bk.frozen R3 1
            have df2 := Bk.frozen R3 2
            have df3 := Bk.frozen R3 3
            have df4 := Bk.frozen R3 4
            have df5 := Bk.frozen R3 5
            have df6 := Bk.frozen R3 6
            have df7 := Bk.frozen R3 7
            have df8 := Bk.frozen R3 8
            have df9 := Bk.frozen R3 9
            go_wp2_with fail
            refine (one_yes [120, 88] R3 ht h4).mono ?_
            rintro e w4 ⟨rfl, R4, T4⟩
            obtain ⟨p0, p1, p2⟩ := R4.head
            obtain ⟨p3, p4, p5, p6, p7, p8, p9⟩ := R4.read
            have pf1 := Bk.frozen R4 1
            have pf2 := Bk.frozen R4 2
            have pf3 := Bk.frozen R4 3
            have pf4 := Bk.frozen R4 4
            have pf5 := Bk.frozen R4 5
            have pf6 := Bk.frozen R4 6
            have pf7 := Bk.frozen R4 7
            have pf8 := Bk.frozen R4 8
            have pf9 := Bk.frozen R4 9
            go_wp2
            go_end0
            refine ⟨rfl, .x, k + 1, _, _, R4.setSt (stV g .x), by omega, ?_, by decide, (((T1.trans T2).trans T3).trans T4).set 2 _⟩
            show finX _ _ _ _ = finDigits _ _ _ _
            unfold finDigits
            rw [if_neg h1, if_neg h2, if_neg h3, if_pos (by rw [h4, HZ.out]; rfl), htl]
          · have h4' : fst [120, 88] (t.data.toList.drop k) = false := by simpa using h4
            go_enter Tryz.func140, Tryz.ntmps140
            go_wp2_with fail
            refine (c1).mono ?_
            rintro e w1 ⟨rfl, R1, T1⟩
            obtain ⟨a0, a1, a2⟩ := R1.head
            obtain ⟨a3, a4, a5, a6, a7, a8, a9⟩ := R1.read
            have af1 := Bk.frozen R1 1
            have af2 := Bk.frozen R1 2
            have af3 := Bk.frozen R1 3
            have af4 := Bk.frozen R1 4
            have af5 := Bk.frozen R1 5
            have af6 := Bk.frozen R1 6
            have af7 := Bk.frozen R1 7
            have af8 := Bk.frozen R1 8
            have af9 := Bk.frozen R1 9
            go_wp2_with fail
            refine (one_no [101, 69] R1 ht hk h2').mono ?_
            rintro e w2 ⟨rfl, R2, T2⟩
            obtain ⟨b0, b1, b2⟩ := R2.head
            obtain ⟨b3, b4, b5, b6, b7, b8, b9⟩ := R2.read
            have bf1 := Bk.frozen R2 1
            have bf2 := Bk.frozen R2 2
            have bf3 := Bk.frozen R2 3
            have bf4 := Bk.frozen R2 4
            have bf5 := Bk.frozen R2 5
            have bf6 := Bk.frozen R2 6
            have bf7 := Bk.frozen R2 7
            have bf8 := Bk.frozen R2 8
            have bf9 := Bk.frozen R2 9
            go_wp2_with fail
            refine (one_no [47] R2 ht hk h3').mono ?_
            rintro e w3 ⟨rfl, R3, T3⟩
            obtain ⟨d0, d1, d2⟩ := R3.head
            obtain ⟨d3, d4, d5, d6, d7, d8, d9⟩ := R3.read
            have df1 := Bk.frozen R3 1
            have df2 := Bk.frozen R3 2
            have df3 := Bk.frozen R3 3
            have df4 := Bk.frozen R3 4
            have df5 := Bk.frozen R3 5
            have df6 := Bk.frozen R3 6
            have df7 := Bk.frozen R3 7
            have df8 := Bk.frozen R3 8
            have df9 := Bk.frozen R3 9
            go_wp2_with fail
            refine (one_no [120, 88] R3 ht hk h4').mono ?_
            rintro e w4 ⟨rfl, R4, T4⟩
            obtain ⟨p0, p1, p2⟩ := R4.head
            obtain ⟨p3, p4, p5, p6, p7, p8, p9⟩ := R4.read
            have pf1 := Bk.frozen R4 1
            have pf2 := Bk.frozen R4 2
            have pf3 := Bk.frozen R4 3
            have pf4 := Bk.frozen R4 4
            have pf5 := Bk.frozen R4 5
            have pf6 := Bk.frozen R4 6
            have pf7 := Bk.frozen R4 7
            have pf8 := Bk.frozen R4 8
            have pf9 := Bk.frozen R4 9
            go_wp2
            go_end0
            refine ⟨rfl, .stop, k, _, _, R4, hk, ?_, by decide, ((T1.trans T2).trans T3).trans T4⟩
            show _ = finDigits _ _ _ _
            unfold finDigits
            rw [if_neg h1, if_neg h2, if_neg h3, if_neg (by rw [h4']; simp)]
            rfl
        · have hz1 : ((str rd.ahead).toList == [48]) = false := by rw [Lib.toList_data, str_list]; simpa using hz
          have HZ : Hid (¬ rd.ahead = [48]) := hz
          clear hz
          go_enter Tryz.func140, Tryz.ntmps140
          go_wp2_with fail
          refine (c1).mono ?_
          rintro e w1 ⟨rfl, R1, T1⟩
          obtain ⟨a0, a1, a2⟩ := R1.head
          obtain ⟨a3, a4, a5, a6, a7, a8, a9⟩ := R1.read
          have af1 := Bk.frozen R1 1
          have af2 := Bk.frozen R1 2
          have af3 := Bk.frozen R1 3
          have af4 := Bk.frozen R1 4
          have af5 := Bk.frozen R1 5
          have af6 := Bk.frozen R1 6
          have af7 := Bk.frozen R1 7
          have af8 := Bk.frozen R1 8
          have af9 := Bk.frozen R1 9
          go_wp2_with fail
          refine (one_no [101, 69] R1 ht hk h2').mono ?_
          rintro e w2 ⟨rfl, R2, T2⟩
          obtain ⟨b0, b1, b2⟩ := R2.head
          obtain ⟨b3, b4, b5, b6, b7, b8, b9⟩ := R2.read
          have bf1 := Bk.frozen R2 1
          have bf2 := Bk.frozen R2 2
          have bf3 := Bk.frozen R2 3
          have bf4 := Bk.frozen R2 4
          have bf5 := Bk.frozen R2 5
          have bf6 := Bk.frozen R2 6
          have bf7 := Bk.frozen R2 7
          have bf8 := Bk.frozen R2 8
          have bf9 := Bk.frozen R2 9
          go_wp2_with fail
          refine (one_no [47] R2 ht hk h3').mono ?_
          rintro e w3 ⟨rfl, R3, T3⟩
          obtain ⟨d0, d1, d2⟩ := R3.head
          obtain ⟨d3, d4, d5, d6, d7, d8, d9⟩ := R3.read
          have df1 := Bk.frozen R3 1
          have df2 := Bk.frozen R3 2
          have df3 := Bk.frozen R3 3
          have df4 := Bk.frozen R3 4
          have df5 := Bk.frozen R3 5
          have df6 := Bk.frozen R3 6
          have df7 := Bk.frozen R3 7
          have df8 := Bk.frozen R3 8
          have df9 := Bk.frozen R3 9
          go_wp2
          go_end0
          refine ⟨rfl, .stop, k, _, _, R3, hk, ?_, by decide, (T1.trans T2).trans T3⟩
          show _ = finDigits _ _ _ _
          unfold finDigits
          rw [if_neg h1, if_neg h2, if_neg h3, if_neg (by simp [HZ.out])]
          rfl
set_option maxHeartbeats 1600000 in
set_option maxRecDepth 100000 in
theorem st_point (h : RB w g t k (stV g .stop) rd wh) (ht : t.size ≤ 65536) (hk : k ≤ t.size) :
    Calls Tryz.prog 141 #[.pointer (some ⟨g, 0, none⟩)] w (Post .point w g t k rd wh) := by
  have HB : Hid (RB w g t k (stV g .stop) rd wh) := h
  have hst : stV g .stop = .nilFunc := rfl
  obtain ⟨c0, c1, c2⟩ := h.head
  obtain ⟨c3, c4, c5, c6, c7, c8, c9⟩ := h.read
  have cf1 := Bk.frozen h 1
  have cf2 := Bk.frozen h 2
  have cf3 := Bk.frozen h 3
  have cf4 := Bk.frozen h 4
  have cf5 := Bk.frozen h 5
  have cf6 := Bk.frozen h 6
  have cf7 := Bk.frozen h 7
  have cf8 := Bk.frozen h 8
  have cf9 := Bk.frozen h 9
  have hle := run_le isD hk
  have hdr := drop_run t k isD
  change k + (tkD (t.data.toList.drop k)).length ≤ t.size at hle
  change t.data.toList.drop (k + (tkD (t.data.toList.drop k)).length) = dkD (t.data.toList.drop k) at hdr
  have c1 := runD_any h ht hk
  clear h
  cases hh : ({ rd with behind := tkD (t.data.toList.drop k) } : Pc).has
  · have hh' : ({ rd with behind := tkD (t.data.toList.drop k) } : Pc).has = false := hh
    go_enter Tryz.func141, Tryz.ntmps141
    go_wp2_with fail
    refine (c1).mono ?_
    rintro e w1 ⟨rfl, R1, T1⟩
    obtain ⟨a0, a1, a2⟩ := R1.head
    obtain ⟨a3, a4, a5, a6, a7, a8, a9⟩ := R1.read
    have af1 := Bk.frozen R1 1
    have af2 := Bk.frozen R1 2
    have af3 := Bk.frozen R1 3
    have af4 := Bk.frozen R1 4
    have af5 := Bk.frozen R1 5
    have af6 := Bk.frozen R1 6
    have af7 := Bk.frozen R1 7
    have af8 := Bk.frozen R1 8
    have af9 := Bk.frozen R1 9
    have c2 := has_any (R1.behind (tkD (t.data.toList.drop k)))
    rw [hh] at c2
    go_wp2_with fail
    refine c2.mono ?_
    rintro e w2 ⟨rfl, rfl⟩
    have R5 := R1.behind (tkD (t.data.toList.drop k))
    go_wp2
    first | go_end0 | (refine bodyPost_ret (v := .tuple #[]) ?_ rfl ?_; · rfl)
    refine ⟨rfl, .stop, k + (tkD (t.data.toList.drop k)).length, _, _, R5, hle, ?_, by decide, T1.set 6 _⟩
    show _ = finPoint _ _ _ _
    unfold finPoint
    simp only [hh', if_true]
    rfl
  · have hh' : ({ rd with behind := tkD (t.data.toList.drop k) } : Pc).has = true := hh
    by_cases hp : fst [101, 69] (dkD (t.data.toList.drop k)) = true
    · have hp2 := hp
      rw [← hdr] at hp2
      obtain ⟨hk1, _, htl⟩ := fst_drop_lt hp2
      rw [hdr] at htl
      go_enter Tryz.func141, Tryz.ntmps141
      go_wp2_with fail
      refine (c1).mono ?_
      rintro e w1 ⟨rfl, R1, T1⟩
      obtain ⟨a0, a1, a2⟩ := R1.head
      obtain ⟨a3, a4, a5, a6, a7, a8, a9⟩ := R1.read
      have af1 := Bk.frozen R1 1
      have af2 := Bk.frozen R1 2
      have af3 := Bk.frozen R1 3
      have af4 := Bk.frozen R1 4
      have af5 := Bk.frozen R1 5
      have af6 := Bk.frozen R1 6
      have af7 := Bk.frozen R1 7
      have af8 := Bk.frozen R1 8
      have af9 := Bk.frozen R1 9
      have c2 := has_any (R1.behind (tkD (t.data.toList.drop k)))
      rw [hh] at c2
      go_wp2_with fail
      refine c2.mono ?_
      rintro e w2 ⟨rfl, rfl⟩
      go_wp2_with fail
      refine (keep_any (R1.behind (tkD (t.data.toList.drop k)))).mono ?_
      rintro e w3 ⟨rfl, R3, T3⟩
      obtain ⟨b0, b1, b2⟩ := R3.head
      obtain ⟨b3, b4, b5, b6, b7, b8, b9⟩ := R3.read
      have bf1 := Bk.frozen R3 1
      have bf2 := Bk.frozen R3 2
      have bf3 := Bk.frozen R3 3
      have bf4 := Bk.frozen R3 4
      have bf5 := Bk.frozen R3 5
      have bf6 := Bk.frozen R3 6
      have bf7 := Bk.frozen R3 7
      have bf8 := Bk.frozen R3 8
      have bf9 := Bk.frozen R3 9
      go_wp2_with fail
      refine (one_yes [101, 69] R3 ht hp2).mono ?_
      rintro e w4 ⟨rfl, R4, T4⟩
      obtain ⟨d0, d1, d2⟩ := R4.head
      obtain ⟨d3, d4, d5, d6, d7, d8, d9⟩ := R4.read
      have df1 := Bk.frozen R4 1
      have df2 := Bk.frozen R4 2
      have df3 := Bk.frozen R4 3
      have df4 := Bk.frozen R4 4
      have df5 := Bk.frozen R4 5
      have df6 := Bk.frozen R4 6
      have df7 := Bk.frozen R4 7
      have df8 := Bk.frozen R4 8
      have df9 := Bk.frozen R4 9
      go_wp2
      go_end0
      refine ⟨rfl, .e, k + (tkD (t.data.toList.drop k)).length + 1, _, _, R4.setSt (stV g .e), by omega, ?_, by decide, ((T1.set 6 _).trans T3).trans T4 |>.set 2 _⟩
      show finE _ _ _ _ = finPoint _ _ _ _
      unfold finPoint
      simp only [hh', Bool.true_eq_false, if_false]
      rw [if_pos hp, htl]
    · have hp2 : fst [101, 69] (dkD (t.data.toList.drop k)) = false := by simpa using hp
      rw [← hdr] at hp2
      go_enter Tryz.func141, Tryz.ntmps141
      go_wp2_with fail
      refine (c1).mono ?_
      rintro e w1 ⟨rfl, R1, T1⟩
      obtain ⟨a0, a1, a2⟩ := R1.head
      obtain ⟨a3, a4, a5, a6, a7, a8, a9⟩ := R1.read
      have af1 := Bk.frozen R1 1
      have af2 := Bk.frozen R1 2
      have af3 := Bk.frozen R1 3
      have af4 := Bk.frozen R1 4
      have af5 := Bk.frozen R1 5
      have af6 := Bk.frozen R1 6
      have af7 := Bk.frozen R1 7
      have af8 := Bk.frozen R1 8
      have af9 := Bk.frozen R1 9
      have c2 := has_any (R1.behind (tkD (t.data.toList.drop k)))
      rw [hh] at c2
      go_wp2_with fail
      refine c2.mono ?_
      rintro e w2 ⟨rfl, rfl⟩
      go_wp2_with fail
      refine (keep_any (R1.behind (tkD (t.data.toList.drop k)))).mono ?_
      rintro e w3 ⟨rfl, R3, T3⟩
      obtain ⟨b0, b1, b2⟩ := R3.head
      obtain ⟨b3, b4, b5, b6, b7, b8, b9⟩ := R3.read
      have bf1 := Bk.frozen R3 1
      have bf2 := Bk.frozen R3 2
      have bf3 := Bk.frozen R3 3
      have bf4 := Bk.frozen R3 4
      have bf5 := Bk.frozen R3 5
      have bf6 := Bk.frozen R3 6
      have bf7 := Bk.frozen R3 7
      have bf8 := Bk.frozen R3 8
      have bf9 := Bk.frozen R3 9
      go_wp2_with fail
      refine (one_no [101, 69] R3 ht hle hp2).mono ?_
      rintro e w4 ⟨rfl, R4, T4⟩
      obtain ⟨d0, d1, d2⟩ := R4.head
      obtain ⟨d3, d4, d5, d6, d7, d8, d9⟩ := R4.read
      have df1 := Bk.frozen R4 1
      have df2 := Bk.frozen R4 2
      have df3 := Bk.frozen R4 3
      have df4 := Bk.frozen R4 4
      have df5 := Bk.frozen R4 5
      have df6 := Bk.frozen R4 6
      have df7 := Bk.frozen R4 7
      have df8 := Bk.frozen R4 8
      have df9 := Bk.frozen R4 9
      go_wp2
      go_end0
      refine ⟨rfl, .stop, k + (tkD (t.data.toList.drop k)).length, _, _, R4, hle, ?_, by decide, ((T1.set 6 _).trans T3).trans T4⟩
      show _ = finPoint _ _ _ _
      unfold finPoint
      simp only [hh', Bool.true_eq_false, if_false]
      rw [if_neg hp]
      rfl
set_option maxHeartbeats 1600000 in
set_option maxRecDepth 100000 in
theorem st_slash (h : RB w g t k (stV g .stop) rd wh) (ht : t.size ≤ 65536) (hk : k ≤ t.size) :
    Calls Tryz.prog 148 #[.pointer (some ⟨g, 0, none⟩)] w (Post .slash w g t k rd wh) := by
  have HB : Hid (RB w g t k (stV g .stop) rd wh) := h
  have hst : stV g .stop = .nilFunc := rfl
  obtain ⟨c0, c1, c2⟩ := h.head
  obtain ⟨c3, c4, c5, c6, c7, c8, c9⟩ := h.read
  have cf1 := Bk.frozen h 1
  have cf2 := Bk.frozen h 2
  have cf3 := Bk.frozen h 3
  have cf4 := Bk.frozen h 4
  have cf5 := Bk.frozen h 5
  have cf6 := Bk.frozen h 6
  have cf7 := Bk.frozen h 7
  have cf8 := Bk.frozen h 8
  have cf9 := Bk.frozen h 9
  have hle := run_le isD hk
  have hdr := drop_run t k isD
  change k + (tkD (t.data.toList.drop k)).length ≤ t.size at hle
  change t.data.toList.drop (k + (tkD (t.data.toList.drop k)).length) = dkD (t.data.toList.drop k) at hdr
  have c1 := runD_any (h.kind 3) ht hk
  clear h
  by_cases hn : tkD (t.data.toList.drop k) = []
  · have e1 : (str (tkD (t.data.toList.drop k))).toList.isEmpty = true := by rw [str_empty, hn]; rfl
    have HN : Hid (tkD (t.data.toList.drop k) = []) := hn
    clear hn
    go_enter Tryz.func148, Tryz.ntmps148
    go_wp2_with fail
    refine (c1).mono ?_
    rintro e w1 ⟨rfl, R1, T1⟩
    obtain ⟨a0, a1, a2⟩ := R1.head
    obtain ⟨a3, a4, a5, a6, a7, a8, a9⟩ := R1.read
    have af1 := Bk.frozen R1 1
    have af2 := Bk.frozen R1 2
    have af3 := Bk.frozen R1 3
    have af4 := Bk.frozen R1 4
    have af5 := Bk.frozen R1 5
    have af6 := Bk.frozen R1 6
    have af7 := Bk.frozen R1 7
    have af8 := Bk.frozen R1 8
    have af9 := Bk.frozen R1 9
    have R5 := R1.den (tkD (t.data.toList.drop k))
    go_wp2
    go_end0
    refine ⟨rfl, .stop, k + (tkD (t.data.toList.drop k)).length, _, _, R5, hle, ?_, by decide, (((Tn.refl g w).set 3 _).trans T1).set 8 _⟩
    show _ = finSlash _ _ _ _
    unfold finSlash
    rw [if_pos HN.out]
    rfl
  · have e1 : (str (tkD (t.data.toList.drop k))).toList.isEmpty = false := by rw [str_empty]; exact isEmpty_ne hn
    have HN : Hid (¬ tkD (t.data.toList.drop k) = []) := hn
    clear hn
    go_enter Tryz.func148, Tryz.ntmps148
    go_wp2_with fail
    refine (c1).mono ?_
    rintro e w1 ⟨rfl, R1, T1⟩
    obtain ⟨a0, a1, a2⟩ := R1.head
    obtain ⟨a3, a4, a5, a6, a7, a8, a9⟩ := R1.read
    have af1 := Bk.frozen R1 1
    have af2 := Bk.frozen R1 2
    have af3 := Bk.frozen R1 3
    have af4 := Bk.frozen R1 4
    have af5 := Bk.frozen R1 5
    have af6 := Bk.frozen R1 6
    have af7 := Bk.frozen R1 7
    have af8 := Bk.frozen R1 8
    have af9 := Bk.frozen R1 9
    have R5 := R1.den (tkD (t.data.toList.drop k))
    go_wp2_with fail
    refine (keep_any R5).mono ?_
    rintro e w3 ⟨rfl, R3, T3⟩
    obtain ⟨b0, b1, b2⟩ := R3.head
    obtain ⟨b3, b4, b5, b6, b7, b8, b9⟩ := R3.read
    have bf1 := Bk.frozen R3 1
    have bf2 := Bk.frozen R3 2
    have bf3 := Bk.frozen R3 3
    have bf4 := Bk.frozen R3 4
    have bf5 := Bk.frozen R3 5
    have bf6 := Bk.frozen R3 6
    have bf7 := Bk.frozen R3 7
    have bf8 := Bk.frozen R3 8
    have bf9 := Bk.frozen R3 9
    go_wp2
    go_end0
    refine ⟨rfl, .stop, k + (tkD (t.data.toList.drop k)).length, _, _, R3, hle, ?_, by decide, ((((Tn.refl g w).set 3 _).trans T1).set 8 _).trans T3⟩
    show _ = finSlash _ _ _ _
    unfold finSlash
    rw [if_neg HN.out]
    rfl
set_option maxHeartbeats 1600000 in
set_option maxRecDepth 100000 in
theorem st_x (h : RB w g t k (stV g .stop) rd wh) (ht : t.size ≤ 65536) (hk : k ≤ t.size) :
    Calls Tryz.prog 149 #[.pointer (some ⟨g, 0, none⟩)] w (Post .x w g t k rd wh) := by
  have HB : Hid (RB w g t k (stV g .stop) rd wh) := h
  have hst : stV g .stop = .nilFunc := rfl
  obtain ⟨c0, c1, c2⟩ := h.head
  obtain ⟨c3, c4, c5, c6, c7, c8, c9⟩ := h.read
  have cf1 := Bk.frozen h 1
  have cf2 := Bk.frozen h 2
  have cf3 := Bk.frozen h 3
  have cf4 := Bk.frozen h 4
  have cf5 := Bk.frozen h 5
  have cf6 := Bk.frozen h 6
  have cf7 := Bk.frozen h 7
  have cf8 := Bk.frozen h 8
  have cf9 := Bk.frozen h 9
  have hle := run_le isH hk
  have hdr := drop_run t k isH
  change k + (tkH (t.data.toList.drop k)).length ≤ t.size at hle
  change t.data.toList.drop (k + (tkH (t.data.toList.drop k)).length) = dkH (t.data.toList.drop k) at hdr
  have c1 := runH_any (h.kind 2) ht hk
  clear h
  by_cases hp : fst [46] (dkH (t.data.toList.drop k)) = true
  · have hp2 := hp
    rw [← hdr] at hp2
    obtain ⟨hk1, _, htl⟩ := fst_drop_lt hp2
    rw [hdr] at htl
    go_enter Tryz.func149, Tryz.ntmps149
    go_wp2_with fail
    refine (c1).mono ?_
    rintro e w1 ⟨rfl, R1, T1⟩
    obtain ⟨a0, a1, a2⟩ := R1.head
    obtain ⟨a3, a4, a5, a6, a7, a8, a9⟩ := R1.read
    have af1 := Bk.frozen R1 1
    have af2 := Bk.frozen R1 2
    have af3 := Bk.frozen R1 3
    have af4 := Bk.frozen R1 4
    have af5 := Bk.frozen R1 5
    have af6 := Bk.frozen R1 6
    have af7 := Bk.frozen R1 7
    have af8 := Bk.frozen R1 8
    have af9 := Bk.frozen R1 9
    have R5 := R1.ahead (tkH (t.data.toList.drop k))
    go_wp2_with fail
    refine (one_yes [46] R5 ht hp2).mono ?_
    rintro e w3 ⟨rfl, R3, T3⟩
    obtain ⟨b0, b1, b2⟩ := R3.head
    obtain ⟨b3, b4, b5, b6, b7, b8, b9⟩ := R3.read
    have bf1 := Bk.frozen R3 1
    have bf2 := Bk.frozen R3 2
    have bf3 := Bk.frozen R3 3
    have bf4 := Bk.frozen R3 4
    have bf5 := Bk.frozen R3 5
    have bf6 := Bk.frozen R3 6
    have bf7 := Bk.frozen R3 7
    have bf8 := Bk.frozen R3 8
    have bf9 := Bk.frozen R3 9
    go_wp2
    go_end0
    refine ⟨rfl, .hexPoint, k + (tkH (t.data.toList.drop k)).length + 1, _, _, R3.setSt (stV g .hexPoint), by omega, ?_, by decide, ((((Tn.refl g w).set 3 _).trans T1).set 5 _).trans T3 |>.set 2 _⟩
    show finHexPoint _ _ _ _ = finX _ _ _ _
    unfold finX
    simp only
    rw [if_pos hp, htl]
  · have hp2 : fst [46] (dkH (t.data.toList.drop k)) = false := by simpa using hp
    rw [← hdr] at hp2
    cases hh : ({ rd with kind := 2, ahead := tkH (t.data.toList.drop k) } : Pc).has
    · have hh' : ({ rd with kind := 2, ahead := tkH (t.data.toList.drop k) } : Pc).has = false := hh
      go_enter Tryz.func149, Tryz.ntmps149
      go_wp2_with fail
      refine (c1).mono ?_
      rintro e w1 ⟨rfl, R1, T1⟩
      obtain ⟨a0, a1, a2⟩ := R1.head
      obtain ⟨a3, a4, a5, a6, a7, a8, a9⟩ := R1.read
      have af1 := Bk.frozen R1 1
      have af2 := Bk.frozen R1 2
      have af3 := Bk.frozen R1 3
      have af4 := Bk.frozen R1 4
      have af5 := Bk.frozen R1 5
      have af6 := Bk.frozen R1 6
      have af7 := Bk.frozen R1 7
      have af8 := Bk.frozen R1 8
      have af9 := Bk.frozen R1 9
      have R5 := R1.ahead (tkH (t.data.toList.drop k))
      go_wp2_with fail
      refine (one_no [46] R5 ht hle hp2).mono ?_
      rintro e w3 ⟨rfl, R3, T3⟩
      obtain ⟨b0, b1, b2⟩ := R3.head
      obtain ⟨b3, b4, b5, b6, b7, b8, b9⟩ := R3.read
      have bf1 := Bk.frozen R3 1
      have bf2 := Bk.frozen R3 2
      have bf3 := Bk.frozen R3 3
      have bf4 := Bk.frozen R3 4
      have bf5 := Bk.frozen R3 5
      have bf6 := Bk.frozen R3 6
      have bf7 := Bk.frozen R3 7
      have bf8 := Bk.frozen R3 8
      have bf9 := Bk.frozen R3 9
      have c2 := has_any R3
      rw [hh] at c2
      go_wp2_with fail
      refine c2.mono ?_
      rintro e w4 ⟨rfl, rfl⟩
      go_wp2
      go_end0
      refine ⟨rfl, .stop, k + (tkH (t.data.toList.drop k)).length, _, _, R3, hle, ?_, by decide, ((((Tn.refl g w).set 3 _).trans T1).set 5 _).trans T3⟩
      show _ = finX _ _ _ _
      unfold finX
      simp only [hh', Bool.false_and, Bool.false_eq_true, if_false]
      rw [if_neg hp]
      rfl
    · have hh' : ({ rd with kind := 2, ahead := tkH (t.data.toList.drop k) } : Pc).has = true := hh
      by_cases hq : fst [112, 80] (dkH (t.data.toList.drop k)) = true
      · have hq2 := hq
        rw [← hdr] at hq2
        obtain ⟨hk1, _, htl⟩ := fst_drop_lt hq2
        rw [hdr] at htl
        go_enter Tryz.func149, Tryz.ntmps149
        go_wp2_with fail
        refine (c1).mono ?_
        rintro e w1 ⟨rfl, R1, T1⟩
        obtain ⟨a0, a1, a2⟩ := R1.head
        obtain ⟨a3, a4, a5, a6, a7, a8, a9⟩ := R1.read
        have af1 := Bk.frozen R1 1
        have af2 := Bk.frozen R1 2
        have af3 := Bk.frozen R1 3
        have af4 := Bk.frozen R1 4
        have af5 := Bk.frozen R1 5
        have af6 := Bk.frozen R1 6
        have af7 := Bk.frozen R1 7
        have af8 := Bk.frozen R1 8
        have af9 := Bk.frozen R1 9
        have R5 := R1.ahead (tkH (t.data.toList.drop k))
        go_wp2_with fail
        refine (one_no [46] R5 ht hle hp2).mono ?_
        rintro e w3 ⟨rfl, R3, T3⟩
        obtain ⟨b0, b1, b2⟩ := R3.head
        obtain ⟨b3, b4, b5, b6, b7, b8, b9⟩ := R3.read
        have bf1 := Bk.frozen R3 1
        have bf2 := Bk.frozen R3 2
        have bf3 := Bk.frozen R3 3
        have bf4 := Bk.frozen R3 4
        have bf5 := Bk.frozen R3 5
        have bf6 := Bk.frozen R3 6
        have bf7 := Bk.frozen R3 7
        have bf8 := Bk.frozen R3 8
        have bf9 := Bk.frozen R3 9
        have c2 := has_any R3
        rw [hh] at c2
        go_wp2_with fail
        refine c2.mono ?_
        rintro e w4 ⟨rfl, rfl⟩
        go_wp2_with fail
        refine (one_yes [112, 80] R3 ht hq2).mono ?_
        rintro e w5 ⟨rfl, R6, T5⟩
        obtain ⟨d0, d1, d2⟩ := R6.head
        obtain ⟨d3, d4, d5, d6, d7, d8, d9⟩ := R6.read
        have df1 := Bk.frozen R6 1
        have df2 := Bk.frozen R6 2
        have df3 := Bk.frozen R6 3
        have df4 := Bk.frozen R6 4
        have df5 := Bk.frozen R6 5
        have df6 := Bk.frozen R6 6
        have df7 := Bk.frozen R6 7
        have df8 := Bk.frozen R6 8
        have df9 := Bk.frozen R6 9
        go_wp2
        go_end0
        refine ⟨rfl, .e, k + (tkH (t.data.toList.drop k)).length + 1, _, _, R6.setSt (stV g .e), by omega, ?_, by decide, (((((Tn.refl g w).set 3 _).trans T1).set 5 _).trans T3).trans T5 |>.set 2 _⟩
        show finE _ _ _ _ = finX _ _ _ _
        unfold finX
        simp only [hh', Bool.true_and]
        rw [if_neg hp, if_pos hq, htl]
      · have hq2 : fst [112, 80] (dkH (t.data.toList.drop k)) = false := by simpa using hq
        rw [← hdr] at hq2
        go_enter Tryz.func149, Tryz.ntmps149
        go_wp2_with fail
        refine (c1).mono ?_
        rintro e w1 ⟨rfl, R1, T1⟩
        obtain ⟨a0, a1, a2⟩ := R1.head
        obtain ⟨a3, a4, a5, a6, a7, a8, a9⟩ := R1.read
        have af1 := Bk.frozen R1 1
        have af2 := Bk.frozen R1 2
        have af3 := Bk.frozen R1 3
        have af4 := Bk.frozen R1 4
        have af5 := Bk.frozen R1 5
        have af6 := Bk.frozen R1 6
        have af7 := Bk.frozen R1 7
        have af8 := Bk.frozen R1 8
        have af9 := Bk.frozen R1 9
        have R5 := R1.ahead (tkH (t.data.toList.drop k))
        go_wp2_with fail
        refine (one_no [46] R5 ht hle hp2).mono ?_
        rintro e w3 ⟨rfl, R3, T3⟩
        obtain ⟨b0, b1, b2⟩ := R3.head
        obtain ⟨b3, b4, b5, b6, b7, b8, b9⟩ := R3.read
        have bf1 := Bk.frozen R3 1
        have bf2 := Bk.frozen R3 2
        have bf3 := Bk.frozen R3 3
        have bf4 := Bk.frozen R3 4
        have bf5 := Bk.frozen R3 5
        have bf6 := Bk.frozen R3 6
        have bf7 := Bk.frozen R3 7
        have bf8 := Bk.frozen R3 8
        have bf9 := Bk.frozen R3 9
        have c2 := has_any R3
        rw [hh] at c2
        go_wp2_with fail
        refine c2.mono ?_
        rintro e w4 ⟨rfl, rfl⟩
        go_wp2_with fail
        refine (one_no [112, 80] R3 ht hle hq2).mono ?_
        rintro e w5 ⟨rfl, R6, T5⟩
        obtain ⟨d0, d1, d2⟩ := R6.head
        obtain ⟨d3, d4, d5, d6, d7, d8, d9⟩ := R6.read
        have df1 := Bk.frozen R6 1
        have df2 := Bk.frozen R6 2
        have df3 := Bk.frozen R6 3
        have df4 := Bk.frozen R6 4
        have df5 := Bk.frozen R6 5
        have df6 := Bk.frozen R6 6
        have df7 := Bk.frozen R6 7
        have df8 := Bk.frozen R6 8
        have df9 := Bk.frozen R6 9
        go_wp2
        go_end0
        refine ⟨rfl, .stop, k + (tkH (t.data.toList.drop k)).length, _, _, R6, hle, ?_, by decide, (((((Tn.refl g w).set 3 _).trans T1).set 5 _).trans T3).trans T5⟩
        show _ = finX _ _ _ _
        unfold finX
        simp only [hh', Bool.true_and]
        rw [if_neg hp, if_neg hq]
        rfl
set_option maxHeartbeats 1600000 in
set_option maxRecDepth 100000 in
theorem st_hexPoint (h : RB w g t k (stV g .stop) rd wh) (ht : t.size ≤ 65536) (hk : k ≤ t.size) :
    Calls Tryz.prog 151 #[.pointer (some ⟨g, 0, none⟩)] w (Post .hexPoint w g t k rd wh) := by
  have HB : Hid (RB w g t k (stV g .stop) rd wh) := h
  have hst : stV g .stop = .nilFunc := rfl
  obtain ⟨c0, c1, c2⟩ := h.head
  obtain ⟨c3, c4, c5, c6, c7, c8, c9⟩ := h.read
  have cf1 := Bk.frozen h 1
  have cf2 := Bk.frozen h 2
  have cf3 := Bk.frozen h 3
  have cf4 := Bk.frozen h 4
  have cf5 := Bk.frozen h 5
  have cf6 := Bk.frozen h 6
  have cf7 := Bk.frozen h 7
  have cf8 := Bk.frozen h 8
  have cf9 := Bk.frozen h 9
  have hle := run_le isH hk
  have hdr := drop_run t k isH
  change k + (tkH (t.data.toList.drop k)).length ≤ t.size at hle
  change t.data.toList.drop (k + (tkH (t.data.toList.drop k)).length) = dkH (t.data.toList.drop k) at hdr
  have c1 := runH_any h ht hk
  clear h
  cases hh : ({ rd with behind := tkH (t.data.toList.drop k) } : Pc).has
  · have hh' : ({ rd with behind := tkH (t.data.toList.drop k) } : Pc).has = false := hh
    go_enter Tryz.func151, Tryz.ntmps151
    go_wp2_with fail
    refine (c1).mono ?_
    rintro e w1 ⟨rfl, R1, T1⟩
    obtain ⟨a0, a1, a2⟩ := R1.head
    obtain ⟨a3, a4, a5, a6, a7, a8, a9⟩ := R1.read
    have af1 := Bk.frozen R1 1
    have af2 := Bk.frozen R1 2
    have af3 := Bk.frozen R1 3
    have af4 := Bk.frozen R1 4
    have af5 := Bk.frozen R1 5
    have af6 := Bk.frozen R1 6
    have af7 := Bk.frozen R1 7
    have af8 := Bk.frozen R1 8
    have af9 := Bk.frozen R1 9
    have R5 := R1.behind (tkH (t.data.toList.drop k))
    have c2 := has_any R5
    rw [hh] at c2
    go_wp2_with fail
    refine c2.mono ?_
    rintro e w4 ⟨rfl, rfl⟩
    go_wp2
    go_end0
    refine ⟨rfl, .stop, k + (tkH (t.data.toList.drop k)).length, _, _, R5, hle, ?_, by decide, T1.set 6 _⟩
    show _ = finHexPoint _ _ _ _
    unfold finHexPoint
    simp only [hh', Bool.false_and, Bool.false_eq_true, if_false]
    rfl
  · have hh' : ({ rd with behind := tkH (t.data.toList.drop k) } : Pc).has = true := hh
    by_cases hq : fst [112, 80] (dkH (t.data.toList.drop k)) = true
    · have hq2 := hq
      rw [← hdr] at hq2
      obtain ⟨hk1, _, htl⟩ := fst_drop_lt hq2
      rw [hdr] at htl
      go_enter Tryz.func151, Tryz.ntmps151
      go_wp2_with fail
      refine (c1).mono ?_
      rintro e w1 ⟨rfl, R1, T1⟩
      obtain ⟨a0, a1, a2⟩ := R1.head
      obtain ⟨a3, a4, a5, a6, a7, a8, a9⟩ := R1.read
      have af1 := Bk.frozen R1 1
      have af2 := Bk.frozen R1 2
      have af3 := Bk.frozen R1 3
      have af4 := Bk.frozen R1 4
      have af5 := Bk.frozen R1 5
      have af6 := Bk.frozen R1 6
      have af7 := Bk.frozen R1 7
      have af8 := Bk.frozen R1 8
      have af9 := Bk.frozen R1 9
      have R5 := R1.behind (tkH (t.data.toList.drop k))
      have c2 := has_any R5
      rw [hh] at c2
      go_wp2_with fail
      refine c2.mono ?_
      rintro e w4 ⟨rfl, rfl⟩
      go_wp2_with fail
      refine (one_yes [112, 80] R5 ht hq2).mono ?_
      rintro e w5 ⟨rfl, R6, T5⟩
      obtain ⟨d0, d1, d2⟩ := R6.head
      obtain ⟨d3, d4, d5, d6, d7, d8, d9⟩ := R6.read
      have df1 := Bk.frozen R6 1
      have df2 := Bk.frozen R6 2
      have df3 := Bk.frozen R6 3
      have df4 := Bk.frozen R6 4
      have df5 := Bk.frozen R6 5
      have df6 := Bk.frozen R6 6
      have df7 := Bk.frozen R6 7
      have df8 := Bk.frozen R6 8
      have df9 := Bk.frozen R6 9
      go_wp2
      go_end0
      refine ⟨rfl, .e, k + (tkH (t.data.toList.drop k)).length + 1, _, _, R6.setSt (stV g .e), by omega, ?_, by decide, (T1.set 6 _).trans T5 |>.set 2 _⟩
      show finE _ _ _ _ = finHexPoint _ _ _ _
      unfold finHexPoint
      simp only [hh', Bool.true_and]
      rw [if_pos hq, htl]
    · have hq2 : fst [112, 80] (dkH (t.data.toList.drop k)) = false := by simpa using hq
      rw [← hdr] at hq2
      go_enter Tryz.func151, Tryz.ntmps151
      go_wp2_with fail
      refine (c1).mono ?_
      rintro e w1 ⟨rfl, R1, T1⟩
      obtain ⟨a0, a1, a2⟩ := R1.head
      obtain ⟨a3, a4, a5, a6, a7, a8, a9⟩ := R1.read
      have af1 := Bk.frozen R1 1
      have af2 := Bk.frozen R1 2
      have af3 := Bk.frozen R1 3
      have af4 := Bk.frozen R1 4
      have af5 := Bk.frozen R1 5
      have af6 := Bk.frozen R1 6
      have af7 := Bk.frozen R1 7
      have af8 := Bk.frozen R1 8
      have af9 := Bk.frozen R1 9
      have R5 := R1.behind (tkH (t.data.toList.drop k))
      have c2 := has_any R5
      rw [hh] at c2
      go_wp2_with fail
      refine c2.mono ?_
      rintro e w4 ⟨rfl, rfl⟩
      go_wp2_with fail
      refine (one_no [112, 80] R5 ht hle hq2).mono ?_
      rintro e w5 ⟨rfl, R6, T5⟩
      obtain ⟨d0, d1, d2⟩ := R6.head
      obtain ⟨d3, d4, d5, d6, d7, d8, d9⟩ := R6.read
      have df1 := Bk.frozen R6 1
      have df2 := Bk.frozen R6 2
      have df3 := Bk.frozen R6 3
      have df4 := Bk.frozen R6 4
      have df5 := Bk.frozen R6 5
      have df6 := Bk.frozen R6 6
      have df7 := Bk.frozen R6 7
      have df8 := Bk.frozen R6 8
      have df9 := Bk.frozen R6 9
      go_wp2
      go_end0
      refine ⟨rfl, .stop, k + (tkH (t.data.toList.drop k)).length, _, _, R6, hle, ?_, by decide, (T1.set 6 _).trans T5⟩
      show _ = finHexPoint _ _ _ _
      unfold finHexPoint
      simp only [hh', Bool.true_and]
      rw [if_neg hq]
      rfl
end
end Go.Proofs.YtfgpjplfplbcdaaGreatDoor
