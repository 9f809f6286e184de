/- package atof: refused, pattern, Bits, Slow. -/
import Derived.Test.YtjeoiffloghonaaGreatDoorAtfF
namespace Go.Proofs.YtjeoiffloghonaaGreatDoor
open Go.ChangeShapes Go.WideShapes Go.ChangeAt Go.RowKit
open Na Ar Lx
set_option linter.unusedVariables false
/-- why a numeral has no number -/
def refE (k : Int) (num : B) (e : Int) (den : B) : Int := if rightB k num e den = true then (if k = 3 ∧ den = [] then 50 else 0) else 110
theorem emp_of {s : ByteArray} (h : s.data.toList = []) : s.toList.isEmpty = true := by rw [Lib.toList_data, h]; rfl
theorem emp_no {s : ByteArray} (h : s.data.toList ≠ []) : s.toList.isEmpty = false := by
  rw [Lib.toList_data]
  cases q : s.data.toList with
  | nil => exact absurd q h
  | cons _ _ => rfl
set_option maxHeartbeats 1600000 in
set_option maxRecDepth 100000 in
theorem refused_any (k : Int) (ng : Bool) (num : ByteArray) (e : Int) (den : ByteArray) (hn : num.size ≤ 9223372036854775807) (hd : den.size ≤ 9223372036854775807) (w : World) :
    Calls Tryz.prog 72 #[.agg (numC k ng num e den)] w fun r w' => r = .returned (.int .i64 (refE k num.data.toList e den.data.toList)) ∧ Below w.heap.size w w' := by
  have hC := fun w => check9_any k ng num e den hn hd w
  have B0 := Bk.new w 23 (numC k ng num e den)
  have hb0 : Below w.heap.size w (w.alloc (.cells (numC k ng num e den) 23)) := (Below.refl _ w).alloc (Nat.le_refl _) _
  obtain ⟨w0, hw0⟩ : ∃ w0, w0 = w.alloc (.cells (numC k ng num e den) 23) := ⟨_, rfl⟩
  rw [← hw0] at B0 hb0
  cases hr : rightB k num.data.toList e den.data.toList
  · have HE : Hid (refE k num.data.toList e den.data.toList = 110) := by show _ = _; unfold refE; rw [hr]; rfl
    rw [hr, if_neg (by decide)] at hC
    rw [HE.out]
    unfold numC at hC hw0 ⊢
    clear hr
    go_enter Tryz.func72, Tryz.ntmps72
    go_wp2_with fail
    refine (hC _).mono ?_
    rintro r w1 ⟨rfl, hb1⟩
    rw [← hw0] at hb1
    have B := hb0.trans (hb1.mono hb0.size)
    clear hC hw0
    go_wp2
    go_ret
    exact ⟨rfl, B⟩
  · rw [hr, if_pos rfl] at hC
    by_cases hk : k = 3
    · have t1 : (k == 3) = true := beq_of hk
      by_cases hden : den.data.toList = []
      · have HE : Hid (refE k num.data.toList e den.data.toList = 50) := by show _ = _; unfold refE; rw [hr, if_pos rfl, if_pos ⟨hk, hden⟩]
        have t2 := emp_of hden
        rw [HE.out]
        unfold numC at hC hw0 ⊢
        clear hr hk hden
        go_enter Tryz.func72, Tryz.ntmps72
        go_wp2_with fail
        refine (hC _).mono ?_
        rintro r w1 ⟨rfl, hb1⟩
        rw [← hw0] at hb1
        have B := hb0.trans (hb1.mono hb0.size)
        have c0 := (B0.later hb1).cell 0 (v := .int .i64 k) rfl
        have c4 := (B0.later hb1).cell 4 (v := .string den) rfl
        clear hC hw0
        go_wp2
        go_ret
        exact ⟨rfl, B⟩
      · have HE : Hid (refE k num.data.toList e den.data.toList = 0) := by show _ = _; unfold refE; rw [hr, if_pos rfl, if_neg (fun q => hden q.2)]
        have t2 := emp_no hden
        rw [HE.out]
        unfold numC at hC hw0 ⊢
        clear hr hk hden
        go_enter Tryz.func72, Tryz.ntmps72
        go_wp2_with fail
        refine (hC _).mono ?_
        rintro r w1 ⟨rfl, hb1⟩
        rw [← hw0] at hb1
        have B := hb0.trans (hb1.mono hb0.size)
        have c0 := (B0.later hb1).cell 0 (v := .int .i64 k) rfl
        have c4 := (B0.later hb1).cell 4 (v := .string den) rfl
        clear hC hw0
        go_wp2
        go_ret
        exact ⟨rfl, B⟩
    · have t1 : (k == 3) = false := beq_no hk
      have HE : Hid (refE k num.data.toList e den.data.toList = 0) := by show _ = _; unfold refE; rw [hr, if_pos rfl, if_neg (fun q => hk q.1)]
      rw [HE.out]
      unfold numC at hC hw0 ⊢
      clear hr hk
      go_enter Tryz.func72, Tryz.ntmps72
      go_wp2_with fail
      refine (hC _).mono ?_
      rintro r w1 ⟨rfl, hb1⟩
      rw [← hw0] at hb1
      have B := hb0.trans (hb1.mono hb0.size)
      have c0 := (B0.later hb1).cell 0 (v := .int .i64 k) rfl
      clear hC hw0
      go_wp2
      go_ret
      exact ⟨rfl, B⟩
/-- with the sign -/
def PatIs (Q : Int → Int → Prop) (ng : Bool) (b E : Int) : Prop := ∃ m F, Q m F ∧ ((F ≠ 0 ∧ b = 0 ∧ E = F) ∨ (F = 0 ∧ E = 0 ∧ b = m + sgB ng))
theorem negW_small {m : Int} (h0 : 0 ≤ m) (h1 : m ≤ mostP) : negW m = m + 9223372036854775808 ∧ U (m + 9223372036854775808) ∧ U m := by
  have : mostP = 9218868437227405311 := rfl
  unfold negW U
  omega
set_option maxHeartbeats 3200000 in
set_option maxRecDepth 100000 in
theorem pat_refused_slow (k : Int) (ng : Bool) (num : ByteArray) (e : Int) (den : ByteArray) (hn : num.size ≤ 9223372036854775807) (hd : den.size ≤ 9223372036854775807) (hE : refE k num.data.toList e den.data.toList ≠ 0) (w : World) :
    Calls Tryz.prog 32 #[.agg (numC k ng num e den), .func (.func 34) #[] #[]] w fun r w' => r = .returned (.tuple #[.int .u64 0, .int .i64 (refE k num.data.toList e den.data.toList)]) ∧ Below w.heap.size w w' := by
  have hR := fun w => refused_any k ng num e den hn hd w
  have B0 := Bk.new w 23 (numC k ng num e den)
  have hb0 : Below w.heap.size w (w.alloc (.cells (numC k ng num e den) 23)) := (Below.refl _ w).alloc (Nat.le_refl _) _
  obtain ⟨w0, hw0⟩ : ∃ w0, w0 = w.alloc (.cells (numC k ng num e den) 23) := ⟨_, rfl⟩
  rw [← hw0] at B0 hb0
  generalize refE k num.data.toList e den.data.toList = F at *
  have t : (F != 0) = true := bne_yes hE
  unfold numC at hR hw0 ⊢
  clear hE
  go_enter Tryz.func32, Tryz.ntmps32
  go_wp2_with fail
  refine (hR _).mono ?_
  rintro r w1 ⟨rfl, hb1⟩
  rw [← hw0] at hb1
  have B := hb0.trans (hb1.mono hb0.size)
  clear hR hw0
  go_wp2
  go_ret2
  exact ⟨rfl, B⟩
set_option maxHeartbeats 3200000 in
set_option maxRecDepth 100000 in
theorem pat_refused_roads (k : Int) (ng : Bool) (num : ByteArray) (e : Int) (den : ByteArray) (hn : num.size ≤ 9223372036854775807) (hd : den.size ≤ 9223372036854775807) (hE : refE k num.data.toList e den.data.toList ≠ 0) (w : World) :
    Calls Tryz.prog 32 #[.agg (numC k ng num e den), .func (.func 33) #[] #[]] w fun r w' => r = .returned (.tuple #[.int .u64 0, .int .i64 (refE k num.data.toList e den.data.toList)]) ∧ Below w.heap.size w w' := by
  have hR := fun w => refused_any k ng num e den hn hd w
  have B0 := Bk.new w 23 (numC k ng num e den)
  have hb0 : Below w.heap.size w (w.alloc (.cells (numC k ng num e den) 23)) := (Below.refl _ w).alloc (Nat.le_refl _) _
  obtain ⟨w0, hw0⟩ : ∃ w0, w0 = w.alloc (.cells (numC k ng num e den) 23) := ⟨_, rfl⟩
  rw [← hw0] at B0 hb0
  generalize refE k num.data.toList e den.data.toList = F at *
  have t : (F != 0) = true := bne_yes hE
  unfold numC at hR hw0 ⊢
  clear hE
  go_enter Tryz.func32, Tryz.ntmps32
  go_wp2_with fail
  refine (hR _).mono ?_
  rintro r w1 ⟨rfl, hb1⟩
  rw [← hw0] at hb1
  have B := hb0.trans (hb1.mono hb0.size)
  clear hR hw0
  go_wp2
  go_ret2
  exact ⟨rfl, B⟩
set_option maxHeartbeats 3200000 in
set_option maxRecDepth 100000 in
theorem pat_zero_slow (k : Int) (ng : Bool) (num : ByteArray) (e : Int) (den : ByteArray) (hn : num.size ≤ 9223372036854775807) (hd : den.size ≤ 9223372036854775807) (hE : refE k num.data.toList e den.data.toList = 0) (hz : num.data.toList = []) (w : World) :
    Calls Tryz.prog 32 #[.agg (numC k ng num e den), .func (.func 34) #[] #[]] w fun r w' => r = .returned (.tuple #[.int .u64 (sgB ng), .int .i64 0]) ∧ Below w.heap.size w w' := by
  have hR := fun w => refused_any k ng num e den hn hd w
  have B0 := Bk.new w 23 (numC k ng num e den)
  have hb0 : Below w.heap.size w (w.alloc (.cells (numC k ng num e den) 23)) := (Below.refl _ w).alloc (Nat.le_refl _) _
  obtain ⟨w0, hw0⟩ : ∃ w0, w0 = w.alloc (.cells (numC k ng num e den) 23) := ⟨_, rfl⟩
  rw [← hw0] at B0 hb0
  rw [hE] at hR
  have t := emp_of hz
  have hN := fun w => f6Neg_any (b := 0) U_zero w
  have e0 : negW 0 = 9223372036854775808 := by decide
  rw [e0] at hN
  unfold numC at hR hw0 ⊢
  clear hE hz
  cases ng
  · go_enter Tryz.func32, Tryz.ntmps32
    go_wp2_with fail
    refine (hR _).mono ?_
    rintro r w1 ⟨rfl, hb1⟩
    rw [← hw0] at hb1
    have B := hb0.trans (hb1.mono hb0.size)
    have c2 := (B0.later hb1).cell 2 (v := .string num) rfl
    have c1 := (B0.later hb1).cell 1 (v := .bool false) rfl
    clear hR hw0 hN
    go_wp2
    go_ret2
    exact ⟨rfl, B⟩
  · go_enter Tryz.func32, Tryz.ntmps32
    go_wp2_with fail
    refine (hR _).mono ?_
    rintro r w1 ⟨rfl, hb1⟩
    rw [← hw0] at hb1
    have B := hb0.trans (hb1.mono hb0.size)
    have c2 := (B0.later hb1).cell 2 (v := .string num) rfl
    have c1 := (B0.later hb1).cell 1 (v := .bool true) rfl
    clear hR hw0
    go_wp2_with fail
    refine (hN _).mono ?_
    rintro r w2 ⟨rfl, hw2⟩
    subst hw2
    clear hN
    go_wp2
    go_ret2
    exact ⟨rfl, B⟩
set_option maxHeartbeats 3200000 in
set_option maxRecDepth 100000 in
theorem pat_zero_roads (k : Int) (ng : Bool) (num : ByteArray) (e : Int) (den : ByteArray) (hn : num.size ≤ 9223372036854775807) (hd : den.size ≤ 9223372036854775807) (hE : refE k num.data.toList e den.data.toList = 0) (hz : num.data.toList = []) (w : World) :
    Calls Tryz.prog 32 #[.agg (numC k ng num e den), .func (.func 33) #[] #[]] w fun r w' => r = .returned (.tuple #[.int .u64 (sgB ng), .int .i64 0]) ∧ Below w.heap.size w w' := by
  have hR := fun w => refused_any k ng num e den hn hd w
  have B0 := Bk.new w 23 (numC k ng num e den)
  have hb0 : Below w.heap.size w (w.alloc (.cells (numC k ng num e den) 23)) := (Below.refl _ w).alloc (Nat.le_refl _) _
  obtain ⟨w0, hw0⟩ : ∃ w0, w0 = w.alloc (.cells (numC k ng num e den) 23) := ⟨_, rfl⟩
  rw [← hw0] at B0 hb0
  rw [hE] at hR
  have t := emp_of hz
  have hN := fun w => f6Neg_any (b := 0) U_zero w
  have e0 : negW 0 = 9223372036854775808 := by decide
  rw [e0] at hN
  unfold numC at hR hw0 ⊢
  clear hE hz
  cases ng
  · go_enter Tryz.func32, Tryz.ntmps32
    go_wp2_with fail
    refine (hR _).mono ?_
    rintro r w1 ⟨rfl, hb1⟩
    rw [← hw0] at hb1
    have B := hb0.trans (hb1.mono hb0.size)
    have c2 := (B0.later hb1).cell 2 (v := .string num) rfl
    have c1 := (B0.later hb1).cell 1 (v := .bool false) rfl
    clear hR hw0 hN
    go_wp2
    go_ret2
    exact ⟨rfl, B⟩
  · go_enter Tryz.func32, Tryz.ntmps32
    go_wp2_with fail
    refine (hR _).mono ?_
    rintro r w1 ⟨rfl, hb1⟩
    rw [← hw0] at hb1
    have B := hb0.trans (hb1.mono hb0.size)
    have c2 := (B0.later hb1).cell 2 (v := .string num) rfl
    have c1 := (B0.later hb1).cell 1 (v := .bool true) rfl
    clear hR hw0
    go_wp2_with fail
    refine (hN _).mono ?_
    rintro r w2 ⟨rfl, hw2⟩
    subst hw2
    clear hN
    go_wp2
    go_ret2
    exact ⟨rfl, B⟩
set_option maxHeartbeats 3200000 in
set_option maxRecDepth 100000 in
theorem pat_slow (k : Int) (ng : Bool) (num : ByteArray) (e : Int) (den : ByteArray) (hn : num.size ≤ 9223372036854775807) (hd : den.size ≤ 9223372036854775807) (hE : refE k num.data.toList e den.data.toList = 0) (hz : num.data.toList ≠ []) {Q : Int → Int → Prop} (num' : ByteArray) (e' : Int) (hQ : ∀ m F, Q m F → (F = 70 ∧ m = 0) ∨ (F = 0 ∧ 0 ≤ m ∧ m ≤ mostP))
    (hRo : ∀ w, Calls Tryz.prog 34 #[.agg (numC k ng num e den)] w fun r w' => ∃ g h, r = .returned (.slice (some ⟨h, 0, none⟩) 1 1) ∧ Slow1 w' ⟨h, 0, none⟩ g ∧ Bk w' g 23 (numC k ng num' e' den) ∧ Below w.heap.size w w')
    (w : World) (hSl : ∀ g w1, Below w.heap.size w w1 → Bk w1 g 23 (numC k ng num' e' den) → Calls Tryz.prog 82 #[.pointer (some ⟨g, 0, none⟩)] w1 fun r w' => ∃ b E, r = .returned (.tuple #[.int .u64 b, .int .i64 E]) ∧ Q b E ∧ U b ∧ Below w1.heap.size w1 w') :
    Calls Tryz.prog 32 #[.agg (numC k ng num e den), .func (.func 34) #[] #[]] w fun r w' => ∃ b E, r = .returned (.tuple #[.int .u64 b, .int .i64 E]) ∧ PatIs Q ng b E ∧ U b ∧ Below w.heap.size w w' := by
  have hR := fun w => refused_any k ng num e den hn hd w
  have B0 := Bk.new w 23 (numC k ng num e den)
  have hb0 : Below w.heap.size w (w.alloc (.cells (numC k ng num e den) 23)) := (Below.refl _ w).alloc (Nat.le_refl _) _
  obtain ⟨w0, hw0⟩ : ∃ w0, w0 = w.alloc (.cells (numC k ng num e den) 23) := ⟨_, rfl⟩
  rw [← hw0] at B0 hb0
  rw [hE] at hR
  have t := emp_no hz
  unfold numC at hR hw0 hRo ⊢
  clear hE hz
  go_enter Tryz.func32, Tryz.ntmps32
  go_wp2_with fail
  refine (hR _).mono ?_
  rintro r w1 ⟨rfl, hb1⟩
  rw [← hw0] at hb1
  have B := hb0.trans (hb1.mono hb0.size)
  have B1 := B0.later hb1
  have c0 := B1.cell 0 (v := .int .i64 k) rfl
  have c1 := B1.cell 1 (v := .bool ng) rfl
  have c2 := B1.cell 2 (v := .string num) rfl
  have c3 := B1.cell 3 (v := .int .i64 e) rfl
  have c4 := B1.cell 4 (v := .string den) rfl
  clear hR hw0 hb0 hb1 B0
  go_wp2_with fail
  refine (hRo _).mono ?_
  rintro r w2 ⟨g, h, rfl, s2, b2, hb2⟩
  have B := B.trans (hb2.mono B.size)
  have c1 := (B1.later hb2).cell 1 (v := .bool ng) rfl
  have hFi := first1_any s2 (hSl g w2 B b2)
  have B2 := B1.later hb2
  clear hRo hSl s2 b2 c0 c2 c3 c4 hb2 B1
  go_wp2_with fail
  refine hFi.mono ?_
  rintro r w3 ⟨b, F, rfl, hq, ub, hb3⟩
  have B := B.trans (hb3.mono B.size)
  have c1 := (B2.later hb3).cell 1 (v := .bool ng) rfl
  clear B2 hb3
  clear hFi
  rcases hQ b F hq with ⟨rfl, rfl⟩ | ⟨rfl, q0, q1⟩
  · have HQ : Hid (PatIs Q ng 0 70) := ⟨0, 70, hq, Or.inl ⟨by decide, rfl, rfl⟩⟩
    clear hq hQ
    go_wp2
    go_ret2
    exact ⟨_, _, rfl, HQ.out, U_zero, B⟩
  · obtain ⟨en, u1, u2⟩ := negW_small q0 q1
    have hN := fun w => f6Neg_any (b := b) ub w
    rw [en] at hN
    have HQ : Hid (PatIs Q ng (b + sgB ng) 0) := ⟨b, 0, hq, Or.inr ⟨rfl, rfl, rfl⟩⟩
    clear hq hQ en
    cases ng
    · have HQ' : Hid (PatIs Q false b 0) := by
        have := HQ.out
        rw [show sgB false = 0 from rfl, Int.add_zero] at this
        exact this
      clear HQ hN
      go_wp2
      go_ret2
      exact ⟨_, _, rfl, HQ'.out, u2, B⟩
    · have HQ' : Hid (PatIs Q true (b + 9223372036854775808) 0) := HQ.out
      clear HQ
      go_wp2_with fail
      refine (hN _).mono ?_
      rintro r w4 ⟨rfl, hw4⟩
      subst hw4
      clear hN
      go_wp2
      go_ret2
      exact ⟨_, _, rfl, HQ'.out, u1, B⟩
set_option maxHeartbeats 3200000 in
set_option maxRecDepth 100000 in
theorem pat_other (k : Int) (ng : Bool) (num : ByteArray) (e : Int) (den : ByteArray) (hn : num.size ≤ 9223372036854775807) (hd : den.size ≤ 9223372036854775807) (hE : refE k num.data.toList e den.data.toList = 0) (hz : num.data.toList ≠ []) {Q : Int → Int → Prop} (num' : ByteArray) (e' : Int) (hQ : ∀ m F, Q m F → (F = 70 ∧ m = 0) ∨ (F = 0 ∧ 0 ≤ m ∧ m ≤ mostP))
    (hRo : ∀ w, Calls Tryz.prog 33 #[.agg (numC k ng num e den)] w fun r w' => ∃ g h, r = .returned (.slice (some ⟨h, 0, none⟩) 1 1) ∧ Slow1 w' ⟨h, 0, none⟩ g ∧ Bk w' g 23 (numC k ng num' e' den) ∧ Below w.heap.size w w')
    (w : World) (hSl : ∀ g w1, Below w.heap.size w w1 → Bk w1 g 23 (numC k ng num' e' den) → Calls Tryz.prog 82 #[.pointer (some ⟨g, 0, none⟩)] w1 fun r w' => ∃ b E, r = .returned (.tuple #[.int .u64 b, .int .i64 E]) ∧ Q b E ∧ U b ∧ Below w1.heap.size w1 w') :
    Calls Tryz.prog 32 #[.agg (numC k ng num e den), .func (.func 33) #[] #[]] w fun r w' => ∃ b E, r = .returned (.tuple #[.int .u64 b, .int .i64 E]) ∧ PatIs Q ng b E ∧ U b ∧ Below w.heap.size w w' := by
  have hR := fun w => refused_any k ng num e den hn hd w
  have B0 := Bk.new w 23 (numC k ng num e den)
  have hb0 : Below w.heap.size w (w.alloc (.cells (numC k ng num e den) 23)) := (Below.refl _ w).alloc (Nat.le_refl _) _
  obtain ⟨w0, hw0⟩ : ∃ w0, w0 = w.alloc (.cells (numC k ng num e den) 23) := ⟨_, rfl⟩
  rw [← hw0] at B0 hb0
  rw [hE] at hR
  have t := emp_no hz
  unfold numC at hR hw0 hRo ⊢
  clear hE hz
  go_enter Tryz.func32, Tryz.ntmps32
  go_wp2_with fail
  refine (hR _).mono ?_
  rintro r w1 ⟨rfl, hb1⟩
  rw [← hw0] at hb1
  have B := hb0.trans (hb1.mono hb0.size)
  have B1 := B0.later hb1
  have c0 := B1.cell 0 (v := .int .i64 k) rfl
  have c1 := B1.cell 1 (v := .bool ng) rfl
  have c2 := B1.cell 2 (v := .string num) rfl
  have c3 := B1.cell 3 (v := .int .i64 e) rfl
  have c4 := B1.cell 4 (v := .string den) rfl
  clear hR hw0 hb0 hb1 B0
  go_wp2_with fail
  refine (hRo _).mono ?_
  rintro r w2 ⟨g, h, rfl, s2, b2, hb2⟩
  have B := B.trans (hb2.mono B.size)
  have c1 := (B1.later hb2).cell 1 (v := .bool ng) rfl
  have hFi := first1_any s2 (hSl g w2 B b2)
  have B2 := B1.later hb2
  clear hRo hSl s2 b2 c0 c2 c3 c4 hb2 B1
  go_wp2_with fail
  refine hFi.mono ?_
  rintro r w3 ⟨b, F, rfl, hq, ub, hb3⟩
  have B := B.trans (hb3.mono B.size)
  have c1 := (B2.later hb3).cell 1 (v := .bool ng) rfl
  clear B2 hb3
  clear hFi
  rcases hQ b F hq with ⟨rfl, rfl⟩ | ⟨rfl, q0, q1⟩
  · have HQ : Hid (PatIs Q ng 0 70) := ⟨0, 70, hq, Or.inl ⟨by decide, rfl, rfl⟩⟩
    clear hq hQ
    go_wp2
    go_ret2
    exact ⟨_, _, rfl, HQ.out, U_zero, B⟩
  · obtain ⟨en, u1, u2⟩ := negW_small q0 q1
    have hN := fun w => f6Neg_any (b := b) ub w
    rw [en] at hN
    have HQ : Hid (PatIs Q ng (b + sgB ng) 0) := ⟨b, 0, hq, Or.inr ⟨rfl, rfl, rfl⟩⟩
    clear hq hQ en
    cases ng
    · have HQ' : Hid (PatIs Q false b 0) := by
        have := HQ.out
        rw [show sgB false = 0 from rfl, Int.add_zero] at this
        exact this
      clear HQ hN
      go_wp2
      go_ret2
      exact ⟨_, _, rfl, HQ'.out, u2, B⟩
    · have HQ' : Hid (PatIs Q true (b + 9223372036854775808) 0) := HQ.out
      clear HQ
      go_wp2_with fail
      refine (hN _).mono ?_
      rintro r w4 ⟨rfl, hw4⟩
      subst hw4
      clear hN
      go_wp2
      go_ret2
      exact ⟨_, _, rfl, HQ'.out, u1, B⟩
set_option maxHeartbeats 3200000 in
set_option maxRecDepth 100000 in
theorem pat_dec (k : Int) (ng : Bool) (num : ByteArray) (e : Int) (den : ByteArray) (hn : num.size ≤ 9223372036854775807) (hd : den.size ≤ 9223372036854775807) (hE : refE k num.data.toList e den.data.toList = 0) (hz : num.data.toList ≠ []) {Q Q1 Q2 : Int → Int → Prop} (num' : ByteArray) (e' cv ce : Int) (cm : Bool) (hQ : ∀ m F, Q m F → (F = 70 ∧ m = 0) ∨ (F = 0 ∧ 0 ≤ m ∧ m ≤ mostP))
    (hRo : ∀ w, Calls Tryz.prog 33 #[.agg (numC k ng num e den)] w fun r w' => ∃ h g gm ge gr c, r = .returned (.slice (some ⟨h, 0, none⟩) 3 c) ∧ Roads3 w' h g gm ge gr ∧ Bk w' g 23 (numC k ng num' e' den) ∧ w'.cell? ⟨gm, 0, none⟩ = some (.int .u64 cv) ∧ w'.cell? ⟨ge, 0, none⟩ = some (.int .i64 ce) ∧ w'.cell? ⟨gr, 0, none⟩ = some (.bool cm) ∧ Below w.heap.size w w')
    (w : World) (hSl : ∀ g w1, Below w.heap.size w w1 → Bk w1 g 23 (numC k ng num' e' den) → Calls Tryz.prog 82 #[.pointer (some ⟨g, 0, none⟩)] w1 fun r w' => ∃ b E, r = .returned (.tuple #[.int .u64 b, .int .i64 E]) ∧ Q b E ∧ U b ∧ Below w1.heap.size w1 w')
    (hR1 : ∀ gm ge gr w1, Below w.heap.size w w1 → w1.cell? ⟨gm, 0, none⟩ = some (.int .u64 cv) → w1.cell? ⟨ge, 0, none⟩ = some (.int .i64 ce) → w1.cell? ⟨gr, 0, none⟩ = some (.bool cm) → Calls Tryz.prog 78 #[.pointer (some ⟨gm, 0, none⟩), .pointer (some ⟨ge, 0, none⟩), .pointer (some ⟨gr, 0, none⟩)] w1 fun r w' => ∃ b E, r = .returned (.tuple #[.int .u64 b, .int .i64 E]) ∧ Q1 b E ∧ U b ∧ Below w1.heap.size w1 w')
    (hR2 : ∀ gm ge gr w1, Below w.heap.size w w1 → w1.cell? ⟨gm, 0, none⟩ = some (.int .u64 cv) → w1.cell? ⟨ge, 0, none⟩ = some (.int .i64 ce) → w1.cell? ⟨gr, 0, none⟩ = some (.bool cm) → Calls Tryz.prog 80 #[.pointer (some ⟨gm, 0, none⟩), .pointer (some ⟨ge, 0, none⟩), .pointer (some ⟨gr, 0, none⟩)] w1 fun r w' => ∃ b E, r = .returned (.tuple #[.int .u64 b, .int .i64 E]) ∧ Q2 b E ∧ U b ∧ Below w1.heap.size w1 w')
    (k1 : ∀ b E, Q1 b E → E ≠ 100 → Q b E) (k2 : ∀ b E, Q2 b E → E ≠ 100 → Q b E) :
    Calls Tryz.prog 32 #[.agg (numC k ng num e den), .func (.func 33) #[] #[]] w fun r w' => ∃ b E, r = .returned (.tuple #[.int .u64 b, .int .i64 E]) ∧ PatIs Q ng b E ∧ U b ∧ Below w.heap.size w w' := by
  have hR := fun w => refused_any k ng num e den hn hd w
  have B0 := Bk.new w 23 (numC k ng num e den)
  have hb0 : Below w.heap.size w (w.alloc (.cells (numC k ng num e den) 23)) := (Below.refl _ w).alloc (Nat.le_refl _) _
  obtain ⟨w0, hw0⟩ : ∃ w0, w0 = w.alloc (.cells (numC k ng num e den) 23) := ⟨_, rfl⟩
  rw [← hw0] at B0 hb0
  rw [hE] at hR
  have t := emp_no hz
  unfold numC at hR hw0 hRo ⊢
  clear hE hz
  go_enter Tryz.func32, Tryz.ntmps32
  go_wp2_with fail
  refine (hR _).mono ?_
  rintro r w1 ⟨rfl, hb1⟩
  rw [← hw0] at hb1
  have B := hb0.trans (hb1.mono hb0.size)
  have B1 := B0.later hb1
  have c0 := B1.cell 0 (v := .int .i64 k) rfl
  have c1 := B1.cell 1 (v := .bool ng) rfl
  have c2 := B1.cell 2 (v := .string num) rfl
  have c3 := B1.cell 3 (v := .int .i64 e) rfl
  have c4 := B1.cell 4 (v := .string den) rfl
  clear hR hw0 hb0 hb1 B0
  go_wp2_with fail
  refine (hRo _).mono ?_
  rintro r w2 ⟨h, g, gm, ge, gr, c, rfl, s2, b2, z1, z2, z3, hb2⟩
  have B := B.trans (hb2.mono B.size)
  have c1 := (B1.later hb2).cell 1 (v := .bool ng) rfl
  have lt1 := cell_lt7 z1
  have lt2 := cell_lt7 z2
  have lt3 := cell_lt7 z3
  have cs : ∀ w3, Below w2.heap.size w2 w3 → w3.cell? ⟨gm, 0, none⟩ = some (.int .u64 cv) ∧ w3.cell? ⟨ge, 0, none⟩ = some (.int .i64 ce) ∧ w3.cell? ⟨gr, 0, none⟩ = some (.bool cm) := fun w3 q =>
    ⟨by rw [q.cell (p := ⟨gm, 0, none⟩) lt1]; exact z1, by rw [q.cell (p := ⟨ge, 0, none⟩) lt2]; exact z2, by rw [q.cell (p := ⟨gr, 0, none⟩) lt3]; exact z3⟩
  have hFi := first3_any (c := c) s2 (Q1 := Q1) (Q2 := Q2) (Q := Q) (fun w3 q => hR1 gm ge gr w3 (B.trans (q.mono B.size)) (cs w3 q).1 (cs w3 q).2.1 (cs w3 q).2.2) (fun w3 q => hR2 gm ge gr w3 (B.trans (q.mono B.size)) (cs w3 q).1 (cs w3 q).2.1 (cs w3 q).2.2) (fun w3 q => hSl g w3 (B.trans (q.mono B.size)) (b2.later q)) k1 k2
  have B2 := B1.later hb2
  clear hRo hSl s2 b2 c0 c2 c3 c4 hb2 B1 k1 k2 hR1 hR2 z1 z2 z3 cs lt1 lt2 lt3
  go_wp2_with fail
  refine hFi.mono ?_
  rintro r w3 ⟨b, F, rfl, hq, ub, hb3⟩
  have B := B.trans (hb3.mono B.size)
  have c1 := (B2.later hb3).cell 1 (v := .bool ng) rfl
  clear B2 hb3
  clear hFi
  rcases hQ b F hq with ⟨rfl, rfl⟩ | ⟨rfl, q0, q1⟩
  · have HQ : Hid (PatIs Q ng 0 70) := ⟨0, 70, hq, Or.inl ⟨by decide, rfl, rfl⟩⟩
    clear hq hQ
    go_wp2
    go_ret2
    exact ⟨_, _, rfl, HQ.out, U_zero, B⟩
  · obtain ⟨en, u1, u2⟩ := negW_small q0 q1
    have hN := fun w => f6Neg_any (b := b) ub w
    rw [en] at hN
    have HQ : Hid (PatIs Q ng (b + sgB ng) 0) := ⟨b, 0, hq, Or.inr ⟨rfl, rfl, rfl⟩⟩
    clear hq hQ en
    cases ng
    · have HQ' : Hid (PatIs Q false b 0) := by
        have := HQ.out
        rw [show sgB false = 0 from rfl, Int.add_zero] at this
        exact this
      clear HQ hN
      go_wp2
      go_ret2
      exact ⟨_, _, rfl, HQ'.out, u2, B⟩
    · have HQ' : Hid (PatIs Q true (b + 9223372036854775808) 0) := HQ.out
      clear HQ
      go_wp2_with fail
      refine (hN _).mono ?_
      rintro r w4 ⟨rfl, hw4⟩
      subst hw4
      clear hN
      go_wp2
      go_ret2
      exact ⟨_, _, rfl, HQ'.out, u1, B⟩
end Go.Proofs.YtjeoiffloghonaaGreatDoor
